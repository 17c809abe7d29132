import Derived.Test.YthoekndjeclimaaGreatDoorCEL1
import Derived.Test.YthoekndjeclimaaGreatDoorCEL4
import Derived.Test.YthoekndjeclimaaGreatDoorCXP8
import Derived.Test.YthoekndjeclimaaGreatDoorCXP13
import Derived.Test.YthoekndjeclimaaGreatDoorCEP13
import Derived.Test.YthoekndjeclimaaGreatDoorCO10
import Derived.Lib.SmallJoins
namespace Go.Proofs.YthoekndjeclimaaGreatDoor
open Go.RowKit
/-- what the law holds: two lists that were lent, two pairs -/
structure Ep (W : World) (ga gb g2 g4 : Nat) (path way : List (List UInt8)) (p q r s : List UInt8) (w : World) : Prop where
  ra : Row w ga (path ++ [spare6, spare6])
  rb : Row w gb (way ++ [spare6, spare6])
  r2 : w.heap[g2]? = some (.cells #[.string ⟨p.toArray⟩, .string ⟨q.toArray⟩] 26 (0, 0))
  r4 : w.heap[g4]? = some (.cells #[.string ⟨r.toArray⟩, .string ⟨s.toArray⟩] 26 (0, 0))
  bl : Below W.heap.size W w
  o : W.heap.size ≤ ga ∧ W.heap.size ≤ gb ∧ W.heap.size ≤ g2 ∧ W.heap.size ≤ g4 ∧ ga ≠ g2 ∧ ga ≠ g4 ∧ gb ≠ g2 ∧ gb ≠ g4 ∧ g2 ≠ g4
theorem Ep.below {W : World} {ga gb g2 g4 : Nat} {path way : List (List UInt8)} {p q r s : List UInt8} {w w' : World} (h : Ep W ga gb g2 g4 path way p q r s w) (hb : Below w.heap.size w w') : Ep W ga gb g2 g4 path way p q r s w' :=
  ⟨(hb.block _ (lt_of_heap h.ra)).trans h.ra, (hb.block _ (lt_of_heap h.rb)).trans h.rb, (hb.block _ (lt_of_heap h.r2)).trans h.r2, (hb.block _ (lt_of_heap h.r4)).trans h.r4, h.bl.trans (hb.mono h.bl.size), h.o⟩
theorem Ep.set2 {W : World} {ga gb g2 g4 : Nat} {path way : List (List UInt8)} {p q r s : List UInt8} {w : World} (h : Ep W ga gb g2 g4 path way p q r s w) (p' q' : List UInt8) : Ep W ga gb g2 g4 path way p' q' r s (w.setRow g2 #[.string ⟨p'.toArray⟩, .string ⟨q'.toArray⟩]) := by
  obtain ⟨o1, o2, o3, o4, o5, o6, o7, o8, o9⟩ := h.o
  exact ⟨(setRow_other _ _ _ _ o5).trans h.ra, (setRow_other _ _ _ _ o7).trans h.rb, setRow_heap _ _ _ _ _ _ h.r2, (setRow_other _ _ _ _ (Ne.symm o9)).trans h.r4, Below.setRow h.bl o3 _, h.o⟩
theorem Ep.set4 {W : World} {ga gb g2 g4 : Nat} {path way : List (List UInt8)} {p q r s : List UInt8} {w : World} (h : Ep W ga gb g2 g4 path way p q r s w) (p' q' : List UInt8) : Ep W ga gb g2 g4 path way p q p' q' (w.setRow g4 #[.string ⟨p'.toArray⟩, .string ⟨q'.toArray⟩]) := by
  obtain ⟨o1, o2, o3, o4, o5, o6, o7, o8, o9⟩ := h.o
  exact ⟨(setRow_other _ _ _ _ o6).trans h.ra, (setRow_other _ _ _ _ o8).trans h.rb, (setRow_other _ _ _ _ o9).trans h.r2, setRow_heap _ _ _ _ _ _ h.r4, Below.setRow h.bl o4 _, h.o⟩
theorem Ep.cells {W : World} {ga gb g2 g4 : Nat} {path way : List (List UInt8)} {p q r s : List UInt8} {w : World} (h : Ep W ga gb g2 g4 path way p q r s w) : w.cell? ⟨g2, 0, none⟩ = some (.string ⟨p.toArray⟩) ∧ w.cell? ⟨g2, 1, none⟩ = some (.string ⟨q.toArray⟩) ∧ w.cell? ⟨g4, 0, none⟩ = some (.string ⟨r.toArray⟩) ∧ w.cell? ⟨g4, 1, none⟩ = some (.string ⟨s.toArray⟩) := by
  refine ⟨?_, ?_, ?_, ?_⟩
  · rw [cell_of_row _ _ _ _ _ _ h.r2]; rfl
  · rw [cell_of_row _ _ _ _ _ _ h.r2]; rfl
  · rw [cell_of_row _ _ _ _ _ _ h.r4]; rfl
  · rw [cell_of_row _ _ _ _ _ _ h.r4]; rfl
theorem lv_row {w : World} {g : Nat} {l : List (List UInt8)} (h : Row w g (l ++ [spare6, spare6])) (hl : l.length ≤ 8796093021952) : Lv w (.slice (some ⟨g, 0, none⟩) l.length (l.length + 2)) l := by
  refine ⟨_, _, rfl, by omega, by omega, ?_⟩
  have := h.at.take l.length
  rwa [List.take_left] at this
set_option maxRecDepth 100000 in
set_option maxHeartbeats 8000000 in
theorem plays6_any (n m f : Int) (root leaf other old : List UInt8) (path way : List (List UInt8)) (a d : Option Addr) (ca cd : Nat) (w : World) (hr : root.length ≤ 140737488351232) (hf : leaf.length ≤ 140737488351232) (ha : At w a path) (hd : At w d way) (lA : path.length ≤ ca ∧ ca ≤ 9223372036854775807) (lB : way.length ≤ cd ∧ cd ≤ 9223372036854775807) (mA : path.length ≤ 8796093021952) (mB : way.length ≤ 8796093021952) (T : Tabs w) :
    Calls Tryz.prog 3 #[.int .i64 n, .int .i64 m, .string ⟨root.toArray⟩, .string ⟨leaf.toArray⟩, .slice a path.length ca, .string ⟨other.toArray⟩, .slice d way.length cd, .int .i64 f, .string ⟨old.toArray⟩] w fun e w' => e = .returned (.bool true) ∧ Below w.heap.size w w' := by
  have Ha := hid ha
  have Hd := hid hd
  have HT := hid T
  obtain ⟨p1, q1, z1, h1⟩ : ∃ p q z, Hid (incO n m root leaf path other way = ((p, q), z)) := ⟨_, _, _, rfl⟩
  obtain ⟨p2, q2, z2, h2⟩ : ∃ p q z, Hid (lvsO path way = ((p, q), z)) := ⟨_, _, _, rfl⟩
  obtain ⟨p3, q3, z3, h3⟩ : ∃ p q z, Hid (conO path f old way = ((p, q), z)) := ⟨_, _, _, rfl⟩
  obtain ⟨p4, q4, z4, h4⟩ : ∃ p q z, Hid (entO root leaf = ((p, q), z)) := ⟨_, _, _, rfl⟩
  have al := fun w' => lent6_any path a ca w' mA
  have bl := fun w' => lent6_any way d cd w' mB
  have tA : Hid (∀ w', Below w.heap.size w w' → At w' a path) := fun w' hb => Ha.out.below hb (Nat.le_refl _)
  have tB : Hid (∀ w', Below w.heap.size w w' → At w' d way) := fun w' hb => Hd.out.below hb (Nat.le_refl _)
  have tT : Hid (∀ w', Below w.heap.size w w' → Tabs w') := fun w' hb => HT.out.below hb HT.out.lt
  have e1 : Hid (∀ w' ga gb, Row w' ga (path ++ [spare6, spare6]) → Row w' gb (way ++ [spare6, spare6]) → Below w.heap.size w w' → _) := fun w' ga gb hA hB hb => Incl_any n m root leaf other path way _ _ w' (lv_row hA mA) (lv_row hB mB) (tT.out w' hb)
  have e2 : Hid (∀ w' ga gb, Row w' ga (path ++ [spare6, spare6]) → Row w' gb (way ++ [spare6, spare6]) → Below w.heap.size w w' → _) := fun w' ga gb hA hB hb => Leaves_any path way _ _ w' (lv_row hA mA) (lv_row hB mB) (tT.out w' hb)
  have e3 : Hid (∀ w' ga gb, Row w' ga (path ++ [spare6, spare6]) → Row w' gb (way ++ [spare6, spare6]) → Below w.heap.size w w' → _) := fun w' ga gb hA hB hb => Cons_any path f old way _ _ w' (lv_row hA mA) (lv_row hB mB) (tT.out w' hb)
  have e4 : Hid (∀ w', Below w.heap.size w w' → _) := fun w' hb => Entries_any root leaf (by omega) (by omega) w' (tT.out w' hb)
  have f1 : Hid (∀ w', Below w.heap.size w w' → _) := fun w' hb => r6Inclusion_any n m root leaf path other way a d ca cd w' (tA.out w' hb) (tB.out w' hb) lA lB
  have f2 : Hid (∀ w', Below w.heap.size w w' → _) := fun w' hb => r6Leaves_any path way a d ca cd w' (tA.out w' hb) (tB.out w' hb) lA lB
  have f3 : Hid (∀ w', Below w.heap.size w w' → _) := fun w' hb => r6Consistency_any path f old way a d ca cd w' (tA.out w' hb) (tB.out w' hb) lA lB
  have f4 : Hid (∀ w', Below w.heap.size w w' → _) := fun w' hb => r6Entries_any root leaf hr hf w'
  have wA : Hid (∀ w' ga, Row w' ga (path ++ [spare6, spare6]) → Below w.heap.size w w' → _) := fun w' ga hA hb => whole6_yes path ga a ca w' mA hA (tA.out w' hb)
  have wB : Hid (∀ w' gb, Row w' gb (way ++ [spare6, spare6]) → Below w.heap.size w w' → _) := fun w' gb hB hb => whole6_yes way gb d cd w' mB hB (tB.out w' hb)
  rw [h1.out, show prP ((p1, q1), z1).1.1 ((p1, q1), z1).1.2 = Value.agg #[.string ⟨p1.toArray⟩, .string ⟨q1.toArray⟩] from rfl] at e1 f1
  rw [h2.out, show prP ((p2, q2), z2).1.1 ((p2, q2), z2).1.2 = Value.agg #[.string ⟨p2.toArray⟩, .string ⟨q2.toArray⟩] from rfl] at e2 f2
  rw [h3.out, show prP ((p3, q3), z3).1.1 ((p3, q3), z3).1.2 = Value.agg #[.string ⟨p3.toArray⟩, .string ⟨q3.toArray⟩] from rfl] at e3 f3
  rw [h4.out, show prP ((p4, q4), z4).1.1 ((p4, q4), z4).1.2 = Value.agg #[.string ⟨p4.toArray⟩, .string ⟨q4.toArray⟩] from rfl] at e4 f4
  rw [svS root, svS leaf, svS other] at e1
  rw [svS old] at e3
  rw [svS root, svS leaf] at e4 f4
  obtain ⟨nA, hnA⟩ : ∃ n, Hid (path.length = n) := ⟨_, rfl⟩
  obtain ⟨nB, hnB⟩ : ∃ n, Hid (way.length = n) := ⟨_, rfl⟩
  rw [hnA.out] at e1 e2 e3 f1 f2 f3 wA al ⊢
  rw [hnB.out] at e1 e2 e3 f1 f2 f3 wB bl ⊢
  clear ha hd T h1 h2 h3 h4 hr hf lA lB mA mB
  go_enter Tryz.func3, Tryz.ntmps3
  go_wp2_with (go_at_call 4; fail)
  refine (awake_any _ HT.out).mono ?_
  rintro e w1 ⟨rfl, b1⟩
  have i2 := al w1 (tA.out _ b1)
  go_wp2_with (go_at_call 5; fail)
  with_reducible refine i2.mono ?_
  rintro e w2 ⟨rfl, R2, b2'⟩
  have b2 := b1.trans (b2'.mono b1.size)
  have i3 := bl w2 (tB.out _ b2)
  go_wp2_with (go_at_call 5; fail)
  with_reducible refine i3.mono ?_
  rintro e w3 ⟨rfl, R3, b3'⟩
  have b3 := b2.trans (b3'.mono b2.size)
  have R2' := (b3'.block _ (lt_of_heap R2)).trans R2
  have i4 := e1.out w3 _ _ R2' R3 b3
  have zz1 := b1.size
  have zz2 := b2'.size
  have zz3 := b3'.size
  have zl2 := lt_of_heap R2
  have zl3 := lt_of_heap R3
  go_wp2_with (go_at_call 6; fail)
  with_reducible refine i4.mono ?_
  rintro e w4 ⟨rfl, b4'⟩
  have b4 := b3.trans (b4'.mono b3.size)
  have zz4 := b4'.size
  have S1 := hid ((b4'.block _ (lt_of_heap R2')).trans R2')
  have S2 := hid ((b4'.block _ (lt_of_heap R3)).trans R3)
  have B4 := hid b4
  obtain ⟨ga, hga⟩ : ∃ g, w1.heap.size = g := ⟨_, rfl⟩
  obtain ⟨gb, hgb⟩ : ∃ g, w2.heap.size = g := ⟨_, rfl⟩
  rw [hga, hgb]
  rw [hga] at S1 zz1 zz2 zl2
  rw [hgb] at S2 zz2 zz3 zl2 zl3
  clear i2 i3 i4 R2 R3 R2' b1 b2' b2 b3' b3 b4' b4 al bl
  have al5 := (Below.refl w4.heap.size w4).alloc (Nat.le_refl _) (.cells #[Value.string ⟨#[]⟩, .string ⟨#[]⟩] 26)
  have r5 := heap_alloc_new w4 (.cells #[Value.string ⟨#[]⟩, .string ⟨#[]⟩] 26)
  have y5 := size_alloc w4 (.cells #[Value.string ⟨#[]⟩, .string ⟨#[]⟩] 26)
  obtain ⟨w5, hw5⟩ : ∃ w5, w4.alloc (.cells #[Value.string ⟨#[]⟩, .string ⟨#[]⟩] 26) = w5 := ⟨_, rfl⟩
  rw [hw5] at al5 r5 y5
  have R5 := hid r5
  go_wp2_with (first
    | ((with_reducible show wpList _ _ _ (Oper.mk _ (Op.store 26 _ _) _ _ _ _ :: _) _ _); go_must (refine wpList_store_row rfl 26 _ _ rfl (w4.heap.size) _ rfl rfl 26 _ R5.out sizePr rfl (onePr p1 q1) ?_))
    | (go_at_call 7; fail))
  have q1r := hid (setRow_heap w5 w4.heap.size _ #[Value.string ⟨p1.toArray⟩, .string ⟨q1.toArray⟩] _ _ r5)
  have q1a := hid (((setRow_other w5 w4.heap.size ga #[Value.string ⟨p1.toArray⟩, .string ⟨q1.toArray⟩] (by omega)).trans (al5.block _ (lt_of_heap S1.out))).trans S1.out)
  have q1b := hid (((setRow_other w5 w4.heap.size gb #[Value.string ⟨p1.toArray⟩, .string ⟨q1.toArray⟩] (by omega)).trans (al5.block _ (lt_of_heap S2.out))).trans S2.out)
  have q1l := hid (show Below w.heap.size w (w5.setRow w4.heap.size #[Value.string ⟨p1.toArray⟩, .string ⟨q1.toArray⟩]) from Below.setRow (B4.out.trans (al5.mono B4.out.size)) B4.out.size _)
  have q1s : w4.heap.size < (w5.setRow w4.heap.size #[Value.string ⟨p1.toArray⟩, .string ⟨q1.toArray⟩]).heap.size := lt_of_heap q1r.out
  try rw [show sv p1 = Value.string ⟨p1.toArray⟩ from rfl, show sv q1 = Value.string ⟨q1.toArray⟩ from rfl]
  generalize w5.setRow w4.heap.size #[Value.string ⟨p1.toArray⟩, .string ⟨q1.toArray⟩] = ws at *
  obtain ⟨g2, hg2⟩ : ∃ g, w4.heap.size = g := ⟨_, rfl⟩
  rw [hg2] at q1r q1s zz4 ⊢
  have B4s := B4.out.size
  rw [hg2] at B4s
  clear S1 S2 al5 r5 R5 hw5 y5 hga hgb
  with_reducible refine (f1.out ws q1l.out).mono ?_
  rintro e w6 ⟨rfl, b6⟩
  have b6s := b6.size
  have al7 := (Below.refl w6.heap.size w6).alloc (Nat.le_refl _) (.cells #[Value.string ⟨#[]⟩, .string ⟨#[]⟩] 26)
  have r7 := heap_alloc_new w6 (.cells #[Value.string ⟨#[]⟩, .string ⟨#[]⟩] 26)
  have y7 := size_alloc w6 (.cells #[Value.string ⟨#[]⟩, .string ⟨#[]⟩] 26)
  obtain ⟨w7, hw7⟩ : ∃ w7, w6.alloc (.cells #[Value.string ⟨#[]⟩, .string ⟨#[]⟩] 26) = w7 := ⟨_, rfl⟩
  rw [hw7] at al7 r7 y7
  have R7 := hid r7
  have E7 : Hid (Ep w ga gb g2 w6.heap.size path way p1 q1 p1 q1 (w7.setRow w6.heap.size #[Value.string ⟨p1.toArray⟩, .string ⟨q1.toArray⟩])) := by
    have bb : Below ws.heap.size ws w7 := b6.trans (al7.mono b6.size)
    refine ⟨(setRow_other _ _ _ _ (by omega)).trans ((bb.block _ (lt_of_heap q1a.out)).trans q1a.out), (setRow_other _ _ _ _ (by omega)).trans ((bb.block _ (lt_of_heap q1b.out)).trans q1b.out), (setRow_other _ _ _ _ (by omega)).trans ((bb.block _ (lt_of_heap q1r.out)).trans q1r.out), setRow_heap _ _ _ _ _ _ r7, Below.setRow (q1l.out.trans (bb.mono q1l.out.size)) (by have := q1l.out.size; omega) _, by omega, by omega, by omega, by have := q1l.out.size; omega, by omega, by omega, by omega, by omega, by omega⟩
  clear al7 r7 y7 b6 q1r q1a q1b q1l B4
  go_wp2_with (first
    | ((with_reducible show wpList _ _ _ (Oper.mk _ (Op.store 26 _ _) _ _ _ _ :: _) _ _); go_must (refine wpList_store_row rfl 26 _ _ rfl (w6.heap.size) _ rfl rfl 26 _ R7.out sizePr rfl (onePr p1 q1) ?_))
    | (go_at_call 8; fail))
  try rw [show sv p1 = Value.string ⟨p1.toArray⟩ from rfl, show sv q1 = Value.string ⟨q1.toArray⟩ from rfl]
  generalize w7.setRow w6.heap.size #[Value.string ⟨p1.toArray⟩, .string ⟨q1.toArray⟩] = x0 at *
  obtain ⟨g4, hg4⟩ : ∃ g, w6.heap.size = g := ⟨_, rfl⟩
  rw [hg4] at E7 ⊢
  clear R7 hw7 hg4 hg2 zz1 zz2 zz3 zz4 zl2 zl3 q1s B4s b6s
  with_reducible refine (wA.out x0 ga E7.out.ra E7.out.bl).mono ?_
  rintro e x1 ⟨rfl, b1⟩
  have E8 := hid (E7.out.below b1)
  clear E7 b1
  go_wp2_with (go_at_call 8; fail)
  with_reducible refine (wB.out x1 gb E8.out.rb E8.out.bl).mono ?_
  rintro e x2 ⟨rfl, b2⟩
  have E9 := hid (E8.out.below b2)
  obtain ⟨c0, c1, c2, c3⟩ := E9.out.cells
  clear E8 b2 e1 f1
  go_wp2_with (go_at_call 9; fail)
  with_reducible refine (e2.out x2 ga gb E9.out.ra E9.out.rb E9.out.bl).mono ?_
  rintro e y2 ⟨rfl, b1⟩
  have F2 := hid (E9.out.below b1)
  have G2 := hid F2.out.r2
  have H2 := hid (F2.out.set2 p2 q2)
  clear E9 b1 c0 c1 c2 c3
  go_wp2_with (first
    | ((with_reducible show wpList _ _ _ (Oper.mk _ (Op.store 26 _ _) _ _ _ _ :: _) _ _); go_must (refine wpList_store_row rfl 26 _ _ rfl (g2) _ rfl rfl 26 _ G2.out sizePr rfl (onePr p2 q2) ?_))
    | (go_at_call 10; fail))
  try rw [show sv p2 = Value.string ⟨p2.toArray⟩ from rfl, show sv q2 = Value.string ⟨q2.toArray⟩ from rfl]
  generalize y2.setRow g2 #[Value.string ⟨p2.toArray⟩, .string ⟨q2.toArray⟩] = t2 at *
  clear F2 G2
  with_reducible refine (f2.out t2 H2.out.bl).mono ?_
  rintro e u2 ⟨rfl, b2⟩
  have I2 := hid (H2.out.below b2)
  have J2 := hid I2.out.r4
  have K2 := hid (I2.out.set4 p2 q2)
  clear H2 b2
  go_wp2_with (first
    | ((with_reducible show wpList _ _ _ (Oper.mk _ (Op.store 26 _ _) _ _ _ _ :: _) _ _); go_must (refine wpList_store_row rfl 26 _ _ rfl (g4) _ rfl rfl 26 _ J2.out sizePr rfl (onePr p2 q2) ?_))
    | (go_at_call 8; fail))
  try rw [show sv p2 = Value.string ⟨p2.toArray⟩ from rfl, show sv q2 = Value.string ⟨q2.toArray⟩ from rfl]
  generalize u2.setRow g4 #[Value.string ⟨p2.toArray⟩, .string ⟨q2.toArray⟩] = v2 at *
  clear I2 J2
  with_reducible refine (wA.out v2 ga K2.out.ra K2.out.bl).mono ?_
  rintro e o2 ⟨rfl, b3⟩
  have L2 := hid (K2.out.below b3)
  clear K2 b3
  go_wp2_with (go_at_call 8; fail)
  with_reducible refine (wB.out o2 gb L2.out.rb L2.out.bl).mono ?_
  rintro e m2 ⟨rfl, b4⟩
  have M2 := hid (L2.out.below b4)
  obtain ⟨c0, c1, c2, c3⟩ := M2.out.cells
  clear L2 b4 e2 f2
  go_wp2_with (go_at_call 11; fail)
  with_reducible refine (e3.out m2 ga gb M2.out.ra M2.out.rb M2.out.bl).mono ?_
  rintro e y3 ⟨rfl, b1⟩
  have F3 := hid (M2.out.below b1)
  have G3 := hid F3.out.r2
  have H3 := hid (F3.out.set2 p3 q3)
  clear M2 b1 c0 c1 c2 c3
  go_wp2_with (first
    | ((with_reducible show wpList _ _ _ (Oper.mk _ (Op.store 26 _ _) _ _ _ _ :: _) _ _); go_must (refine wpList_store_row rfl 26 _ _ rfl (g2) _ rfl rfl 26 _ G3.out sizePr rfl (onePr p3 q3) ?_))
    | (go_at_call 12; fail))
  try rw [show sv p3 = Value.string ⟨p3.toArray⟩ from rfl, show sv q3 = Value.string ⟨q3.toArray⟩ from rfl]
  generalize y3.setRow g2 #[Value.string ⟨p3.toArray⟩, .string ⟨q3.toArray⟩] = t3 at *
  clear F3 G3
  with_reducible refine (f3.out t3 H3.out.bl).mono ?_
  rintro e u3 ⟨rfl, b2⟩
  have I3 := hid (H3.out.below b2)
  have J3 := hid I3.out.r4
  have K3 := hid (I3.out.set4 p3 q3)
  clear H3 b2
  go_wp2_with (first
    | ((with_reducible show wpList _ _ _ (Oper.mk _ (Op.store 26 _ _) _ _ _ _ :: _) _ _); go_must (refine wpList_store_row rfl 26 _ _ rfl (g4) _ rfl rfl 26 _ J3.out sizePr rfl (onePr p3 q3) ?_))
    | (go_at_call 8; fail))
  try rw [show sv p3 = Value.string ⟨p3.toArray⟩ from rfl, show sv q3 = Value.string ⟨q3.toArray⟩ from rfl]
  generalize u3.setRow g4 #[Value.string ⟨p3.toArray⟩, .string ⟨q3.toArray⟩] = v3 at *
  clear I3 J3
  with_reducible refine (wA.out v3 ga K3.out.ra K3.out.bl).mono ?_
  rintro e o3 ⟨rfl, b3⟩
  have L3 := hid (K3.out.below b3)
  clear K3 b3
  go_wp2_with (go_at_call 8; fail)
  with_reducible refine (wB.out o3 gb L3.out.rb L3.out.bl).mono ?_
  rintro e m3 ⟨rfl, b4⟩
  have M3 := hid (L3.out.below b4)
  obtain ⟨c0, c1, c2, c3⟩ := M3.out.cells
  clear L3 b4 e3 f3
  go_wp2_with (go_at_call 13; fail)
  with_reducible refine (e4.out m3 M3.out.bl).mono ?_
  rintro e y4 ⟨rfl, b1⟩
  have F4 := hid (M3.out.below b1)
  have G4 := hid F4.out.r2
  have H4 := hid (F4.out.set2 p4 q4)
  clear M3 b1 c0 c1 c2 c3
  go_wp2_with (first
    | ((with_reducible show wpList _ _ _ (Oper.mk _ (Op.store 26 _ _) _ _ _ _ :: _) _ _); go_must (refine wpList_store_row rfl 26 _ _ rfl (g2) _ rfl rfl 26 _ G4.out sizePr rfl (onePr p4 q4) ?_))
    | (go_at_call 14; fail))
  try rw [show sv p4 = Value.string ⟨p4.toArray⟩ from rfl, show sv q4 = Value.string ⟨q4.toArray⟩ from rfl]
  generalize y4.setRow g2 #[Value.string ⟨p4.toArray⟩, .string ⟨q4.toArray⟩] = t4 at *
  clear F4 G4
  with_reducible refine (f4.out t4 H4.out.bl).mono ?_
  rintro e u4 ⟨rfl, b2⟩
  have I4 := hid (H4.out.below b2)
  have J4 := hid I4.out.r4
  have K4 := hid (I4.out.set4 p4 q4)
  clear H4 b2
  obtain ⟨c0, c1, c2, c3⟩ := K4.out.cells
  go_wp2_with (((with_reducible show wpList _ _ _ (Oper.mk _ (Op.store 26 _ _) _ _ _ _ :: _) _ _); go_must (refine wpList_store_row rfl 26 _ _ rfl (g4) _ rfl rfl 26 _ J4.out sizePr rfl (onePr p4 q4) ?_)))
  go_ret
  exact ⟨rfl, K4.out.bl⟩
end Go.Proofs.YthoekndjeclimaaGreatDoor

namespace Go.Proofs.YthoekndjeclimaaGreatDoor
open Go.ChangeShapes Go.WideShapes Go.ChangeAt Go.RowKit
theorem bytesS : Tryz.prog.bytesOf 9 = 16 := by kernel_rfl
set_option maxRecDepth 100000 in
/-- a slice of texts among the arguments, by its weight -/
theorem open_atF {H : Type} {enc : TypeId × Value → H} {W : World} {base : Nat} {v : Value} {d : DataW H} {p : List MemPlace}
    (hval : Value.okWide Tryz.prog W .any base 22 v) (hd : DataW.Trod enc Tryz.prog W 0 (fun _ => true) true 22 v d p) (hk : ∀ x ∈ DataW.weights Tryz.prog 22 d, x ≤ reachBytes) :
    ∃ a l cap, v = .slice a l.length cap ∧ At W a l ∧ l.length ≤ cap ∧ cap ≤ 9223372036854775807 ∧ l.length ≤ 8796093021952 := by
  obtain ⟨a0, len0, cap0, rfl⟩ := okWide_slice Tryz.underlying22 hval
  obtain ⟨fuel, hf⟩ := hd
  rcases open_strings Tryz.underlying22 Tryz.underlying9 cellsS hf with ⟨hcs, hx⟩ | ⟨a, len, cap, ss, hcs, _, hl, hm, hz, hx, hcell, hsz⟩
  · simp [Value.cells] at hcs
    obtain ⟨rfl, rfl, rfl⟩ := hcs
    exact ⟨none, [], 0, rfl, At.nil _ _, by simp, by omega, by simp⟩
  · simp [Value.cells] at hcs
    obtain ⟨rfl, rfl, rfl⟩ := hcs
    simp only [Prod.mk.injEq] at hx
    obtain ⟨rfl, _⟩ := hx
    simp only [if_true] at hz
    have hlen : ((ss.take len0).map (·.data.toList)).length = len0 := by simp; omega
    have hw : cap0 * 16 ≤ reachBytes := by
      refine hk _ ?_
      rw [DataW.weights, Tryz.underlying22]
      simp only [bytesS]
      have e : (strs (H := H) (ss.take len0)).length + (strs (H := H) (ss.drop len0)).length = cap0 := by simp [strs]; omega
      rw [e]
      exact List.mem_cons_self
    have hr : reachBytes = 140737488351232 := rfl
    refine ⟨some a, (ss.take len0).map (·.data.toList), cap0, by rw [hlen], fun j p hp => ?_, by omega, hm, by omega⟩
    rw [List.getElem?_map, Option.map_eq_some_iff] at hp
    obtain ⟨s, hs, rfl⟩ := hp
    rw [List.getElem?_take] at hs
    split at hs
    · have hj := (List.getElem?_eq_some_iff.1 hs).1
      have hc := hcell j hj
      rw [List.getD_eq_getElem?_getD, hs] at hc
      refine ⟨a, rfl, ?_, hc⟩
      have := block_lt_of_cell hc
      rwa [addr_block] at this
    · cases hs
theorem weights_head {H : Type} {P : Program} {t : TypeId} {ts : List TypeId} {d : DataW H} {r : List (DataW H)} (h : (DataW.weightsEach P (t :: ts) (d :: r)).all (· ≤ reachBytes) = true) : ∀ x ∈ DataW.weights P t d, x ≤ reachBytes := fun x hx => by
  have := List.all_eq_true.1 h x (by rw [DataW.weightsEach]; exact List.mem_append_left _ hx)
  simpa using this
theorem weights_mem {H : Type} {P : Program} {e : TypeId} {d : DataW H} {x : Nat} : ∀ {l : List (DataW H)}, d ∈ l → x ∈ DataW.weights P e d → x ∈ DataW.weightsAll P e l
  | [], h, _ => by cases h
  | f :: r, h, hx => by
    rw [DataW.weightsAll]
    rcases List.mem_cons.1 h with rfl | h
    · exact List.mem_append_left _ hx
    · exact List.mem_append_right _ (weights_mem h hx)
theorem weights_tail {H : Type} {P : Program} {t : TypeId} {ts : List TypeId} {d : DataW H} {r : List (DataW H)} (h : (DataW.weightsEach P (t :: ts) (d :: r)).all (· ≤ reachBytes) = true) : (DataW.weightsEach P ts r).all (· ≤ reachBytes) = true := by
  rw [List.all_eq_true] at h ⊢
  exact fun x hx => h x (by rw [DataW.weightsEach]; exact List.mem_append_right _ hx)
set_option maxRecDepth 100000 in
/-- a slice of texts among the arguments, by its weight, and by its texts' -/
theorem open_atG {H : Type} {enc : TypeId × Value → H} {W : World} {base : Nat} {v : Value} {d : DataW H} {p : List MemPlace}
    (hval : Value.okWide Tryz.prog W .any base 22 v) (hd : DataW.Trod enc Tryz.prog W 0 (fun _ => true) true 22 v d p) (hk : ∀ x ∈ DataW.weights Tryz.prog 22 d, x ≤ reachBytes) :
    ∃ a l cap, v = .slice a l.length cap ∧ At W a l ∧ l.length ≤ cap ∧ cap ≤ 9223372036854775807 ∧ l.length ≤ 8796093021952 ∧ ∀ q ∈ l, q.length ≤ 140737488351232 := by
  obtain ⟨a0, len0, cap0, rfl⟩ := okWide_slice Tryz.underlying22 hval
  obtain ⟨fuel, hf⟩ := hd
  rcases open_strings Tryz.underlying22 Tryz.underlying9 cellsS hf with ⟨hcs, hx⟩ | ⟨a, len, cap, ss, hcs, _, hl, hm, hz, hx, hcell, hsz⟩
  · simp [Value.cells] at hcs
    obtain ⟨rfl, rfl, rfl⟩ := hcs
    exact ⟨none, [], 0, rfl, At.nil _ _, by simp, by omega, by simp, by simp⟩
  · simp [Value.cells] at hcs
    obtain ⟨rfl, rfl, rfl⟩ := hcs
    simp only [Prod.mk.injEq] at hx
    obtain ⟨rfl, _⟩ := hx
    simp only [if_true] at hz
    have hlen : ((ss.take len0).map (·.data.toList)).length = len0 := by simp; omega
    have hr : reachBytes = 140737488351232 := rfl
    have hw : cap0 * 16 ≤ reachBytes := by
      refine hk _ ?_
      rw [DataW.weights, Tryz.underlying22]
      simp only [bytesS]
      have e : (strs (H := H) (ss.take len0)).length + (strs (H := H) (ss.drop len0)).length = cap0 := by simp [strs]; omega
      rw [e]
      exact List.mem_cons_self
    have hq : ∀ s ∈ ss.take len0, s.data.toList.length ≤ reachBytes := fun s hs => by
      refine hk _ ?_
      rw [DataW.weights, Tryz.underlying22]
      refine List.mem_cons_of_mem _ (List.mem_append_left _ (weights_mem (d := .lit (.string s.data.toList)) ?_ ?_))
      · unfold strs
        exact List.mem_map.2 ⟨s, hs, rfl⟩
      · simp [DataW.weights]
    refine ⟨some a, (ss.take len0).map (·.data.toList), cap0, by rw [hlen], fun j p hp => ?_, by omega, hm, by omega, fun q hq' => ?_⟩
    rotate_left
    · obtain ⟨s, hs, rfl⟩ := List.mem_map.1 hq'
      have := hq s hs
      omega
    rw [List.getElem?_map, Option.map_eq_some_iff] at hp
    obtain ⟨s, hs, rfl⟩ := hp
    rw [List.getElem?_take] at hs
    split at hs
    · have hj := (List.getElem?_eq_some_iff.1 hs).1
      have hc := hcell j hj
      rw [List.getD_eq_getElem?_getD, hs] at hc
      refine ⟨a, rfl, ?_, hc⟩
      have := block_lt_of_cell hc
      rwa [addr_block] at this
    · cases hs
set_option maxRecDepth 100000 in
/-- a text among the arguments, by its weight -/
theorem open_strG {H : Type} {enc : TypeId × Value → H} {W : World} {base : Nat} {v : Value} {d : DataW H} {p : List MemPlace}
    (hval : Value.okWide Tryz.prog W .any base 9 v) (hd : DataW.Trod enc Tryz.prog W 0 (fun _ => true) true 9 v d p) (hk : ∀ x ∈ DataW.weights Tryz.prog 9 d, x ≤ reachBytes) :
    ∃ s : List UInt8, v = sv s ∧ s.length ≤ 140737488351232 := by
  obtain ⟨s0, rfl, rfl, rfl, hs0⟩ := ChangeMaps.open_string Tryz.underlying9 hval hd
  have hr : reachBytes = 140737488351232 := rfl
  have := hk s0.data.toList.length (by simp [DataW.weights])
  exact ⟨s0.data.toList, sv_eta s0, by omega⟩
end Go.Proofs.YthoekndjeclimaaGreatDoor

namespace Go.Proofs.YthoekndjeclimaaGreatDoor
open Go.ChangeShapes Go.WideShapes Go.ChangeAt Go.RowKit
set_option maxRecDepth 100000 in
theorem open_str6 {H : Type} {enc : TypeId × Value → H} {W : World} {base : Nat} {v : Value} {d : DataW H} {p : List MemPlace}
    (hval : Value.okWide Tryz.prog W .any base 9 v) (hd : DataW.Trod enc Tryz.prog W 0 (fun _ => true) true 9 v d p) (hk : ∀ x ∈ DataW.weights Tryz.prog 9 d, x ≤ reachBytes) :
    ∃ s : List UInt8, v = sv s ∧ s.length ≤ 140737488351232 := by
  obtain ⟨s0, rfl, rfl, rfl, hs0⟩ := ChangeMaps.open_string Tryz.underlying9 hval hd
  have hr : reachBytes = 140737488351232 := rfl
  have := hk s0.data.toList.length (by simp [DataW.weights])
  exact ⟨s0.data.toList, sv_eta s0, by omega⟩
end Go.Proofs.YthoekndjeclimaaGreatDoor
