import Derived.WalkMore
import Derived.Test.YtjcapdkibbjmiaaGreatDoorPkI2
namespace Go.Proofs.YtjcapdkibbjmiaaGreatDoor
open Go.RowKit
set_option maxRecDepth 100000 in
set_option maxHeartbeats 8000000 in
theorem goUpProof_zero (p l : Nat) (hp0 : p = 0) (old : List UInt8) (proof : List (List UInt8)) (a : Option Addr) (cap : Nat) (w : World) (hl : l < 9223372036854775807) (hlen : proof.length = (Tree.U p l).length) (hA : At w a proof) (T : Tabs w) (hpl : proof.length ≤ 1000) :
    Calls Tryz.prog 106 #[wy p l, sv old, .slice a proof.length cap] w fun e w' => e = .returned (.tuple #[sv (Tree.upd2 old old (Tree.U p l) proof).1, sv (Tree.upd2 old old (Tree.U p l) proof).2]) ∧ Below w.heap.size w w' := by
  have hp : p ≤ l := by omega
  obtain ⟨XA, XB, hX⟩ : ∃ XA XB, Hid (Tree.upd2 old old (Tree.U p l) proof = (XA, XB)) := ⟨_, _, rfl⟩
  rw [hX.out]
  have hb0 := (Below.refl w.heap.size w).alloc (Nat.le_refl _) (.cells #[Value.int .i64 (p : Int), Value.int .i64 (l : Int)] 152)
  have hc := vcopied_any proof a cap (w.alloc (.cells #[Value.int .i64 (p : Int), Value.int .i64 (l : Int)] 152)) (by omega) (hA.below hb0 (Nat.le_refl _))
  have HT := hid T
  have hT := T.lt
  have HB0 := hid hb0
  have HW0 := hid (Wy.new w p l)
  obtain ⟨n, hn⟩ : ∃ n, Hid (proof.length = n) := ⟨_, rfl⟩
  rw [hn.out] at hc ⊢
  have Hlen := hid hlen
  have Hp0 := hid hp0
  clear hp0
  clear hA T hb0 hlen
  go_enter Tryz.func106, Tryz.ntmps106
  go_wp2
  go_step3
  go_wp2_with (go_at_call 126; fail)
  refine hc.mono ?_
  rintro e w1 ⟨rfl, hR, hw1⟩
  have cW := (HW0.out.below hw1).c0
  have b7 : ((p : Int) != 0) = false := by have := Hp0.out; simp; omega
  go_wp2
  go_step3
  go_wp2
  have hW1 := hid (HW0.out.below hw1)
  have hB1 := hid (HB0.out.trans (hw1.mono HB0.out.size))
  have hne : (⟨(w.alloc (.cells #[Value.int .i64 (p : Int), Value.int .i64 (l : Int)] 152)).heap.size, 0, none⟩ : Addr).block ≠ w.heap.size := by
    show (w.alloc _).heap.size ≠ _
    rw [size_alloc]; omega
  have hR1 : Hid (Rst w.heap.size w1 (.slice (some ⟨(w.alloc (.cells #[Value.int .i64 (p : Int), Value.int .i64 (l : Int)] 152)).heap.size, 0, none⟩) n n) proof) := by
    refine ⟨_, n, by rw [hn.out], by rw [hn.out]; omega, by rw [← hn.out]; omega, hR.at, ?_⟩
    rintro x hx
    obtain rfl := Option.some.inj hx
    exact hne
  clear hc HW0 HB0 hw1 hR hne
  rw [size_alloc] at hR1
  go_loopw [6, 7, 8] (fun va vb rest w' => ∃ x y A B Q, va = sv A ∧ vb = sv B ∧ x ≤ y ∧ y ≤ l ∧ Hid (Q.length = (Tree.U x y).length) ∧ Hid (Tree.upd2 A B (Tree.U x y) Q = (XA, XB)) ∧ Hid (Rst w.heap.size w' rest Q) ∧ Hid (Wy w' w.heap.size x y) ∧ Hid (Below w.heap.size w w')) (fun _ _ _ w' => numAt w' w.heap.size 1)
  case atStart => exact ⟨p, l, old, old, proof, rfl, rfl, hp, Nat.le_refl _, Hlen, hX, hR1, hW1, hB1⟩
  case round =>
    clear Hlen hX hR1 hW1 hB1
    obtain ⟨x, y, A, B, Q, rfl, rfl, hxy, hyl, hQl, hU, hQ, hW, hB⟩ := hrel
    have c0 := hW.out.c0
    have c1 := hW.out.c1
    by_cases h0 : y = 0
    · subst h0
      have e := hid (show (A, B) = (XA, XB) by have := hU.out; rw [Tree.U_zero] at this; exact this)
      have eA := hid (congrArg Prod.fst e.out)
      have eB := hid (congrArg Prod.snd e.out)
      go_wp2
      try rw [Exit.noGoto_ret]
      go_ret2
      exact ⟨by rw [← show A = XA from eA.out, ← show B = XB from eB.out]; rfl, hB.out⟩
    · have b1 : ((y : Int) == 0) = false := by simp; omega
      obtain ⟨a', c', rfl, hc1, hc2, hAt, hab'⟩ := hQ.out
      have hab := above_any x y hxy h0 (by omega)
      have hfl := fromLeft_any x y (by omega) (by omega) wr
      match Q, hQl, hU, hc1, hAt with
      | [], hQl, _, _, _ =>
        exact absurd (List.length_eq_zero_iff.1 hQl.out.symm) (Tree.U_ne y x hxy h0)
      | q :: Q, hQl, hU, hc1, hAt =>
        obtain ⟨y1, rfl⟩ := hAt.pos (by simp)
        have hyg := hab' y1 rfl
        obtain ⟨z, hz, hzb, hcell⟩ := hAt 0 q rfl
        obtain rfl := Option.some.inj hz
        rw [addr_zero] at hcell
        have hAt' := hid hAt
        clear hAt hQ hz hab'
        have hq1 : 0 < (q :: Q).length := by simp
        generalize hql : (q :: Q).length = k at *
        have Hql := hid hql
        clear hql
        by_cases hcc : c' = 1
        · subst hcc
          by_cases hd : (x % 2 == 1 || x == y) = true
          · rw [hd] at hfl
            obtain ⟨Ma, hMa⟩ : ∃ M, Hid (Tree.nd q A = M) := ⟨_, rfl⟩
            have hMa' := hMa
            obtain ⟨M, hM⟩ : ∃ M, Hid (Tree.nd q B = M) := ⟨_, rfl⟩
            have hM' := hM
            go_wp2_with (first
              | ((with_reducible show wpList _ _ _ (Oper.mk _ (Op.load 152 _) _ _ _ _ :: _) _ _); go_must (refine wpList_load_row rfl 152 _ rfl w.heap.size rfl 152 _ (0, 0) _ hW.out.row Tryz.underlying152 rfl (sizeW' _ _) ?_))
              | (go_at_call 127; fail))
            refine hfl.mono ?_
            rintro e w2 ⟨rfl, hw2⟩
            have T2 := HT.out.below (hB.out.trans (hw2.mono hB.out.size)) hT
            have hcell2 := (hw2.cell (p := y1) hzb).trans hcell
            have T2d : Tabs w2.drew := T2.below (Below.refl w2.heap.size w2).drew T2.lt
            have hzb2 := Nat.lt_of_lt_of_le hzb hw2.size
            go_wp2
            go_region_held3 (fun w' => w'.cell? y1 = some (sv q)) (first | exact hcell4 | exact hcell3 | exact hcell2) (first
              | (go_at_call 128; (with_reducible refine (vnode_any hMa w2.drew T2d).mono ?_); rintro e w3a ⟨rfl, hw3a'⟩; have hw3a := (Below.refl _ w2).drew.trans hw3a'; have hcell3 := (hw3a.cell (p := y1) hzb2).trans hcell2; have T3 := T2.below hw3a T2.lt)
              | (go_at_call 128; (with_reducible refine (vnode_any hM _ T3).mono ?_); rintro e w3 ⟨rfl, hw3b⟩; have hw3 := hw3a.trans (hw3b.mono hw3a.size); have hcell4 := (hw3.cell (p := y1) hzb2).trans hcell2))
            go_wp2
            have hb3 := hw2.trans (hw3.mono hw2.size)
            have hW3 := hW.out.below hb3
            have hAt3 := hid (hAt'.out.below hb3 (Nat.le_refl _))
            have hB3 := hid (hB.out.trans (hb3.mono hB.out.size))
            have d0 := hW3.c0
            have d1 := hW3.c1
            have hab3 := hab w3.drew
            clear hcell hcell2 hw2 T2 hfl hb3 hM hMa
            go_region_with ((go_at_call 129; refine hab3.mono ?_; rintro e w4 ⟨x', y', rfl, hw4, hx', hy', hU'⟩; have hW4 := Wy.below (show Wy w3.drew _ _ _ from hW3) hw4; have d4 := hW4.c0; have d5 := hW4.c1; have f4 := hW4.f0; have f5 := hW4.f1))
            all_goals go_wp2
            all_goals
              rw [hW4.two x' y']
              have uu := hU'.out
              rw [hd] at uu
              have hQl' : Hid (Q.length = (Tree.U x' y').length) := by
                have := hQl.out
                rw [uu, List.length_cons, ← Hql.out, List.length_cons] at this
                exact Nat.succ.inj this
              have hX' : Hid (Tree.upd2 Ma M (Tree.U x' y') Q = (XA, XB)) := by
                have := hU.out
                rw [uu] at this
                unfold Tree.upd2 at this
                rw [hMa'.out, hM'.out] at this
                exact this
              have hb4 : Below w3.heap.size w3 w4 := (Below.refl _ w3).drew.trans hw4
              have hR4 := (Rst.last (g := w.heap.size) (w := w4) hyg Hql.out (by omega)).setRow #[.int .i64 (x' : Int), .int .i64 (y' : Int)]
              have hB4 := Below.setRow (hB3.out.trans (hb4.mono hB3.out.size)) (Nat.le_refl _) #[.int .i64 (x' : Int), .int .i64 (y' : Int)]
              refine ⟨?_, by rw [(hW4.set x' y').n1, hW.out.n1]; exact hy'⟩
              repeat apply Exists.intro
              exact ⟨⟨x', y', Ma, M, Q, rfl, rfl, hx', by omega, hQl', hX', hid hR4, hid (hW4.set x' y'), hid hB4⟩, rfl⟩
          · replace hd : (x % 2 == 1 || x == y) = false := by simpa using hd
            rw [hd] at hfl
            obtain ⟨M, hM⟩ : ∃ M, Hid (Tree.nd B q = M) := ⟨_, rfl⟩
            have hM' := hM
            go_wp2_with (first
              | ((with_reducible show wpList _ _ _ (Oper.mk _ (Op.load 152 _) _ _ _ _ :: _) _ _); go_must (refine wpList_load_row rfl 152 _ rfl w.heap.size rfl 152 _ (0, 0) _ hW.out.row Tryz.underlying152 rfl (sizeW' _ _) ?_))
              | (go_at_call 127; fail))
            refine hfl.mono ?_
            rintro e w2 ⟨rfl, hw2⟩
            have T2 := HT.out.below (hB.out.trans (hw2.mono hB.out.size)) hT
            have hcell2 := (hw2.cell (p := y1) hzb).trans hcell
            go_wp2_with (go_at_call 128; refine (vnode_any hM _ T2).mono ?_; rintro e w3 ⟨rfl, hw3⟩)
            have hb3 := hw2.trans (hw3.mono hw2.size)
            have hW3 := hW.out.below hb3
            have hAt3 := hid (hAt'.out.below hb3 (Nat.le_refl _))
            have hB3 := hid (hB.out.trans (hb3.mono hB.out.size))
            have d0 := hW3.c0
            have d1 := hW3.c1
            have hab3 := hab w3.drew
            clear hcell hcell2 hw2 T2 hfl hb3 hM hw3
            go_region_with ((go_at_call 129; refine hab3.mono ?_; rintro e w4 ⟨x', y', rfl, hw4, hx', hy', hU'⟩; have hW4 := Wy.below (show Wy w3.drew _ _ _ from hW3) hw4; have d4 := hW4.c0; have d5 := hW4.c1; have f4 := hW4.f0; have f5 := hW4.f1))
            all_goals go_wp2
            all_goals
              rw [hW4.two x' y']
              have uu := hU'.out
              rw [hd] at uu
              have hQl' : Hid (Q.length = (Tree.U x' y').length) := by
                have := hQl.out
                rw [uu, List.length_cons, ← Hql.out, List.length_cons] at this
                exact Nat.succ.inj this
              have hX' : Hid (Tree.upd2 A M (Tree.U x' y') Q = (XA, XB)) := by
                have := hU.out
                rw [uu] at this
                unfold Tree.upd2 at this
                rw [hM'.out] at this
                exact this
              have hb4 : Below w3.heap.size w3 w4 := (Below.refl _ w3).drew.trans hw4
              have hR4 := (Rst.last (g := w.heap.size) (w := w4) hyg Hql.out (by omega)).setRow #[.int .i64 (x' : Int), .int .i64 (y' : Int)]
              have hB4 := Below.setRow (hB3.out.trans (hb4.mono hB3.out.size)) (Nat.le_refl _) #[.int .i64 (x' : Int), .int .i64 (y' : Int)]
              refine ⟨?_, by rw [(hW4.set x' y').n1, hW.out.n1]; exact hy'⟩
              repeat apply Exists.intro
              exact ⟨⟨x', y', A, M, Q, rfl, rfl, hx', by omega, hQl', hX', hid hR4, hid (hW4.set x' y'), hid hB4⟩, rfl⟩
        · have hcc2 : ¬ (c' : Int) = 1 := by omega
          by_cases hd : (x % 2 == 1 || x == y) = true
          · rw [hd] at hfl
            obtain ⟨Ma, hMa⟩ : ∃ M, Hid (Tree.nd q A = M) := ⟨_, rfl⟩
            have hMa' := hMa
            obtain ⟨M, hM⟩ : ∃ M, Hid (Tree.nd q B = M) := ⟨_, rfl⟩
            have hM' := hM
            go_wp2_with (first
              | ((with_reducible show wpList _ _ _ (Oper.mk _ (Op.load 152 _) _ _ _ _ :: _) _ _); go_must (refine wpList_load_row rfl 152 _ rfl w.heap.size rfl 152 _ (0, 0) _ hW.out.row Tryz.underlying152 rfl (sizeW' _ _) ?_))
              | (go_at_call 127; fail))
            refine hfl.mono ?_
            rintro e w2 ⟨rfl, hw2⟩
            have T2 := HT.out.below (hB.out.trans (hw2.mono hB.out.size)) hT
            have hcell2 := (hw2.cell (p := y1) hzb).trans hcell
            have T2d : Tabs w2.drew := T2.below (Below.refl w2.heap.size w2).drew T2.lt
            have hzb2 := Nat.lt_of_lt_of_le hzb hw2.size
            go_wp2
            go_region_held3 (fun w' => w'.cell? y1 = some (sv q)) (first | exact hcell4 | exact hcell3 | exact hcell2) (first
              | (go_at_call 128; (with_reducible refine (vnode_any hMa w2.drew T2d).mono ?_); rintro e w3a ⟨rfl, hw3a'⟩; have hw3a := (Below.refl _ w2).drew.trans hw3a'; have hcell3 := (hw3a.cell (p := y1) hzb2).trans hcell2; have T3 := T2.below hw3a T2.lt)
              | (go_at_call 128; (with_reducible refine (vnode_any hM _ T3).mono ?_); rintro e w3 ⟨rfl, hw3b⟩; have hw3 := hw3a.trans (hw3b.mono hw3a.size); have hcell4 := (hw3.cell (p := y1) hzb2).trans hcell2))
            go_wp2
            have hb3 := hw2.trans (hw3.mono hw2.size)
            have hW3 := hW.out.below hb3
            have hAt3 := hid (hAt'.out.below hb3 (Nat.le_refl _))
            have hB3 := hid (hB.out.trans (hb3.mono hB.out.size))
            have d0 := hW3.c0
            have d1 := hW3.c1
            have hab3 := hab w3.drew
            clear hcell hcell2 hw2 T2 hfl hb3 hM hMa
            go_region_with ((go_at_call 129; refine hab3.mono ?_; rintro e w4 ⟨x', y', rfl, hw4, hx', hy', hU'⟩; have hW4 := Wy.below (show Wy w3.drew _ _ _ from hW3) hw4; have d4 := hW4.c0; have d5 := hW4.c1; have f4 := hW4.f0; have f5 := hW4.f1))
            all_goals go_wp2
            all_goals
              rw [hW4.two x' y']
              have uu := hU'.out
              rw [hd] at uu
              have hQl' : Hid (Q.length = (Tree.U x' y').length) := by
                have := hQl.out
                rw [uu, List.length_cons, ← Hql.out, List.length_cons] at this
                exact Nat.succ.inj this
              have hX' : Hid (Tree.upd2 Ma M (Tree.U x' y') Q = (XA, XB)) := by
                have := hU.out
                rw [uu] at this
                unfold Tree.upd2 at this
                rw [hMa'.out, hM'.out] at this
                exact this
              have hb4 : Below w3.heap.size w3 w4 := (Below.refl _ w3).drew.trans hw4
              have hR4 := (Rst.tail (g := w.heap.size) (hAt3.out.below hb4 (Nat.le_refl _)) hyg Hql.out hc1 hc2).setRow #[.int .i64 (x' : Int), .int .i64 (y' : Int)]
              have hB4 := Below.setRow (hB3.out.trans (hb4.mono hB3.out.size)) (Nat.le_refl _) #[.int .i64 (x' : Int), .int .i64 (y' : Int)]
              refine ⟨?_, by rw [(hW4.set x' y').n1, hW.out.n1]; exact hy'⟩
              repeat apply Exists.intro
              exact ⟨⟨x', y', Ma, M, Q, rfl, rfl, hx', by omega, hQl', hX', hid hR4, hid (hW4.set x' y'), hid hB4⟩, rfl⟩
          · replace hd : (x % 2 == 1 || x == y) = false := by simpa using hd
            rw [hd] at hfl
            obtain ⟨M, hM⟩ : ∃ M, Hid (Tree.nd B q = M) := ⟨_, rfl⟩
            have hM' := hM
            go_wp2_with (first
              | ((with_reducible show wpList _ _ _ (Oper.mk _ (Op.load 152 _) _ _ _ _ :: _) _ _); go_must (refine wpList_load_row rfl 152 _ rfl w.heap.size rfl 152 _ (0, 0) _ hW.out.row Tryz.underlying152 rfl (sizeW' _ _) ?_))
              | (go_at_call 127; fail))
            refine hfl.mono ?_
            rintro e w2 ⟨rfl, hw2⟩
            have T2 := HT.out.below (hB.out.trans (hw2.mono hB.out.size)) hT
            have hcell2 := (hw2.cell (p := y1) hzb).trans hcell
            go_wp2_with (go_at_call 128; refine (vnode_any hM _ T2).mono ?_; rintro e w3 ⟨rfl, hw3⟩)
            have hb3 := hw2.trans (hw3.mono hw2.size)
            have hW3 := hW.out.below hb3
            have hAt3 := hid (hAt'.out.below hb3 (Nat.le_refl _))
            have hB3 := hid (hB.out.trans (hb3.mono hB.out.size))
            have d0 := hW3.c0
            have d1 := hW3.c1
            have hab3 := hab w3.drew
            clear hcell hcell2 hw2 T2 hfl hb3 hM hw3
            go_region_with ((go_at_call 129; refine hab3.mono ?_; rintro e w4 ⟨x', y', rfl, hw4, hx', hy', hU'⟩; have hW4 := Wy.below (show Wy w3.drew _ _ _ from hW3) hw4; have d4 := hW4.c0; have d5 := hW4.c1; have f4 := hW4.f0; have f5 := hW4.f1))
            all_goals go_wp2
            all_goals
              rw [hW4.two x' y']
              have uu := hU'.out
              rw [hd] at uu
              have hQl' : Hid (Q.length = (Tree.U x' y').length) := by
                have := hQl.out
                rw [uu, List.length_cons, ← Hql.out, List.length_cons] at this
                exact Nat.succ.inj this
              have hX' : Hid (Tree.upd2 A M (Tree.U x' y') Q = (XA, XB)) := by
                have := hU.out
                rw [uu] at this
                unfold Tree.upd2 at this
                rw [hM'.out] at this
                exact this
              have hb4 : Below w3.heap.size w3 w4 := (Below.refl _ w3).drew.trans hw4
              have hR4 := (Rst.tail (g := w.heap.size) (hAt3.out.below hb4 (Nat.le_refl _)) hyg Hql.out hc1 hc2).setRow #[.int .i64 (x' : Int), .int .i64 (y' : Int)]
              have hB4 := Below.setRow (hB3.out.trans (hb4.mono hB3.out.size)) (Nat.le_refl _) #[.int .i64 (x' : Int), .int .i64 (y' : Int)]
              refine ⟨?_, by rw [(hW4.set x' y').n1, hW.out.n1]; exact hy'⟩
              repeat apply Exists.intro
              exact ⟨⟨x', y', A, M, Q, rfl, rfl, hx', by omega, hQl', hX', hid hR4, hid (hW4.set x' y'), hid hB4⟩, rfl⟩
end Go.Proofs.YtjcapdkibbjmiaaGreatDoor

namespace Go.Proofs.YtjcapdkibbjmiaaGreatDoor
open Go.RowKit
theorem Rst.drewNc {g : Nat} {w : World} {v : Value} {Q : List (List UInt8)} (h : Rst g w v Q) (n : Nat) : Rst g (w.drewN n) v Q := h
theorem Wy.drewNc {w : World} {g p l : Nat} (h : Wy w g p l) (n : Nat) : Wy (w.drewN n) g p l := h
set_option maxRecDepth 100000 in
set_option maxHeartbeats 8000000 in
theorem goUpProof_more (p l : Nat) (old h : List UInt8) (t : List (List UInt8)) (a : Option Addr) (cap : Nat) (w : World) (hp : p ≤ l) (hp0 : p ≠ 0) (hl : l < 9223372036854775807) (hlen : t.length = (Tree.U p l).length) (hA : At w a (h :: t)) (T : Tabs w) (hpl : (h :: t).length ≤ 1000) (hk : 1 ≤ t.length) :
    Calls Tryz.prog 106 #[wy p l, sv old, .slice a (h :: t).length cap] w fun e w' => e = .returned (.tuple #[sv (Tree.upd2 h h (Tree.U p l) t).1, sv (Tree.upd2 h h (Tree.U p l) t).2]) ∧ Below w.heap.size w w' := by
  obtain ⟨XA, XB, hX⟩ : ∃ XA XB, Hid (Tree.upd2 h h (Tree.U p l) t = (XA, XB)) := ⟨_, _, rfl⟩
  rw [hX.out]
  have hb0 := (Below.refl w.heap.size w).alloc (Nat.le_refl _) (.cells #[Value.int .i64 (p : Int), Value.int .i64 (l : Int)] 152)
  have hc := vcopied_any (h :: t) a cap (w.alloc (.cells #[Value.int .i64 (p : Int), Value.int .i64 (l : Int)] 152)) (by omega) (hA.below hb0 (Nat.le_refl _))
  have HT := hid T
  have hT := T.lt
  have HB0 := hid hb0
  have HW0 := hid (Wy.new w p l)
  obtain ⟨n, hn⟩ : ∃ n, Hid ((h :: t).length = n) := ⟨_, rfl⟩
  rw [hn.out] at hc ⊢
  have Hlen := hid hlen
  have b7 : ((p : Int) != 0) = true := by simp; omega
  have b8 : ((p : Int) == 0) = false := by simp; omega
  have n1 : ¬ n = 1 := by rw [← hn.out, List.length_cons]; omega
  have n2 : ¬ (n : Int) = 1 := by omega
  have n3 : (0 : Int) < (n : Int) := by have := hn.out; rw [List.length_cons] at this; omega
  have n4 : 0 < n := by omega
  have n5 : (1 : Int) ≤ (n : Int) := by omega
  clear hA T hb0 hlen
  go_enter Tryz.func106, Tryz.ntmps106
  go_wp2
  go_step3
  go_wp2_with (go_at_call 126; fail)
  refine hc.mono ?_
  rintro e w1 ⟨rfl, hR, hw1⟩
  have cW := (HW0.out.below hw1).c0
  have cH := hR.cell (j := 0) (p := h) rfl
  rw [size_alloc] at cH
  go_wp2
  go_quiet (fail)
  go_wp2
  go_step3
  go_wp2
  have hW1 := hid (HW0.out.below hw1)
  have hB1 := hid (HB0.out.trans (hw1.mono HB0.out.size))
  have hne : (⟨(w.alloc (.cells #[Value.int .i64 (p : Int), Value.int .i64 (l : Int)] 152)).heap.size, 0, none⟩ : Addr).block ≠ w.heap.size := by
    show (w.alloc _).heap.size ≠ _
    rw [size_alloc]; omega
  have hR1 : Hid (Rst w.heap.size w1 (.slice (some ⟨(w.alloc (.cells #[Value.int .i64 (p : Int), Value.int .i64 (l : Int)] 152)).heap.size, 0 + 1, none⟩) (n - 1) (n - 1)) t) := (Rst.tail (g := w.heap.size) (At.heap hR.at rfl) hne hn.out (Nat.le_refl _) (by rw [← hn.out]; omega))
  clear hc HW0 HB0 hw1 hR hne
  rw [size_alloc] at hR1
  go_loopw [6, 7, 8] (fun va vb rest w' => ∃ x y A B Q, va = sv A ∧ vb = sv B ∧ x ≤ y ∧ y ≤ l ∧ Hid (Q.length = (Tree.U x y).length) ∧ Hid (Tree.upd2 A B (Tree.U x y) Q = (XA, XB)) ∧ Hid (Rst w.heap.size w' rest Q) ∧ Hid (Wy w' w.heap.size x y) ∧ Hid (Below w.heap.size w w')) (fun _ _ _ w' => numAt w' w.heap.size 1)
  case atStart => exact ⟨p, l, h, h, t, rfl, rfl, hp, Nat.le_refl _, Hlen, hX, hid (Rst.drewNc hR1.out _), hid (Wy.drewNc hW1.out _), hid (below_drewN hB1.out _)⟩
  case round =>
    clear Hlen hX hR1 hW1 hB1
    obtain ⟨x, y, A, B, Q, rfl, rfl, hxy, hyl, hQl, hU, hQ, hW, hB⟩ := hrel
    have c0 := hW.out.c0
    have c1 := hW.out.c1
    by_cases h0 : y = 0
    · subst h0
      have e := hid (show (A, B) = (XA, XB) by have := hU.out; rw [Tree.U_zero] at this; exact this)
      have eA := hid (congrArg Prod.fst e.out)
      have eB := hid (congrArg Prod.snd e.out)
      go_wp2
      try rw [Exit.noGoto_ret]
      go_ret2
      exact ⟨by rw [← show A = XA from eA.out, ← show B = XB from eB.out]; rfl, hB.out⟩
    · have b1 : ((y : Int) == 0) = false := by simp; omega
      obtain ⟨a', c', rfl, hc1, hc2, hAt, hab'⟩ := hQ.out
      have hab := above_any x y hxy h0 (by omega)
      have hfl := fromLeft_any x y (by omega) (by omega) wr
      match Q, hQl, hU, hc1, hAt with
      | [], hQl, _, _, _ =>
        exact absurd (List.length_eq_zero_iff.1 hQl.out.symm) (Tree.U_ne y x hxy h0)
      | q :: Q, hQl, hU, hc1, hAt =>
        obtain ⟨y1, rfl⟩ := hAt.pos (by simp)
        have hyg := hab' y1 rfl
        obtain ⟨z, hz, hzb, hcell⟩ := hAt 0 q rfl
        obtain rfl := Option.some.inj hz
        rw [addr_zero] at hcell
        have hAt' := hid hAt
        clear hAt hQ hz hab'
        have hq1 : 0 < (q :: Q).length := by simp
        generalize hql : (q :: Q).length = k at *
        have Hql := hid hql
        clear hql
        by_cases hcc : c' = 1
        · subst hcc
          by_cases hd : (x % 2 == 1 || x == y) = true
          · rw [hd] at hfl
            obtain ⟨Ma, hMa⟩ : ∃ M, Hid (Tree.nd q A = M) := ⟨_, rfl⟩
            have hMa' := hMa
            obtain ⟨M, hM⟩ : ∃ M, Hid (Tree.nd q B = M) := ⟨_, rfl⟩
            have hM' := hM
            go_wp2_with (first
              | ((with_reducible show wpList _ _ _ (Oper.mk _ (Op.load 152 _) _ _ _ _ :: _) _ _); go_must (refine wpList_load_row rfl 152 _ rfl w.heap.size rfl 152 _ (0, 0) _ hW.out.row Tryz.underlying152 rfl (sizeW' _ _) ?_))
              | (go_at_call 127; fail))
            refine hfl.mono ?_
            rintro e w2 ⟨rfl, hw2⟩
            have T2 := HT.out.below (hB.out.trans (hw2.mono hB.out.size)) hT
            have hcell2 := (hw2.cell (p := y1) hzb).trans hcell
            have T2d : Tabs w2.drew := T2.below (Below.refl w2.heap.size w2).drew T2.lt
            have hzb2 := Nat.lt_of_lt_of_le hzb hw2.size
            go_wp2
            go_region_held3 (fun w' => w'.cell? y1 = some (sv q)) (first | exact hcell4 | exact hcell3 | exact hcell2) (first
              | (go_at_call 128; (with_reducible refine (vnode_any hMa w2.drew T2d).mono ?_); rintro e w3a ⟨rfl, hw3a'⟩; have hw3a := (Below.refl _ w2).drew.trans hw3a'; have hcell3 := (hw3a.cell (p := y1) hzb2).trans hcell2; have T3 := T2.below hw3a T2.lt)
              | (go_at_call 128; (with_reducible refine (vnode_any hM _ T3).mono ?_); rintro e w3 ⟨rfl, hw3b⟩; have hw3 := hw3a.trans (hw3b.mono hw3a.size); have hcell4 := (hw3.cell (p := y1) hzb2).trans hcell2))
            go_wp2
            have hb3 := hw2.trans (hw3.mono hw2.size)
            have hW3 := hW.out.below hb3
            have hAt3 := hid (hAt'.out.below hb3 (Nat.le_refl _))
            have hB3 := hid (hB.out.trans (hb3.mono hB.out.size))
            have d0 := hW3.c0
            have d1 := hW3.c1
            have hab3 := hab w3.drew
            clear hcell hcell2 hw2 T2 hfl hb3 hM hMa
            go_region_with ((go_at_call 129; refine hab3.mono ?_; rintro e w4 ⟨x', y', rfl, hw4, hx', hy', hU'⟩; have hW4 := Wy.below (show Wy w3.drew _ _ _ from hW3) hw4; have d4 := hW4.c0; have d5 := hW4.c1; have f4 := hW4.f0; have f5 := hW4.f1))
            all_goals go_wp2
            all_goals
              rw [hW4.two x' y']
              have uu := hU'.out
              rw [hd] at uu
              have hQl' : Hid (Q.length = (Tree.U x' y').length) := by
                have := hQl.out
                rw [uu, List.length_cons, ← Hql.out, List.length_cons] at this
                exact Nat.succ.inj this
              have hX' : Hid (Tree.upd2 Ma M (Tree.U x' y') Q = (XA, XB)) := by
                have := hU.out
                rw [uu] at this
                unfold Tree.upd2 at this
                rw [hMa'.out, hM'.out] at this
                exact this
              have hb4 : Below w3.heap.size w3 w4 := (Below.refl _ w3).drew.trans hw4
              have hR4 := (Rst.last (g := w.heap.size) (w := w4) hyg Hql.out (by omega)).setRow #[.int .i64 (x' : Int), .int .i64 (y' : Int)]
              have hB4 := Below.setRow (hB3.out.trans (hb4.mono hB3.out.size)) (Nat.le_refl _) #[.int .i64 (x' : Int), .int .i64 (y' : Int)]
              refine ⟨?_, by rw [(hW4.set x' y').n1, hW.out.n1]; exact hy'⟩
              repeat apply Exists.intro
              exact ⟨⟨x', y', Ma, M, Q, rfl, rfl, hx', by omega, hQl', hX', hid hR4, hid (hW4.set x' y'), hid hB4⟩, rfl⟩
          · replace hd : (x % 2 == 1 || x == y) = false := by simpa using hd
            rw [hd] at hfl
            obtain ⟨M, hM⟩ : ∃ M, Hid (Tree.nd B q = M) := ⟨_, rfl⟩
            have hM' := hM
            go_wp2_with (first
              | ((with_reducible show wpList _ _ _ (Oper.mk _ (Op.load 152 _) _ _ _ _ :: _) _ _); go_must (refine wpList_load_row rfl 152 _ rfl w.heap.size rfl 152 _ (0, 0) _ hW.out.row Tryz.underlying152 rfl (sizeW' _ _) ?_))
              | (go_at_call 127; fail))
            refine hfl.mono ?_
            rintro e w2 ⟨rfl, hw2⟩
            have T2 := HT.out.below (hB.out.trans (hw2.mono hB.out.size)) hT
            have hcell2 := (hw2.cell (p := y1) hzb).trans hcell
            go_wp2_with (go_at_call 128; refine (vnode_any hM _ T2).mono ?_; rintro e w3 ⟨rfl, hw3⟩)
            have hb3 := hw2.trans (hw3.mono hw2.size)
            have hW3 := hW.out.below hb3
            have hAt3 := hid (hAt'.out.below hb3 (Nat.le_refl _))
            have hB3 := hid (hB.out.trans (hb3.mono hB.out.size))
            have d0 := hW3.c0
            have d1 := hW3.c1
            have hab3 := hab w3.drew
            clear hcell hcell2 hw2 T2 hfl hb3 hM hw3
            go_region_with ((go_at_call 129; refine hab3.mono ?_; rintro e w4 ⟨x', y', rfl, hw4, hx', hy', hU'⟩; have hW4 := Wy.below (show Wy w3.drew _ _ _ from hW3) hw4; have d4 := hW4.c0; have d5 := hW4.c1; have f4 := hW4.f0; have f5 := hW4.f1))
            all_goals go_wp2
            all_goals
              rw [hW4.two x' y']
              have uu := hU'.out
              rw [hd] at uu
              have hQl' : Hid (Q.length = (Tree.U x' y').length) := by
                have := hQl.out
                rw [uu, List.length_cons, ← Hql.out, List.length_cons] at this
                exact Nat.succ.inj this
              have hX' : Hid (Tree.upd2 A M (Tree.U x' y') Q = (XA, XB)) := by
                have := hU.out
                rw [uu] at this
                unfold Tree.upd2 at this
                rw [hM'.out] at this
                exact this
              have hb4 : Below w3.heap.size w3 w4 := (Below.refl _ w3).drew.trans hw4
              have hR4 := (Rst.last (g := w.heap.size) (w := w4) hyg Hql.out (by omega)).setRow #[.int .i64 (x' : Int), .int .i64 (y' : Int)]
              have hB4 := Below.setRow (hB3.out.trans (hb4.mono hB3.out.size)) (Nat.le_refl _) #[.int .i64 (x' : Int), .int .i64 (y' : Int)]
              refine ⟨?_, by rw [(hW4.set x' y').n1, hW.out.n1]; exact hy'⟩
              repeat apply Exists.intro
              exact ⟨⟨x', y', A, M, Q, rfl, rfl, hx', by omega, hQl', hX', hid hR4, hid (hW4.set x' y'), hid hB4⟩, rfl⟩
        · have hcc2 : ¬ (c' : Int) = 1 := by omega
          by_cases hd : (x % 2 == 1 || x == y) = true
          · rw [hd] at hfl
            obtain ⟨Ma, hMa⟩ : ∃ M, Hid (Tree.nd q A = M) := ⟨_, rfl⟩
            have hMa' := hMa
            obtain ⟨M, hM⟩ : ∃ M, Hid (Tree.nd q B = M) := ⟨_, rfl⟩
            have hM' := hM
            go_wp2_with (first
              | ((with_reducible show wpList _ _ _ (Oper.mk _ (Op.load 152 _) _ _ _ _ :: _) _ _); go_must (refine wpList_load_row rfl 152 _ rfl w.heap.size rfl 152 _ (0, 0) _ hW.out.row Tryz.underlying152 rfl (sizeW' _ _) ?_))
              | (go_at_call 127; fail))
            refine hfl.mono ?_
            rintro e w2 ⟨rfl, hw2⟩
            have T2 := HT.out.below (hB.out.trans (hw2.mono hB.out.size)) hT
            have hcell2 := (hw2.cell (p := y1) hzb).trans hcell
            have T2d : Tabs w2.drew := T2.below (Below.refl w2.heap.size w2).drew T2.lt
            have hzb2 := Nat.lt_of_lt_of_le hzb hw2.size
            go_wp2
            go_region_held3 (fun w' => w'.cell? y1 = some (sv q)) (first | exact hcell4 | exact hcell3 | exact hcell2) (first
              | (go_at_call 128; (with_reducible refine (vnode_any hMa w2.drew T2d).mono ?_); rintro e w3a ⟨rfl, hw3a'⟩; have hw3a := (Below.refl _ w2).drew.trans hw3a'; have hcell3 := (hw3a.cell (p := y1) hzb2).trans hcell2; have T3 := T2.below hw3a T2.lt)
              | (go_at_call 128; (with_reducible refine (vnode_any hM _ T3).mono ?_); rintro e w3 ⟨rfl, hw3b⟩; have hw3 := hw3a.trans (hw3b.mono hw3a.size); have hcell4 := (hw3.cell (p := y1) hzb2).trans hcell2))
            go_wp2
            have hb3 := hw2.trans (hw3.mono hw2.size)
            have hW3 := hW.out.below hb3
            have hAt3 := hid (hAt'.out.below hb3 (Nat.le_refl _))
            have hB3 := hid (hB.out.trans (hb3.mono hB.out.size))
            have d0 := hW3.c0
            have d1 := hW3.c1
            have hab3 := hab w3.drew
            clear hcell hcell2 hw2 T2 hfl hb3 hM hMa
            go_region_with ((go_at_call 129; refine hab3.mono ?_; rintro e w4 ⟨x', y', rfl, hw4, hx', hy', hU'⟩; have hW4 := Wy.below (show Wy w3.drew _ _ _ from hW3) hw4; have d4 := hW4.c0; have d5 := hW4.c1; have f4 := hW4.f0; have f5 := hW4.f1))
            all_goals go_wp2
            all_goals
              rw [hW4.two x' y']
              have uu := hU'.out
              rw [hd] at uu
              have hQl' : Hid (Q.length = (Tree.U x' y').length) := by
                have := hQl.out
                rw [uu, List.length_cons, ← Hql.out, List.length_cons] at this
                exact Nat.succ.inj this
              have hX' : Hid (Tree.upd2 Ma M (Tree.U x' y') Q = (XA, XB)) := by
                have := hU.out
                rw [uu] at this
                unfold Tree.upd2 at this
                rw [hMa'.out, hM'.out] at this
                exact this
              have hb4 : Below w3.heap.size w3 w4 := (Below.refl _ w3).drew.trans hw4
              have hR4 := (Rst.tail (g := w.heap.size) (hAt3.out.below hb4 (Nat.le_refl _)) hyg Hql.out hc1 hc2).setRow #[.int .i64 (x' : Int), .int .i64 (y' : Int)]
              have hB4 := Below.setRow (hB3.out.trans (hb4.mono hB3.out.size)) (Nat.le_refl _) #[.int .i64 (x' : Int), .int .i64 (y' : Int)]
              refine ⟨?_, by rw [(hW4.set x' y').n1, hW.out.n1]; exact hy'⟩
              repeat apply Exists.intro
              exact ⟨⟨x', y', Ma, M, Q, rfl, rfl, hx', by omega, hQl', hX', hid hR4, hid (hW4.set x' y'), hid hB4⟩, rfl⟩
          · replace hd : (x % 2 == 1 || x == y) = false := by simpa using hd
            rw [hd] at hfl
            obtain ⟨M, hM⟩ : ∃ M, Hid (Tree.nd B q = M) := ⟨_, rfl⟩
            have hM' := hM
            go_wp2_with (first
              | ((with_reducible show wpList _ _ _ (Oper.mk _ (Op.load 152 _) _ _ _ _ :: _) _ _); go_must (refine wpList_load_row rfl 152 _ rfl w.heap.size rfl 152 _ (0, 0) _ hW.out.row Tryz.underlying152 rfl (sizeW' _ _) ?_))
              | (go_at_call 127; fail))
            refine hfl.mono ?_
            rintro e w2 ⟨rfl, hw2⟩
            have T2 := HT.out.below (hB.out.trans (hw2.mono hB.out.size)) hT
            have hcell2 := (hw2.cell (p := y1) hzb).trans hcell
            go_wp2_with (go_at_call 128; refine (vnode_any hM _ T2).mono ?_; rintro e w3 ⟨rfl, hw3⟩)
            have hb3 := hw2.trans (hw3.mono hw2.size)
            have hW3 := hW.out.below hb3
            have hAt3 := hid (hAt'.out.below hb3 (Nat.le_refl _))
            have hB3 := hid (hB.out.trans (hb3.mono hB.out.size))
            have d0 := hW3.c0
            have d1 := hW3.c1
            have hab3 := hab w3.drew
            clear hcell hcell2 hw2 T2 hfl hb3 hM hw3
            go_region_with ((go_at_call 129; refine hab3.mono ?_; rintro e w4 ⟨x', y', rfl, hw4, hx', hy', hU'⟩; have hW4 := Wy.below (show Wy w3.drew _ _ _ from hW3) hw4; have d4 := hW4.c0; have d5 := hW4.c1; have f4 := hW4.f0; have f5 := hW4.f1))
            all_goals go_wp2
            all_goals
              rw [hW4.two x' y']
              have uu := hU'.out
              rw [hd] at uu
              have hQl' : Hid (Q.length = (Tree.U x' y').length) := by
                have := hQl.out
                rw [uu, List.length_cons, ← Hql.out, List.length_cons] at this
                exact Nat.succ.inj this
              have hX' : Hid (Tree.upd2 A M (Tree.U x' y') Q = (XA, XB)) := by
                have := hU.out
                rw [uu] at this
                unfold Tree.upd2 at this
                rw [hM'.out] at this
                exact this
              have hb4 : Below w3.heap.size w3 w4 := (Below.refl _ w3).drew.trans hw4
              have hR4 := (Rst.tail (g := w.heap.size) (hAt3.out.below hb4 (Nat.le_refl _)) hyg Hql.out hc1 hc2).setRow #[.int .i64 (x' : Int), .int .i64 (y' : Int)]
              have hB4 := Below.setRow (hB3.out.trans (hb4.mono hB3.out.size)) (Nat.le_refl _) #[.int .i64 (x' : Int), .int .i64 (y' : Int)]
              refine ⟨?_, by rw [(hW4.set x' y').n1, hW.out.n1]; exact hy'⟩
              repeat apply Exists.intro
              exact ⟨⟨x', y', A, M, Q, rfl, rfl, hx', by omega, hQl', hX', hid hR4, hid (hW4.set x' y'), hid hB4⟩, rfl⟩
end Go.Proofs.YtjcapdkibbjmiaaGreatDoor
