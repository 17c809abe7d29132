import Derived.WalkMore
import Derived.Test.YtappjeepajjioaaDoorPkI5
import Derived.Test.YtappjeepajjioaaDoorPkCP9
namespace Go.Proofs.YtappjeepajjioaaDoor
open Go.RowKit
theorem Rst.drewNc {g : Nat} {w : World} {v : Value} {Q : List (List UInt8)} (h : Rst g w v Q) (n : Nat) : Rst g (w.drewN n) v Q := h
theorem Wy.drewNc {w : World} {g p l : Nat} (h : Wy w g p l) (n : Nat) : Wy (w.drewN n) g p l := h
set_option maxRecDepth 100000 in
set_option maxHeartbeats 8000000 in
theorem goUpProof_more (p l : Nat) (old h : List UInt8) (t : List (List UInt8)) (a : Option Addr) (cap : Nat) (w : World) (hp : p ≤ l) (hp0 : p ≠ 0) (hl : l < 9223372036854775807) (hlen : t.length = (Tree.U p l).length) (hA : At w a (h :: t)) (T : Tabs w) (hpl : (h :: t).length ≤ 1000) (hk : 1 ≤ t.length) :
    Calls Tryd.prog 54 #[wy p l, sv old, .slice a (h :: t).length cap] w fun e w' => e = .returned (.tuple #[sv (Tree.upd2 h h (Tree.U p l) t).1, sv (Tree.upd2 h h (Tree.U p l) t).2]) ∧ Below w.heap.size w w' := by
  obtain ⟨XA, XB, hX⟩ : ∃ XA XB, Hid (Tree.upd2 h h (Tree.U p l) t = (XA, XB)) := ⟨_, _, rfl⟩
  rw [hX.out]
  have hb0 := (Below.refl w.heap.size w).alloc (Nat.le_refl _) (.cells #[Value.int .i64 (p : Int), Value.int .i64 (l : Int)] 99)
  have hc := vcopied_any (h :: t) a cap (w.alloc (.cells #[Value.int .i64 (p : Int), Value.int .i64 (l : Int)] 99)) (by omega) (hA.below hb0 (Nat.le_refl _))
  have HT := hid T
  have hT := T.lt
  have HB0 := hid hb0
  have HW0 := hid (Wy.new w p l)
  obtain ⟨n, hn⟩ : ∃ n, Hid ((h :: t).length = n) := ⟨_, rfl⟩
  rw [hn.out] at hc ⊢
  have Hlen := hid hlen
  have b7 : ((p : Int) != 0) = true := by simp; omega
  have b8 : ((p : Int) == 0) = false := by simp; omega
  have n1 : ¬ n = 1 := by rw [← hn.out, List.length_cons]; omega
  have n2 : ¬ (n : Int) = 1 := by omega
  have n3 : (0 : Int) < (n : Int) := by have := hn.out; rw [List.length_cons] at this; omega
  have n4 : 0 < n := by omega
  have n5 : (1 : Int) ≤ (n : Int) := by omega
  clear hA T hb0 hlen
  go_enter Tryd.func54, Tryd.ntmps54
  go_wp2
  go_step3
  go_wp2_with (go_at_call 74; fail)
  refine hc.mono ?_
  rintro e w1 ⟨rfl, hR, hw1⟩
  have cW := (HW0.out.below hw1).c0
  have cH := hR.cell (j := 0) (p := h) rfl
  rw [size_alloc] at cH
  go_wp2
  go_quiet (fail)
  go_wp2
  go_step3
  go_wp2
  have hW1 := hid (HW0.out.below hw1)
  have hB1 := hid (HB0.out.trans (hw1.mono HB0.out.size))
  have hne : (⟨(w.alloc (.cells #[Value.int .i64 (p : Int), Value.int .i64 (l : Int)] 99)).heap.size, 0, none⟩ : Addr).block ≠ w.heap.size := by
    show (w.alloc _).heap.size ≠ _
    rw [size_alloc]; omega
  have hR1 : Hid (Rst w.heap.size w1 (.slice (some ⟨(w.alloc (.cells #[Value.int .i64 (p : Int), Value.int .i64 (l : Int)] 99)).heap.size, 0 + 1, none⟩) (n - 1) (n - 1)) t) := (Rst.tail (g := w.heap.size) (At.heap hR.at rfl) hne hn.out (Nat.le_refl _) (by rw [← hn.out]; omega))
  clear hc HW0 HB0 hw1 hR hne
  rw [size_alloc] at hR1
  go_loopw [6, 7, 8] (fun va vb rest w' => ∃ x y A B Q, va = sv A ∧ vb = sv B ∧ x ≤ y ∧ y ≤ l ∧ Hid (Q.length = (Tree.U x y).length) ∧ Hid (Tree.upd2 A B (Tree.U x y) Q = (XA, XB)) ∧ Hid (Rst w.heap.size w' rest Q) ∧ Hid (Wy w' w.heap.size x y) ∧ Hid (Below w.heap.size w w')) (fun _ _ _ w' => numAt w' w.heap.size 1)
  case atStart => exact ⟨p, l, h, h, t, rfl, rfl, hp, Nat.le_refl _, Hlen, hX, hid (Rst.drewNc hR1.out _), hid (Wy.drewNc hW1.out _), hid (below_drewN hB1.out _)⟩
  case round =>
    clear Hlen hX hR1 hW1 hB1
    obtain ⟨x, y, A, B, Q, rfl, rfl, hxy, hyl, hQl, hU, hQ, hW, hB⟩ := hrel
    have c0 := hW.out.c0
    have c1 := hW.out.c1
    by_cases h0 : y = 0
    · subst h0
      have e := hid (show (A, B) = (XA, XB) by have := hU.out; rw [Tree.U_zero] at this; exact this)
      have eA := hid (congrArg Prod.fst e.out)
      have eB := hid (congrArg Prod.snd e.out)
      go_wp2
      try rw [Exit.noGoto_ret]
      go_ret2
      exact ⟨by rw [← show A = XA from eA.out, ← show B = XB from eB.out]; rfl, hB.out⟩
    · have b1 : ((y : Int) == 0) = false := by simp; omega
      obtain ⟨a', c', rfl, hc1, hc2, hAt, hab'⟩ := hQ.out
      have hab := above_any x y hxy h0 (by omega)
      have hfl := fromLeft_any x y (by omega) (by omega) wr
      match Q, hQl, hU, hc1, hAt with
      | [], hQl, _, _, _ =>
        exact absurd (List.length_eq_zero_iff.1 hQl.out.symm) (Tree.U_ne y x hxy h0)
      | q :: Q, hQl, hU, hc1, hAt =>
        obtain ⟨y1, rfl⟩ := hAt.pos (by simp)
        have hyg := hab' y1 rfl
        obtain ⟨z, hz, hzb, hcell⟩ := hAt 0 q rfl
        obtain rfl := Option.some.inj hz
        rw [addr_zero] at hcell
        have hAt' := hid hAt
        clear hAt hQ hz hab'
        have hq1 : 0 < (q :: Q).length := by simp
        generalize hql : (q :: Q).length = k at *
        have Hql := hid hql
        clear hql
        by_cases hcc : c' = 1
        · subst hcc
          by_cases hd : (x % 2 == 1 || x == y) = true
          · rw [hd] at hfl
            obtain ⟨Ma, hMa⟩ : ∃ M, Hid (Tree.nd q A = M) := ⟨_, rfl⟩
            have hMa' := hMa
            obtain ⟨M, hM⟩ : ∃ M, Hid (Tree.nd q B = M) := ⟨_, rfl⟩
            have hM' := hM
            go_wp2_with (first
              | ((with_reducible show wpList _ _ _ (Oper.mk _ (Op.load 99 _) _ _ _ _ :: _) _ _); go_must (refine wpList_load_row rfl 99 _ rfl w.heap.size rfl 99 _ (0, 0) _ hW.out.row Tryd.underlying99 rfl (sizeW' _ _) ?_))
              | (go_at_call 75; fail))
            refine hfl.mono ?_
            rintro e w2 ⟨rfl, hw2⟩
            have T2 := HT.out.below (hB.out.trans (hw2.mono hB.out.size)) hT
            have hcell2 := (hw2.cell (p := y1) hzb).trans hcell
            have T2d : Tabs w2.drew := T2.below (Below.refl w2.heap.size w2).drew T2.lt
            have hzb2 := Nat.lt_of_lt_of_le hzb hw2.size
            go_wp2
            go_region_held3 (fun w' => w'.cell? y1 = some (sv q)) (first | exact hcell4 | exact hcell3 | exact hcell2) (first
              | (go_at_call 76; (with_reducible refine (vnode_any hMa w2.drew T2d).mono ?_); rintro e w3a ⟨rfl, hw3a'⟩; have hw3a := (Below.refl _ w2).drew.trans hw3a'; have hcell3 := (hw3a.cell (p := y1) hzb2).trans hcell2; have T3 := T2.below hw3a T2.lt)
              | (go_at_call 76; (with_reducible refine (vnode_any hM _ T3).mono ?_); rintro e w3 ⟨rfl, hw3b⟩; have hw3 := hw3a.trans (hw3b.mono hw3a.size); have hcell4 := (hw3.cell (p := y1) hzb2).trans hcell2))
            go_wp2
            have hb3 := hw2.trans (hw3.mono hw2.size)
            have hW3 := hW.out.below hb3
            have hAt3 := hid (hAt'.out.below hb3 (Nat.le_refl _))
            have hB3 := hid (hB.out.trans (hb3.mono hB.out.size))
            have d0 := hW3.c0
            have d1 := hW3.c1
            have hab3 := hab w3.drew
            clear hcell hcell2 hw2 T2 hfl hb3 hM hMa
            go_region_with ((go_at_call 77; refine hab3.mono ?_; rintro e w4 ⟨x', y', rfl, hw4, hx', hy', hU'⟩; have hW4 := Wy.below (show Wy w3.drew _ _ _ from hW3) hw4; have d4 := hW4.c0; have d5 := hW4.c1; have f4 := hW4.f0; have f5 := hW4.f1))
            all_goals go_wp2
            all_goals
              rw [hW4.two x' y']
              have uu := hU'.out
              rw [hd] at uu
              have hQl' : Hid (Q.length = (Tree.U x' y').length) := by
                have := hQl.out
                rw [uu, List.length_cons, ← Hql.out, List.length_cons] at this
                exact Nat.succ.inj this
              have hX' : Hid (Tree.upd2 Ma M (Tree.U x' y') Q = (XA, XB)) := by
                have := hU.out
                rw [uu] at this
                unfold Tree.upd2 at this
                rw [hMa'.out, hM'.out] at this
                exact this
              have hb4 : Below w3.heap.size w3 w4 := (Below.refl _ w3).drew.trans hw4
              have hR4 := (Rst.last (g := w.heap.size) (w := w4) hyg Hql.out (by omega)).setRow #[.int .i64 (x' : Int), .int .i64 (y' : Int)]
              have hB4 := Below.setRow (hB3.out.trans (hb4.mono hB3.out.size)) (Nat.le_refl _) #[.int .i64 (x' : Int), .int .i64 (y' : Int)]
              refine ⟨?_, by rw [(hW4.set x' y').n1, hW.out.n1]; exact hy'⟩
              repeat apply Exists.intro
              exact ⟨⟨x', y', Ma, M, Q, rfl, rfl, hx', by omega, hQl', hX', hid hR4, hid (hW4.set x' y'), hid hB4⟩, rfl⟩
          · replace hd : (x % 2 == 1 || x == y) = false := by simpa using hd
            rw [hd] at hfl
            obtain ⟨M, hM⟩ : ∃ M, Hid (Tree.nd B q = M) := ⟨_, rfl⟩
            have hM' := hM
            go_wp2_with (first
              | ((with_reducible show wpList _ _ _ (Oper.mk _ (Op.load 99 _) _ _ _ _ :: _) _ _); go_must (refine wpList_load_row rfl 99 _ rfl w.heap.size rfl 99 _ (0, 0) _ hW.out.row Tryd.underlying99 rfl (sizeW' _ _) ?_))
              | (go_at_call 75; fail))
            refine hfl.mono ?_
            rintro e w2 ⟨rfl, hw2⟩
            have T2 := HT.out.below (hB.out.trans (hw2.mono hB.out.size)) hT
            have hcell2 := (hw2.cell (p := y1) hzb).trans hcell
            go_wp2_with (go_at_call 76; refine (vnode_any hM _ T2).mono ?_; rintro e w3 ⟨rfl, hw3⟩)
            have hb3 := hw2.trans (hw3.mono hw2.size)
            have hW3 := hW.out.below hb3
            have hAt3 := hid (hAt'.out.below hb3 (Nat.le_refl _))
            have hB3 := hid (hB.out.trans (hb3.mono hB.out.size))
            have d0 := hW3.c0
            have d1 := hW3.c1
            have hab3 := hab w3.drew
            clear hcell hcell2 hw2 T2 hfl hb3 hM hw3
            go_region_with ((go_at_call 77; refine hab3.mono ?_; rintro e w4 ⟨x', y', rfl, hw4, hx', hy', hU'⟩; have hW4 := Wy.below (show Wy w3.drew _ _ _ from hW3) hw4; have d4 := hW4.c0; have d5 := hW4.c1; have f4 := hW4.f0; have f5 := hW4.f1))
            all_goals go_wp2
            all_goals
              rw [hW4.two x' y']
              have uu := hU'.out
              rw [hd] at uu
              have hQl' : Hid (Q.length = (Tree.U x' y').length) := by
                have := hQl.out
                rw [uu, List.length_cons, ← Hql.out, List.length_cons] at this
                exact Nat.succ.inj this
              have hX' : Hid (Tree.upd2 A M (Tree.U x' y') Q = (XA, XB)) := by
                have := hU.out
                rw [uu] at this
                unfold Tree.upd2 at this
                rw [hM'.out] at this
                exact this
              have hb4 : Below w3.heap.size w3 w4 := (Below.refl _ w3).drew.trans hw4
              have hR4 := (Rst.last (g := w.heap.size) (w := w4) hyg Hql.out (by omega)).setRow #[.int .i64 (x' : Int), .int .i64 (y' : Int)]
              have hB4 := Below.setRow (hB3.out.trans (hb4.mono hB3.out.size)) (Nat.le_refl _) #[.int .i64 (x' : Int), .int .i64 (y' : Int)]
              refine ⟨?_, by rw [(hW4.set x' y').n1, hW.out.n1]; exact hy'⟩
              repeat apply Exists.intro
              exact ⟨⟨x', y', A, M, Q, rfl, rfl, hx', by omega, hQl', hX', hid hR4, hid (hW4.set x' y'), hid hB4⟩, rfl⟩
        · have hcc2 : ¬ (c' : Int) = 1 := by omega
          by_cases hd : (x % 2 == 1 || x == y) = true
          · rw [hd] at hfl
            obtain ⟨Ma, hMa⟩ : ∃ M, Hid (Tree.nd q A = M) := ⟨_, rfl⟩
            have hMa' := hMa
            obtain ⟨M, hM⟩ : ∃ M, Hid (Tree.nd q B = M) := ⟨_, rfl⟩
            have hM' := hM
            go_wp2_with (first
              | ((with_reducible show wpList _ _ _ (Oper.mk _ (Op.load 99 _) _ _ _ _ :: _) _ _); go_must (refine wpList_load_row rfl 99 _ rfl w.heap.size rfl 99 _ (0, 0) _ hW.out.row Tryd.underlying99 rfl (sizeW' _ _) ?_))
              | (go_at_call 75; fail))
            refine hfl.mono ?_
            rintro e w2 ⟨rfl, hw2⟩
            have T2 := HT.out.below (hB.out.trans (hw2.mono hB.out.size)) hT
            have hcell2 := (hw2.cell (p := y1) hzb).trans hcell
            have T2d : Tabs w2.drew := T2.below (Below.refl w2.heap.size w2).drew T2.lt
            have hzb2 := Nat.lt_of_lt_of_le hzb hw2.size
            go_wp2
            go_region_held3 (fun w' => w'.cell? y1 = some (sv q)) (first | exact hcell4 | exact hcell3 | exact hcell2) (first
              | (go_at_call 76; (with_reducible refine (vnode_any hMa w2.drew T2d).mono ?_); rintro e w3a ⟨rfl, hw3a'⟩; have hw3a := (Below.refl _ w2).drew.trans hw3a'; have hcell3 := (hw3a.cell (p := y1) hzb2).trans hcell2; have T3 := T2.below hw3a T2.lt)
              | (go_at_call 76; (with_reducible refine (vnode_any hM _ T3).mono ?_); rintro e w3 ⟨rfl, hw3b⟩; have hw3 := hw3a.trans (hw3b.mono hw3a.size); have hcell4 := (hw3.cell (p := y1) hzb2).trans hcell2))
            go_wp2
            have hb3 := hw2.trans (hw3.mono hw2.size)
            have hW3 := hW.out.below hb3
            have hAt3 := hid (hAt'.out.below hb3 (Nat.le_refl _))
            have hB3 := hid (hB.out.trans (hb3.mono hB.out.size))
            have d0 := hW3.c0
            have d1 := hW3.c1
            have hab3 := hab w3.drew
            clear hcell hcell2 hw2 T2 hfl hb3 hM hMa
            go_region_with ((go_at_call 77; refine hab3.mono ?_; rintro e w4 ⟨x', y', rfl, hw4, hx', hy', hU'⟩; have hW4 := Wy.below (show Wy w3.drew _ _ _ from hW3) hw4; have d4 := hW4.c0; have d5 := hW4.c1; have f4 := hW4.f0; have f5 := hW4.f1))
            all_goals go_wp2
            all_goals
              rw [hW4.two x' y']
              have uu := hU'.out
              rw [hd] at uu
              have hQl' : Hid (Q.length = (Tree.U x' y').length) := by
                have := hQl.out
                rw [uu, List.length_cons, ← Hql.out, List.length_cons] at this
                exact Nat.succ.inj this
              have hX' : Hid (Tree.upd2 Ma M (Tree.U x' y') Q = (XA, XB)) := by
                have := hU.out
                rw [uu] at this
                unfold Tree.upd2 at this
                rw [hMa'.out, hM'.out] at this
                exact this
              have hb4 : Below w3.heap.size w3 w4 := (Below.refl _ w3).drew.trans hw4
              have hR4 := (Rst.tail (g := w.heap.size) (hAt3.out.below hb4 (Nat.le_refl _)) hyg Hql.out hc1 hc2).setRow #[.int .i64 (x' : Int), .int .i64 (y' : Int)]
              have hB4 := Below.setRow (hB3.out.trans (hb4.mono hB3.out.size)) (Nat.le_refl _) #[.int .i64 (x' : Int), .int .i64 (y' : Int)]
              refine ⟨?_, by rw [(hW4.set x' y').n1, hW.out.n1]; exact hy'⟩
              repeat apply Exists.intro
              exact ⟨⟨x', y', Ma, M, Q, rfl, rfl, hx', by omega, hQl', hX', hid hR4, hid (hW4.set x' y'), hid hB4⟩, rfl⟩
          · replace hd : (x % 2 == 1 || x == y) = false := by simpa using hd
            rw [hd] at hfl
            obtain ⟨M, hM⟩ : ∃ M, Hid (Tree.nd B q = M) := ⟨_, rfl⟩
            have hM' := hM
            go_wp2_with (first
              | ((with_reducible show wpList _ _ _ (Oper.mk _ (Op.load 99 _) _ _ _ _ :: _) _ _); go_must (refine wpList_load_row rfl 99 _ rfl w.heap.size rfl 99 _ (0, 0) _ hW.out.row Tryd.underlying99 rfl (sizeW' _ _) ?_))
              | (go_at_call 75; fail))
            refine hfl.mono ?_
            rintro e w2 ⟨rfl, hw2⟩
            have T2 := HT.out.below (hB.out.trans (hw2.mono hB.out.size)) hT
            have hcell2 := (hw2.cell (p := y1) hzb).trans hcell
            go_wp2_with (go_at_call 76; refine (vnode_any hM _ T2).mono ?_; rintro e w3 ⟨rfl, hw3⟩)
            have hb3 := hw2.trans (hw3.mono hw2.size)
            have hW3 := hW.out.below hb3
            have hAt3 := hid (hAt'.out.below hb3 (Nat.le_refl _))
            have hB3 := hid (hB.out.trans (hb3.mono hB.out.size))
            have d0 := hW3.c0
            have d1 := hW3.c1
            have hab3 := hab w3.drew
            clear hcell hcell2 hw2 T2 hfl hb3 hM hw3
            go_region_with ((go_at_call 77; refine hab3.mono ?_; rintro e w4 ⟨x', y', rfl, hw4, hx', hy', hU'⟩; have hW4 := Wy.below (show Wy w3.drew _ _ _ from hW3) hw4; have d4 := hW4.c0; have d5 := hW4.c1; have f4 := hW4.f0; have f5 := hW4.f1))
            all_goals go_wp2
            all_goals
              rw [hW4.two x' y']
              have uu := hU'.out
              rw [hd] at uu
              have hQl' : Hid (Q.length = (Tree.U x' y').length) := by
                have := hQl.out
                rw [uu, List.length_cons, ← Hql.out, List.length_cons] at this
                exact Nat.succ.inj this
              have hX' : Hid (Tree.upd2 A M (Tree.U x' y') Q = (XA, XB)) := by
                have := hU.out
                rw [uu] at this
                unfold Tree.upd2 at this
                rw [hM'.out] at this
                exact this
              have hb4 : Below w3.heap.size w3 w4 := (Below.refl _ w3).drew.trans hw4
              have hR4 := (Rst.tail (g := w.heap.size) (hAt3.out.below hb4 (Nat.le_refl _)) hyg Hql.out hc1 hc2).setRow #[.int .i64 (x' : Int), .int .i64 (y' : Int)]
              have hB4 := Below.setRow (hB3.out.trans (hb4.mono hB3.out.size)) (Nat.le_refl _) #[.int .i64 (x' : Int), .int .i64 (y' : Int)]
              refine ⟨?_, by rw [(hW4.set x' y').n1, hW.out.n1]; exact hy'⟩
              repeat apply Exists.intro
              exact ⟨⟨x', y', A, M, Q, rfl, rfl, hx', by omega, hQl', hX', hid hR4, hid (hW4.set x' y'), hid hB4⟩, rfl⟩
end Go.Proofs.YtappjeepajjioaaDoor

namespace Go.Proofs.YtappjeepajjioaaDoor
open Go.RowKit
theorem goUpProof_any (m n : Nat) (h1 : 1 ≤ m) (h2 : m < n) (hn : n ≤ 1099511627776) (old : List UInt8) (proof : List (List UInt8)) (a : Option Addr) (cap : Nat) (w : World) (hlen : proof.length = Tree.pl m n true) (hA : At w a proof) (T : Tabs w) :
    Calls Tryd.prog 54 #[wy (Tree.St (m - 1) (n - 1)).1 (Tree.St (m - 1) (n - 1)).2, sv old, .slice a proof.length cap] w fun e w' => e = .returned (.tuple #[sv (Tree.bth m n true old proof).1, sv (Tree.bth m n true old proof).2]) ∧ Below w.heap.size w w' := by
  have hlt := Tree.St_lt (m - 1) (n - 1) (by omega)
  have hle := Tree.St_le (m - 1) (n - 1)
  obtain ⟨P, L, hS⟩ : ∃ P L, Tree.St (m - 1) (n - 1) = (P, L) := ⟨_, _, rfl⟩
  have e := Tree.pl_St h1 h2 hS
  obtain ⟨eP, eF⟩ := Tree.PD_SU _ m n (Nat.le_refl _) h1 h2
  have eP' : Tree.PD m n = Tree.U P L := by rw [eP]; unfold Tree.SU; rw [hS]
  rw [hS] at hlt hle eF ⊢
  simp only at hlt hle eF ⊢
  have hul := Tree.U_len 40 P L (by omega)
  rw [e] at hlen
  by_cases hP : P = 0
  · have hf : ¬ Tree.fl m n true = true := by unfold Tree.fl; rw [eF]; simp [hP]
    have hb : Tree.bth m n true old proof = Tree.upd2 old old (Tree.U P L) proof := by unfold Tree.bth; rw [if_neg hf, eP']
    rw [hb]
    rw [if_pos hP] at hlen
    exact goUpProof_zero P L hP old proof a cap w (by omega) (by omega) hA T (by omega)
  · have hf : Tree.fl m n true = true := by unfold Tree.fl; rw [eF]; simp [hP]
    rw [if_neg hP] at hlen
    match proof, hlen, hA with
    | h :: t, hlen, hA =>
      have hb : Tree.bth m n true old (h :: t) = Tree.upd2 h h (Tree.U P L) t := by unfold Tree.bth; rw [if_pos hf, eP']; rfl
      rw [hb]
      have hl1 : (h :: t).length = t.length + 1 := rfl
      have hne := Tree.U_ne L P (by omega) (by omega)
      have ht : 1 ≤ t.length := by
        rcases Nat.eq_zero_or_pos (Tree.U P L).length with h0 | h0
        · exact absurd (List.length_eq_zero_iff.1 h0) hne
        · omega
      exact goUpProof_more P L old h t a cap w (by omega) hP (by omega) (by omega) hA T (by omega) ht
theorem str_ne' {a b : List UInt8} (h : a ≠ b) : ((ByteArray.mk a.toArray).toList == (ByteArray.mk b.toArray).toList) = false := by
  rw [ByteArray.toList_eq, ByteArray.toList_eq]
  show (a == b) = false
  simpa using h
theorem str_ne2 {a b : List UInt8} (h : a ≠ b) : ¬ (ByteArray.mk a.toArray).toList = (ByteArray.mk b.toArray).toList := by
  rw [ByteArray.toList_eq, ByteArray.toList_eq]
  exact h
/-- V3 -/
def rootsOf4 (m n : Int) (old : List UInt8) (proof : List (List UInt8)) : (List UInt8 × List UInt8) × Int :=
  if (prfLen m n).2 = 0 then (if chk old proof (prfLen m n).1 = 0 then (Tree.bth m.toNat n.toNat true old proof, 0) else (([], []), chk old proof (prfLen m n).1)) else (([], []), (prfLen m n).2)
def conOf4 (m n : Int) (old now : List UInt8) (proof : List (List UInt8)) : Int :=
  if (rootsOf4 m n old proof).2 = 0 then (if now.length = 32 then (if (rootsOf4 m n old proof).1 = (old, now) then 0 else 44) else 42) else (rootsOf4 m n old proof).2
theorem prfLen_ok {m n : Int} (h : (prfLen m n).2 = 0) : 1 ≤ m ∧ m ≤ n ∧ n ≤ 1099511627776 ∧ prfLen m n = (((Tree.pl m.toNat n.toNat true : Nat) : Int), 0) := by
  unfold prfLen at h ⊢
  split at h
  · simp at h
  · rename_i h1
    refine ⟨by omega, by omega, by omega, ?_⟩
    rw [if_neg h1]
set_option maxRecDepth 100000 in
set_option maxHeartbeats 2000000 in
theorem RootsOf_any (m n : Int) (old : List UInt8) (proof : List (List UInt8)) (a : Option Addr) (cap : Nat) (w : World) (hc : proof.length ≤ 9223372036854775807) (hA : At w a proof) (T : Tabs w) :
    Calls Tryd.prog 42 #[.int .i64 m, .int .i64 n, sv old, .slice a proof.length cap] w fun e w' => e = .returned (.tuple #[sv (rootsOf4 m n old proof).1.1, sv (rootsOf4 m n old proof).1.2, .int .i64 (rootsOf4 m n old proof).2]) ∧ Below w.heap.size w w' := by
  have h1 := ProofLen_any m n w
  by_cases h : (prfLen m n).2 = 0
  · obtain ⟨a1, a2, a3, hl⟩ := prfLen_ok h
    have h2 := fun w1 (hb : Below w.heap.size w w1) => checkHashes_any old proof (prfLen m n).1 a cap w1 hc (hA.below hb (Nat.le_refl _))
    by_cases hk : chk old proof (prfLen m n).1 = 0
    · have ho : rootsOf4 m n old proof = (Tree.bth m.toNat n.toNat true old proof, 0) := by rw [rootsOf4, if_pos h, if_pos hk]
      rw [ho]
      rw [hk] at h2
      have hlen := (chk_len hk).1
      rw [hl] at hlen h1 h2
      simp only at hlen h1 h2
      by_cases he : m = n
      · subst he
        rw [Tree.bth_same]
        have b0 : (m == m) = true := by simp
        generalize (Tree.pl m.toNat m.toNat true : Nat) = L at *
        generalize proof.length = pl at *
        clear hA T hl hk h ho hlen
        go_enter Tryd.func42, Tryd.ntmps42
        go_wp2_with (first
          | (go_at_call 52; refine h1.mono ?_; rintro e w1 ⟨rfl, hw1⟩)
          | (go_at_call 53; refine (h2 _ hw1).mono ?_; rintro e w2 ⟨rfl, rfl⟩))
        go_ret3
        exact ⟨rfl, hw1⟩
      · have b0 : (m == n) = false := by simpa using he
        have h3 := fun w1 => proofWay_any m.toNat n.toNat (by omega) (by omega) (by omega) (by omega) w1
        rw [Int.toNat_of_nonneg (show 0 ≤ m by omega), Int.toNat_of_nonneg (show 0 ≤ n by omega)] at h3
        have h4 := fun w1 (hb : Below w.heap.size w w1) => goUpProof_any m.toNat n.toNat (by omega) (by omega) (by omega) old proof a cap w1 (by omega) (hA.below hb (Nat.le_refl _)) (T.below hb T.lt)
        generalize Tree.bth m.toNat n.toNat true old proof = X at *
        generalize (Tree.pl m.toNat n.toNat true : Nat) = L at *
        generalize Tree.St (m.toNat - 1) (n.toNat - 1) = S at *
        generalize proof.length = pl at *
        clear hA T hl hk h ho hlen
        go_enter Tryd.func42, Tryd.ntmps42
        go_wp2_with (first
          | (go_at_call 52; refine h1.mono ?_; rintro e w1 ⟨rfl, hw1⟩)
          | (go_at_call 53; refine (h2 _ hw1).mono ?_; rintro e w2 ⟨rfl, rfl⟩)
          | (go_at_call 55; refine (h3 _).mono ?_; rintro e w3 ⟨rfl, hw3⟩; have hb3 := hid (hw1.trans (hw3.mono hw1.size)))
          | (go_at_call 54; refine (h4 _ hb3.out).mono ?_; rintro e w4 ⟨rfl, hw4⟩))
        go_ret3
        exact ⟨rfl, hb3.out.trans (hw4.mono hb3.out.size)⟩
    · have ho : rootsOf4 m n old proof = (([], []), chk old proof (prfLen m n).1) := by rw [rootsOf4, if_pos h, if_neg hk]
      rw [ho, svE]
      rw [hl] at h1 h2 hk ⊢
      simp only at h1 h2 hk ⊢
      generalize (((Tree.pl m.toNat n.toNat true : Nat) : Int)) = L at *
      generalize chk old proof L = z at *
      have b0 : (z != 0) = true := by simpa using hk
      generalize proof.length = pl at *
      clear hA T hl ho h
      go_enter Tryd.func42, Tryd.ntmps42
      go_wp2_with (first
        | (go_at_call 52; refine h1.mono ?_; rintro e w1 ⟨rfl, hw1⟩)
        | (go_at_call 53; refine (h2 _ hw1).mono ?_; rintro e w2 ⟨rfl, rfl⟩))
      go_ret3
      exact ⟨rfl, hw1⟩
  · have ho : rootsOf4 m n old proof = (([], []), (prfLen m n).2) := by rw [rootsOf4, if_neg h]
    rw [ho, svE]
    generalize (prfLen m n).1 = y at *
    generalize (prfLen m n).2 = z at *
    have b0 : (z != 0) = true := by simpa using h
    generalize proof.length = pl at *
    clear hA T ho
    go_enter Tryd.func42, Tryd.ntmps42
    go_wp2_with (go_at_call 52; refine h1.mono ?_; rintro e w1 ⟨rfl, hw1⟩)
    go_ret3
    exact ⟨rfl, hw1⟩
set_option maxRecDepth 100000 in
set_option maxHeartbeats 2000000 in
theorem Consistency_any (m n : Int) (old now : List UInt8) (proof : List (List UInt8)) (a : Option Addr) (cap : Nat) (w : World) (hc : proof.length ≤ 9223372036854775807) (hA : At w a proof) (T : Tabs w) :
    Calls Tryd.prog 30 #[.int .i64 m, .int .i64 n, sv old, sv now, .slice a proof.length cap] w fun e w' => e = .returned (.int .i64 (conOf4 m n old now proof)) ∧ Below w.heap.size w w' := by
  have h1 := RootsOf_any m n old proof a cap w hc hA T
  have hs := sv_size now
  unfold conOf4
  generalize rootsOf4 m n old proof = o at *
  obtain ⟨⟨x, y⟩, z⟩ := o
  simp only at h1 ⊢
  generalize proof.length = pl at *
  clear hA T
  by_cases hz : z = 0
  · subst hz
    rw [if_pos rfl]
    by_cases h32 : now.length = 32
    · rw [if_pos h32]
      have i1 := isHash_at ⟨now.toArray⟩ true (by rw [hs]; simp [h32])
      by_cases hx : x = old
      · subst hx
        by_cases hy : y = now
        · subst hy
          rw [if_pos rfl]
          have e1 := str_eq x
          have e2 := str_eq y
          rw [show sv x = .string ⟨x.toArray⟩ from rfl] at h1 ⊢
          rw [show sv y = .string ⟨y.toArray⟩ from rfl] at h1 ⊢
          generalize ByteArray.mk x.toArray = R at *
          generalize ByteArray.mk y.toArray = R' at *
          go_enter Tryd.func30, Tryd.ntmps30
          go_wp2_with (first
            | (go_at_call 42; refine h1.mono ?_; rintro e w1 ⟨rfl, hw1⟩)
            | (go_at_call 43; refine (i1 _).mono ?_; rintro e w2 ⟨rfl, rfl⟩))
          go_ret
          exact ⟨rfl, hw1⟩
        · rw [if_neg (fun h => hy (congrArg Prod.snd h))]
          have e1 := str_eq x
          have e2 := str_ne hy
          have e3 := str_ne' hy
          have e4 := str_ne2 hy
          rw [show sv x = .string ⟨x.toArray⟩ from rfl] at h1 ⊢
          rw [show sv y = .string ⟨y.toArray⟩ from rfl] at h1
          rw [show sv now = .string ⟨now.toArray⟩ from rfl]
          generalize ByteArray.mk x.toArray = R at *
          generalize ByteArray.mk y.toArray = R1 at *
          generalize ByteArray.mk now.toArray = R2 at *
          go_enter Tryd.func30, Tryd.ntmps30
          go_wp2_with (first
            | (go_at_call 42; refine h1.mono ?_; rintro e w1 ⟨rfl, hw1⟩)
            | (go_at_call 43; refine (i1 _).mono ?_; rintro e w2 ⟨rfl, rfl⟩))
          go_ret
          exact ⟨rfl, hw1⟩
      · rw [if_neg (fun h => hx (congrArg Prod.fst h))]
        have e1 := str_ne hx
        have e3 := str_ne' hx
        have e4 := str_ne2 hx
        rw [show sv x = .string ⟨x.toArray⟩ from rfl] at h1
        rw [show sv y = .string ⟨y.toArray⟩ from rfl] at h1
        rw [show sv old = .string ⟨old.toArray⟩ from rfl] at h1 ⊢
        rw [show sv now = .string ⟨now.toArray⟩ from rfl]
        generalize ByteArray.mk x.toArray = R at *
        generalize ByteArray.mk y.toArray = R1 at *
        generalize ByteArray.mk now.toArray = R2 at *
        generalize ByteArray.mk old.toArray = R3 at *
        go_enter Tryd.func30, Tryd.ntmps30
        go_wp2_with (first
          | (go_at_call 42; refine h1.mono ?_; rintro e w1 ⟨rfl, hw1⟩)
          | (go_at_call 43; refine (i1 _).mono ?_; rintro e w2 ⟨rfl, rfl⟩))
        go_ret
        exact ⟨rfl, hw1⟩
    · rw [if_neg h32]
      have i1 := isHash_at ⟨now.toArray⟩ false (by rw [hs]; simp; try omega)
      rw [show sv now = .string ⟨now.toArray⟩ from rfl]
      generalize ByteArray.mk now.toArray = R2 at *
      go_enter Tryd.func30, Tryd.ntmps30
      go_wp2_with (first
        | (go_at_call 42; refine h1.mono ?_; rintro e w1 ⟨rfl, hw1⟩)
        | (go_at_call 43; refine (i1 _).mono ?_; rintro e w2 ⟨rfl, rfl⟩))
      go_ret
      exact ⟨rfl, hw1⟩
  · rw [if_neg hz]
    have b0 : (z != 0) = true := by simpa using hz
    go_enter Tryd.func30, Tryd.ntmps30
    go_wp2_with (go_at_call 42; refine h1.mono ?_; rintro e w1 ⟨rfl, hw1⟩)
    go_ret
    exact ⟨rfl, hw1⟩
end Go.Proofs.YtappjeepajjioaaDoor

namespace Go.Proofs.YtappjeepajjioaaDoor
open Go.RowKit Go.Shelf
namespace Chn
/-- C4: does a pair's proof lead from its root to the next one? -/
def ckC (hs : List Nat) (ps : List (List (List UInt8))) (R : List (List UInt8)) (i : Nat) : Int := conOf4 (hs.getD i 0 : Int) (hs.getD (i + 1) 0 : Int) (R.getD i []) (R.getD (i + 1) []) (ps.getD i [])
def ckA (hs : List Nat) (ps : List (List (List UInt8))) (R : List (List UInt8)) (n : Nat) : Bool := (List.range n).all fun i => decide (ckC hs ps R i = 0)
theorem ckA_next {hs : List Nat} {ps : List (List (List UInt8))} {R : List (List UInt8)} {n : Nat} : ckA hs ps R (n + 1) = (ckA hs ps R n && decide (ckC hs ps R n = 0)) := by
  unfold ckA
  rw [List.range_succ, List.all_append]
  simp
theorem ckA_not {hs : List Nat} {ps : List (List (List UInt8))} {R : List (List UInt8)} {k n : Nat} (hk : k < n) (h : ckC hs ps R k ≠ 0) : ckA hs ps R n = false := by
  cases e : ckA hs ps R n with
  | false => rfl
  | true =>
    unfold ckA at e
    rw [List.all_eq_true] at e
    exact absurd (of_decide_eq_true (e k (List.mem_range.2 hk))) h
def ckO (cs : List Int) (H R : List (List UInt8)) : Int := if exE cs H = 0 then (if R.length = cs.length ∧ hsB8 R = true then (if ckA (cs.map Int.toNat) (exL (cs.map Int.toNat) H) R (cs.length - 1) = true then 0 else 132) else 131) else exE cs H
theorem atGet {w : World} {a : Option Addr} {l : List (List UInt8)} (h : At w a l) {i : Nat} (hi : i < l.length) : ∃ x : Addr, a = some x ∧ x.block < w.heap.size ∧ w.cell? (x.add i) = some (sv (l.getD i [])) := by
  refine h i _ ?_
  rw [List.getD_eq_getElem?_getD, List.getElem?_eq_getElem hi]
  rfl
set_option maxRecDepth 100000 in
set_option maxHeartbeats 2000000 in
theorem checkC_bad (cs : List Int) (H : List (List UInt8)) (m k n : Nat) (hm : Hid (cs.length = m)) (hk : Hid (H.length = k)) (ac ah ar : Option Addr) (cc chp cr : Nat) (w : World) (hA : AtI w ac cs) (hAh : At w ah H) (lc : m ≤ 9223372036854775807) (lh : k ≤ 9223372036854775807) (he : exE cs H ≠ 0) :
    Calls Tryd.prog 14 #[ch (.slice ac m cc) (.slice ah k chp), .slice ar n cr] w fun r w' => r = .returned (.int .i64 (exE cs H)) ∧ Below w.heap.size w w' := by
  have b0 := (Below.refl w.heap.size w).alloc (Nat.le_refl _) (.cells #[.slice ac m cc, .slice ah k chp] 42)
  have i1 := expandC_bad cs H m k hm hk ac ah cc chp _ (hA.below b0 (Nat.le_refl _)) (hAh.below b0 (Nat.le_refl _)) lc lh he
  generalize exE cs H = E at *
  have h0 : (E != 0) = true := by simpa using he
  have h1 : ¬ E = 0 := he
  have B0 := hid b0
  clear hA hAh b0 hm hk
  go_enter Tryd.func14, Tryd.ntmps14
  go_wp2_with (go_at_call 11; refine i1.mono ?_; rintro r w1 ⟨rfl, b1⟩; have B1 := hid (B0.out.trans (b1.mono B0.out.size)); clear b1)
  go_ret
  exact ⟨rfl, B1.out⟩
set_option maxRecDepth 100000 in
set_option maxHeartbeats 2000000 in
theorem checkC_form (hs : List Nat) (HH : Hds hs) (H R : List (List UInt8)) (m k n : Nat) (hm : Hid (hs.length = m)) (hk : Hid (H.length = k)) (hn : Hid (R.length = n)) (HT : Hid ((told hs).length = k)) (ac ah ar : Option Addr) (cc chp cr : Nat) (w : World) (hA : AtI w ac (ix hs)) (hAh : At w ah H) (hAr : At w ar R) (hq : hsB8 H = true) (T : Tabs w) (ln : n ≤ 9223372036854775807) (he : ¬ (n = m ∧ hsB8 R = true)) :
    Calls Tryd.prog 14 #[ch (.slice ac m cc) (.slice ah k chp), .slice ar n cr] w fun r w' => r = .returned (.int .i64 131) ∧ Below w.heap.size w w' := by
  have b0 := (Below.refl w.heap.size w).alloc (Nat.le_refl _) (.cells #[.slice ac m cc, .slice ah k chp] 42)
  have S0 := hid (ChI.new w (.slice ac m cc) (.slice ah k chp))
  have i1 := expandC_ok hs HH H m k hm hk HT ac ah cc chp _ (hA.below b0 (Nat.le_refl _)) (hAh.below b0 (Nat.le_refl _)) hq (T.below b0 T.lt)
  have B0 := hid b0
  by_cases hl : n = m
  · have hr : hsB8 R = false := by
      cases hc : hsB8 R with
      | false => rfl
      | true => exact absurd ⟨hl, hc⟩ he
    have i2 := fun w' (bb : Below w.heap.size w w') => areHashes13_is R false hr ar cr w' (by rw [hn.out]; exact ln) (hAr.below bb (Nat.le_refl _))
    rw [hn.out] at i2
    subst hl
    have z0 : ((n : Int) != (n : Int)) = false := by simp
    have z1 : ((n : Int) == (n : Int)) = true := by simp
    clear hA hAh hAr b0 he hm hk hn hr hq T HT HH
    go_enter Tryd.func14, Tryd.ntmps14
    go_wp2_with (first
      | (go_at_call 11; refine i1.mono ?_; rintro r w1 ⟨G, gs, rfl, _, _, _, _, b1⟩; have B1 := hid (B0.out.trans (b1.mono B0.out.size)); have c1 := (S0.out.below b1).c0; clear b1)
      | (go_at_call 29; refine (i2 _ B1.out).mono ?_; rintro r w4 ⟨rfl, hw4⟩; have hw4 := hw4.symm; subst hw4))
    go_ret
    exact ⟨rfl, B1.out⟩
  · have z0 : ((n : Int) != (m : Int)) = true := by simp; omega
    have z1 : ((n : Int) == (m : Int)) = false := by simp; omega
    have z2 : ¬ (n : Int) = (m : Int) := by omega
    clear hA hAh hAr b0 he hm hk hn hq T HT HH
    go_enter Tryd.func14, Tryd.ntmps14
    go_wp2_with (go_at_call 11; refine i1.mono ?_; rintro r w1 ⟨G, gs, rfl, _, _, _, _, b1⟩; have B1 := hid (B0.out.trans (b1.mono B0.out.size)); have c1 := (S0.out.below b1).c0; clear b1)
    go_ret
    exact ⟨rfl, B1.out⟩
theorem zip_at {gs : List Nat} {ps : List (List (List UInt8))} (h : gs.length = ps.length) {j : Nat} (hj : j < ps.length) : ∃ g, gs[j]? = some g ∧ (List.zipWith lst gs ps)[j]? = some (lst g (ps.getD j [])) := by
  have hg : j < gs.length := by omega
  refine ⟨gs[j], List.getElem?_eq_getElem hg, ?_⟩
  rw [List.getElem?_zipWith, List.getElem?_eq_getElem hg, List.getElem?_eq_getElem hj, List.getD_eq_getElem?_getD, List.getElem?_eq_getElem hj]
  rfl
theorem Row.at13 {w : World} {g : Nat} {l : List (List UInt8)} (h : Row w g l) : At w (some ⟨g, 0, none⟩) l := fun j p hp => by
  refine ⟨⟨g, 0, none⟩, rfl, h.lt, ?_⟩
  rw [Addr.add_mid, Nat.zero_add, cell_of_row _ _ _ _ _ _ h]
  simp [svs, hp]
theorem exL_few {hs : List Nat} (HH : Hds hs) (H : List (List UInt8)) (j : Nat) : ((exL hs H).getD j []).length ≤ 41 := by
  rw [List.getD_eq_getElem?_getD]
  by_cases hj : j < (exL hs H).length
  · rw [List.getElem?_eq_getElem hj]
    have hj' : j < hs.length - 1 := by simpa [exL] using hj
    have hp := HH.pair (i := j) (by omega)
    have := prf_len hp.1 (Nat.le_of_lt hp.2.1) hp.2.2
    simpa [exL, exP] using this
  · rw [List.getElem?_eq_none (by omega)]; simp
set_option maxRecDepth 100000 in
set_option maxHeartbeats 4000000 in
theorem checkC_ok (hs : List Nat) (HH : Hds hs) (H R : List (List UInt8)) (m k : Nat) (hm : Hid (hs.length = m)) (hk : Hid (H.length = k)) (hn : Hid (R.length = m)) (HT : Hid ((told hs).length = k)) (ac ah ar : Option Addr) (cc chp cr : Nat) (w : World) (hA : AtI w ac (ix hs)) (hAh : At w ah H) (hAr : At w ar R) (hq : hsB8 H = true) (hr : hsB8 R = true) (T : Tabs w) :
    Calls Tryd.prog 14 #[ch (.slice ac m cc) (.slice ah k chp), .slice ar m cr] w fun r w' => r = .returned (.int .i64 (if ckA hs (exL hs H) R (m - 1) = true then 0 else 132)) ∧ Below w.heap.size w w' := by
  have b0 := (Below.refl w.heap.size w).alloc (Nat.le_refl _) (.cells #[.slice ac m cc, .slice ah k chp] 42)
  have S0 := hid (ChI.new w (.slice ac m cc) (.slice ah k chp))
  have i1 := expandC_ok hs HH H m k hm hk HT ac ah cc chp _ (hA.below b0 (Nat.le_refl _)) (hAh.below b0 (Nat.le_refl _)) hq (T.below b0 T.lt)
  have B0 := hid b0
  have lm : m ≤ 64 := by rw [← hm.out]; exact HH.le
  have lm1 : 1 ≤ m := by rw [← hm.out]; exact HH.ne
  have i2 := fun w' (bb : Below w.heap.size w w') => areHashes13_is R true hr ar cr w' (by rw [hn.out]; omega) (hAr.below bb (Nat.le_refl _))
  rw [hn.out] at i2
  obtain ⟨x, rfl⟩ := hA.pos (by simp [ix]; rw [hm.out]; omega)
  obtain ⟨y, rfl, _, _⟩ := atGet hAr (i := 0) (by rw [hn.out]; omega)
  have HA := hid (fun w' (bb : Below w.heap.size w w') => hA.below bb (Nat.le_refl _))
  have HR := hid (fun w' (bb : Below w.heap.size w w') => hAr.below bb (Nat.le_refl _))
  have TT := hid (fun w' (bb : Below w.heap.size w w') => T.below bb T.lt)
  have few := hid (exL_few HH H)
  have hpl : Hid ((exL hs H).length = m - 1) := by unfold Hid; rw [← hm.out]; simp [exL]
  have z0 : ((m : Int) != (m : Int)) = false := by simp
  have z1 : ((m : Int) == (m : Int)) = true := by simp
  obtain ⟨V, hV⟩ : ∃ V : Int, Hid ((if ckA hs (exL hs H) R (m - 1) = true then (0 : Int) else 132) = V) := ⟨_, rfl⟩
  rw [hV.out]
  generalize exL hs H = ps at *
  have v1 : IntKind.i64.wrap ((m : Int) - 1) = (m : Int) - 1 := by rw [IntKind.wrap_i64]; omega
  have v2 : (m : Int) - 1 = ((m - 1 : Nat) : Int) := by omega
  obtain ⟨M, hM⟩ : ∃ M, m - 1 = M := ⟨_, rfl⟩
  have HMM := hid hM
  rw [hM] at v2
  clear hA hAh hAr b0 hk hq hr T HT HH hM
  go_enter Tryd.func14, Tryd.ntmps14
  go_wp2_with (first
    | (go_at_call 11; refine i1.mono ?_; rintro r w1 ⟨G, gs, rfl, rv, gl, ls, _, b1⟩; have B1 := hid (B0.out.trans (b1.mono B0.out.size)); have S1 := hid (S0.out.below b1); have c1 := S1.out.c0; have RV := hid rv; have GL := hid gl; have LS := hid ls; clear b1 rv gl ls)
    | (go_at_call 29; refine (i2 _ B1.out).mono ?_; rintro r w4 ⟨rfl, hw4⟩; have hw4 := hw4.symm; subst hw4))
  clear i1 i2 c1 S0 B0
  go_loopw [7, 33] (fun _ i w' => ∃ j : Nat, j ≤ M ∧ i = .int .i64 (j : Int) ∧ Hid (ckA hs ps R j = true) ∧ Hid (Below w1.heap.size w1 w')) (fun _ i _ => M - (intOf i).toNat)
  case atStart => exact ⟨0, by omega, rfl, rfl, Below.refl _ _⟩
  case round =>
    obtain ⟨j, hj, rfl, hck, hbw⟩ := hrel
    have bww := B1.out.trans (hbw.out.mono B1.out.size)
    by_cases hjm : j < M
    · have e0 : (j : Int) < (M : Int) := by omega
      have hmm := HMM.out
      have hj1 : j + 1 < hs.length := by rw [hm.out]; omega
      have hj0 : j < hs.length := by omega
      have hjp : j < ps.length := by rw [hpl.out]; omega
      obtain ⟨g, hg1, hg2⟩ := zip_at GL.out hjp
      have hrow := LS.out.row j g (ps.getD j []) hg1 (by rw [List.getD_eq_getElem?_getD, List.getElem?_eq_getElem hjp]; rfl)
      have hgw := (LS.out.ge g (List.mem_of_getElem? hg1)).2
      have fact : ∀ w', Below w1.heap.size w1 w' → w'.cell? ⟨w.heap.size, 0, none⟩ = some (.slice (some x) m cc) ∧ w'.cell? (x.add j) = some (.int .i64 (hs.getD j 0 : Int)) ∧ w'.cell? ⟨x.block, x.off + (j + 1), none⟩ = some (.int .i64 (hs.getD (j + 1) 0 : Int)) ∧ w'.cell? (y.add j) = some (.string ⟨(R.getD j []).toArray⟩) ∧ w'.cell? ⟨y.block, y.off + (j + 1), none⟩ = some (.string ⟨(R.getD (j + 1) []).toArray⟩) ∧ w'.cell? ⟨G, j, none⟩ = some (.slice (some ⟨g, 0, none⟩) (ps.getD j []).length (ps.getD j []).length) := fun w' hb' => by
        have bw' := B1.out.trans (hb'.mono B1.out.size)
        obtain ⟨a1, h1, _, q1⟩ := (HA.out _ bw') j _ (ix_at hj0)
        obtain ⟨a2, h2, _, q2⟩ := (HA.out _ bw') (j + 1) _ (ix_at hj1)
        obtain ⟨a3, h3, _, q3⟩ := atGet (HR.out _ bw') (i := j) (by rw [hn.out]; omega)
        obtain ⟨a4, h4, _, q4⟩ := atGet (HR.out _ bw') (i := j + 1) (by rw [hn.out]; omega)
        obtain rfl := Option.some.inj h1
        obtain rfl := Option.some.inj h2
        obtain rfl := Option.some.inj h3
        obtain rfl := Option.some.inj h4
        refine ⟨(S1.out.below hb').c0, q1, ?_, q3, ?_, (RV.out.below hb' RV.out.lt).cell hg2⟩
        · rw [← q2]; simp [Addr.add]
        · rw [show (.string ⟨(R.getD (j + 1) []).toArray⟩ : Value) = sv (R.getD (j + 1) []) from rfl, ← q4]; simp [Addr.add]
      have x0 := fact _ hbw.out
      have HF := hid fact
      have i3 := Consistency_any (hs.getD j 0 : Int) (hs.getD (j + 1) 0 : Int) (R.getD j []) (R.getD (j + 1) []) (ps.getD j []) (some ⟨g, 0, none⟩) (ps.getD j []).length wr.drew (by have := few.out j; omega) ((Row.at13 (hrow.below hbw.out hgw)).below (Below.refl _ _).drew (Nat.le_refl _)) (TT.out _ bww.drew)
      have hC : ckC hs ps R j = conOf4 (hs.getD j 0 : Int) (hs.getD (j + 1) 0 : Int) (R.getD j []) (R.getD (j + 1) []) (ps.getD j []) := rfl
      rw [← hC] at i3
      clear hC
      unfold Hid at HF
      rw [show sv (R.getD j []) = Value.string ⟨(R.getD j []).toArray⟩ from rfl, show sv (R.getD (j + 1) []) = Value.string ⟨(R.getD (j + 1) []).toArray⟩ from rfl] at i3
      have hnx := hid (ckA_next (hs := hs) (ps := ps) (R := R) (n := j))
      have hno := hid (fun h => ckA_not (hs := hs) (ps := ps) (R := R) (k := j) (n := M) hjm h)
      obtain ⟨E, hE⟩ : ∃ E, ckC hs ps R j = E := ⟨_, rfl⟩
      unfold Hid at hnx hno
      rw [hE] at i3 hnx hno
      have hnx := hid hnx
      have hno := hid hno
      generalize hs.getD j 0 = a at *
      generalize hs.getD (j + 1) 0 = c at *
      generalize (⟨(R.getD j []).toArray⟩ : ByteArray) = ra at *
      generalize (⟨(R.getD (j + 1) []).toArray⟩ : ByteArray) = rb at *
      generalize (ps.getD j []).length = nl at *
      have HF := hid HF
      have v3 : IntKind.i64.wrap ((j : Int) + 1) = (j : Int) + 1 := by rw [IntKind.wrap_i64]; omega
      have v4 : ((j : Int) + 1).toNat = j + 1 := by omega
      have v5 : (0 : Int) ≤ (j : Int) + 1 := by omega
      have v6 : (j : Int) + 1 < (m : Int) := by omega
      have v7 : (j : Int) < (m : Int) := by omega
      have v8 : (0 : Int) ≤ (j : Int) := by omega
      have v9 : (j : Int) < ((ps.length : Nat) : Int) := by omega
      clear fact hg1 hg2 hrow hE
      by_cases h0 : E = 0
      · have hck2 : Hid (ckA hs ps R (j + 1) = true) := by unfold Hid; rw [hnx.out, hck.out, decide_eq_true h0]; rfl
        have q0 : (E != 0) = false := by simp [h0]
        have q1 : (E == 0) = true := by simp [h0]
        clear hck hnx hno
        subst h0
        go_wp2
        go_region_held3 (fun w' => w'.cell? ⟨w.heap.size, 0, none⟩ = some (.slice (some x) m cc) ∧ w'.cell? (x.add j) = some (.int .i64 (a : Int)) ∧ w'.cell? ⟨x.block, x.off + (j + 1), none⟩ = some (.int .i64 (c : Int)) ∧ w'.cell? (y.add j) = some (.string ra) ∧ w'.cell? ⟨y.block, y.off + (j + 1), none⟩ = some (.string rb) ∧ w'.cell? ⟨G, j, none⟩ = some (.slice (some ⟨g, 0, none⟩) nl nl)) (first | exact x1 | exact x0) (first | (go_at_call 30; refine i3.mono ?_; rintro r w3 ⟨rfl, b3⟩; have b3 := drewBelow8 b3; have B3 := hid (hbw.out.trans (b3.mono hbw.out.size)); have x1 := HF.out _ B3.out; clear b3))
        go_wp2
        exact ⟨⟨j + 1, by omega, by go_num, hck2, B3⟩, by simp [intOf]; omega⟩
      · have eV : Hid (V = 132) := by unfold Hid; rw [← hV.out, if_neg]; rw [HMM.out, hno.out h0]; simp
        have q0 : (E != 0) = true := by simpa using h0
        have q1 : (E == 0) = false := by simpa using h0
        clear hck hnx hno
        go_wp2
        go_region_held3 (fun w' => w'.cell? ⟨w.heap.size, 0, none⟩ = some (.slice (some x) m cc) ∧ w'.cell? (x.add j) = some (.int .i64 (a : Int)) ∧ w'.cell? ⟨x.block, x.off + (j + 1), none⟩ = some (.int .i64 (c : Int)) ∧ w'.cell? (y.add j) = some (.string ra) ∧ w'.cell? ⟨y.block, y.off + (j + 1), none⟩ = some (.string rb) ∧ w'.cell? ⟨G, j, none⟩ = some (.slice (some ⟨g, 0, none⟩) nl nl)) (first | exact x1 | exact x0) (first | (go_at_call 30; refine i3.mono ?_; rintro r w3 ⟨rfl, b3⟩; have b3 := drewBelow8 b3; have B3 := hid (hbw.out.trans (b3.mono hbw.out.size)); have x1 := HF.out _ B3.out; clear b3))
        go_wp2
        go_ret
        exact ⟨by rw [eV.out]; rfl, B1.out.trans (B3.out.mono B1.out.size)⟩
    · obtain rfl : j = M := by omega
      have e0 : ¬ (j : Int) < (j : Int) := by omega
      have eV : Hid (V = 0) := by unfold Hid; rw [← hV.out, if_pos]; rw [HMM.out]; exact hck.out
      go_wp2
      go_ret
      exact ⟨by rw [eV.out]; rfl, bww⟩
/-- C4, whatever is handed in -/
theorem checkC_any (cs : List Int) (H R : List (List UInt8)) (m k n : Nat) (hm : Hid (cs.length = m)) (hk : Hid (H.length = k)) (hn : Hid (R.length = n)) (ac ah ar : Option Addr) (cc chp cr : Nat) (w : World) (hA : AtI w ac cs) (hAh : At w ah H) (hAr : At w ar R) (T : Tabs w) (lc : m ≤ 9223372036854775807) (lh : k ≤ 9223372036854775807) (ln : n ≤ 9223372036854775807) :
    Calls Tryd.prog 14 #[ch (.slice ac m cc) (.slice ah k chp), .slice ar n cr] w fun r w' => r = .returned (.int .i64 (ckO cs H R)) ∧ Below w.heap.size w w' := by
  by_cases he : exE cs H = 0
  · obtain ⟨hs, rfl, HH, h1, h2⟩ := exE_ok he
    have hl : hs.length = m := by rw [← hm.out]; simp [ix]
    have e1 : ckO (ix hs) H R = if n = m ∧ hsB8 R = true then (if ckA hs (exL hs H) R (m - 1) = true then 0 else 132) else 131 := by
      unfold ckO
      rw [if_pos he, ix_toN, hn.out, hm.out]
    rw [e1]
    by_cases hc : n = m ∧ hsB8 R = true
    · rw [if_pos hc]
      obtain ⟨rfl, hr⟩ := hc
      exact checkC_ok hs HH H R n k hl hk hn (show (told hs).length = k by rw [← h1, hk.out]) ac ah ar cc chp cr w hA hAh hAr h2 hr T
    · rw [if_neg hc]
      exact checkC_form hs HH H R m k n hl hk hn (show (told hs).length = k by rw [← h1, hk.out]) ac ah ar cc chp cr w hA hAh hAr h2 T ln hc
  · have e1 : ckO cs H R = exE cs H := by unfold ckO; rw [if_neg he]
    rw [e1]
    exact checkC_bad cs H m k n hm hk ac ah ar cc chp cr w hA hAh lc lh he
end Chn
end Go.Proofs.YtappjeepajjioaaDoor
