import Derived.WalkMore
import Derived.Test.YtmpaliocfikifaaDoorCI6
namespace Go.Proofs.YtmpaliocfikifaaDoor
open Go.RowKit
theorem Wy.f0 {w : World} {g p l : Nat} (h : Wy w g p l) : w.frozen? ⟨g, 0, none⟩ = false := frozen_of_row _ _ _ _ _ h
theorem Wy.f1 {w : World} {g p l : Nat} (h : Wy w g p l) : w.frozen? ⟨g, 1, none⟩ = false := frozen_of_row _ _ _ _ _ h
theorem Wy.two {w : World} {g p l : Nat} (h : Wy w g p l) (p' l' : Nat) : (w.setCell ⟨g, 0, none⟩ (.int .i64 (p' : Int))).setCell ⟨g, 1, none⟩ (.int .i64 (l' : Int)) = w.setRow g #[.int .i64 (p' : Int), .int .i64 (l' : Int)] := by
  rw [setCell_eq_setRow w g 0 _ _ _ _ h, setCell_eq_setRow _ g 1 _ _ _ _ (setRow_heap _ _ _ _ _ _ h), setRow_setRow]
  rfl
theorem At.setRow {w : World} {a : Option Addr} {l : List (List UInt8)} (h : At w a l) (g : Nat) (cs : Array Value) (hne : ∀ x, a = some x → x.block ≠ g) : At (w.setRow g cs) a l := fun j p hp => by
  obtain ⟨x, rfl, hx, hc⟩ := h j p hp
  refine ⟨x, rfl, by rw [setRow_size]; exact hx, ?_⟩
  rw [← hc]
  exact World.cell?_of_block (w := w) (by rw [addr_block]; exact setRow_other w g _ cs (hne x rfl))
theorem Tree.U_ne : ∀ (y x : Nat), x ≤ y → y ≠ 0 → Tree.U x y ≠ [] := by
  intro y
  induction y using Nat.strongRecOn with
  | ind y ih =>
    intro x hx h0
    by_cases hs : x = y ∧ x % 2 = 0
    · obtain ⟨rfl, hs⟩ := hs
      rw [Tree.U_skip h0 hs]
      exact ih (x / 2) (by omega) (x / 2) (Nat.le_refl _) (by omega)
    · rw [Tree.U_step h0 hs]; simp
/-- what is left of a list; nothing of it lies in block g -/
def Rst (g : Nat) (w : World) (v : Value) (Q : List (List UInt8)) : Prop := ∃ a c, v = .slice a Q.length c ∧ Q.length ≤ c ∧ c ≤ 8796093021952 ∧ At w a Q ∧ ∀ x, a = some x → x.block ≠ g
theorem Rst.below {g : Nat} {w w' : World} {v : Value} {Q : List (List UInt8)} (h : Rst g w v Q) (hb : Below w.heap.size w w') : Rst g w' v Q := by
  obtain ⟨a, c, h1, h2, h3, h4, h5⟩ := h
  exact ⟨a, c, h1, h2, h3, h4.below hb (Nat.le_refl _), h5⟩
theorem Rst.setRow {g : Nat} {w : World} {v : Value} {Q : List (List UInt8)} (h : Rst g w v Q) (cs : Array Value) : Rst g (w.setRow g cs) v Q := by
  obtain ⟨a, c, h1, h2, h3, h4, h5⟩ := h
  exact ⟨a, c, h1, h2, h3, h4.setRow g cs h5, h5⟩
theorem Rst.tail {g : Nat} {w : World} {y : Addr} {q : List UInt8} {Q : List (List UInt8)} {k c : Nat} (hA : At w (some y) (q :: Q)) (hy : y.block ≠ g) (hk : (q :: Q).length = k) (hc : k ≤ c) (hc2 : c ≤ 8796093021952) : Rst g w (.slice (some ⟨y.block, y.off + 1, none⟩) (k - 1) (c - 1)) Q := by
  have hk' : k - 1 = Q.length := by rw [← hk]; rfl
  refine ⟨some (y.add 1), c - 1, by rw [hk']; rfl, by omega, by omega, hA.drop 1, ?_⟩
  rintro x hx
  obtain rfl := Option.some.inj hx
  rw [addr_block]; exact hy
theorem Rst.last {g : Nat} {w : World} {y : Addr} {q : List UInt8} {Q : List (List UInt8)} {k : Nat} (hy : y.block ≠ g) (hk : (q :: Q).length = k) (hc : k ≤ 1) : Rst g w (.slice (some y) 0 0) Q := by
  have hQ : Q = [] := List.length_eq_zero_iff.1 (by simp at hk; omega)
  subst hQ
  refine ⟨some y, 0, rfl, by simp, by omega, At.nil _ _, ?_⟩
  rintro x hx
  obtain rfl := Option.some.inj hx
  exact hy
set_option maxRecDepth 100000 in
set_option maxHeartbeats 8000000 in
theorem goUpPath_any (p l : Nat) (leaf : List UInt8) (path : List (List UInt8)) (a : Option Addr) (cap : Nat) (w : World) (hp : p ≤ l) (hl : l < 9223372036854775807) (hlen : path.length = (Tree.U p l).length) (hA : At w a path) (T : Tabs w) (hpl : path.length ≤ 1000) :
    Calls Tryd.prog 30 #[wy p l, sv leaf, .slice a path.length cap] w fun e w' => e = .returned (sv (Tree.upd leaf (Tree.U p l) path)) ∧ Below w.heap.size w w' := by
  obtain ⟨X, hX⟩ : ∃ X, Hid (Tree.upd leaf (Tree.U p l) path = X) := ⟨_, rfl⟩
  rw [hX.out]
  have hb0 := (Below.refl w.heap.size w).alloc (Nat.le_refl _) (.cells #[Value.int .i64 (p : Int), Value.int .i64 (l : Int)] 74)
  have hc := vcopied_any path a cap (w.alloc (.cells #[Value.int .i64 (p : Int), Value.int .i64 (l : Int)] 74)) (by omega) (hA.below hb0 (Nat.le_refl _))
  have HT := hid T
  have hT := T.lt
  have HB0 := hid hb0
  have HW0 := hid (Wy.new w p l)
  obtain ⟨n, hn⟩ : ∃ n, Hid (path.length = n) := ⟨_, rfl⟩
  rw [hn.out] at hc ⊢
  have Hlen := hid hlen
  clear hA T hb0 hlen
  go_enter Tryd.func30, Tryd.ntmps30
  go_wp2
  go_step3
  go_wp2_with (go_at_call 51; refine hc.mono ?_; rintro e w1 ⟨rfl, hR, hw1⟩)
  go_step3
  go_wp2
  have hW1 := hid (HW0.out.below hw1)
  have hB1 := hid (HB0.out.trans (hw1.mono HB0.out.size))
  have hR1 : Hid (Rst w.heap.size w1 (.slice (some ⟨(w.alloc (.cells #[Value.int .i64 (p : Int), Value.int .i64 (l : Int)] 74)).heap.size, 0, none⟩) n n) path) := by
    refine ⟨_, n, by rw [hn.out], by rw [hn.out]; omega, by rw [← hn.out]; omega, hR.at, ?_⟩
    rintro x hx
    obtain rfl := Option.some.inj hx
    show (w.alloc _).heap.size ≠ _
    rw [size_alloc]; omega
  clear hc HW0 HB0 hw1 hR
  rw [size_alloc] at hR1
  go_loopw [7, 8] (fun r rest w' => ∃ x y R Q, r = sv R ∧ x ≤ y ∧ y ≤ l ∧ Hid (Q.length = (Tree.U x y).length) ∧ Hid (Tree.upd R (Tree.U x y) Q = X) ∧ Hid (Rst w.heap.size w' rest Q) ∧ Hid (Wy w' w.heap.size x y) ∧ Hid (Below w.heap.size w w')) (fun _ _ w' => numAt w' w.heap.size 1)
  case atStart => exact ⟨p, l, leaf, path, rfl, hp, Nat.le_refl _, Hlen, hX, hR1, hW1, hB1⟩
  case round =>
    clear Hlen hX hR1 hW1 hB1
    obtain ⟨x, y, R, Q, rfl, hxy, hyl, hQl, hU, hQ, hW, hB⟩ := hrel
    have c0 := hW.out.c0
    have c1 := hW.out.c1
    by_cases h0 : y = 0
    · subst h0
      have e := hid (show X = R by have := hU.out; rw [Tree.U_zero] at this; exact this.symm)
      go_wp2
      rw [Exit.noGoto_ret]
      go_ret
      exact ⟨by rw [e.out]; rfl, hB.out⟩
    · have b1 : ((y : Int) == 0) = false := by simp; omega
      obtain ⟨a', c', rfl, hc1, hc2, hAt, hab'⟩ := hQ.out
      have hab := above_any x y hxy h0 (by omega)
      have hfl := fromLeft_any x y (by omega) (by omega) wr
      match Q, hQl, hU, hc1, hAt with
      | [], hQl, _, _, _ =>
        exact absurd (List.length_eq_zero_iff.1 hQl.out.symm) (Tree.U_ne y x hxy h0)
      | q :: Q, hQl, hU, hc1, hAt =>
        obtain ⟨y1, rfl⟩ := hAt.pos (by simp)
        have hyg := hab' y1 rfl
        obtain ⟨z, hz, hzb, hcell⟩ := hAt 0 q rfl
        obtain rfl := Option.some.inj hz
        rw [addr_zero] at hcell
        have hAt' := hid hAt
        clear hAt hQ hz hab'
        have hq1 : 0 < (q :: Q).length := by simp
        generalize hql : (q :: Q).length = k at *
        have Hql := hid hql
        clear hql
        by_cases hcc : c' = 1
        · subst hcc
          by_cases hd : (x % 2 == 1 || x == y) = true
          · rw [hd] at hfl
            obtain ⟨M, hM⟩ : ∃ M, Hid (Tree.nd q R = M) := ⟨_, rfl⟩
            have hM' := hM
            go_wp2_with (first
              | ((with_reducible show wpList _ _ _ (Oper.mk _ (Op.load 74 _) _ _ _ _ :: _) _ _); go_must (refine wpList_load_row rfl 74 _ rfl w.heap.size rfl 74 _ (0, 0) _ hW.out.row Tryd.underlying74 rfl (sizeW' _ _) ?_))
              | (go_at_call 52; fail))
            refine hfl.mono ?_
            rintro e w2 ⟨rfl, hw2⟩
            have T2 := HT.out.below (hB.out.trans (hw2.mono hB.out.size)) hT
            have hcell2 := (hw2.cell (p := y1) hzb).trans hcell
            go_wp2_with (go_at_call 53; refine (vnode_any hM _ T2).mono ?_; rintro e w3 ⟨rfl, hw3⟩)
            have hb3 := hw2.trans (hw3.mono hw2.size)
            have hW3 := hW.out.below hb3
            have hAt3 := hid (hAt'.out.below hb3 (Nat.le_refl _))
            have hB3 := hid (hB.out.trans (hb3.mono hB.out.size))
            have d0 := hW3.c0
            have d1 := hW3.c1
            have hab3 := hab w3.drew
            clear hcell hcell2 hw2 hw3 T2 hfl hM hb3
            go_region_with ((go_at_call 54; refine hab3.mono ?_; rintro e w4 ⟨x', y', rfl, hw4, hx', hy', hU'⟩; have hW4 := Wy.below (show Wy w3.drew _ _ _ from hW3) hw4; have d4 := hW4.c0; have d5 := hW4.c1; have f4 := hW4.f0; have f5 := hW4.f1))
            all_goals go_wp2
            all_goals
              rw [hW4.two x' y']
              have uu := hU'.out
              rw [hd] at uu
              have hQl' : Hid (Q.length = (Tree.U x' y').length) := by
                have := hQl.out
                rw [uu, List.length_cons, ← Hql.out, List.length_cons] at this
                exact Nat.succ.inj this
              have hX' : Hid (Tree.upd M (Tree.U x' y') Q = X) := by
                have := hU.out
                rw [uu] at this
                exact hM'.out ▸ this
              have hb4 : Below w3.heap.size w3 w4 := (Below.refl _ w3).drew.trans hw4
              have hR4 := (Rst.last (g := w.heap.size) (w := w4) hyg Hql.out (by omega)).setRow #[.int .i64 (x' : Int), .int .i64 (y' : Int)]
              have hB4 := Below.setRow (hB3.out.trans (hb4.mono hB3.out.size)) (Nat.le_refl _) #[.int .i64 (x' : Int), .int .i64 (y' : Int)]
              refine ⟨?_, by rw [(hW4.set x' y').n1, hW.out.n1]; exact hy'⟩
              repeat apply Exists.intro
              exact ⟨⟨x', y', M, Q, rfl, hx', by omega, hQl', hX', hid hR4, hid (hW4.set x' y'), hid hB4⟩, rfl⟩
          · replace hd : (x % 2 == 1 || x == y) = false := by simpa using hd
            rw [hd] at hfl
            obtain ⟨M, hM⟩ : ∃ M, Hid (Tree.nd R q = M) := ⟨_, rfl⟩
            have hM' := hM
            go_wp2_with (first
              | ((with_reducible show wpList _ _ _ (Oper.mk _ (Op.load 74 _) _ _ _ _ :: _) _ _); go_must (refine wpList_load_row rfl 74 _ rfl w.heap.size rfl 74 _ (0, 0) _ hW.out.row Tryd.underlying74 rfl (sizeW' _ _) ?_))
              | (go_at_call 52; fail))
            refine hfl.mono ?_
            rintro e w2 ⟨rfl, hw2⟩
            have T2 := HT.out.below (hB.out.trans (hw2.mono hB.out.size)) hT
            have hcell2 := (hw2.cell (p := y1) hzb).trans hcell
            go_wp2_with (go_at_call 53; refine (vnode_any hM _ T2).mono ?_; rintro e w3 ⟨rfl, hw3⟩)
            have hb3 := hw2.trans (hw3.mono hw2.size)
            have hW3 := hW.out.below hb3
            have hAt3 := hid (hAt'.out.below hb3 (Nat.le_refl _))
            have hB3 := hid (hB.out.trans (hb3.mono hB.out.size))
            have d0 := hW3.c0
            have d1 := hW3.c1
            have hab3 := hab w3.drew
            clear hcell hcell2 hw2 hw3 T2 hfl hM hb3
            go_region_with ((go_at_call 54; refine hab3.mono ?_; rintro e w4 ⟨x', y', rfl, hw4, hx', hy', hU'⟩; have hW4 := Wy.below (show Wy w3.drew _ _ _ from hW3) hw4; have d4 := hW4.c0; have d5 := hW4.c1; have f4 := hW4.f0; have f5 := hW4.f1))
            all_goals go_wp2
            all_goals
              rw [hW4.two x' y']
              have uu := hU'.out
              rw [hd] at uu
              have hQl' : Hid (Q.length = (Tree.U x' y').length) := by
                have := hQl.out
                rw [uu, List.length_cons, ← Hql.out, List.length_cons] at this
                exact Nat.succ.inj this
              have hX' : Hid (Tree.upd M (Tree.U x' y') Q = X) := by
                have := hU.out
                rw [uu] at this
                exact hM'.out ▸ this
              have hb4 : Below w3.heap.size w3 w4 := (Below.refl _ w3).drew.trans hw4
              have hR4 := (Rst.last (g := w.heap.size) (w := w4) hyg Hql.out (by omega)).setRow #[.int .i64 (x' : Int), .int .i64 (y' : Int)]
              have hB4 := Below.setRow (hB3.out.trans (hb4.mono hB3.out.size)) (Nat.le_refl _) #[.int .i64 (x' : Int), .int .i64 (y' : Int)]
              refine ⟨?_, by rw [(hW4.set x' y').n1, hW.out.n1]; exact hy'⟩
              repeat apply Exists.intro
              exact ⟨⟨x', y', M, Q, rfl, hx', by omega, hQl', hX', hid hR4, hid (hW4.set x' y'), hid hB4⟩, rfl⟩
        · have hcc2 : ¬ (c' : Int) = 1 := by omega
          by_cases hd : (x % 2 == 1 || x == y) = true
          · rw [hd] at hfl
            obtain ⟨M, hM⟩ : ∃ M, Hid (Tree.nd q R = M) := ⟨_, rfl⟩
            have hM' := hM
            go_wp2_with (first
              | ((with_reducible show wpList _ _ _ (Oper.mk _ (Op.load 74 _) _ _ _ _ :: _) _ _); go_must (refine wpList_load_row rfl 74 _ rfl w.heap.size rfl 74 _ (0, 0) _ hW.out.row Tryd.underlying74 rfl (sizeW' _ _) ?_))
              | (go_at_call 52; fail))
            refine hfl.mono ?_
            rintro e w2 ⟨rfl, hw2⟩
            have T2 := HT.out.below (hB.out.trans (hw2.mono hB.out.size)) hT
            have hcell2 := (hw2.cell (p := y1) hzb).trans hcell
            go_wp2_with (go_at_call 53; refine (vnode_any hM _ T2).mono ?_; rintro e w3 ⟨rfl, hw3⟩)
            have hb3 := hw2.trans (hw3.mono hw2.size)
            have hW3 := hW.out.below hb3
            have hAt3 := hid (hAt'.out.below hb3 (Nat.le_refl _))
            have hB3 := hid (hB.out.trans (hb3.mono hB.out.size))
            have d0 := hW3.c0
            have d1 := hW3.c1
            have hab3 := hab w3.drew
            clear hcell hcell2 hw2 hw3 T2 hfl hM hb3
            go_region_with ((go_at_call 54; refine hab3.mono ?_; rintro e w4 ⟨x', y', rfl, hw4, hx', hy', hU'⟩; have hW4 := Wy.below (show Wy w3.drew _ _ _ from hW3) hw4; have d4 := hW4.c0; have d5 := hW4.c1; have f4 := hW4.f0; have f5 := hW4.f1))
            all_goals go_wp2
            all_goals
              rw [hW4.two x' y']
              have uu := hU'.out
              rw [hd] at uu
              have hQl' : Hid (Q.length = (Tree.U x' y').length) := by
                have := hQl.out
                rw [uu, List.length_cons, ← Hql.out, List.length_cons] at this
                exact Nat.succ.inj this
              have hX' : Hid (Tree.upd M (Tree.U x' y') Q = X) := by
                have := hU.out
                rw [uu] at this
                exact hM'.out ▸ this
              have hb4 : Below w3.heap.size w3 w4 := (Below.refl _ w3).drew.trans hw4
              have hR4 := (Rst.tail (g := w.heap.size) (hAt3.out.below hb4 (Nat.le_refl _)) hyg Hql.out hc1 hc2).setRow #[.int .i64 (x' : Int), .int .i64 (y' : Int)]
              have hB4 := Below.setRow (hB3.out.trans (hb4.mono hB3.out.size)) (Nat.le_refl _) #[.int .i64 (x' : Int), .int .i64 (y' : Int)]
              refine ⟨?_, by rw [(hW4.set x' y').n1, hW.out.n1]; exact hy'⟩
              repeat apply Exists.intro
              exact ⟨⟨x', y', M, Q, rfl, hx', by omega, hQl', hX', hid hR4, hid (hW4.set x' y'), hid hB4⟩, rfl⟩
          · replace hd : (x % 2 == 1 || x == y) = false := by simpa using hd
            rw [hd] at hfl
            obtain ⟨M, hM⟩ : ∃ M, Hid (Tree.nd R q = M) := ⟨_, rfl⟩
            have hM' := hM
            go_wp2_with (first
              | ((with_reducible show wpList _ _ _ (Oper.mk _ (Op.load 74 _) _ _ _ _ :: _) _ _); go_must (refine wpList_load_row rfl 74 _ rfl w.heap.size rfl 74 _ (0, 0) _ hW.out.row Tryd.underlying74 rfl (sizeW' _ _) ?_))
              | (go_at_call 52; fail))
            refine hfl.mono ?_
            rintro e w2 ⟨rfl, hw2⟩
            have T2 := HT.out.below (hB.out.trans (hw2.mono hB.out.size)) hT
            have hcell2 := (hw2.cell (p := y1) hzb).trans hcell
            go_wp2_with (go_at_call 53; refine (vnode_any hM _ T2).mono ?_; rintro e w3 ⟨rfl, hw3⟩)
            have hb3 := hw2.trans (hw3.mono hw2.size)
            have hW3 := hW.out.below hb3
            have hAt3 := hid (hAt'.out.below hb3 (Nat.le_refl _))
            have hB3 := hid (hB.out.trans (hb3.mono hB.out.size))
            have d0 := hW3.c0
            have d1 := hW3.c1
            have hab3 := hab w3.drew
            clear hcell hcell2 hw2 hw3 T2 hfl hM hb3
            go_region_with ((go_at_call 54; refine hab3.mono ?_; rintro e w4 ⟨x', y', rfl, hw4, hx', hy', hU'⟩; have hW4 := Wy.below (show Wy w3.drew _ _ _ from hW3) hw4; have d4 := hW4.c0; have d5 := hW4.c1; have f4 := hW4.f0; have f5 := hW4.f1))
            all_goals go_wp2
            all_goals
              rw [hW4.two x' y']
              have uu := hU'.out
              rw [hd] at uu
              have hQl' : Hid (Q.length = (Tree.U x' y').length) := by
                have := hQl.out
                rw [uu, List.length_cons, ← Hql.out, List.length_cons] at this
                exact Nat.succ.inj this
              have hX' : Hid (Tree.upd M (Tree.U x' y') Q = X) := by
                have := hU.out
                rw [uu] at this
                exact hM'.out ▸ this
              have hb4 : Below w3.heap.size w3 w4 := (Below.refl _ w3).drew.trans hw4
              have hR4 := (Rst.tail (g := w.heap.size) (hAt3.out.below hb4 (Nat.le_refl _)) hyg Hql.out hc1 hc2).setRow #[.int .i64 (x' : Int), .int .i64 (y' : Int)]
              have hB4 := Below.setRow (hB3.out.trans (hb4.mono hB3.out.size)) (Nat.le_refl _) #[.int .i64 (x' : Int), .int .i64 (y' : Int)]
              refine ⟨?_, by rw [(hW4.set x' y').n1, hW.out.n1]; exact hy'⟩
              repeat apply Exists.intro
              exact ⟨⟨x', y', M, Q, rfl, hx', by omega, hQl', hX', hid hR4, hid (hW4.set x' y'), hid hB4⟩, rfl⟩
end Go.Proofs.YtmpaliocfikifaaDoor
