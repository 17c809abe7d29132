import Derived.Test.YtkbngmhhlpdpnaaDoorO4Q
namespace Go.Proofs.YtkbngmhhlpdpnaaDoor
open Go.RowKit

/-- the closure that calls itself, in its own variable -/
def rootFn (c : Nat) : Value := .func (.func 95) #[] #[.pointer (some ⟨c, 0, none⟩)]
set_option maxRecDepth 100000 in
set_option maxHeartbeats 400000 in
theorem root1_nil (a : Option Addr) (cap c : Nat) (w : World) (T : Tabs w) :
    Calls Tryd.prog 95 #[.slice a 0 cap, .pointer (some ⟨c, 0, none⟩)] w fun e w' => e = .returned (sv (Tree.root [])) ∧ Below w.heap.size w w' := by
  rw [Tree.root_nil]
  have he := empty_any w T
  obtain ⟨D, hD⟩ : ∃ D, Sha.sha [] = D := ⟨_, rfl⟩
  rw [hD] at he ⊢
  clear hD
  go_enter Tryd.func95, Tryd.ntmps95
  go_wp2_with (go_at_call 96; refine he.mono ?_; rintro e w1 ⟨rfl, hw1⟩)
  go_ret
  exact ⟨rfl, hw1⟩
set_option maxRecDepth 100000 in
set_option maxHeartbeats 400000 in
theorem root1_one (p : List UInt8) (a : Option Addr) (cap c : Nat) (w : World) (hA : At w a [p]) :
    Calls Tryd.prog 95 #[.slice a 1 cap, .pointer (some ⟨c, 0, none⟩)] w fun e w' => e = .returned (sv (Tree.root [p])) ∧ Below w.heap.size w w' := by
  rw [Tree.root_one]
  obtain ⟨x, rfl, hx, hc⟩ := hA 0 p rfl
  rw [addr_zero] at hc
  go_enter Tryd.func95, Tryd.ntmps95
  go_wp2
  go_ret
  exact ⟨rfl, Below.refl _ _⟩
theorem cell_below {w w' : World} {c : Nat} {v : Value} (h : w.cell? ⟨c, 0, none⟩ = some v) (hb : Below w.heap.size w w') : w'.cell? ⟨c, 0, none⟩ = some v :=
  (hb.cell (p := ⟨c, 0, none⟩) (block_lt_of_cell h)).trans h
set_option maxRecDepth 100000 in
set_option maxHeartbeats 2000000 in
theorem root1_any : ∀ (f : Nat) (l : List (List UInt8)) (a : Option Addr) (cap c : Nat) (w : World), l.length ≤ f → l.length ≤ cap → cap ≤ 9223372036854775807 → At w a l → Tabs w →
    w.cell? ⟨c, 0, none⟩ = some (.func (.func 95) #[] #[.pointer (some ⟨c, 0, none⟩)]) →
    Calls Tryd.prog 95 #[.slice a l.length cap, .pointer (some ⟨c, 0, none⟩)] w fun e w' => e = .returned (sv (Tree.root l)) ∧ Below w.heap.size w w' := by
  intro f
  induction f with
  | zero =>
    intro l a cap c w hf hl hc hA T hcl
    obtain rfl : l = [] := List.length_eq_zero_iff.1 (by omega)
    exact root1_nil a cap c w T
  | succ f ih =>
    intro l a cap c w hf hl hc hA T hcl
    match l, hf, hl, hA with
    | [], _, _, _ => exact root1_nil a cap c w T
    | [p], _, _, hA => exact root1_one p a cap c w hA
    | p :: q :: t, hf, hl, hA =>
      obtain ⟨n, hn⟩ : ∃ n, (p :: q :: t).length = n := ⟨_, rfl⟩
      have h2 : 2 ≤ n := by rw [← hn]; simp
      obtain ⟨x, rfl⟩ := hA.pos (by rw [hn]; omega)
      have e := hid (Tree.root_cut (l := p :: q :: t) (by rw [hn]; exact h2))
      generalize p :: q :: t = l at *
      rw [hn] at e hf hl ⊢
      have k1 := Tree.sp_lt h2
      have k2 := Tree.sp_pos h2
      have hs : spI (n : Int) = ((Tree.sp n : Nat) : Int) := rfl
      generalize Tree.sp n = k at *
      have l1 : (l.take k).length = k := by rw [List.length_take, hn]; omega
      have l2 : (l.drop k).length = n - k := by rw [List.length_drop, hn]
      have c1 := fun w' (h : At w' (some x) (l.take k)) => ih (l.take k) (some x) k c w' (by omega) (by omega) (by omega) h
      have c2 := fun w' (h : At w' (some (x.add k)) (l.drop k)) => ih (l.drop k) (some (x.add k)) (n - k) c w' (by omega) (by omega) (by omega) h
      rw [l1] at c1
      rw [l2] at c2
      have n1 : ((n : Int) == 0) = false := by simp; omega
      have n2 : ((n : Int) == 1) = false := by simp; omega
      have A1 := hid (hA.take k)
      have A2 := hid (hA.drop k)
      generalize hp1 : Tree.root (l.take k) = r1 at *
      generalize hp2 : Tree.root (l.drop k) = r2 at *
      obtain ⟨m, d, hm⟩ : ∃ m d, Hid (nodeOf r1 r2 = (m, d)) := ⟨_, _, rfl⟩
      have e' := hid (show Tree.root l = m by rw [e.out, ← nodeOf_nd, hm.out])
      have HT := hid T
      clear hA ih hn e hp1 hp2 T
      go_enter Tryd.func95, Tryd.ntmps95
      go_wp2_with (first
        | (go_at_call 38; refine (split_any (n : Int) (by omega) (by omega) _).mono ?_; rintro e w0 ⟨rfl, rfl⟩; rw [hs])
        | (go_at_call 78; refine (cut_any x n cap k k1 hl _).mono ?_; rintro e wc ⟨rfl, hbc, hhc⟩; have hcl0 := cell_below hcl hbc))
      have Bc := hid hbc.drew
      have A1c := hid (A1.out.heap (w' := wc.drew) hhc)
      have A2c := hid (A2.out.heap (w' := wc.drew) hhc)
      have Tc := hid (HT.out.below hbc.drew HT.out.lt)
      have hcl1 : wc.drew.cell? ⟨c, 0, none⟩ = some (.func (.func 95) #[] #[.pointer (some ⟨c, 0, none⟩)]) := hcl0
      clear hbc hhc A1 A2 HT hcl hcl0
      go_region_with (first
        | (go_at_call 95; with_reducible refine (c1 _ A1c.out Tc.out hcl1).mono ?_; rintro e w1 ⟨rfl, hw1⟩; have hcl2 := cell_below hcl1 hw1)
        | (go_at_call 95; with_reducible refine (c2 _ (A2c.out.below hw1 (Nat.le_refl _)) (Tc.out.below hw1 Tc.out.lt) hcl2).mono ?_; rintro e w2 ⟨rfl, hw2⟩)
        | (go_at_call 76; refine (node_at hm _ ((Tc.out.below hw1 Tc.out.lt).below hw2 (Tc.out.below hw1 Tc.out.lt).lt)).mono ?_; rintro e w3 ⟨rfl, hw3⟩))
      all_goals
        have s1 := hw1.size
        have s2 := hw2.size
        have s3 := Bc.out.size
        have Bf := hid (((Bc.out.trans (hw1.mono (by omega))).trans (hw2.mono (by omega))).trans (hw3.mono (by omega)))
        clear hw1 hw2 hw3 s1 s2 s3 Bc
        go_wp2
        go_ret
        exact ⟨by rw [e'.out]; rfl, Bf.out⟩
end Go.Proofs.YtkbngmhhlpdpnaaDoor
