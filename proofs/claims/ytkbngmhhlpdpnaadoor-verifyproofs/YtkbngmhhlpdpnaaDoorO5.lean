import Derived.Test.YtkbngmhhlpdpnaaDoorO4
namespace Go.Proofs.YtkbngmhhlpdpnaaDoor
open Go.RowKit

set_option maxRecDepth 100000 in
set_option maxHeartbeats 400000 in
theorem R_nil (a : Option Addr) (cap : Nat) (w : World) :
    Calls Tryd.prog 80 #[.slice a 0 cap] w fun e w' => e = .returned (sv (Tree.root [])) ∧ Below w.heap.size w w' := by
  rw [Tree.root_nil]
  obtain ⟨D, hD⟩ : ∃ D, Sha.sha [] = D := ⟨_, rfl⟩
  rw [hD]
  have HD := hid hD
  clear hD
  go_enter Tryd.func80, Tryd.ntmps80
  go_wp2_with (go_at_call 104; refine (rempty_any HD _).mono ?_; rintro e w1 ⟨rfl, hw1⟩)
  go_ret
  exact ⟨rfl, hw1⟩
set_option maxRecDepth 100000 in
set_option maxHeartbeats 400000 in
theorem R_one (p : List UInt8) (a : Option Addr) (cap : Nat) (w : World) (hA : At w a [p]) :
    Calls Tryd.prog 80 #[.slice a 1 cap] w fun e w' => e = .returned (sv (Tree.root [p])) ∧ Below w.heap.size w w' := by
  rw [Tree.root_one]
  obtain ⟨x, rfl, hx, hc⟩ := hA 0 p rfl
  rw [addr_zero] at hc
  go_enter Tryd.func80, Tryd.ntmps80
  go_wp2
  go_ret
  exact ⟨rfl, Below.refl _ _⟩
set_option maxRecDepth 100000 in
set_option maxHeartbeats 2000000 in
/-- the document's R -/
theorem R_any : ∀ (f : Nat) (l : List (List UInt8)) (a : Option Addr) (cap : Nat) (w : World), l.length ≤ f → l.length ≤ cap → cap ≤ 9223372036854775807 → At w a l →
    Calls Tryd.prog 80 #[.slice a l.length cap] w fun e w' => e = .returned (sv (Tree.root l)) ∧ Below w.heap.size w w' := by
  intro f
  induction f with
  | zero =>
    intro l a cap w hf hl hc hA
    obtain rfl : l = [] := List.length_eq_zero_iff.1 (by omega)
    exact R_nil a cap w
  | succ f ih =>
    intro l a cap w hf hl hc hA
    match l, hf, hl, hA with
    | [], _, _, _ => exact R_nil a cap w
    | [p], _, _, hA => exact R_one p a cap w hA
    | p :: q :: t, hf, hl, hA =>
      obtain ⟨n, hn⟩ : ∃ n, (p :: q :: t).length = n := ⟨_, rfl⟩
      have h2 : 2 ≤ n := by rw [← hn]; simp
      obtain ⟨x, rfl⟩ := hA.pos (by rw [hn]; omega)
      have e := hid (Tree.root_cut (l := p :: q :: t) (by rw [hn]; exact h2))
      generalize p :: q :: t = l at *
      rw [hn] at e hf hl ⊢
      have k1 := Tree.sp_lt h2
      have k2 := Tree.sp_pos h2
      have hs : spI (n : Int) = ((Tree.sp n : Nat) : Int) := rfl
      generalize Tree.sp n = k at *
      have l1 : (l.take k).length = k := by rw [List.length_take, hn]; omega
      have l2 : (l.drop k).length = n - k := by rw [List.length_drop, hn]
      have c1 := fun w' (h : At w' (some x) (l.take k)) => ih (l.take k) (some x) cap w' (by omega) (by omega) hc h
      have c2 := fun w' (h : At w' (some (x.add k)) (l.drop k)) => ih (l.drop k) (some (x.add k)) (cap - k) w' (by omega) (by omega) (by omega) h
      rw [l1] at c1
      rw [l2] at c2
      have n1 : ((n : Int) == 0) = false := by simp; omega
      have n2 : ((n : Int) == 1) = false := by simp; omega
      have hne : ¬ cap = k := by omega
      have A1 := hid (hA.take k)
      have A2 := hid (hA.drop k)
      generalize hp1 : Tree.root (l.take k) = r1 at *
      generalize hp2 : Tree.root (l.drop k) = r2 at *
      obtain ⟨m, c, hm⟩ : ∃ m c, Hid (nodeOf r1 r2 = (m, c)) := ⟨_, _, rfl⟩
      have e' := hid (show Tree.root l = m by rw [e.out, ← nodeOf_nd, hm.out])
      clear hA ih hn e hp1 hp2
      go_enter Tryd.func80, Tryd.ntmps80
      go_wp2_with (first
        | (go_at_call 79; refine (rsplit_any (n : Int) (by omega) (by omega) _).mono ?_; rintro e w0 ⟨rfl, rfl⟩; rw [hs])
        | (go_at_call 80; with_reducible refine (c1 _ A1.out).mono ?_; rintro e w1 ⟨rfl, hw1⟩)
        | (go_at_call 80; go_must (with_reducible refine (c2 _ (A2.out.below hw1 (Nat.le_refl _))).mono ?_); rintro e w2 ⟨rfl, hw2⟩)
        | (go_at_call 85; refine (rnode_at hm _).mono ?_; rintro e w3 ⟨rfl, hw3⟩))
      go_ret
      refine ⟨by rw [e'.out]; rfl, ?_⟩
      have s1 := hw1.size
      have s2 := hw2.size
      exact (hw1.trans (hw2.mono s1)).trans (hw3.mono (by omega))
end Go.Proofs.YtkbngmhhlpdpnaaDoor
