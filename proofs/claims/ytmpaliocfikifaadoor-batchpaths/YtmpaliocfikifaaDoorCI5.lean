import Derived.Test.YtmpaliocfikifaaDoorCI4
namespace Go.Proofs.YtmpaliocfikifaaDoor
open Go.RowKit
def plc (n m : Int) : Int := if n < 1 ∨ 1099511627776 < n then 41 else if m < 0 ∨ n ≤ m then 40 else 0
set_option maxRecDepth 100000 in
set_option maxHeartbeats 2000000 in
theorem checkPlace_any (n m : Int) (w : World) :
    Calls Tryd.prog 49 #[.int .i64 n, .int .i64 m] w fun e w' => e = .returned (.int .i64 (plc n m)) ∧ w' = w := by
  by_cases h1 : n < 1
  · rw [plc, if_pos (Or.inl h1)]
    go_enter Tryd.func49, Tryd.ntmps49
    go_wp2
    go_ret
    exact ⟨rfl, rfl⟩
  · by_cases h2 : 1099511627776 < n
    · rw [plc, if_pos (Or.inr h2)]
      go_enter Tryd.func49, Tryd.ntmps49
      go_wp2
      go_ret
      exact ⟨rfl, rfl⟩
    · rw [plc, if_neg (by omega)]
      by_cases h3 : m < 0
      · rw [if_pos (Or.inl h3)]
        go_enter Tryd.func49, Tryd.ntmps49
        go_wp2
        go_ret
        exact ⟨rfl, rfl⟩
      · by_cases h4 : n ≤ m
        · rw [if_pos (Or.inr h4)]
          go_enter Tryd.func49, Tryd.ntmps49
          go_wp2
          go_ret
          exact ⟨rfl, rfl⟩
        · rw [if_neg (by omega)]
          go_enter Tryd.func49, Tryd.ntmps49
          go_wp2
          go_ret
          exact ⟨rfl, rfl⟩
def szs (m n : Int) : Int := if m < 1 ∨ n < m ∨ 1099511627776 < n then 41 else 0
set_option maxRecDepth 100000 in
set_option maxHeartbeats 2000000 in
theorem PathLen_any (n m : Int) (w : World) :
    Calls Tryd.prog 28 #[.int .i64 n, .int .i64 m] w fun e w' => e = .returned (.tuple #[.int .i64 (lenOf n m).1, .int .i64 (lenOf n m).2]) ∧ Below w.heap.size w w' := by
  have h1 := checkPlace_any n m w
  by_cases h : plc n m = 0
  · have hb : 1 ≤ n ∧ n ≤ 1099511627776 ∧ 0 ≤ m ∧ m < n := by
      unfold plc at h
      split at h
      · omega
      · split at h <;> omega
    obtain ⟨a1, a2, a3, a4⟩ := hb
    have ho : lenOf n m = ((((Tree.U m.toNat (n.toNat - 1)).length : Nat) : Int), 0) := by rw [lenOf, if_neg (by omega), if_neg (by omega), Tree.D_U _ _ _ (Nat.le_refl _) (by omega)]
    rw [ho]
    rw [h] at h1
    have h2 := pathWay_any n.toNat m.toNat (by omega) (by omega) w
    rw [Int.toNat_of_nonneg a3, Int.toNat_of_nonneg (show 0 ≤ n by omega)] at h2
    have h3 := steps_any m.toNat (n.toNat - 1) (by omega) (by omega)
    clear h ho
    generalize (Tree.U m.toNat (n.toNat - 1)).length = L at *
    generalize m.toNat = m' at *
    generalize n.toNat - 1 = n' at *
    go_enter Tryd.func28, Tryd.ntmps28
    go_wp2_with (first
      | (go_at_call 49; refine h1.mono ?_; rintro e w1 ⟨rfl, rfl⟩)
      | (go_at_call 31; refine h2.mono ?_; rintro e w2 ⟨rfl, hw2⟩)
      | (go_at_call 50; refine (h3 _).mono ?_; rintro e w3 ⟨rfl, hw3⟩))
    go_ret2
    exact ⟨rfl, hw2.trans (hw3.mono hw2.size)⟩
  · have ho : lenOf n m = (0, plc n m) := by
      unfold lenOf plc at *
      split
      · rfl
      · rename_i h'
        rw [if_neg h'] at h
        split
        · rfl
        · rename_i h''
          rw [if_neg h''] at h
          omega
    rw [ho]
    generalize plc n m = z at *
    have b0 : (z != 0) = true := by simpa using h
    go_enter Tryd.func28, Tryd.ntmps28
    go_wp2_with (go_at_call 49; refine h1.mono ?_; rintro e w1 ⟨rfl, rfl⟩)
    go_ret2
    exact ⟨rfl, Below.refl _ _⟩
theorem Tree.pl_St {m n P L : Nat} (h1 : 1 ≤ m) (h2 : m < n) (h : Tree.St (m - 1) (n - 1) = (P, L)) : Tree.pl m n true = (Tree.U P L).length + if P = 0 then 0 else 1 := by
  obtain ⟨a, b⟩ := Tree.PD_SU _ m n (Nat.le_refl _) h1 h2
  unfold Tree.pl Tree.fl
  rw [b, a]
  unfold Tree.SU
  rw [h]
  by_cases hp : P = 0
  · simp [hp]
  · simp [hp]
end Go.Proofs.YtmpaliocfikifaaDoor
