import Derived.Test.YtjodbmbadhbblaaDoorCI1
import Derived.Test.YtjodbmbadhbblaaDoorCR5
namespace Go.Proofs.YtjodbmbadhbblaaDoor
open Go.RowKit
set_option maxRecDepth 100000 in
set_option maxHeartbeats 2000000 in
theorem rsplit4_any (n : Nat) (h0 : 2 ≤ n) (h1 : n ≤ 4611686018427387903) (w : World) :
    Calls Tryd.prog 84 #[.int .i64 n] w fun e w' => e = .returned (.int .i64 (Tree.sp n : Nat)) ∧ w' = w := by
  go_enter Tryd.func84, Tryd.ntmps84
  go_wp2
  go_loopw [3] (fun k w' => ∃ a x : Nat, Hid (2 ^ a = x) ∧ k = .int .i64 (x : Int) ∧ x < n ∧ 0 < x ∧ w' = w) (fun k _ => n - (intOf k).toNat)
  case atStart => exact ⟨0, 1, rfl, rfl, by omega, by omega, rfl⟩
  case round =>
    obtain ⟨a, x, hx, rfl, hlt, hpos, rfl⟩ := hrel
    by_cases hk : 2 * (x : Int) < n
    · go_wp2
      exact ⟨⟨a + 1, 2 * x, by rw [Hid, Nat.pow_succ, hx.out, Nat.mul_comm], by go_num, by omega, by omega, trivial⟩, by simp [intOf]; omega⟩
    · have e := hid (show Tree.sp n = x by rw [Tree.sp_one h0 a (by rw [hx.out]; omega) (by rw [hx.out]; omega), hx.out])
      go_wp2
      go_ret
      exact ⟨by rw [e.out]; rfl, rfl⟩
set_option maxRecDepth 100000 in
set_option maxHeartbeats 2000000 in
theorem rway_any (n m : Nat) (h0 : n ≤ 1099511627776) (h1 : m < n) (w : World) :
    Calls Tryd.prog 55 #[.int .i64 n, .int .i64 m] w fun e w' => e = .returned (.int .i64 ((Tree.D n m).length : Nat)) ∧ w' = w := by
  obtain ⟨T, hT⟩ : ∃ T, Hid ((Tree.D n m).length = T) := ⟨_, rfl⟩
  go_enter Tryd.func55, Tryd.ntmps55
  go_wp2
  go_loopw [0, 1, 5] (fun s i c w' => ∃ S I C : Nat, s = .int .i64 (S : Int) ∧ i = .int .i64 (I : Int) ∧ c = .int .i64 (C : Int) ∧ I < S ∧ C + S ≤ n ∧ Hid (C + (Tree.D S I).length = T) ∧ w' = w) (fun s _ _ _ => (intOf s).toNat)
  case atStart => exact ⟨n, m, 0, rfl, rfl, rfl, h1, by omega, by unfold Hid; rw [Nat.zero_add]; exact hT.out, rfl⟩
  case round =>
    obtain ⟨S, I, C, rfl, rfl, rfl, hI, hC, hD, rfl⟩ := hrel
    by_cases hS : 2 ≤ S
    · have b0 : (1 : Int) < (S : Int) := by omega
      have k1 := Tree.sp_lt hS
      have k2 := Tree.sp_pos hS
      have hc := rsplit4_any S hS (by omega)
      have dl := hid (@Tree.D_left S I hS)
      have dr := hid (@Tree.D_right S I hS)
      generalize Tree.sp S = k at *
      by_cases hi : I < k
      · have b1 : (I : Int) < (k : Int) := by omega
        go_wp2_with (go_at_call 84; refine (hc _).mono ?_; rintro e w' ⟨rfl, rfl⟩)
        exact ⟨⟨k, I, C + 1, rfl, rfl, by go_num, by omega, by omega, by have := hD.out; rw [dl.out hi] at this; unfold Hid; simp at this; omega, trivial⟩, by simp [intOf]; omega⟩
      · have b1 : ¬ (I : Int) < (k : Int) := by omega
        go_wp2_with (go_at_call 84; refine (hc _).mono ?_; rintro e w' ⟨rfl, rfl⟩)
        exact ⟨⟨S - k, I - k, C + 1, by go_num, by go_num, by go_num, by omega, by omega, by have := hD.out; rw [dr.out hi] at this; unfold Hid; simp at this; omega, trivial⟩, by simp [intOf]; omega⟩
    · have b0 : ¬ (1 : Int) < (S : Int) := by omega
      have e := hid (show T = C by have := hD.out; rw [Tree.D_one _ (by omega)] at this; simpa using this.symm)
      go_wp2
      go_ret
      exact ⟨by rw [hT.out, e.out]; rfl, rfl⟩
/-- V1 -/
def lenOf (n m : Int) : Int × Int := if n < 1 ∨ 1099511627776 < n then (0, 41) else if m < 0 ∨ n ≤ m then (0, 40) else ((Tree.D n.toNat m.toNat).length, 0)
set_option maxRecDepth 100000 in
set_option maxHeartbeats 2000000 in
theorem rPathLen_any (n m : Int) (w : World) :
    Calls Tryd.prog 22 #[.int .i64 n, .int .i64 m] w fun e w' => e = .returned (.tuple #[.int .i64 (lenOf n m).1, .int .i64 (lenOf n m).2]) ∧ w' = w := by
  by_cases h1 : n < 1
  · rw [lenOf, if_pos (Or.inl h1)]
    go_enter Tryd.func22, Tryd.ntmps22
    go_wp2
    go_ret2
    exact ⟨rfl, rfl⟩
  · by_cases h2 : 1099511627776 < n
    · rw [lenOf, if_pos (Or.inr h2)]
      go_enter Tryd.func22, Tryd.ntmps22
      go_wp2
      go_ret2
      exact ⟨rfl, rfl⟩
    · rw [lenOf, if_neg (by omega)]
      by_cases h3 : m < 0
      · rw [if_pos (Or.inl h3)]
        go_enter Tryd.func22, Tryd.ntmps22
        go_wp2
        go_ret2
        exact ⟨rfl, rfl⟩
      · by_cases h4 : n ≤ m
        · rw [if_pos (Or.inr h4)]
          go_enter Tryd.func22, Tryd.ntmps22
          go_wp2
          go_ret2
          exact ⟨rfl, rfl⟩
        · rw [if_neg (by omega)]
          have hc := rway_any n.toNat m.toNat (by omega) (by omega)
          rw [Int.toNat_of_nonneg (by omega), Int.toNat_of_nonneg (by omega)] at hc
          generalize (Tree.D n.toNat m.toNat).length = L at *
          go_enter Tryd.func22, Tryd.ntmps22
          go_wp2_with (go_at_call 55; refine (hc _).mono ?_; rintro e w' ⟨rfl, rfl⟩)
          go_ret2
          exact ⟨rfl, rfl⟩
set_option maxRecDepth 100000 in
set_option maxHeartbeats 2000000 in
theorem told_any : ∀ (f m n : Nat) (whole : Bool) (w : World), n ≤ f → n ≤ 1099511627776 → 1 ≤ m → m ≤ n →
    Calls Tryd.prog 56 #[.int .i64 m, .int .i64 n, .bool whole] w fun e w' => e = .returned (.int .i64 (Tree.pl m n whole : Nat)) ∧ w' = w := by
  intro f
  induction f with
  | zero => intro m n whole w hf _ h1 h2; omega
  | succ f ih =>
    intro m n whole w hf hn h1 h2
    by_cases h : m = n
    · subst h
      rw [Tree.pl_same]
      have b0 : ((m : Int) == (m : Int)) = true := by simp
      clear ih
      cases whole
      · go_enter Tryd.func56, Tryd.ntmps56
        go_wp2
        go_ret
        exact ⟨rfl, rfl⟩
      · go_enter Tryd.func56, Tryd.ntmps56
        go_wp2
        go_ret
        exact ⟨rfl, rfl⟩
    · have b0 : ((m : Int) == (n : Int)) = false := by simp; omega
      have k1 := Tree.sp_lt (n := n) (by omega)
      have k2 := Tree.sp_pos (n := n) (by omega)
      have hc := rsplit4_any n (by omega) (by omega)
      have pL := @Tree.pl_left m n h1 (by omega)
      have pR := @Tree.pl_right m n h1 (by omega)
      generalize Tree.sp n = k at *
      by_cases hm : m ≤ k
      · have b1 : (m : Int) ≤ (k : Int) := by omega
        have i1 := ih m k whole w (by omega) (by omega) h1 hm
        have i2 := Tree.pl_le _ m k whole (Nat.le_refl _) h1 hm
        have e := hid (pL hm whole)
        generalize Tree.pl m k whole = L at *
        generalize Tree.pl m n whole = R at *
        clear ih pL pR
        go_enter Tryd.func56, Tryd.ntmps56
        go_wp2_with (first
          | (go_at_call 84; refine (hc _).mono ?_; rintro e w' ⟨rfl, rfl⟩)
          | (go_at_call 56; refine i1.mono ?_; rintro e w' ⟨rfl, rfl⟩))
        go_ret
        exact ⟨by rw [e.out]; go_num, rfl⟩
      · have b1 : ¬ (m : Int) ≤ (k : Int) := by omega
        have i1 := ih (m - k) (n - k) false w (by omega) (by omega) (by omega) (by omega)
        have i2 := Tree.pl_le _ (m - k) (n - k) false (Nat.le_refl _) (by omega) (by omega)
        have e := hid (pR hm whole)
        rw [show ((m - k : Nat) : Int) = (m : Int) - (k : Int) from by omega, show ((n - k : Nat) : Int) = (n : Int) - (k : Int) from by omega] at i1
        generalize Tree.pl (m - k) (n - k) false = L at *
        generalize Tree.pl m n whole = R at *
        clear ih pL pR
        go_enter Tryd.func56, Tryd.ntmps56
        go_wp2_with (first
          | (go_at_call 84; refine (hc _).mono ?_; rintro e w' ⟨rfl, rfl⟩)
          | (go_at_call 56; refine i1.mono ?_; rintro e w' ⟨rfl, rfl⟩))
        go_ret
        exact ⟨by rw [e.out]; go_num, rfl⟩
/-- V1 -/
def prfLen (m n : Int) : Int × Int := if m < 1 ∨ n < m ∨ 1099511627776 < n then (0, 41) else (Tree.pl m.toNat n.toNat true, 0)
set_option maxRecDepth 100000 in
set_option maxHeartbeats 2000000 in
theorem rProofLen_any (m n : Int) (w : World) :
    Calls Tryd.prog 23 #[.int .i64 m, .int .i64 n] w fun e w' => e = .returned (.tuple #[.int .i64 (prfLen m n).1, .int .i64 (prfLen m n).2]) ∧ w' = w := by
  by_cases h1 : m < 1
  · rw [prfLen, if_pos (Or.inl h1)]
    go_enter Tryd.func23, Tryd.ntmps23
    go_wp2
    go_ret2
    exact ⟨rfl, rfl⟩
  · by_cases h2 : n < m
    · rw [prfLen, if_pos (Or.inr (Or.inl h2))]
      go_enter Tryd.func23, Tryd.ntmps23
      go_wp2
      go_ret2
      exact ⟨rfl, rfl⟩
    · by_cases h3 : 1099511627776 < n
      · rw [prfLen, if_pos (Or.inr (Or.inr h3))]
        go_enter Tryd.func23, Tryd.ntmps23
        go_wp2
        go_ret2
        exact ⟨rfl, rfl⟩
      · rw [prfLen, if_neg (by omega)]
        have hc := told_any _ m.toNat n.toNat true w (Nat.le_refl _) (by omega) (by omega) (by omega)
        rw [Int.toNat_of_nonneg (by omega), Int.toNat_of_nonneg (by omega)] at hc
        generalize Tree.pl m.toNat n.toNat true = L at *
        go_enter Tryd.func23, Tryd.ntmps23
        go_wp2_with (go_at_call 56; refine hc.mono ?_; rintro e w' ⟨rfl, rfl⟩)
        go_ret2
        exact ⟨rfl, rfl⟩
end Go.Proofs.YtjodbmbadhbblaaDoor
