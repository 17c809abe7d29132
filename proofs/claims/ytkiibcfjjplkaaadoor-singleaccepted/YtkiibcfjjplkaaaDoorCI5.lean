import Derived.Test.YtkiibcfjjplkaaaDoorCI4
namespace Go.Proofs.YtkiibcfjjplkaaaDoor
open Go.RowKit
def plc (n m : Int) : Int := if n < 1 ∨ 1099511627776 < n then 41 else if m < 0 ∨ n ≤ m then 40 else 0
set_option maxRecDepth 100000 in
set_option maxHeartbeats 2000000 in
theorem checkPlace_any (n m : Int) (w : World) :
    Calls Tryd.prog 87 #[.int .i64 n, .int .i64 m] w fun e w' => e = .returned (.int .i64 (plc n m)) ∧ w' = w := by
  by_cases h1 : n < 1
  · rw [plc, if_pos (Or.inl h1)]
    go_enter Tryd.func87, Tryd.ntmps87
    go_wp2
    go_ret
    exact ⟨rfl, rfl⟩
  · by_cases h2 : 1099511627776 < n
    · rw [plc, if_pos (Or.inr h2)]
      go_enter Tryd.func87, Tryd.ntmps87
      go_wp2
      go_ret
      exact ⟨rfl, rfl⟩
    · rw [plc, if_neg (by omega)]
      by_cases h3 : m < 0
      · rw [if_pos (Or.inl h3)]
        go_enter Tryd.func87, Tryd.ntmps87
        go_wp2
        go_ret
        exact ⟨rfl, rfl⟩
      · by_cases h4 : n ≤ m
        · rw [if_pos (Or.inr h4)]
          go_enter Tryd.func87, Tryd.ntmps87
          go_wp2
          go_ret
          exact ⟨rfl, rfl⟩
        · rw [if_neg (by omega)]
          go_enter Tryd.func87, Tryd.ntmps87
          go_wp2
          go_ret
          exact ⟨rfl, rfl⟩
def szs (m n : Int) : Int := if m < 1 ∨ n < m ∨ 1099511627776 < n then 41 else 0
set_option maxRecDepth 100000 in
set_option maxHeartbeats 2000000 in
theorem checkSizes_any (m n : Int) (w : World) :
    Calls Tryd.prog 93 #[.int .i64 m, .int .i64 n] w fun e w' => e = .returned (.int .i64 (szs m n)) ∧ w' = w := by
  by_cases h1 : m < 1
  · rw [szs, if_pos (Or.inl h1)]
    go_enter Tryd.func93, Tryd.ntmps93
    go_wp2
    go_ret
    exact ⟨rfl, rfl⟩
  · by_cases h2 : n < m
    · rw [szs, if_pos (Or.inr (Or.inl h2))]
      go_enter Tryd.func93, Tryd.ntmps93
      go_wp2
      go_ret
      exact ⟨rfl, rfl⟩
    · by_cases h3 : 1099511627776 < n
      · rw [szs, if_pos (Or.inr (Or.inr h3))]
        go_enter Tryd.func93, Tryd.ntmps93
        go_wp2
        go_ret
        exact ⟨rfl, rfl⟩
      · rw [szs, if_neg (by omega)]
        go_enter Tryd.func93, Tryd.ntmps93
        go_wp2
        go_ret
        exact ⟨rfl, rfl⟩
set_option maxRecDepth 100000 in
set_option maxHeartbeats 2000000 in
theorem PathLen_any (n m : Int) (w : World) :
    Calls Tryd.prog 67 #[.int .i64 n, .int .i64 m] w fun e w' => e = .returned (.tuple #[.int .i64 (lenOf n m).1, .int .i64 (lenOf n m).2]) ∧ Below w.heap.size w w' := by
  have h1 := checkPlace_any n m w
  by_cases h : plc n m = 0
  · have hb : 1 ≤ n ∧ n ≤ 1099511627776 ∧ 0 ≤ m ∧ m < n := by
      unfold plc at h
      split at h
      · omega
      · split at h <;> omega
    obtain ⟨a1, a2, a3, a4⟩ := hb
    have ho : lenOf n m = ((((Tree.U m.toNat (n.toNat - 1)).length : Nat) : Int), 0) := by rw [lenOf, if_neg (by omega), if_neg (by omega), Tree.D_U _ _ _ (Nat.le_refl _) (by omega)]
    rw [ho]
    rw [h] at h1
    have h2 := pathWay_any n.toNat m.toNat (by omega) (by omega) w
    rw [Int.toNat_of_nonneg a3, Int.toNat_of_nonneg (show 0 ≤ n by omega)] at h2
    have h3 := steps_any m.toNat (n.toNat - 1) (by omega) (by omega)
    clear h ho
    generalize (Tree.U m.toNat (n.toNat - 1)).length = L at *
    generalize m.toNat = m' at *
    generalize n.toNat - 1 = n' at *
    go_enter Tryd.func67, Tryd.ntmps67
    go_wp2_with (first
      | (go_at_call 87; refine h1.mono ?_; rintro e w1 ⟨rfl, rfl⟩)
      | (go_at_call 70; refine h2.mono ?_; rintro e w2 ⟨rfl, hw2⟩)
      | (go_at_call 88; refine (h3 _).mono ?_; rintro e w3 ⟨rfl, hw3⟩))
    go_ret2
    exact ⟨rfl, hw2.trans (hw3.mono hw2.size)⟩
  · have ho : lenOf n m = (0, plc n m) := by
      unfold lenOf plc at *
      split
      · rfl
      · rename_i h'
        rw [if_neg h'] at h
        split
        · rfl
        · rename_i h''
          rw [if_neg h''] at h
          omega
    rw [ho]
    generalize plc n m = z at *
    have b0 : (z != 0) = true := by simpa using h
    go_enter Tryd.func67, Tryd.ntmps67
    go_wp2_with (go_at_call 87; refine h1.mono ?_; rintro e w1 ⟨rfl, rfl⟩)
    go_ret2
    exact ⟨rfl, Below.refl _ _⟩
theorem Tree.pl_St {m n P L : Nat} (h1 : 1 ≤ m) (h2 : m < n) (h : Tree.St (m - 1) (n - 1) = (P, L)) : Tree.pl m n true = (Tree.U P L).length + if P = 0 then 0 else 1 := by
  obtain ⟨a, b⟩ := Tree.PD_SU _ m n (Nat.le_refl _) h1 h2
  unfold Tree.pl Tree.fl
  rw [b, a]
  unfold Tree.SU
  rw [h]
  by_cases hp : P = 0
  · simp [hp]
  · simp [hp]
set_option maxRecDepth 100000 in
set_option maxHeartbeats 2000000 in
theorem proofLen_any (m n : Nat) (h1 : 1 ≤ m) (h2 : m ≤ n) (hn : n ≤ 1099511627776) (w : World) :
    Calls Tryd.prog 94 #[.int .i64 m, .int .i64 n] w fun e w' => e = .returned (.int .i64 (Tree.pl m n true : Nat)) ∧ Below w.heap.size w w' := by
  by_cases h : m = n
  · subst h
    rw [Tree.pl_same]
    have b0 : ((m : Int) == (m : Int)) = true := by simp
    go_enter Tryd.func94, Tryd.ntmps94
    go_wp2
    go_ret
    exact ⟨rfl, Below.refl _ _⟩
  · have b0 : ((m : Int) == (n : Int)) = false := by simp; omega
    have hq := proofWay_any m n h1 (by omega) (by omega) (by omega) w
    have hlt := Tree.St_lt (m - 1) (n - 1) (by omega)
    have hle := Tree.St_le (m - 1) (n - 1)
    obtain ⟨P, L, hS⟩ : ∃ P L, Tree.St (m - 1) (n - 1) = (P, L) := ⟨_, _, rfl⟩
    have e := hid (Tree.pl_St h1 (by omega) hS)
    rw [hS] at hq hlt hle
    simp only at hq hlt hle
    have hs := steps_any P L (by omega) (by omega)
    have hul := Tree.U_len 40 P L (by omega)
    generalize Tree.pl m n true = T at *
    generalize (Tree.U P L).length = U at *
    clear hS
    by_cases hP : P = 0
    · subst hP
      have e' := hid (show T = U by have := e.out; simpa using this)
      clear e
      go_enter Tryd.func94, Tryd.ntmps94
      go_wp2_with (first
        | (go_at_call 73; refine hq.mono ?_; rintro e w1 ⟨rfl, hw1⟩)
        | (go_at_call 88; refine (hs _).mono ?_; rintro e w2 ⟨rfl, hw2⟩))
      go_ret
      have hb := hw1.alloc hw1.size (.cells #[Value.int .i64 ((0 : Nat) : Int), Value.int .i64 (L : Int)] 105)
      exact ⟨by rw [e'.out]; rfl, hb.trans (hw2.mono hb.size)⟩
    · have b1 : ((P : Int) == 0) = false := by simp; omega
      have e' := hid (show T = U + 1 by have := e.out; simpa [hP] using this)
      clear e
      go_enter Tryd.func94, Tryd.ntmps94
      go_wp2_with (first
        | (go_at_call 73; refine hq.mono ?_; rintro e w1 ⟨rfl, hw1⟩)
        | (go_at_call 88; refine (hs _).mono ?_; rintro e w2 ⟨rfl, hw2⟩))
      go_ret
      have hb := hw1.alloc hw1.size (.cells #[Value.int .i64 (P : Int), Value.int .i64 (L : Int)] 105)
      exact ⟨by rw [e'.out]; go_num, hb.trans (hw2.mono hb.size)⟩
set_option maxRecDepth 100000 in
set_option maxHeartbeats 2000000 in
theorem ProofLen_any (m n : Int) (w : World) :
    Calls Tryd.prog 71 #[.int .i64 m, .int .i64 n] w fun e w' => e = .returned (.tuple #[.int .i64 (prfLen m n).1, .int .i64 (prfLen m n).2]) ∧ Below w.heap.size w w' := by
  have h1 := checkSizes_any m n w
  by_cases h : m < 1 ∨ n < m ∨ 1099511627776 < n
  · rw [prfLen, if_pos h]
    rw [szs, if_pos h] at h1
    clear h
    go_enter Tryd.func71, Tryd.ntmps71
    go_wp2_with (go_at_call 93; refine h1.mono ?_; rintro e w1 ⟨rfl, rfl⟩)
    go_ret2
    exact ⟨rfl, Below.refl _ _⟩
  · rw [prfLen, if_neg h]
    rw [szs, if_neg h] at h1
    have h2 := proofLen_any m.toNat n.toNat (by omega) (by omega) (by omega) w
    rw [Int.toNat_of_nonneg (by omega), Int.toNat_of_nonneg (by omega)] at h2
    generalize Tree.pl m.toNat n.toNat true = L at *
    clear h
    go_enter Tryd.func71, Tryd.ntmps71
    go_wp2_with (first
      | (go_at_call 93; refine h1.mono ?_; rintro e w1 ⟨rfl, rfl⟩)
      | (go_at_call 94; refine h2.mono ?_; rintro e w2 ⟨rfl, hw2⟩))
    go_ret2
    exact ⟨rfl, hw2⟩
end Go.Proofs.YtkiibcfjjplkaaaDoor
