import Derived.Test.YtacegaljoogfcaaDoorPkM2
namespace Go.Proofs.YtacegaljoogfcaaDoor
namespace Wz
/-- the four high bits and the four low ones of each byte -/
def hl (A : List UInt8) : List Nat := A.flatMap fun b => [b.toNat / 16, b.toNat % 16]
/-- the sum of 15 less each digit -/
def sm (l : List Nat) : Nat := (l.map (15 - ·)).sum
/-- the digits of a digest -/
def dg (A : List UInt8) : List Nat := hl A ++ [sm (hl A) / 256, sm (hl A) / 16 % 16, sm (hl A) % 16]
theorem hl_len (A : List UInt8) : (hl A).length = 2 * A.length := by
  induction A with
  | nil => rfl
  | cons b A ih => show (([_, _] ++ hl A : List Nat)).length = _; simp [ih]; omega
theorem hl_cons (b : UInt8) (A : List UInt8) : hl (b :: A) = b.toNat / 16 :: b.toNat % 16 :: hl A := rfl
theorem hl_snoc (A : List UInt8) (b : UInt8) : hl (A ++ [b]) = hl A ++ [b.toNat / 16, b.toNat % 16] := by simp [hl]
theorem hl_take (A : List UInt8) {i : Nat} (h : i < A.length) : hl (A.take (i + 1)) = hl (A.take i) ++ [A[i].toNat / 16, A[i].toNat % 16] := by
  rw [List.take_succ_eq_append_getElem h, hl_snoc]
theorem hl_lt (A : List UInt8) : ∀ x ∈ hl A, x ≤ 15 := by
  intro x hx
  simp only [hl, List.mem_flatMap, List.mem_cons, List.not_mem_nil, or_false] at hx
  obtain ⟨b, _, h | h⟩ := hx
  · have := b.toNat_lt; omega
  · omega
theorem sm_append (l m : List Nat) : sm (l ++ m) = sm l + sm m := by simp [sm]
theorem sm_le (l : List Nat) : sm l ≤ 15 * l.length := by
  induction l with
  | nil => simp [sm]
  | cons a l ih => simp only [sm, List.map_cons, List.sum_cons, List.length_cons] at *; omega
theorem sm_take (l : List Nat) {i : Nat} (h : i < l.length) : sm (l.take (i + 1)) = sm (l.take i) + (15 - l[i]) := by
  rw [List.take_succ_eq_append_getElem h, sm_append]; simp [sm]
theorem dg_len (A : List UInt8) (h : A.length = 32) : (dg A).length = 67 := by simp [dg, hl_len, h]
theorem dg_lt (A : List UInt8) (h : A.length = 32) : ∀ x ∈ dg A, x ≤ 15 := by
  intro x hx
  have h1 := sm_le (hl A)
  rw [hl_len, h] at h1
  simp only [dg, List.mem_append, List.mem_cons, List.not_mem_nil, or_false] at hx
  rcases hx with hx | hx | hx | hx
  · exact hl_lt A x hx
  · omega
  · omega
  · omega
theorem dg_at (A : List UInt8) (h : A.length = 32) {i : Nat} (hi : i < 64) : (dg A).getD i 0 = (hl A).getD i 0 := by
  simp only [dg, List.getD_eq_getElem?_getD]
  rw [List.getElem?_append_left (by rw [hl_len]; omega)]
theorem dg_end (A : List UInt8) (h : A.length = 32) (k : Nat) : (dg A).getD (64 + k) 0 = [sm (hl A) / 256, sm (hl A) / 16 % 16, sm (hl A) % 16].getD k 0 := by
  simp only [dg, List.getD_eq_getElem?_getD]
  rw [List.getElem?_append_right (by rw [hl_len]; omega), hl_len, h]
  congr 2; omega
theorem dg_take (A : List UInt8) (h : A.length = 32) {i : Nat} (hi : i ≤ 64) : (dg A).take i = (hl A).take i := by
  rw [dg, List.take_append_of_le_length (by rw [hl_len]; omega)]
/-- the pair of digits is the byte -/
theorem dg_byte (A : List UInt8) (h : A.length = 32) {i : Nat} (hi : i < 32) : 16 * (dg A).getD (2 * i) 0 + (dg A).getD (2 * i + 1) 0 = (A.getD i 0).toNat := by
  rw [dg_at A h (by omega), dg_at A h (by omega)]
  clear h
  induction A generalizing i with
  | nil => simp [hl]
  | cons b A ih =>
    rw [hl_cons]
    cases i with
    | zero => simp; omega
    | succ i =>
      have := ih (i := i) (by omega)
      simpa [show 2 * (i + 1) = 2 * i + 1 + 1 by omega, show 2 * (i + 1) + 1 = 2 * i + 1 + 1 + 1 by omega] using this
theorem hl_inj : ∀ {A B : List UInt8}, hl A = hl B → A = B
  | [], [], _ => rfl
  | [], _ :: _, h => by simp [hl] at h
  | _ :: _, [], h => by simp [hl] at h
  | a :: A, b :: B, h => by
    rw [hl_cons, hl_cons] at h
    injection h with h1 h2
    injection h2 with h2 h3
    have := hl_inj h3
    subst this
    have h4 : a.toNat = b.toNat := by omega
    rw [UInt8.toNat_inj.1 h4]
theorem sm_anti : ∀ {l m : List Nat}, l.length = m.length → (∀ x ∈ l, x ≤ 15) → (∀ x ∈ m, x ≤ 15) → (∀ i, l.getD i 0 ≤ m.getD i 0) → sm m ≤ sm l ∧ (sm m = sm l → l = m)
  | [], [], _, _, _, _ => ⟨Nat.le_refl _, fun _ => rfl⟩
  | [], _ :: _, h, _, _, _ => by simp at h
  | _ :: _, [], h, _, _, _ => by simp at h
  | a :: l, b :: m, h, h1, h2, h3 => by
    obtain ⟨i1, i2⟩ := sm_anti (l := l) (m := m) (by simpa using h) (fun x hx => h1 x (by simp [hx])) (fun x hx => h2 x (by simp [hx])) (fun i => by simpa using h3 (i + 1))
    have h0 : a ≤ b := by simpa using h3 0
    have ha := h1 a (by simp)
    have hb := h2 b (by simp)
    simp only [sm, List.map_cons, List.sum_cons] at *
    refine ⟨by omega, fun e => ?_⟩
    have : a = b := by omega
    subst this
    rw [i2 (by omega)]
/-- of two digests that are not the same the one has a digit above the other one's -/
theorem above {A B : List UInt8} (hA : A.length = 32) (hB : B.length = 32) (hne : A ≠ B) : ∃ i, i < 67 ∧ (dg B).getD i 0 < (dg A).getD i 0 := by
  refine Classical.byContradiction fun hn => hne ?_
  have hle : ∀ i, i < 67 → (dg A).getD i 0 ≤ (dg B).getD i 0 := fun i hi => Nat.le_of_not_lt fun h => hn ⟨i, hi, h⟩
  obtain ⟨h1, h2⟩ := sm_anti (l := hl A) (m := hl B) (by rw [hl_len, hl_len, hA, hB]) (hl_lt A) (hl_lt B) (fun i => by
    by_cases hi : i < 64
    · have := hle i (by omega); rwa [dg_at A hA hi, dg_at B hB hi] at this
    · rw [List.getD_eq_getElem?_getD, List.getElem?_eq_none (by rw [hl_len]; omega)]; exact Nat.zero_le _)
  have e0 := hle 64 (by omega)
  have e1 := hle 65 (by omega)
  have e2 := hle 66 (by omega)
  rw [dg_end A hA 0, dg_end B hB 0] at e0
  rw [dg_end A hA 1, dg_end B hB 1] at e1
  rw [dg_end A hA 2, dg_end B hB 2] at e2
  simp at e0 e1 e2
  exact hl_inj (h2 (by omega))
/-- has one of the first k a digit above the other one's -/
def upB (a b : List Nat) (k : Nat) : Bool := (List.range k).any fun j => decide (b.getD j 0 < a.getD j 0)
theorem upB_succ (a b : List Nat) (k : Nat) : upB a b (k + 1) = (upB a b k || decide (b.getD k 0 < a.getD k 0)) := by
  simp [upB, List.range_succ, List.any_append]
theorem upB_self (a : List Nat) (k : Nat) : upB a a k = false := by simp [upB]
theorem upB_above {A B : List UInt8} (hA : A.length = 32) (hB : B.length = 32) (hne : A ≠ B) : upB (dg A) (dg B) 67 = true := by
  obtain ⟨i, h1, h2⟩ := above hA hB hne
  simp only [upB, List.any_eq_true, List.mem_range, decide_eq_true_eq]
  exact ⟨i, h1, h2⟩
end Wz
end Go.Proofs.YtacegaljoogfcaaDoor
