import Derived.Test.YtonmhimoglgbgaaDoorZ5
import Derived.Test.YtonmhimoglgbgaaDoorN6
namespace Go.Proofs.YtonmhimoglgbgaaDoor
open Go.RowKit Cod

/-- what was laid is taken -/
theorem step_whole {α : Type} {R : List UInt8 → Rd α} {B : List UInt8} {v d : α} (hT : ∀ b, R (B ++ b) = .good v b) {st : RS} {Rem : List UInt8} (he : st.err = 0) (hr : st.rest = B ++ Rem) :
    (st.step (R st.rest)).err = 0 ∧ (st.step (R st.rest)).rest = Rem ∧ (st.step (R st.rest)).taken = st.taken + B.length ∧ st.val d (R st.rest) = v := by
  rw [hr, hT]
  unfold RS.step RS.val
  rw [if_pos he, if_pos he]
  refine ⟨rfl, rfl, ?_, rfl⟩
  show st.taken + (st.rest.length - Rem.length) = _
  rw [hr, List.length_append]
  omega
/-- one byte less, so far -/
def Less (Rem : List UInt8) (st : RS) : Prop := (st.err = 0 ∧ Rem ≠ [] ∧ st.rest = Rem.dropLast) ∨ st.err = 21
theorem step_less {α : Type} {R : List UInt8 → Rd α} (hp : Pf R) {B : List UInt8} {v : α} (hT : ∀ b, R (B ++ b) = .good v b) {st : RS} {Rem : List UInt8} (h : Less (B ++ Rem) st) : Less Rem (st.step (R st.rest)) := by
  rcases h with ⟨he, hne, hr⟩ | he
  · by_cases hR : Rem = []
    · subst hR
      rw [List.append_nil] at hne hr
      have hs := hp.short B [] v (hT []) B.dropLast [B.getLast hne] (List.dropLast_concat_getLast hne).symm (by simp)
      right
      unfold RS.step
      rw [if_pos he, hr, hs]
      rfl
    · left
      have e : (B ++ Rem).dropLast = B ++ Rem.dropLast := List.dropLast_append_of_ne_nil hR
      rw [e] at hr
      unfold RS.step
      rw [if_pos he, hr, hT]
      exact ⟨rfl, hR, rfl⟩
  · right
    unfold RS.step
    rw [if_neg (by omega)]
    exact he
theorem less_end {st : RS} (h : Less [] st) : st.err = 21 := by
  rcases h with ⟨_, h, _⟩ | h
  · exact absurd rfl h
  · exact h
theorem less_start {s : List UInt8} (h : s ≠ []) : Less s ⟨s.dropLast, 0, 0⟩ := .inl ⟨rfl, h, rfl⟩
/-- a step, as far as it is laid and taken -/
structure Stp where
  kd : Int
  nn : Int
  s : List UInt8
  l : List Int
  ts : List (List UInt8)
def Stp.m1 (p : Stp) : Nat := (pk p.nn 256).toNat
def Stp.m2 (p : Stp) : Nat := (pk p.nn 4611686018427387904).toNat
def Stp.rl (p : Stp) : List Nat := (rs p.l (min p.l.length 8)).1
def Stp.tl (p : Stp) : List (List UInt8) := tx p.ts (min p.ts.length 8)
def Stp.hl (p : Stp) : List (List UInt8) := hx p.ts (min p.ts.length 8)
def Stp.most (p : Stp) : Int := (p.s.length : Int) + pk p.nn 9
def Stp.bytes (p : Stp) : List UInt8 :=
  if p.kd = 1 then [UInt8.ofNat p.m1] else if p.kd = 2 then digs p.m2 else if p.kd = 3 then wrRising p.rl else if p.kd = 4 then wrText p.s
  else if p.kd = 5 then wrTexts p.tl else if p.kd = 6 then wrHashes p.hl else if p.kd = 7 then p.s else []
def Stp.next (p : Stp) (st : RS) : RS :=
  if p.kd = 1 then st.step (rdByte st.rest) else if p.kd = 2 then st.step (rdNum st.rest) else if p.kd = 3 then st.step (rdRising st.rest 8) else if p.kd = 4 then st.step (rdText st.rest p.most)
  else if p.kd = 5 then st.step (rdTexts st.rest 8 20) else if p.kd = 6 then st.step (rdHashes st.rest 8) else if p.kd = 7 then st.step (rdRaw st.rest (p.s.length : Int)) else st
/-- it says what was laid -/
structure Stp.Hits (p : Stp) (st : RS) : Prop where
  k1 : p.kd = 1 → st.val 0 (rdByte st.rest) = p.m1
  k2 : p.kd = 2 → st.val 0 (rdNum st.rest) = p.m2
  k3 : p.kd = 3 → st.val [] (rdRising st.rest 8) = p.rl
  k4 : p.kd = 4 → st.val [] (rdText st.rest p.most) = p.s
  k5 : p.kd = 5 → st.val [] (rdTexts st.rest 8 20) = p.tl
  k6 : p.kd = 6 → st.val [] (rdHashes st.rest 8) = p.hl
  k7 : p.kd = 7 → st.val [] (rdRaw st.rest (p.s.length : Int)) = p.s
theorem pkN_lt (c : Int) (n : Nat) (hn : 0 < n) : (pk c (n : Int)).toNat < n := by
  have h1 := pk_nonneg c (n : Int) (by omega)
  have h2 := pk_lt c (n : Int) (by omega)
  omega
theorem rises_snoc : ∀ (xs : List Nat) (a n : Nat), Rises a xs → (∀ x ∈ xs, x < n) → a ≤ n → n ≤ top → Rises a (xs ++ [n])
  | [], a, n, _, _, h1, h2 => ⟨h1, h2, trivial⟩
  | x :: xs, a, n, h, hx, h1, h2 => ⟨h.1, h.2.1, rises_snoc xs (x + 1) n h.2.2 (fun y hy => hx y (by simp [hy])) (by have := hx x (by simp); omega) h2⟩
theorem rs_mem (l : List Int) : ∀ (k : Nat) x, x ∈ (rs l k).1 → x < (rs l k).2
  | 0, x, h => by simp [rs] at h
  | k + 1, x, h => by
    rw [rs] at h ⊢
    rcases List.mem_append.1 h with h | h
    · have := rs_mem l k x h; simp only; omega
    · rw [List.mem_singleton] at h; subst h; simp only; omega
theorem rs_rises (l : List Int) : ∀ (k : Nat), k ≤ 8 → Rises 0 (rs l k).1
  | 0, _ => trivial
  | k + 1, h => by
    have h1 := rs_le l k
    have h2 := pkN_lt (l.getD k 0) 1099511627776 (by omega)
    rw [rs]
    refine rises_snoc _ _ _ (rs_rises l k (by omega)) (fun x hx => ?_) (by omega) ?_
    · have := rs_mem l k x hx; omega
    · unfold top
      have h3 : k * 1099511627776 ≤ 8 * 1099511627776 := Nat.mul_le_mul_right _ (by omega)
      have h2' : (pk (l.getD k 0) 1099511627776).toNat < 1099511627776 := h2
      omega
theorem Stp.rl_len (p : Stp) : p.rl.length ≤ 8 := by unfold Stp.rl; rw [rs_len]; omega
theorem Stp.tl_len (p : Stp) : p.tl.length ≤ 8 := by unfold Stp.tl; rw [tx_len _ _ (by omega)]; omega
theorem Stp.hl_len (p : Stp) : p.hl.length ≤ 8 := by unfold Stp.hl; rw [hx_len _ _ (by omega)]; omega
theorem Stp.tl_mem (p : Stp) : ∀ t ∈ p.tl, t.length ≤ 20 := fun t ht => by
  simp only [Stp.tl, tx, List.mem_map] at ht
  obtain ⟨u, _, rfl⟩ := ht
  simp; omega
theorem Stp.hl_mem (p : Stp) : ∀ t ∈ p.hl, t.length = 32 := fun t ht => by
  simp only [Stp.hl, hx, List.mem_map] at ht
  obtain ⟨u, _, rfl⟩ := ht
  exact h32_len u
theorem Stp.there1 (p : Stp) (b : List UInt8) : rdByte ([UInt8.ofNat p.m1] ++ b) = .good p.m1 b := by
  have h := pkN_lt p.nn 256 (by omega)
  have h' : p.m1 < 256 := h
  show Rd.good (UInt8.ofNat p.m1).toNat b = _
  rw [UInt8.toNat_ofNat']
  congr 1; omega
theorem Stp.there2 (p : Stp) (b : List UInt8) : rdNum (digs p.m2 ++ b) = .good p.m2 b := num_there (by have h := pkN_lt p.nn 4611686018427387904 (by omega); have h' : p.m2 < 4611686018427387904 := h; unfold top; omega) b
theorem Stp.rl_rises (p : Stp) : Rises 0 p.rl := rs_rises _ _ (by omega)
theorem Stp.there3 (p : Stp) (b : List UInt8) : rdRising (wrRising p.rl ++ b) 8 = .good p.rl b := rising_there (by have := p.rl_len; unfold top; omega) (by have := p.rl_len; omega) p.rl_rises b
theorem Stp.there4 (p : Stp) (hs : p.s.length ≤ top) (b : List UInt8) : rdText (wrText p.s ++ b) p.most = .good p.s b := text_there hs (by have := pk_nonneg p.nn 9 (by omega); unfold Stp.most; omega) b
theorem Stp.there5 (p : Stp) (b : List UInt8) : rdTexts (wrTexts p.tl ++ b) 8 20 = .good p.tl b := texts_there (by have := p.tl_len; unfold top; omega) (by have := p.tl_len; omega) (by omega) (fun t ht => by have := p.tl_mem t ht; unfold top; omega) b
theorem Stp.there6 (p : Stp) (b : List UInt8) : rdHashes (wrHashes p.hl ++ b) 8 = .good p.hl b := hashes_there (by have := p.hl_len; unfold top; omega) (by have := p.hl_len; omega) p.hl_mem b
theorem Stp.there7 (p : Stp) (b : List UInt8) : rdRaw (p.s ++ b) (p.s.length : Int) = .good p.s b := raw_there p.s b
/-- the whole text: each step is taken -/
theorem Stp.whole (p : Stp) (hs : p.s.length ≤ top) {st : RS} {Rem : List UInt8} (he : st.err = 0) (hr : st.rest = p.bytes ++ Rem) :
    p.Hits st ∧ (p.next st).err = 0 ∧ (p.next st).rest = Rem ∧ (p.next st).taken = st.taken + p.bytes.length := by
  unfold Stp.bytes at hr
  by_cases h1 : p.kd = 1
  · rw [if_pos h1] at hr
    obtain ⟨a, b, c, d⟩ := step_whole (d := 0) p.there1 he hr
    refine ⟨⟨fun _ => d, fun h => by omega, fun h => by omega, fun h => by omega, fun h => by omega, fun h => by omega, fun h => by omega⟩, ?_⟩
    unfold Stp.next Stp.bytes; rw [if_pos h1, if_pos h1]; exact ⟨a, b, c⟩
  rw [if_neg h1] at hr
  by_cases h2 : p.kd = 2
  · rw [if_pos h2] at hr
    obtain ⟨a, b, c, d⟩ := step_whole (d := 0) p.there2 he hr
    refine ⟨⟨fun h => by omega, fun _ => d, fun h => by omega, fun h => by omega, fun h => by omega, fun h => by omega, fun h => by omega⟩, ?_⟩
    unfold Stp.next Stp.bytes; rw [if_neg h1, if_pos h2, if_neg h1, if_pos h2]; exact ⟨a, b, c⟩
  rw [if_neg h2] at hr
  by_cases h3 : p.kd = 3
  · rw [if_pos h3] at hr
    obtain ⟨a, b, c, d⟩ := step_whole (R := fun s => rdRising s 8) (d := []) p.there3 he hr
    refine ⟨⟨fun h => by omega, fun h => by omega, fun _ => d, fun h => by omega, fun h => by omega, fun h => by omega, fun h => by omega⟩, ?_⟩
    unfold Stp.next Stp.bytes; rw [if_neg h1, if_neg h2, if_pos h3, if_neg h1, if_neg h2, if_pos h3]; exact ⟨a, b, c⟩
  rw [if_neg h3] at hr
  by_cases h4 : p.kd = 4
  · rw [if_pos h4] at hr
    obtain ⟨a, b, c, d⟩ := step_whole (R := fun s => rdText s p.most) (d := []) (p.there4 hs) he hr
    refine ⟨⟨fun h => by omega, fun h => by omega, fun h => by omega, fun _ => d, fun h => by omega, fun h => by omega, fun h => by omega⟩, ?_⟩
    unfold Stp.next Stp.bytes; rw [if_neg h1, if_neg h2, if_neg h3, if_pos h4, if_neg h1, if_neg h2, if_neg h3, if_pos h4]; exact ⟨a, b, c⟩
  rw [if_neg h4] at hr
  by_cases h5 : p.kd = 5
  · rw [if_pos h5] at hr
    obtain ⟨a, b, c, d⟩ := step_whole (R := fun s => rdTexts s 8 20) (d := []) p.there5 he hr
    refine ⟨⟨fun h => by omega, fun h => by omega, fun h => by omega, fun h => by omega, fun _ => d, fun h => by omega, fun h => by omega⟩, ?_⟩
    unfold Stp.next Stp.bytes; rw [if_neg h1, if_neg h2, if_neg h3, if_neg h4, if_pos h5, if_neg h1, if_neg h2, if_neg h3, if_neg h4, if_pos h5]; exact ⟨a, b, c⟩
  rw [if_neg h5] at hr
  by_cases h6 : p.kd = 6
  · rw [if_pos h6] at hr
    obtain ⟨a, b, c, d⟩ := step_whole (R := fun s => rdHashes s 8) (d := []) p.there6 he hr
    refine ⟨⟨fun h => by omega, fun h => by omega, fun h => by omega, fun h => by omega, fun h => by omega, fun _ => d, fun h => by omega⟩, ?_⟩
    unfold Stp.next Stp.bytes; rw [if_neg h1, if_neg h2, if_neg h3, if_neg h4, if_neg h5, if_pos h6, if_neg h1, if_neg h2, if_neg h3, if_neg h4, if_neg h5, if_pos h6]; exact ⟨a, b, c⟩
  rw [if_neg h6] at hr
  by_cases h7 : p.kd = 7
  · rw [if_pos h7] at hr
    obtain ⟨a, b, c, d⟩ := step_whole (R := fun s => rdRaw s (p.s.length : Int)) (d := []) p.there7 he hr
    refine ⟨⟨fun h => by omega, fun h => by omega, fun h => by omega, fun h => by omega, fun h => by omega, fun h => by omega, fun _ => d⟩, ?_⟩
    unfold Stp.next Stp.bytes; rw [if_neg h1, if_neg h2, if_neg h3, if_neg h4, if_neg h5, if_neg h6, if_pos h7, if_neg h1, if_neg h2, if_neg h3, if_neg h4, if_neg h5, if_neg h6, if_pos h7]; exact ⟨a, b, c⟩
  rw [if_neg h7] at hr
  refine ⟨⟨fun h => absurd h h1, fun h => absurd h h2, fun h => absurd h h3, fun h => absurd h h4, fun h => absurd h h5, fun h => absurd h h6, fun h => absurd h h7⟩, ?_⟩
  unfold Stp.next Stp.bytes
  rw [if_neg h1, if_neg h2, if_neg h3, if_neg h4, if_neg h5, if_neg h6, if_neg h7, if_neg h1, if_neg h2, if_neg h3, if_neg h4, if_neg h5, if_neg h6, if_neg h7]
  exact ⟨he, by simpa using hr, by simp⟩
theorem Stp.less (p : Stp) (hs : p.s.length ≤ top) {st : RS} {Rem : List UInt8} (h : Less (p.bytes ++ Rem) st) : Less Rem (p.next st) := by
  unfold Stp.bytes at h
  unfold Stp.next
  by_cases h1 : p.kd = 1
  · rw [if_pos h1] at h ⊢; exact step_less pf_byte p.there1 h
  rw [if_neg h1] at h ⊢
  by_cases h2 : p.kd = 2
  · rw [if_pos h2] at h ⊢; exact step_less pf_num p.there2 h
  rw [if_neg h2] at h ⊢
  by_cases h3 : p.kd = 3
  · rw [if_pos h3] at h ⊢; exact step_less (pf_rising 8) p.there3 h
  rw [if_neg h3] at h ⊢
  by_cases h4 : p.kd = 4
  · rw [if_pos h4] at h ⊢; exact step_less (pf_text p.most) (p.there4 hs) h
  rw [if_neg h4] at h ⊢
  by_cases h5 : p.kd = 5
  · rw [if_pos h5] at h ⊢; exact step_less (pf_texts 8 20) p.there5 h
  rw [if_neg h5] at h ⊢
  by_cases h6 : p.kd = 6
  · rw [if_pos h6] at h ⊢; exact step_less (pf_hashes 8) p.there6 h
  rw [if_neg h6] at h ⊢
  by_cases h7 : p.kd = 7
  · rw [if_pos h7] at h ⊢; exact step_less (pf_raw _) p.there7 h
  rw [if_neg h7] at h ⊢
  simpa using h
/-- the bytes of the steps from the k-th on, and of those ahead of it -/
def rem (F : Nat → Stp) : Nat → Nat → List UInt8
  | 0, _ => []
  | n + 1, k => (F k).bytes ++ rem F n (k + 1)
def acc (F : Nat → Stp) : Nat → List UInt8
  | 0 => []
  | k + 1 => acc F k ++ (F k).bytes
theorem acc_rem (F : Nat → Stp) : ∀ (n k : Nat), acc F (k + n) = acc F k ++ rem F n k
  | 0, k => by simp [rem]
  | n + 1, k => by
    rw [show k + (n + 1) = (k + 1) + n from by omega, acc_rem F n (k + 1), acc, rem, List.append_assoc]
end Go.Proofs.YtonmhimoglgbgaaDoor
