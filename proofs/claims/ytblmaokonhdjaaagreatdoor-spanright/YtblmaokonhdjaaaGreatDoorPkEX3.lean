import Derived.Test.YtblmaokonhdjaaaGreatDoorPkEX1
/- which proofs begin with their first hash: those from a size that is no power of two -/
namespace Go.Proofs.YtblmaokonhdjaaaGreatDoor
namespace Tree
theorem St_zero : ∀ (f p l : Nat), p ≤ f → ((St p l).1 = 0 ↔ ∃ j, p + 1 = 2 ^ j)
  | f, p, l, hf => by
    by_cases h : p % 2 = 1
    · match f, hf with
      | 0, hf => omega
      | f + 1, hf =>
      rw [St_odd _ h, St_zero f (p / 2) (l / 2) (by omega)]
      constructor
      · rintro ⟨j, hj⟩
        exact ⟨j + 1, by rw [Nat.pow_succ]; omega⟩
      · rintro ⟨j, hj⟩
        match j, hj with
        | 0, hj => simp at hj; omega
        | j + 1, hj => exact ⟨j, by rw [Nat.pow_succ] at hj; omega⟩
    · rw [St_even _ h]
      constructor
      · intro e
        have e : p = 0 := e
        exact ⟨0, by simp; omega⟩
      · rintro ⟨j, hj⟩
        show p = 0
        match j, hj with
        | 0, hj => simp at hj; omega
        | j + 1, hj => rw [Nat.pow_succ] at hj; omega
/-- a size is a power of two: told by what it is made of -/
def pw (m : Nat) : Bool := [1, 2, 4, 8, 16, 32, 64, 128, 256, 512, 1024, 2048, 4096].contains m
theorem pw_iff {m : Nat} (h : m ≤ 4096) : pw m = true ↔ ∃ j, m = 2 ^ j := by
  constructor
  · intro h1
    have h2 : m ∈ [1, 2, 4, 8, 16, 32, 64, 128, 256, 512, 1024, 2048, 4096] := by simpa [pw] using h1
    simp only [List.mem_cons, List.not_mem_nil, or_false] at h2
    rcases h2 with rfl | rfl | rfl | rfl | rfl | rfl | rfl | rfl | rfl | rfl | rfl | rfl | rfl
    · exact ⟨0, rfl⟩
    · exact ⟨1, rfl⟩
    · exact ⟨2, rfl⟩
    · exact ⟨3, rfl⟩
    · exact ⟨4, rfl⟩
    · exact ⟨5, rfl⟩
    · exact ⟨6, rfl⟩
    · exact ⟨7, rfl⟩
    · exact ⟨8, rfl⟩
    · exact ⟨9, rfl⟩
    · exact ⟨10, rfl⟩
    · exact ⟨11, rfl⟩
    · exact ⟨12, rfl⟩
  · rintro ⟨j, rfl⟩
    have hj : j < 13 := by
      refine Nat.lt_of_not_le fun hle => ?_
      have := Nat.pow_le_pow_right (n := 2) (by decide) hle
      omega
    have : ∀ j : Fin 13, pw (2 ^ j.val) = true := by decide
    exact this ⟨j, hj⟩
theorem fl_pw {m n : Nat} (h1 : 1 ≤ m) (h2 : m < n) (h3 : m ≤ 4096) : fl m n true = !pw m := by
  have h := (PD_SU n m n (Nat.le_refl _) h1 h2).2
  unfold fl
  rw [h]
  have hz := St_zero (m - 1) (m - 1) (n - 1) (Nat.le_refl _)
  rw [show m - 1 + 1 = m by omega, ← pw_iff h3] at hz
  by_cases hp : pw m = true
  · rw [hp]
    have := hz.2 hp
    simp [this]
  · have hp' : pw m = false := by simpa using hp
    have : ¬ (St (m - 1) (n - 1)).1 = 0 := fun e => hp (hz.1 e)
    simp [hp', this]
end Tree
end Go.Proofs.YtblmaokonhdjaaaGreatDoor

/- THE PLAIN MATHEMATICS OF LAYER 6: the document's steps of a walk. -/
namespace Go.Proofs.YtblmaokonhdjaaaGreatDoor
namespace Tree
/-- the steps from a subtree (b, n) down to a span: what stands beside (begin, end), and does it stand left? -/
def dn : Nat → Nat → Nat → Nat → Nat → List (Nat × Nat × Bool)
  | 0, _, _, _, _ => []
  | f + 1, b, n, fb, fe => if (b = fb ∧ b + n = fe) ∨ n < 2 then [] else if b + sp n ≤ fb then (b, b + sp n, true) :: dn f (b + sp n) (n - sp n) fb fe else (b + sp n, b + n, false) :: dn f b (sp n) fb fe
theorem dn_stop {f b n fb fe : Nat} (h : (b = fb ∧ b + n = fe) ∨ n < 2) : dn f b n fb fe = [] := by
  cases f
  · rfl
  · rw [dn, if_pos h]
theorem dn_right {f b n fb fe : Nat} (h : ¬ ((b = fb ∧ b + n = fe) ∨ n < 2)) (h2 : b + sp n ≤ fb) : dn (f + 1) b n fb fe = (b, b + sp n, true) :: dn f (b + sp n) (n - sp n) fb fe := by rw [dn, if_neg h, if_pos h2]
theorem dn_left {f b n fb fe : Nat} (h : ¬ ((b = fb ∧ b + n = fe) ∨ n < 2)) (h2 : ¬ b + sp n ≤ fb) : dn (f + 1) b n fb fe = (b + sp n, b + n, false) :: dn f b (sp n) fb fe := by rw [dn, if_neg h, if_neg h2]
theorem dn_D : ∀ (f b n i : Nat), n ≤ f → b ≤ i → i < b + n → (dn f b n i (i + 1)).map (·.2.2) = (D n (i - b)).reverse
  | 0, b, n, i, h, _, h2 => by omega
  | f + 1, b, n, i, h, hb, h2 => by
    by_cases h3 : n < 2
    · rw [dn_stop (.inr h3), D_one _ h3]; rfl
    · have s1 := sp_lt (n := n) (by omega)
      have s2 := sp_pos (n := n) (by omega)
      have hs : ¬ ((b = i ∧ b + n = i + 1) ∨ n < 2) := by omega
      by_cases hi : b + sp n ≤ i
      · rw [dn_right hs hi, D_right (by omega) (by omega), List.reverse_append, List.map_cons, dn_D f (b + sp n) (n - sp n) i (by omega) hi (by omega), show i - b - sp n = i - (b + sp n) by omega]; rfl
      · rw [dn_left hs hi, D_left (by omega) (by omega), List.reverse_append, List.map_cons, dn_D f b (sp n) i (by omega) hb (by omega)]; rfl
theorem pow_mono {a b : Nat} (h : a ≤ b) : 2 ^ a ∣ 2 ^ b := Nat.pow_dvd_pow 2 h
/-- sp n is a power of two, n at most its double -/
theorem sp_pow {n : Nat} (h : 2 ≤ n) : ∃ a, sp n = 2 ^ a ∧ 2 ^ a < n ∧ n ≤ 2 ^ (a + 1) := by
  refine ⟨(n - 1).log2, sp_eq h, ?_, ?_⟩
  · rw [← sp_eq h]; exact sp_lt h
  · have := Nat.lt_log2_self (n := n - 1)
    omega
theorem dn_PD (l : List T) : ∀ (f b n k j : Nat), n ≤ f → 1 ≤ k → k < n → (∃ J, n ≤ 2 ^ J ∧ 2 ^ J ∣ b) → 2 ^ j ∣ b + k → ¬ 2 ^ (j + 1) ∣ b + k → b + n ≤ l.length →
    (dn f b n (b + k - 2 ^ j) (b + k)).map (·.2.2) = (PD k n).reverse ∧ (dn f b n (b + k - 2 ^ j) (b + k)).map (fun s => root (seg l s.1 s.2.1)) = (own f k (seg l b (b + n))).reverse ∧ root (seg l (b + k - 2 ^ j) (b + k)) = stt f k (seg l b (b + n))
  | 0, b, n, k, j, h, h1, h2, _, _, _, _ => by omega
  | f + 1, b, n, k, j, h, h1, h2, ⟨J, hJ, hd⟩, hj, hj2, hl => by
    obtain ⟨a, ha, ha1, ha2⟩ := sp_pow (n := n) (by omega)
    have sl : (seg l b (b + n)).length = n := by rw [seg_len hl]; omega
    have q1 := seg_take (l := l) (b := b) (n := n) (k := sp n) (by omega)
    have q2 := seg_drop (l := l) (b := b) (n := n) (k := sp n) (by omega)
    have haJ : a + 1 ≤ J := by
      rcases Nat.lt_or_ge a J with e | e
      · exact e
      · have := Nat.pow_le_pow_right (n := 2) (by omega) e; omega
    have d1 : 2 ^ (a + 1) ∣ b := Nat.dvd_trans (pow_mono haJ) hd
    have d0 : 2 ^ a ∣ b := Nat.dvd_trans (pow_mono (by omega)) d1
    have hs : ¬ ((b = b + k - 2 ^ j ∧ b + n = b + k) ∨ n < 2) := by omega
    have ho : ¬ (n < 2 ∨ k = n) := by omega
    have pj := Nat.two_pow_pos j
    rw [own, stt, sl, if_neg ho, if_neg ho]
    rcases Nat.lt_trichotomy k (sp n) with hk | hk | hk
    · obtain ⟨r1, r2, r3⟩ := dn_PD l f b (sp n) k j (by omega) h1 hk ⟨J, by omega, hd⟩ hj hj2 (by omega)
      rw [dn_left hs (by omega), List.map_cons, List.map_cons, r1, r2, r3, PD_left h1 h2 (by omega), if_pos (by omega), if_pos (by omega), q1, q2, List.reverse_append, List.reverse_append]
      refine ⟨rfl, ?_, rfl⟩
      show root (seg l (b + sp n) (b + n)) :: _ = _
      rw [show b + sp n + (n - sp n) = b + n by omega]; rfl
    · have e : j = a := by
        have k1 : 2 ^ a ∣ b + k := by rw [hk, ha]; exact Nat.dvd_add d0 (Nat.dvd_refl _)
        have k2 : ¬ 2 ^ (a + 1) ∣ b + k := fun e => by
          have := (Nat.dvd_add_right d1).1 e
          rw [hk, ha] at this
          have := Nat.le_of_dvd (Nat.two_pow_pos a) this
          rw [Nat.pow_succ] at this; have := Nat.two_pow_pos a; omega
        rcases Nat.lt_trichotomy j a with e | e | e
        · exact absurd (Nat.dvd_trans (pow_mono e) k1) hj2
        · exact e
        · exact absurd (Nat.dvd_trans (pow_mono e) hj) k2
      subst e
      have e1 : b + k - 2 ^ j = b := by omega
      have e2 : PD k (sp n) = [] := by rw [hk, PD_same]
      have e3 : own f k (seg l b (b + sp n)) = [] ∧ stt f k (seg l b (b + sp n)) = root (seg l b (b + sp n)) := by
        have sl2 : (seg l b (b + sp n)).length = sp n := by rw [seg_len (by omega)]; omega
        cases f with
        | zero => exact ⟨rfl, rfl⟩
        | succ f =>
          rw [own, stt, sl2, if_pos (.inr hk), if_pos (.inr hk)]
          exact ⟨rfl, rfl⟩
      rw [dn_left hs (by omega), e1, dn_stop (.inl ⟨rfl, by rw [hk]⟩), PD_left h1 h2 (by omega), e2, if_pos (by omega), if_pos (by omega), q1, q2, e3.1, e3.2]
      refine ⟨rfl, ?_, by rw [hk]⟩
      show [root (seg l (b + sp n) (b + n))] = _
      rw [show b + sp n + (n - sp n) = b + n by omega]; rfl
    · have d2 : 2 ^ a ∣ b + sp n := by rw [ha]; exact Nat.dvd_add d0 (Nat.dvd_refl _)
      have e0 : b + k = b + sp n + (k - sp n) := by omega
      have hlt : k - sp n < 2 ^ a := by rw [Nat.pow_succ] at ha2; omega
      have hja : j < a := by
        rcases Nat.lt_or_ge j a with e | e
        · exact e
        · have := Nat.dvd_trans (pow_mono e) hj
          rw [e0] at this
          have := Nat.le_of_dvd (by omega) ((Nat.dvd_add_right d2).1 this)
          omega
      have hle : 2 ^ j ≤ k - sp n := by
        rw [e0] at hj
        exact Nat.le_of_dvd (by omega) ((Nat.dvd_add_right (Nat.dvd_trans (pow_mono (by omega)) d2)).1 hj)
      obtain ⟨r1, r2, r3⟩ := dn_PD l f (b + sp n) (n - sp n) (k - sp n) j (by omega) (by omega) (by omega) ⟨a, by rw [Nat.pow_succ] at ha2; omega, d2⟩ (by rw [← e0]; exact hj) (by rw [← e0]; exact hj2) (by omega)
      rw [← e0] at r1 r2 r3
      rw [dn_right hs (by omega), List.map_cons, List.map_cons, r1, r2, r3, PD_right h1 h2 (by omega), if_neg (by omega), if_neg (by omega), q1, q2, List.reverse_append, List.reverse_append]
      exact ⟨rfl, rfl, rfl⟩
/-- the hash that a walk has come to -/
def stw : T → List Bool → List T → T
  | r, d :: ds, h :: hs => stw (Sha.sha (txt d r h)) ds hs
  | r, _, _ => r
theorem txs_step : ∀ (r : T) (ds : List Bool) (hs : List T) (d : Bool) (h : T), ds.length = hs.length → txs r (ds ++ [d]) (hs ++ [h]) = txs r ds hs ++ [txt d (stw r ds hs) h] ∧ stw r (ds ++ [d]) (hs ++ [h]) = Sha.sha (txt d (stw r ds hs) h)
  | _, [], [], _, _, _ => ⟨rfl, rfl⟩
  | r, x :: ds, y :: hs, d, h, e => by
    obtain ⟨e1, e2⟩ := txs_step (Sha.sha (txt x r y)) ds hs d h (by simpa using e)
    refine ⟨?_, e2⟩
    show txt x r y :: txs _ (ds ++ [d]) (hs ++ [h]) = _
    rw [e1]; rfl
end Tree
end Go.Proofs.YtblmaokonhdjaaaGreatDoor

/- THE PLAIN MATHEMATICS OF LAYER 8: spans of paths and proofs; nothing of the program. -/
namespace Go.Proofs.YtblmaokonhdjaaaGreatDoor
namespace Tree
/-- the greatest power of two below n is the only one -/
theorem sp_unique {n j : Nat} (h1 : 2 ^ j < n) (h2 : n ≤ 2 ^ (j + 1)) : sp n = 2 ^ j := by
  have p := Nat.two_pow_pos j
  obtain ⟨a, ha, a1, a2⟩ := sp_pow (n := n) (by omega)
  rw [ha]
  rcases Nat.lt_trichotomy a j with e | e | e
  · have := Nat.pow_le_pow_right (n := 2) (by omega) (show a + 1 ≤ j from e); omega
  · rw [e]
  · have := Nat.pow_le_pow_right (n := 2) (by omega) (show j + 1 ≤ a from e); omega
theorem root_seg_two {l : List T} {b n : Nat} (h : 2 ≤ n) (hl : b + n ≤ l.length) : root (seg l b (b + n)) = nd (root (seg l b (b + sp n))) (root (seg l (b + sp n) (b + n))) := by
  have s1 := sp_lt (n := n) h
  have sl : (seg l b (b + n)).length = n := by rw [seg_len hl]; omega
  rw [root_cut (l := seg l b (b + n)) (by omega), sl, seg_take (by omega), seg_drop (by omega), show b + sp n + (n - sp n) = b + n by omega]
/-- H2: what lies beside the way to leaf i, from below -/
def pthF : Nat → Nat → Nat → Nat → List (Nat × Nat)
  | 0, _, _, _ => []
  | f + 1, b, n, i => if n < 2 then [] else if i < b + sp n then pthF f b (sp n) i ++ [(b + sp n, b + n)] else pthF f (b + sp n) (n - sp n) i ++ [(b, b + sp n)]
theorem pthF_small {f b n i : Nat} (h : n < 2) : pthF f b n i = [] := by
  cases f
  · rfl
  · rw [pthF, if_pos h]
theorem pthF_left {f b n i : Nat} (h : 2 ≤ n) (hi : i < b + sp n) : pthF (f + 1) b n i = pthF f b (sp n) i ++ [(b + sp n, b + n)] := by rw [pthF, if_neg (by omega), if_pos hi]
theorem pthF_right {f b n i : Nat} (h : 2 ≤ n) (hi : ¬ i < b + sp n) : pthF (f + 1) b n i = pthF f (b + sp n) (n - sp n) i ++ [(b, b + sp n)] := by rw [pthF, if_neg (by omega), if_neg hi]
theorem pthF_len : ∀ (f b n i : Nat), n ≤ f → b ≤ i → (pthF f b n i).length = (D n (i - b)).length
  | 0, b, n, i, h, _ => by rw [D_one _ (by omega)]; rfl
  | f + 1, b, n, i, h, hb => by
    by_cases h2 : n < 2
    · rw [pthF_small h2, D_one _ h2]; rfl
    · have s1 := sp_lt (n := n) (by omega)
      have s2 := sp_pos (n := n) (by omega)
      by_cases hi : i < b + sp n
      · rw [pthF_left (by omega) hi, D_left (by omega) (by omega), List.length_append, List.length_append, pthF_len f b (sp n) i (by omega) hb]; rfl
      · rw [pthF_right (by omega) hi, D_right (by omega) (by omega), List.length_append, List.length_append, pthF_len f (b + sp n) (n - sp n) i (by omega) (by omega), show i - b - sp n = i - (b + sp n) by omega]; rfl
/-- H6: their hashes are the path -/
theorem pthF_hash (l : List T) : ∀ (f b n i : Nat), n ≤ f → b ≤ i → i < b + n → b + n ≤ l.length → (pthF f b n i).map (fun s => root (seg l s.1 s.2)) = path (i - b) (seg l b (b + n))
  | 0, b, n, i, h, _, h2, _ => by omega
  | f + 1, b, n, i, h, hb, h2, hl => by
    have sl : (seg l b (b + n)).length = n := by rw [seg_len hl]; omega
    by_cases h3 : n < 2
    · rw [pthF_small h3, path_small (by omega)]; rfl
    · have s1 := sp_lt (n := n) (by omega)
      have s2 := sp_pos (n := n) (by omega)
      have q1 := seg_take (l := l) (b := b) (n := n) (k := sp n) (by omega)
      have q2 := seg_drop (l := l) (b := b) (n := n) (k := sp n) (by omega)
      rw [path_cut (by omega), sl, q1, q2, show b + sp n + (n - sp n) = b + n by omega]
      by_cases hi : i < b + sp n
      · rw [pthF_left (by omega) hi, if_pos (by omega), List.map_append, pthF_hash l f b (sp n) i (by omega) hb hi (by omega)]; rfl
      · have e := pthF_hash l f (b + sp n) (n - sp n) i (by omega) (by omega) (by omega) (by omega)
        rw [show b + sp n + (n - sp n) = b + n by omega] at e
        rw [pthF_right (by omega) hi, if_neg (by omega), List.map_append, e, show i - b - sp n = i - (b + sp n) by omega]; rfl
/-- H3: of a proof from size m -/
def prfF : Nat → Nat → Nat → Nat → List (Nat × Nat)
  | 0, _, _, _ => []
  | f + 1, b, n, m => if b + n = m then (if b = 0 then [] else [(b, b + n)]) else if m ≤ b + sp n then prfF f b (sp n) m ++ [(b + sp n, b + n)] else prfF f (b + sp n) (n - sp n) m ++ [(b, b + sp n)]
theorem prfF_hash (l : List T) : ∀ (f b n m : Nat), n ≤ f → b < m → m ≤ b + n → b + n ≤ l.length → (prfF f b n m).map (fun s => root (seg l s.1 s.2)) = proof (m - b) (seg l b (b + n)) (decide (b = 0))
  | 0, b, n, m, h, _, h2, _ => by omega
  | f + 1, b, n, m, h, hb, h2, hl => by
    have sl : (seg l b (b + n)).length = n := by rw [seg_len hl]; omega
    rw [prfF]
    by_cases hm : b + n = m
    · rw [if_pos hm]
      obtain rfl : m = b + n := hm.symm
      rw [show b + n - b = (seg l b (b + n)).length by rw [sl]; omega]
      by_cases h0 : b = 0
      · rw [if_pos h0, decide_eq_true h0, proof_whole (by omega)]; rfl
      · rw [if_neg h0, decide_eq_false h0, proof_part (by omega)]; rfl
    · rw [if_neg hm]
      have s1 := sp_lt (n := n) (by omega)
      have s2 := sp_pos (n := n) (by omega)
      have q1 := seg_take (l := l) (b := b) (n := n) (k := sp n) (by omega)
      have q2 := seg_drop (l := l) (b := b) (n := n) (k := sp n) (by omega)
      by_cases hi : m ≤ b + sp n
      · rw [if_pos hi, List.map_append, prfF_hash l f b (sp n) m (by omega) hb hi (by omega), proof_left (l := seg l b (b + n)) (by omega) (by omega) (by rw [sl]; omega), sl, q1, q2, show b + sp n + (n - sp n) = b + n by omega]; rfl
      · have e := prfF_hash l f (b + sp n) (n - sp n) m (by omega) (by omega) (by omega) (by omega)
        rw [show b + sp n + (n - sp n) = b + n by omega, decide_eq_false (by omega), show m - (b + sp n) = m - b - sp n by omega] at e
        rw [if_neg hi, List.map_append, e, proof_right (l := seg l b (b + n)) (by omega) (by omega) (by rw [sl]; omega), sl, q1, q2, show b + sp n + (n - sp n) = b + n by omega]; rfl
theorem prfF_len : ∀ (f b n m : Nat), n ≤ f → b < m → m ≤ b + n → (prfF f b n m).length = pl (m - b) n (decide (b = 0))
  | 0, b, n, m, h, _, h2 => by omega
  | f + 1, b, n, m, h, hb, h2 => by
    rw [prfF]
    by_cases hm : b + n = m
    · rw [if_pos hm, show m - b = n by omega, pl_same]
      by_cases h0 : b = 0
      · rw [if_pos h0, decide_eq_true h0]; rfl
      · rw [if_neg h0, decide_eq_false h0]; rfl
    · rw [if_neg hm]
      have s1 := sp_lt (n := n) (by omega)
      have s2 := sp_pos (n := n) (by omega)
      by_cases hi : m ≤ b + sp n
      · rw [if_pos hi, List.length_append, prfF_len f b (sp n) m (by omega) hb hi, pl_left (m := m - b) (n := n) (by omega) (by omega) (by omega), List.length_singleton]; omega
      · have e := prfF_len f (b + sp n) (n - sp n) m (by omega) (by omega) (by omega)
        rw [decide_eq_false (by omega), show m - (b + sp n) = m - b - sp n by omega] at e
        rw [if_neg hi, List.length_append, e, pl_right (m := m - b) (n := n) (by omega) (by omega) (by omega), List.length_singleton]; omega
end Tree
end Go.Proofs.YtblmaokonhdjaaaGreatDoor

/- THE PLAIN MATHEMATICS OF LAYER 8: spans that lie beside some leaves, beside a run of them; nothing of the program. -/
namespace Go.Proofs.YtblmaokonhdjaaaGreatDoor
namespace Tree
/-- has [b, e) one of some leaves? -/
def tch (is : List Nat) (b e : Nat) : Bool := is.any fun i => decide (b ≤ i ∧ i < e)
theorem tch_mem {is : List Nat} {b e : Nat} : tch is b e = true ↔ ∃ i ∈ is, b ≤ i ∧ i < e := by
  unfold tch; rw [List.any_eq_true]; simp
theorem tch_cut {is : List Nat} {b m e : Nat} (h1 : b ≤ m) (h2 : m ≤ e) : tch is b e = (tch is b m || tch is m e) := by
  rw [Bool.eq_iff_iff, Bool.or_eq_true, tch_mem, tch_mem, tch_mem]
  constructor
  · rintro ⟨i, hi, h3, h4⟩
    by_cases h : i < m
    · exact .inl ⟨i, hi, h3, h⟩
    · exact .inr ⟨i, hi, by omega, h4⟩
  · rintro (⟨i, hi, h3, h4⟩ | ⟨i, hi, h3, h4⟩)
    · exact ⟨i, hi, h3, by omega⟩
    · exact ⟨i, hi, by omega, h4⟩
/-- H4: from the left, the subtrees that have none of these leaves, as great as may be -/
def othF : Nat → Nat → Nat → List Nat → List (Nat × Nat)
  | 0, _, _, _ => []
  | f + 1, b, n, is => if tch is b (b + n) = false then [(b, b + n)] else if n < 2 then [] else othF f b (sp n) is ++ othF f (b + sp n) (n - sp n) is
theorem othF_no {f b n : Nat} {is : List Nat} (h : tch is b (b + n) = false) : othF (f + 1) b n is = [(b, b + n)] := by rw [othF, if_pos h]
theorem othF_one {f b n : Nat} {is : List Nat} (h : tch is b (b + n) = true) (h2 : n < 2) : othF (f + 1) b n is = [] := by rw [othF, if_neg (by rw [h]; simp), if_pos h2]
theorem othF_two {f b n : Nat} {is : List Nat} (h : tch is b (b + n) = true) (h2 : 2 ≤ n) : othF (f + 1) b n is = othF f b (sp n) is ++ othF f (b + sp n) (n - sp n) is := by rw [othF, if_neg (by rw [h]; simp), if_neg (by omega)]
/-- the leaves within a span -/
def wit (is : List Nat) (b e : Nat) : List Nat := is.filter fun i => decide (b ≤ i ∧ i < e)
theorem wit_nil {is : List Nat} {b e : Nat} (h : tch is b e = false) : wit is b e = [] := by
  unfold wit
  rw [List.filter_eq_nil_iff]
  intro i hi hc
  rw [decide_eq_true_iff] at hc
  have := tch_mem.2 ⟨i, hi, hc⟩
  rw [h] at this; cases this
theorem wit_ne {is : List Nat} {b e : Nat} (h : tch is b e = true) : wit is b e ≠ [] := by
  obtain ⟨i, hi, hc⟩ := tch_mem.1 h
  intro e'
  have : i ∈ wit is b e := List.mem_filter.2 ⟨hi, by simpa using hc⟩
  rw [e'] at this; cases this
theorem wit_left {is : List Nat} {b m e : Nat} (h : m ≤ e) : (wit is b e).filter (· < m) = wit is b m := by
  unfold wit
  rw [List.filter_filter]
  congr 1
  funext i
  rw [Bool.eq_iff_iff]
  simp
  omega
theorem wit_right {is : List Nat} {b m e : Nat} (h : b ≤ m) : (wit is b e).filter (m ≤ ·) = wit is m e := by
  unfold wit
  rw [List.filter_filter]
  congr 1
  funext i
  rw [Bool.eq_iff_iff]
  simp
  omega
/-- H6: their hashes are what layer 3 says of many -/
theorem othF_hash (l : List T) (is : List Nat) : ∀ (f b n : Nat), 1 ≤ n → n ≤ f → b + n ≤ l.length → (othF f b n is).map (fun s => root (seg l s.1 s.2)) = many (wit is b (b + n)) b (seg l b (b + n))
  | 0, b, n, h1, h, _ => by omega
  | f + 1, b, n, h1, h, hl => by
    have sl : (seg l b (b + n)).length = n := by rw [seg_len hl]; omega
    cases ht : tch is b (b + n) with
    | false => rw [othF_no ht, wit_nil ht, many_none (by omega)]; rfl
    | true =>
      by_cases h2 : n < 2
      · rw [othF_one ht h2, many_one (wit_ne ht) (by omega)]; rfl
      · have s1 := sp_lt (n := n) (by omega)
        have s2 := sp_pos (n := n) (by omega)
        have q1 := seg_take (l := l) (b := b) (n := n) (k := sp n) (by omega)
        have q2 := seg_drop (l := l) (b := b) (n := n) (k := sp n) (by omega)
        have e := othF_hash l is f (b + sp n) (n - sp n) (by omega) (by omega) (by omega)
        rw [show b + sp n + (n - sp n) = b + n by omega] at e
        rw [othF_two ht (by omega), List.map_append, othF_hash l is f b (sp n) (by omega) (by omega) (by omega), e, many_cut (wit_ne ht) (by omega), sl, wit_left (by omega), wit_right (by omega), q1, q2, show b + sp n + (n - sp n) = b + n by omega]
/-- spans that rise from b to e, with the leaves of is between them -/
def Apt : Nat → Nat → List (Nat × Nat) → (Nat → Bool) → Prop
  | b, e, [], p => b ≤ e ∧ ∀ i, b ≤ i → i < e → p i = true
  | b, e, s :: r, p => b ≤ s.1 ∧ s.1 < s.2 ∧ s.2 ≤ e ∧ (∀ i, b ≤ i → i < s.1 → p i = true) ∧ (∀ i, s.1 ≤ i → i < s.2 → p i = false) ∧ Apt s.2 e r p
theorem Apt.append : ∀ {b m e : Nat} {x y : List (Nat × Nat)} {p : Nat → Bool}, Apt b m x p → Apt m e y p → Apt b e (x ++ y) p
  | b, m, e, [], [], p, ⟨h1, h2⟩, ⟨h3, h4⟩ => ⟨by omega, fun i hi he => by
      by_cases h : i < m
      · exact h2 i hi h
      · exact h4 i (by omega) he⟩
  | b, m, e, [], s :: y, p, ⟨h1, h2⟩, ⟨h3, h4, h5, h6, h7, h8⟩ => ⟨by omega, h4, h5, fun i hi he => by
      by_cases h : i < m
      · exact h2 i hi h
      · exact h6 i (by omega) he, h7, h8⟩
  | b, m, e, s :: x, y, p, ⟨h3, h4, h5, h6, h7, h8⟩, hy => by
    have hm : m ≤ e := by
      cases y with
      | nil => exact hy.1
      | cons t y => have := hy.1; have := hy.2.1; have := hy.2.2.1; omega
    exact ⟨h3, h4, by omega, h6, h7, h8.append hy⟩
theorem othF_apart (is : List Nat) : ∀ (f b n : Nat), 1 ≤ n → n ≤ f → Apt b (b + n) (othF f b n is) (fun i => decide (i ∈ is))
  | 0, b, n, h1, h => by omega
  | f + 1, b, n, h1, h => by
    cases ht : tch is b (b + n) with
    | false =>
      rw [othF_no ht]
      refine ⟨Nat.le_refl _, by show b < b + n; omega, Nat.le_refl _, fun i hi he => by omega, fun i hi he => decide_eq_false fun hm => ?_, Nat.le_refl _, fun i hi he => by omega⟩
      have := tch_mem.2 ⟨i, hm, hi, he⟩
      rw [ht] at this; cases this
    | true =>
      by_cases h2 : n < 2
      · rw [othF_one ht h2]
        obtain ⟨i, hi, h3, h4⟩ := tch_mem.1 ht
        exact ⟨by omega, fun j hj he => decide_eq_true (by rw [show j = i by omega]; exact hi)⟩
      · have s1 := sp_lt (n := n) (by omega)
        have s2 := sp_pos (n := n) (by omega)
        have e := othF_apart is f (b + sp n) (n - sp n) (by omega) (by omega)
        rw [show b + sp n + (n - sp n) = b + n by omega] at e
        rw [othF_two ht (by omega)]
        exact (othF_apart is f b (sp n) (by omega) (by omega)).append e
/-- H4: likewise of a run [x, y) -/
def runF : Nat → Nat → Nat → Nat → Nat → List (Nat × Nat)
  | 0, _, _, _, _ => []
  | f + 1, b, n, x, y => if b + n ≤ x ∨ y ≤ b then [(b, b + n)] else if x ≤ b ∧ b + n ≤ y then [] else runF f b (sp n) x y ++ runF f (b + sp n) (n - sp n) x y
theorem runF_apart (x y : Nat) : ∀ (f b n : Nat), 1 ≤ n → n ≤ f → x < y → Apt b (b + n) (runF f b n x y) (fun i => decide (x ≤ i ∧ i < y))
  | 0, b, n, h1, h, _ => by omega
  | f + 1, b, n, h1, h, hxy => by
    rw [runF]
    by_cases h2 : b + n ≤ x ∨ y ≤ b
    · rw [if_pos h2]
      exact ⟨Nat.le_refl _, by show b < b + n; omega, Nat.le_refl _, fun i hi he => by omega, fun i hi he => decide_eq_false (by omega), Nat.le_refl _, fun i hi he => by omega⟩
    · rw [if_neg h2]
      by_cases h3 : x ≤ b ∧ b + n ≤ y
      · rw [if_pos h3]
        exact ⟨by omega, fun i hi he => decide_eq_true (by omega)⟩
      · rw [if_neg h3]
        have s1 := sp_lt (n := n) (by omega)
        have s2 := sp_pos (n := n) (by omega)
        have e := runF_apart x y f (b + sp n) (n - sp n) (by omega) (by omega) hxy
        rw [show b + sp n + (n - sp n) = b + n by omega] at e
        exact (runF_apart x y f b (sp n) (by omega) (by omega) hxy).append e
end Tree
end Go.Proofs.YtblmaokonhdjaaaGreatDoor
