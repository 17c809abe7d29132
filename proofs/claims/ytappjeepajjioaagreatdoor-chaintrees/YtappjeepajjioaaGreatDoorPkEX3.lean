import Derived.Test.YtappjeepajjioaaGreatDoorPkI1
/- which proofs begin with their first hash: those from a size that is no power of two -/
namespace Go.Proofs.YtappjeepajjioaaGreatDoor
namespace Tree
theorem St_zero : ∀ (f p l : Nat), p ≤ f → ((St p l).1 = 0 ↔ ∃ j, p + 1 = 2 ^ j)
  | f, p, l, hf => by
    by_cases h : p % 2 = 1
    · match f, hf with
      | 0, hf => omega
      | f + 1, hf =>
      rw [St_odd _ h, St_zero f (p / 2) (l / 2) (by omega)]
      constructor
      · rintro ⟨j, hj⟩
        exact ⟨j + 1, by rw [Nat.pow_succ]; omega⟩
      · rintro ⟨j, hj⟩
        match j, hj with
        | 0, hj => simp at hj; omega
        | j + 1, hj => exact ⟨j, by rw [Nat.pow_succ] at hj; omega⟩
    · rw [St_even _ h]
      constructor
      · intro e
        have e : p = 0 := e
        exact ⟨0, by simp; omega⟩
      · rintro ⟨j, hj⟩
        show p = 0
        match j, hj with
        | 0, hj => simp at hj; omega
        | j + 1, hj => rw [Nat.pow_succ] at hj; omega
/-- a size is a power of two: told by what it is made of -/
def pw (m : Nat) : Bool := [1, 2, 4, 8, 16, 32, 64, 128, 256, 512, 1024, 2048, 4096].contains m
theorem pw_iff {m : Nat} (h : m ≤ 4096) : pw m = true ↔ ∃ j, m = 2 ^ j := by
  constructor
  · intro h1
    have h2 : m ∈ [1, 2, 4, 8, 16, 32, 64, 128, 256, 512, 1024, 2048, 4096] := by simpa [pw] using h1
    simp only [List.mem_cons, List.not_mem_nil, or_false] at h2
    rcases h2 with rfl | rfl | rfl | rfl | rfl | rfl | rfl | rfl | rfl | rfl | rfl | rfl | rfl
    · exact ⟨0, rfl⟩
    · exact ⟨1, rfl⟩
    · exact ⟨2, rfl⟩
    · exact ⟨3, rfl⟩
    · exact ⟨4, rfl⟩
    · exact ⟨5, rfl⟩
    · exact ⟨6, rfl⟩
    · exact ⟨7, rfl⟩
    · exact ⟨8, rfl⟩
    · exact ⟨9, rfl⟩
    · exact ⟨10, rfl⟩
    · exact ⟨11, rfl⟩
    · exact ⟨12, rfl⟩
  · rintro ⟨j, rfl⟩
    have hj : j < 13 := by
      refine Nat.lt_of_not_le fun hle => ?_
      have := Nat.pow_le_pow_right (n := 2) (by decide) hle
      omega
    have : ∀ j : Fin 13, pw (2 ^ j.val) = true := by decide
    exact this ⟨j, hj⟩
theorem fl_pw {m n : Nat} (h1 : 1 ≤ m) (h2 : m < n) (h3 : m ≤ 4096) : fl m n true = !pw m := by
  have h := (PD_SU n m n (Nat.le_refl _) h1 h2).2
  unfold fl
  rw [h]
  have hz := St_zero (m - 1) (m - 1) (n - 1) (Nat.le_refl _)
  rw [show m - 1 + 1 = m by omega, ← pw_iff h3] at hz
  by_cases hp : pw m = true
  · rw [hp]
    have := hz.2 hp
    simp [this]
  · have hp' : pw m = false := by simpa using hp
    have : ¬ (St (m - 1) (n - 1)).1 = 0 := fun e => hp (hz.1 e)
    simp [hp', this]
end Tree
end Go.Proofs.YtappjeepajjioaaGreatDoor

/- THE PLAIN MATHEMATICS OF LAYER 6: the document's steps of a walk. -/
namespace Go.Proofs.YtappjeepajjioaaGreatDoor
namespace Tree
/-- the steps from a subtree (b, n) down to a span: what stands beside (begin, end), and does it stand left? -/
def dn : Nat → Nat → Nat → Nat → Nat → List (Nat × Nat × Bool)
  | 0, _, _, _, _ => []
  | f + 1, b, n, fb, fe => if (b = fb ∧ b + n = fe) ∨ n < 2 then [] else if b + sp n ≤ fb then (b, b + sp n, true) :: dn f (b + sp n) (n - sp n) fb fe else (b + sp n, b + n, false) :: dn f b (sp n) fb fe
theorem dn_stop {f b n fb fe : Nat} (h : (b = fb ∧ b + n = fe) ∨ n < 2) : dn f b n fb fe = [] := by
  cases f
  · rfl
  · rw [dn, if_pos h]
theorem dn_right {f b n fb fe : Nat} (h : ¬ ((b = fb ∧ b + n = fe) ∨ n < 2)) (h2 : b + sp n ≤ fb) : dn (f + 1) b n fb fe = (b, b + sp n, true) :: dn f (b + sp n) (n - sp n) fb fe := by rw [dn, if_neg h, if_pos h2]
theorem dn_left {f b n fb fe : Nat} (h : ¬ ((b = fb ∧ b + n = fe) ∨ n < 2)) (h2 : ¬ b + sp n ≤ fb) : dn (f + 1) b n fb fe = (b + sp n, b + n, false) :: dn f b (sp n) fb fe := by rw [dn, if_neg h, if_neg h2]
theorem dn_D : ∀ (f b n i : Nat), n ≤ f → b ≤ i → i < b + n → (dn f b n i (i + 1)).map (·.2.2) = (D n (i - b)).reverse
  | 0, b, n, i, h, _, h2 => by omega
  | f + 1, b, n, i, h, hb, h2 => by
    by_cases h3 : n < 2
    · rw [dn_stop (.inr h3), D_one _ h3]; rfl
    · have s1 := sp_lt (n := n) (by omega)
      have s2 := sp_pos (n := n) (by omega)
      have hs : ¬ ((b = i ∧ b + n = i + 1) ∨ n < 2) := by omega
      by_cases hi : b + sp n ≤ i
      · rw [dn_right hs hi, D_right (by omega) (by omega), List.reverse_append, List.map_cons, dn_D f (b + sp n) (n - sp n) i (by omega) hi (by omega), show i - b - sp n = i - (b + sp n) by omega]; rfl
      · rw [dn_left hs hi, D_left (by omega) (by omega), List.reverse_append, List.map_cons, dn_D f b (sp n) i (by omega) hb (by omega)]; rfl
theorem pow_mono {a b : Nat} (h : a ≤ b) : 2 ^ a ∣ 2 ^ b := Nat.pow_dvd_pow 2 h
/-- sp n is a power of two, n at most its double -/
theorem sp_pow {n : Nat} (h : 2 ≤ n) : ∃ a, sp n = 2 ^ a ∧ 2 ^ a < n ∧ n ≤ 2 ^ (a + 1) := by
  refine ⟨(n - 1).log2, sp_eq h, ?_, ?_⟩
  · rw [← sp_eq h]; exact sp_lt h
  · have := Nat.lt_log2_self (n := n - 1)
    omega
theorem dn_PD (l : List T) : ∀ (f b n k j : Nat), n ≤ f → 1 ≤ k → k < n → (∃ J, n ≤ 2 ^ J ∧ 2 ^ J ∣ b) → 2 ^ j ∣ b + k → ¬ 2 ^ (j + 1) ∣ b + k → b + n ≤ l.length →
    (dn f b n (b + k - 2 ^ j) (b + k)).map (·.2.2) = (PD k n).reverse ∧ (dn f b n (b + k - 2 ^ j) (b + k)).map (fun s => root (seg l s.1 s.2.1)) = (own f k (seg l b (b + n))).reverse ∧ root (seg l (b + k - 2 ^ j) (b + k)) = stt f k (seg l b (b + n))
  | 0, b, n, k, j, h, h1, h2, _, _, _, _ => by omega
  | f + 1, b, n, k, j, h, h1, h2, ⟨J, hJ, hd⟩, hj, hj2, hl => by
    obtain ⟨a, ha, ha1, ha2⟩ := sp_pow (n := n) (by omega)
    have sl : (seg l b (b + n)).length = n := by rw [seg_len hl]; omega
    have q1 := seg_take (l := l) (b := b) (n := n) (k := sp n) (by omega)
    have q2 := seg_drop (l := l) (b := b) (n := n) (k := sp n) (by omega)
    have haJ : a + 1 ≤ J := by
      rcases Nat.lt_or_ge a J with e | e
      · exact e
      · have := Nat.pow_le_pow_right (n := 2) (by omega) e; omega
    have d1 : 2 ^ (a + 1) ∣ b := Nat.dvd_trans (pow_mono haJ) hd
    have d0 : 2 ^ a ∣ b := Nat.dvd_trans (pow_mono (by omega)) d1
    have hs : ¬ ((b = b + k - 2 ^ j ∧ b + n = b + k) ∨ n < 2) := by omega
    have ho : ¬ (n < 2 ∨ k = n) := by omega
    have pj := Nat.two_pow_pos j
    rw [own, stt, sl, if_neg ho, if_neg ho]
    rcases Nat.lt_trichotomy k (sp n) with hk | hk | hk
    · obtain ⟨r1, r2, r3⟩ := dn_PD l f b (sp n) k j (by omega) h1 hk ⟨J, by omega, hd⟩ hj hj2 (by omega)
      rw [dn_left hs (by omega), List.map_cons, List.map_cons, r1, r2, r3, PD_left h1 h2 (by omega), if_pos (by omega), if_pos (by omega), q1, q2, List.reverse_append, List.reverse_append]
      refine ⟨rfl, ?_, rfl⟩
      show root (seg l (b + sp n) (b + n)) :: _ = _
      rw [show b + sp n + (n - sp n) = b + n by omega]; rfl
    · have e : j = a := by
        have k1 : 2 ^ a ∣ b + k := by rw [hk, ha]; exact Nat.dvd_add d0 (Nat.dvd_refl _)
        have k2 : ¬ 2 ^ (a + 1) ∣ b + k := fun e => by
          have := (Nat.dvd_add_right d1).1 e
          rw [hk, ha] at this
          have := Nat.le_of_dvd (Nat.two_pow_pos a) this
          rw [Nat.pow_succ] at this; have := Nat.two_pow_pos a; omega
        rcases Nat.lt_trichotomy j a with e | e | e
        · exact absurd (Nat.dvd_trans (pow_mono e) k1) hj2
        · exact e
        · exact absurd (Nat.dvd_trans (pow_mono e) hj) k2
      subst e
      have e1 : b + k - 2 ^ j = b := by omega
      have e2 : PD k (sp n) = [] := by rw [hk, PD_same]
      have e3 : own f k (seg l b (b + sp n)) = [] ∧ stt f k (seg l b (b + sp n)) = root (seg l b (b + sp n)) := by
        have sl2 : (seg l b (b + sp n)).length = sp n := by rw [seg_len (by omega)]; omega
        cases f with
        | zero => exact ⟨rfl, rfl⟩
        | succ f =>
          rw [own, stt, sl2, if_pos (.inr hk), if_pos (.inr hk)]
          exact ⟨rfl, rfl⟩
      rw [dn_left hs (by omega), e1, dn_stop (.inl ⟨rfl, by rw [hk]⟩), PD_left h1 h2 (by omega), e2, if_pos (by omega), if_pos (by omega), q1, q2, e3.1, e3.2]
      refine ⟨rfl, ?_, by rw [hk]⟩
      show [root (seg l (b + sp n) (b + n))] = _
      rw [show b + sp n + (n - sp n) = b + n by omega]; rfl
    · have d2 : 2 ^ a ∣ b + sp n := by rw [ha]; exact Nat.dvd_add d0 (Nat.dvd_refl _)
      have e0 : b + k = b + sp n + (k - sp n) := by omega
      have hlt : k - sp n < 2 ^ a := by rw [Nat.pow_succ] at ha2; omega
      have hja : j < a := by
        rcases Nat.lt_or_ge j a with e | e
        · exact e
        · have := Nat.dvd_trans (pow_mono e) hj
          rw [e0] at this
          have := Nat.le_of_dvd (by omega) ((Nat.dvd_add_right d2).1 this)
          omega
      have hle : 2 ^ j ≤ k - sp n := by
        rw [e0] at hj
        exact Nat.le_of_dvd (by omega) ((Nat.dvd_add_right (Nat.dvd_trans (pow_mono (by omega)) d2)).1 hj)
      obtain ⟨r1, r2, r3⟩ := dn_PD l f (b + sp n) (n - sp n) (k - sp n) j (by omega) (by omega) (by omega) ⟨a, by rw [Nat.pow_succ] at ha2; omega, d2⟩ (by rw [← e0]; exact hj) (by rw [← e0]; exact hj2) (by omega)
      rw [← e0] at r1 r2 r3
      rw [dn_right hs (by omega), List.map_cons, List.map_cons, r1, r2, r3, PD_right h1 h2 (by omega), if_neg (by omega), if_neg (by omega), q1, q2, List.reverse_append, List.reverse_append]
      exact ⟨rfl, rfl, rfl⟩
/-- the hash that a walk has come to -/
def stw : T → List Bool → List T → T
  | r, d :: ds, h :: hs => stw (Sha.sha (txt d r h)) ds hs
  | r, _, _ => r
theorem txs_step : ∀ (r : T) (ds : List Bool) (hs : List T) (d : Bool) (h : T), ds.length = hs.length → txs r (ds ++ [d]) (hs ++ [h]) = txs r ds hs ++ [txt d (stw r ds hs) h] ∧ stw r (ds ++ [d]) (hs ++ [h]) = Sha.sha (txt d (stw r ds hs) h)
  | _, [], [], _, _, _ => ⟨rfl, rfl⟩
  | r, x :: ds, y :: hs, d, h, e => by
    obtain ⟨e1, e2⟩ := txs_step (Sha.sha (txt x r y)) ds hs d h (by simpa using e)
    refine ⟨?_, e2⟩
    show txt x r y :: txs _ (ds ++ [d]) (hs ++ [h]) = _
    rw [e1]; rfl
end Tree
end Go.Proofs.YtappjeepajjioaaGreatDoor

/- THE PLAIN MATHEMATICS OF LAYER 8: spans of paths and proofs; nothing of the program. -/
namespace Go.Proofs.YtappjeepajjioaaGreatDoor
namespace Tree
/-- the greatest power of two below n is the only one -/
theorem sp_unique {n j : Nat} (h1 : 2 ^ j < n) (h2 : n ≤ 2 ^ (j + 1)) : sp n = 2 ^ j := by
  have p := Nat.two_pow_pos j
  obtain ⟨a, ha, a1, a2⟩ := sp_pow (n := n) (by omega)
  rw [ha]
  rcases Nat.lt_trichotomy a j with e | e | e
  · have := Nat.pow_le_pow_right (n := 2) (by omega) (show a + 1 ≤ j from e); omega
  · rw [e]
  · have := Nat.pow_le_pow_right (n := 2) (by omega) (show j + 1 ≤ a from e); omega
theorem root_seg_two {l : List T} {b n : Nat} (h : 2 ≤ n) (hl : b + n ≤ l.length) : root (seg l b (b + n)) = nd (root (seg l b (b + sp n))) (root (seg l (b + sp n) (b + n))) := by
  have s1 := sp_lt (n := n) h
  have sl : (seg l b (b + n)).length = n := by rw [seg_len hl]; omega
  rw [root_cut (l := seg l b (b + n)) (by omega), sl, seg_take (by omega), seg_drop (by omega), show b + sp n + (n - sp n) = b + n by omega]
/-- H2: what lies beside the way to leaf i, from below -/
def pthF : Nat → Nat → Nat → Nat → List (Nat × Nat)
  | 0, _, _, _ => []
  | f + 1, b, n, i => if n < 2 then [] else if i < b + sp n then pthF f b (sp n) i ++ [(b + sp n, b + n)] else pthF f (b + sp n) (n - sp n) i ++ [(b, b + sp n)]
theorem pthF_small {f b n i : Nat} (h : n < 2) : pthF f b n i = [] := by
  cases f
  · rfl
  · rw [pthF, if_pos h]
theorem pthF_left {f b n i : Nat} (h : 2 ≤ n) (hi : i < b + sp n) : pthF (f + 1) b n i = pthF f b (sp n) i ++ [(b + sp n, b + n)] := by rw [pthF, if_neg (by omega), if_pos hi]
theorem pthF_right {f b n i : Nat} (h : 2 ≤ n) (hi : ¬ i < b + sp n) : pthF (f + 1) b n i = pthF f (b + sp n) (n - sp n) i ++ [(b, b + sp n)] := by rw [pthF, if_neg (by omega), if_neg hi]
theorem pthF_len : ∀ (f b n i : Nat), n ≤ f → b ≤ i → (pthF f b n i).length = (D n (i - b)).length
  | 0, b, n, i, h, _ => by rw [D_one _ (by omega)]; rfl
  | f + 1, b, n, i, h, hb => by
    by_cases h2 : n < 2
    · rw [pthF_small h2, D_one _ h2]; rfl
    · have s1 := sp_lt (n := n) (by omega)
      have s2 := sp_pos (n := n) (by omega)
      by_cases hi : i < b + sp n
      · rw [pthF_left (by omega) hi, D_left (by omega) (by omega), List.length_append, List.length_append, pthF_len f b (sp n) i (by omega) hb]; rfl
      · rw [pthF_right (by omega) hi, D_right (by omega) (by omega), List.length_append, List.length_append, pthF_len f (b + sp n) (n - sp n) i (by omega) (by omega), show i - b - sp n = i - (b + sp n) by omega]; rfl
/-- H6: their hashes are the path -/
theorem pthF_hash (l : List T) : ∀ (f b n i : Nat), n ≤ f → b ≤ i → i < b + n → b + n ≤ l.length → (pthF f b n i).map (fun s => root (seg l s.1 s.2)) = path (i - b) (seg l b (b + n))
  | 0, b, n, i, h, _, h2, _ => by omega
  | f + 1, b, n, i, h, hb, h2, hl => by
    have sl : (seg l b (b + n)).length = n := by rw [seg_len hl]; omega
    by_cases h3 : n < 2
    · rw [pthF_small h3, path_small (by omega)]; rfl
    · have s1 := sp_lt (n := n) (by omega)
      have s2 := sp_pos (n := n) (by omega)
      have q1 := seg_take (l := l) (b := b) (n := n) (k := sp n) (by omega)
      have q2 := seg_drop (l := l) (b := b) (n := n) (k := sp n) (by omega)
      rw [path_cut (by omega), sl, q1, q2, show b + sp n + (n - sp n) = b + n by omega]
      by_cases hi : i < b + sp n
      · rw [pthF_left (by omega) hi, if_pos (by omega), List.map_append, pthF_hash l f b (sp n) i (by omega) hb hi (by omega)]; rfl
      · have e := pthF_hash l f (b + sp n) (n - sp n) i (by omega) (by omega) (by omega) (by omega)
        rw [show b + sp n + (n - sp n) = b + n by omega] at e
        rw [pthF_right (by omega) hi, if_neg (by omega), List.map_append, e, show i - b - sp n = i - (b + sp n) by omega]; rfl
/-- H3: of a proof from size m -/
def prfF : Nat → Nat → Nat → Nat → List (Nat × Nat)
  | 0, _, _, _ => []
  | f + 1, b, n, m => if b + n = m then (if b = 0 then [] else [(b, b + n)]) else if m ≤ b + sp n then prfF f b (sp n) m ++ [(b + sp n, b + n)] else prfF f (b + sp n) (n - sp n) m ++ [(b, b + sp n)]
theorem prfF_hash (l : List T) : ∀ (f b n m : Nat), n ≤ f → b < m → m ≤ b + n → b + n ≤ l.length → (prfF f b n m).map (fun s => root (seg l s.1 s.2)) = proof (m - b) (seg l b (b + n)) (decide (b = 0))
  | 0, b, n, m, h, _, h2, _ => by omega
  | f + 1, b, n, m, h, hb, h2, hl => by
    have sl : (seg l b (b + n)).length = n := by rw [seg_len hl]; omega
    rw [prfF]
    by_cases hm : b + n = m
    · rw [if_pos hm]
      obtain rfl : m = b + n := hm.symm
      rw [show b + n - b = (seg l b (b + n)).length by rw [sl]; omega]
      by_cases h0 : b = 0
      · rw [if_pos h0, decide_eq_true h0, proof_whole (by omega)]; rfl
      · rw [if_neg h0, decide_eq_false h0, proof_part (by omega)]; rfl
    · rw [if_neg hm]
      have s1 := sp_lt (n := n) (by omega)
      have s2 := sp_pos (n := n) (by omega)
      have q1 := seg_take (l := l) (b := b) (n := n) (k := sp n) (by omega)
      have q2 := seg_drop (l := l) (b := b) (n := n) (k := sp n) (by omega)
      by_cases hi : m ≤ b + sp n
      · rw [if_pos hi, List.map_append, prfF_hash l f b (sp n) m (by omega) hb hi (by omega), proof_left (l := seg l b (b + n)) (by omega) (by omega) (by rw [sl]; omega), sl, q1, q2, show b + sp n + (n - sp n) = b + n by omega]; rfl
      · have e := prfF_hash l f (b + sp n) (n - sp n) m (by omega) (by omega) (by omega) (by omega)
        rw [show b + sp n + (n - sp n) = b + n by omega, decide_eq_false (by omega), show m - (b + sp n) = m - b - sp n by omega] at e
        rw [if_neg hi, List.map_append, e, proof_right (l := seg l b (b + n)) (by omega) (by omega) (by rw [sl]; omega), sl, q1, q2, show b + sp n + (n - sp n) = b + n by omega]; rfl
theorem prfF_len : ∀ (f b n m : Nat), n ≤ f → b < m → m ≤ b + n → (prfF f b n m).length = pl (m - b) n (decide (b = 0))
  | 0, b, n, m, h, _, h2 => by omega
  | f + 1, b, n, m, h, hb, h2 => by
    rw [prfF]
    by_cases hm : b + n = m
    · rw [if_pos hm, show m - b = n by omega, pl_same]
      by_cases h0 : b = 0
      · rw [if_pos h0, decide_eq_true h0]; rfl
      · rw [if_neg h0, decide_eq_false h0]; rfl
    · rw [if_neg hm]
      have s1 := sp_lt (n := n) (by omega)
      have s2 := sp_pos (n := n) (by omega)
      by_cases hi : m ≤ b + sp n
      · rw [if_pos hi, List.length_append, prfF_len f b (sp n) m (by omega) hb hi, pl_left (m := m - b) (n := n) (by omega) (by omega) (by omega), List.length_singleton]; omega
      · have e := prfF_len f (b + sp n) (n - sp n) m (by omega) (by omega) (by omega)
        rw [decide_eq_false (by omega), show m - (b + sp n) = m - b - sp n by omega] at e
        rw [if_neg hi, List.length_append, e, pl_right (m := m - b) (n := n) (by omega) (by omega) (by omega), List.length_singleton]; omega
end Tree
end Go.Proofs.YtappjeepajjioaaGreatDoor

/- THE PLAIN MATHEMATICS OF LAYER 8: spans that lie beside some leaves, beside a run of them; nothing of the program. -/
namespace Go.Proofs.YtappjeepajjioaaGreatDoor
namespace Tree
/-- has [b, e) one of some leaves? -/
def tch (is : List Nat) (b e : Nat) : Bool := is.any fun i => decide (b ≤ i ∧ i < e)
theorem tch_mem {is : List Nat} {b e : Nat} : tch is b e = true ↔ ∃ i ∈ is, b ≤ i ∧ i < e := by
  unfold tch; rw [List.any_eq_true]; simp
theorem tch_cut {is : List Nat} {b m e : Nat} (h1 : b ≤ m) (h2 : m ≤ e) : tch is b e = (tch is b m || tch is m e) := by
  rw [Bool.eq_iff_iff, Bool.or_eq_true, tch_mem, tch_mem, tch_mem]
  constructor
  · rintro ⟨i, hi, h3, h4⟩
    by_cases h : i < m
    · exact .inl ⟨i, hi, h3, h⟩
    · exact .inr ⟨i, hi, by omega, h4⟩
  · rintro (⟨i, hi, h3, h4⟩ | ⟨i, hi, h3, h4⟩)
    · exact ⟨i, hi, h3, by omega⟩
    · exact ⟨i, hi, by omega, h4⟩
/-- H4: from the left, the subtrees that have none of these leaves, as great as may be -/
def othF : Nat → Nat → Nat → List Nat → List (Nat × Nat)
  | 0, _, _, _ => []
  | f + 1, b, n, is => if tch is b (b + n) = false then [(b, b + n)] else if n < 2 then [] else othF f b (sp n) is ++ othF f (b + sp n) (n - sp n) is
theorem othF_no {f b n : Nat} {is : List Nat} (h : tch is b (b + n) = false) : othF (f + 1) b n is = [(b, b + n)] := by rw [othF, if_pos h]
theorem othF_one {f b n : Nat} {is : List Nat} (h : tch is b (b + n) = true) (h2 : n < 2) : othF (f + 1) b n is = [] := by rw [othF, if_neg (by rw [h]; simp), if_pos h2]
theorem othF_two {f b n : Nat} {is : List Nat} (h : tch is b (b + n) = true) (h2 : 2 ≤ n) : othF (f + 1) b n is = othF f b (sp n) is ++ othF f (b + sp n) (n - sp n) is := by rw [othF, if_neg (by rw [h]; simp), if_neg (by omega)]
/-- the leaves within a span -/
def wit (is : List Nat) (b e : Nat) : List Nat := is.filter fun i => decide (b ≤ i ∧ i < e)
theorem wit_nil {is : List Nat} {b e : Nat} (h : tch is b e = false) : wit is b e = [] := by
  unfold wit
  rw [List.filter_eq_nil_iff]
  intro i hi hc
  rw [decide_eq_true_iff] at hc
  have := tch_mem.2 ⟨i, hi, hc⟩
  rw [h] at this; cases this
theorem wit_ne {is : List Nat} {b e : Nat} (h : tch is b e = true) : wit is b e ≠ [] := by
  obtain ⟨i, hi, hc⟩ := tch_mem.1 h
  intro e'
  have : i ∈ wit is b e := List.mem_filter.2 ⟨hi, by simpa using hc⟩
  rw [e'] at this; cases this
theorem wit_left {is : List Nat} {b m e : Nat} (h : m ≤ e) : (wit is b e).filter (· < m) = wit is b m := by
  unfold wit
  rw [List.filter_filter]
  congr 1
  funext i
  rw [Bool.eq_iff_iff]
  simp
  omega
theorem wit_right {is : List Nat} {b m e : Nat} (h : b ≤ m) : (wit is b e).filter (m ≤ ·) = wit is m e := by
  unfold wit
  rw [List.filter_filter]
  congr 1
  funext i
  rw [Bool.eq_iff_iff]
  simp
  omega
/-- H6: their hashes are what layer 3 says of many -/
theorem othF_hash (l : List T) (is : List Nat) : ∀ (f b n : Nat), 1 ≤ n → n ≤ f → b + n ≤ l.length → (othF f b n is).map (fun s => root (seg l s.1 s.2)) = many (wit is b (b + n)) b (seg l b (b + n))
  | 0, b, n, h1, h, _ => by omega
  | f + 1, b, n, h1, h, hl => by
    have sl : (seg l b (b + n)).length = n := by rw [seg_len hl]; omega
    cases ht : tch is b (b + n) with
    | false => rw [othF_no ht, wit_nil ht, many_none (by omega)]; rfl
    | true =>
      by_cases h2 : n < 2
      · rw [othF_one ht h2, many_one (wit_ne ht) (by omega)]; rfl
      · have s1 := sp_lt (n := n) (by omega)
        have s2 := sp_pos (n := n) (by omega)
        have q1 := seg_take (l := l) (b := b) (n := n) (k := sp n) (by omega)
        have q2 := seg_drop (l := l) (b := b) (n := n) (k := sp n) (by omega)
        have e := othF_hash l is f (b + sp n) (n - sp n) (by omega) (by omega) (by omega)
        rw [show b + sp n + (n - sp n) = b + n by omega] at e
        rw [othF_two ht (by omega), List.map_append, othF_hash l is f b (sp n) (by omega) (by omega) (by omega), e, many_cut (wit_ne ht) (by omega), sl, wit_left (by omega), wit_right (by omega), q1, q2, show b + sp n + (n - sp n) = b + n by omega]
/-- spans that rise from b to e, with the leaves of is between them -/
def Apt : Nat → Nat → List (Nat × Nat) → (Nat → Bool) → Prop
  | b, e, [], p => b ≤ e ∧ ∀ i, b ≤ i → i < e → p i = true
  | b, e, s :: r, p => b ≤ s.1 ∧ s.1 < s.2 ∧ s.2 ≤ e ∧ (∀ i, b ≤ i → i < s.1 → p i = true) ∧ (∀ i, s.1 ≤ i → i < s.2 → p i = false) ∧ Apt s.2 e r p
theorem Apt.append : ∀ {b m e : Nat} {x y : List (Nat × Nat)} {p : Nat → Bool}, Apt b m x p → Apt m e y p → Apt b e (x ++ y) p
  | b, m, e, [], [], p, ⟨h1, h2⟩, ⟨h3, h4⟩ => ⟨by omega, fun i hi he => by
      by_cases h : i < m
      · exact h2 i hi h
      · exact h4 i (by omega) he⟩
  | b, m, e, [], s :: y, p, ⟨h1, h2⟩, ⟨h3, h4, h5, h6, h7, h8⟩ => ⟨by omega, h4, h5, fun i hi he => by
      by_cases h : i < m
      · exact h2 i hi h
      · exact h6 i (by omega) he, h7, h8⟩
  | b, m, e, s :: x, y, p, ⟨h3, h4, h5, h6, h7, h8⟩, hy => by
    have hm : m ≤ e := by
      cases y with
      | nil => exact hy.1
      | cons t y => have := hy.1; have := hy.2.1; have := hy.2.2.1; omega
    exact ⟨h3, h4, by omega, h6, h7, h8.append hy⟩
theorem othF_apart (is : List Nat) : ∀ (f b n : Nat), 1 ≤ n → n ≤ f → Apt b (b + n) (othF f b n is) (fun i => decide (i ∈ is))
  | 0, b, n, h1, h => by omega
  | f + 1, b, n, h1, h => by
    cases ht : tch is b (b + n) with
    | false =>
      rw [othF_no ht]
      refine ⟨Nat.le_refl _, by show b < b + n; omega, Nat.le_refl _, fun i hi he => by omega, fun i hi he => decide_eq_false fun hm => ?_, Nat.le_refl _, fun i hi he => by omega⟩
      have := tch_mem.2 ⟨i, hm, hi, he⟩
      rw [ht] at this; cases this
    | true =>
      by_cases h2 : n < 2
      · rw [othF_one ht h2]
        obtain ⟨i, hi, h3, h4⟩ := tch_mem.1 ht
        exact ⟨by omega, fun j hj he => decide_eq_true (by rw [show j = i by omega]; exact hi)⟩
      · have s1 := sp_lt (n := n) (by omega)
        have s2 := sp_pos (n := n) (by omega)
        have e := othF_apart is f (b + sp n) (n - sp n) (by omega) (by omega)
        rw [show b + sp n + (n - sp n) = b + n by omega] at e
        rw [othF_two ht (by omega)]
        exact (othF_apart is f b (sp n) (by omega) (by omega)).append e
/-- H4: likewise of a run [x, y) -/
def runF : Nat → Nat → Nat → Nat → Nat → List (Nat × Nat)
  | 0, _, _, _, _ => []
  | f + 1, b, n, x, y => if b + n ≤ x ∨ y ≤ b then [(b, b + n)] else if x ≤ b ∧ b + n ≤ y then [] else runF f b (sp n) x y ++ runF f (b + sp n) (n - sp n) x y
theorem runF_apart (x y : Nat) : ∀ (f b n : Nat), 1 ≤ n → n ≤ f → x < y → Apt b (b + n) (runF f b n x y) (fun i => decide (x ≤ i ∧ i < y))
  | 0, b, n, h1, h, _ => by omega
  | f + 1, b, n, h1, h, hxy => by
    rw [runF]
    by_cases h2 : b + n ≤ x ∨ y ≤ b
    · rw [if_pos h2]
      exact ⟨Nat.le_refl _, by show b < b + n; omega, Nat.le_refl _, fun i hi he => by omega, fun i hi he => decide_eq_false (by omega), Nat.le_refl _, fun i hi he => by omega⟩
    · rw [if_neg h2]
      by_cases h3 : x ≤ b ∧ b + n ≤ y
      · rw [if_pos h3]
        exact ⟨by omega, fun i hi he => decide_eq_true (by omega)⟩
      · rw [if_neg h3]
        have s1 := sp_lt (n := n) (by omega)
        have s2 := sp_pos (n := n) (by omega)
        have e := runF_apart x y f (b + sp n) (n - sp n) (by omega) (by omega) hxy
        rw [show b + sp n + (n - sp n) = b + n by omega] at e
        exact (runF_apart x y f b (sp n) (by omega) (by omega) hxy).append e
end Tree
end Go.Proofs.YtappjeepajjioaaGreatDoor

/- THE PLAIN MATHEMATICS OF LAYER 8: subtrees, and what can be folded; nothing of the program. -/
namespace Go.Proofs.YtappjeepajjioaaGreatDoor
namespace Tree
/-- H1: is [x, y) a subtree of [b, b + n)? -/
def insF : Nat → Nat → Nat → Nat → Nat → Bool
  | 0, _, _, _, _ => false
  | f + 1, b, n, x, y => if x = b ∧ y = b + n then true else if n < 2 then false else if y ≤ b + sp n then insF f b (sp n) x y else if b + sp n ≤ x then insF f (b + sp n) (n - sp n) x y else false
theorem insF_self {f b n : Nat} : insF (f + 1) b n b (b + n) = true := by rw [insF, if_pos ⟨rfl, rfl⟩]
theorem insF_in : ∀ (f b n x y : Nat), insF f b n x y = true → 1 ≤ n → b ≤ x ∧ x < y ∧ y ≤ b + n
  | 0, _, _, _, _, h, _ => by cases h
  | f + 1, b, n, x, y, h, h1 => by
    rw [insF] at h
    split at h
    · omega
    · split at h
      · cases h
      · have s1 := sp_lt (n := n) (by omega)
        have s2 := sp_pos (n := n) (by omega)
        split at h
        · have := insF_in f b (sp n) x y h (by omega); omega
        · split at h
          · have := insF_in f (b + sp n) (n - sp n) x y h (by omega); omega
          · cases h
/-- the parts of a subtree are subtrees -/
theorem insF_parts : ∀ (f b n x y : Nat), n ≤ f → 1 ≤ n → insF f b n x y = true → 2 ≤ y - x → insF f b n x (x + sp (y - x)) = true ∧ insF f b n (x + sp (y - x)) y = true
  | 0, _, _, _, _, _, _, h, _ => by cases h
  | f + 1, b, n, x, y, hf, h1, h, h2 => by
    have hin := insF_in (f + 1) b n x y h h1
    have t1 := sp_lt (n := y - x) h2
    have t2 := sp_pos (n := y - x) h2
    rw [insF] at h
    by_cases he : x = b ∧ y = b + n
    · obtain ⟨rfl, rfl⟩ := he
      rw [show x + n - x = n by omega] at h2 t1 t2 ⊢
      obtain ⟨f', rfl⟩ : ∃ f', f = f' + 1 := ⟨f - 1, by omega⟩
      constructor
      · rw [insF, if_neg (by omega), if_neg (by omega), if_pos (by omega), insF_self]
      · rw [insF, if_neg (by omega), if_neg (by omega), if_neg (by omega), if_pos (by omega), show x + n = x + sp n + (n - sp n) by omega, insF_self]
    · rw [if_neg he] at h
      split at h
      · cases h
      · have s1 := sp_lt (n := n) (by omega)
        have s2 := sp_pos (n := n) (by omega)
        split at h
        · rename_i hy
          obtain ⟨a1, a2⟩ := insF_parts f b (sp n) x y (by omega) (by omega) h h2
          constructor
          · rw [insF, if_neg (by omega), if_neg (by omega), if_pos (by omega)]; exact a1
          · rw [insF, if_neg (by omega), if_neg (by omega), if_pos (by omega)]; exact a2
        · split at h
          · rename_i hx
            obtain ⟨a1, a2⟩ := insF_parts f (b + sp n) (n - sp n) x y (by omega) (by omega) h h2
            constructor
            · rw [insF, if_neg (by omega), if_neg (by omega), if_neg (by omega), if_pos (by omega)]; exact a1
            · rw [insF, if_neg (by omega), if_neg (by omega), if_neg (by omega), if_pos (by omega)]; exact a2
          · cases h
/-- H5: can [b, b + n) be folded of some spans? -/
def canF : Nat → Nat → Nat → List (Nat × Nat) → Bool
  | 0, _, _, _ => false
  | f + 1, b, n, K => if (b, b + n) ∈ K then true else if n < 2 then false else canF f b (sp n) K && canF f (b + sp n) (n - sp n) K
/-- the hash of the first of known that a span is -/
def hashAt : List (Nat × Nat) → List T → Nat × Nat → T
  | k :: K, h :: H, s => if k = s then h else hashAt K H s
  | _, _, _ => []
def fldF : Nat → Nat → Nat → List (Nat × Nat) → List T → T
  | 0, _, _, _, _ => []
  | f + 1, b, n, K, H => if (b, b + n) ∈ K then hashAt K H (b, b + n) else nd (fldF f b (sp n) K H) (fldF f (b + sp n) (n - sp n) K H)
theorem hashAt_ok (l : List T) : ∀ (K : List (Nat × Nat)) (H : List T) (s : Nat × Nat), H = K.map (fun s => root (seg l s.1 s.2)) → s ∈ K → hashAt K H s = root (seg l s.1 s.2)
  | [], _, s, _, h => by cases h
  | k :: K, [], s, e, _ => by cases e
  | k :: K, h :: H, s, e, hs => by
    have e1 : h = root (seg l k.1 k.2) := (List.cons.inj e).1
    have e2 : H = K.map (fun s => root (seg l s.1 s.2)) := (List.cons.inj e).2
    rw [hashAt]
    by_cases hk : k = s
    · rw [if_pos hk, e1, hk]
    · rw [if_neg hk]
      refine hashAt_ok l K H s e2 ?_
      rcases List.mem_cons.1 hs with e3 | e3
      · exact absurd e3.symm hk
      · exact e3
/-- H6: what can be folded of right hashes is the right hash -/
theorem fld_root (l : List T) (K : List (Nat × Nat)) (H : List T) (hH : H = K.map (fun s => root (seg l s.1 s.2))) : ∀ (f b n : Nat), n ≤ f → 1 ≤ n → b + n ≤ l.length → canF f b n K = true → fldF f b n K H = root (seg l b (b + n))
  | 0, b, n, h, h1, _, _ => by omega
  | f + 1, b, n, h, h1, hl, hc => by
    rw [canF] at hc
    rw [fldF]
    by_cases hk : (b, b + n) ∈ K
    · rw [if_pos hk, hashAt_ok l K H _ hH hk]
    · rw [if_neg hk] at hc ⊢
      split at hc
      · cases hc
      · have s1 := sp_lt (n := n) (by omega)
        have s2 := sp_pos (n := n) (by omega)
        rw [Bool.and_eq_true] at hc
        have e := fld_root l K H hH f (b + sp n) (n - sp n) (by omega) (by omega) (by omega) hc.2
        rw [show b + sp n + (n - sp n) = b + n by omega] at e
        rw [fld_root l K H hH f b (sp n) (by omega) (by omega) (by omega) hc.1, e, ← root_seg_two (by omega) hl]
/-- what can be folded has one of known within it -/
theorem can_within (K : List (Nat × Nat)) : ∀ (f b n : Nat), n ≤ f → 1 ≤ n → canF f b n K = true → ∃ s ∈ K, b ≤ s.1 ∧ s.2 ≤ b + n ∧ s.1 < s.2
  | 0, b, n, h, h1, _ => by omega
  | f + 1, b, n, h, h1, hc => by
    rw [canF] at hc
    by_cases hk : (b, b + n) ∈ K
    · exact ⟨_, hk, Nat.le_refl _, Nat.le_refl _, by show b < b + n; omega⟩
    · rw [if_neg hk] at hc
      split at hc
      · cases hc
      · have s1 := sp_lt (n := n) (by omega)
        have s2 := sp_pos (n := n) (by omega)
        rw [Bool.and_eq_true] at hc
        obtain ⟨s, h3, h4, h5, h6⟩ := can_within K f b (sp n) (by omega) (by omega) hc.1
        exact ⟨s, h3, h4, by omega, h6⟩
theorem can_leaves (K : List (Nat × Nat)) : ∀ (f b n : Nat), n ≤ f → 1 ≤ n → (∀ i, b ≤ i → i < b + n → (i, i + 1) ∈ K) → canF f b n K = true
  | 0, b, n, h, h1, _ => by omega
  | f + 1, b, n, h, h1, hK => by
    rw [canF]
    by_cases hk : (b, b + n) ∈ K
    · rw [if_pos hk]
    · rw [if_neg hk]
      by_cases h2 : n < 2
      · exact absurd (by have := hK b (Nat.le_refl _) (by omega); rwa [show n = 1 by omega]) hk
      · have s1 := sp_lt (n := n) (by omega)
        have s2 := sp_pos (n := n) (by omega)
        rw [if_neg h2, can_leaves K f b (sp n) (by omega) (by omega) fun i hi he => hK i hi (by omega), can_leaves K f (b + sp n) (n - sp n) (by omega) (by omega) fun i hi he => hK i (by omega) (by omega)]
        rfl
theorem can_oth (K : List (Nat × Nat)) (is : List Nat) : ∀ (f b n : Nat), n ≤ f → 1 ≤ n → (∀ s ∈ othF f b n is, s ∈ K) → (∀ i ∈ is, b ≤ i → i < b + n → (i, i + 1) ∈ K) → canF f b n K = true
  | 0, b, n, h, h1, _, _ => by omega
  | f + 1, b, n, h, h1, hK, hi => by
    rw [canF]
    by_cases hk : (b, b + n) ∈ K
    · rw [if_pos hk]
    · rw [if_neg hk]
      cases ht : tch is b (b + n) with
      | false =>
        rw [othF_no ht] at hK
        exact absurd (hK _ (List.mem_singleton.2 rfl)) hk
      | true =>
        by_cases h2 : n < 2
        · obtain ⟨i, h3, h4, h5⟩ := tch_mem.1 ht
          exact absurd (by have := hi i h3 h4 h5; rwa [show i = b by omega, show b + 1 = b + n by omega] at this) hk
        · have s1 := sp_lt (n := n) (by omega)
          have s2 := sp_pos (n := n) (by omega)
          rw [othF_two ht (by omega)] at hK
          rw [if_neg h2, can_oth K is f b (sp n) (by omega) (by omega) (fun s hs => hK s (List.mem_append_left _ hs)) (fun i h3 h4 h5 => hi i h3 h4 (by omega)), can_oth K is f (b + sp n) (n - sp n) (by omega) (by omega) (fun s hs => hK s (List.mem_append_right _ hs)) (fun i h3 h4 h5 => hi i h3 (by omega) (by omega))]
          rfl
theorem can_run (K : List (Nat × Nat)) (x y : Nat) : ∀ (f b n : Nat), n ≤ f → 1 ≤ n → (∀ s ∈ runF f b n x y, s ∈ K) → (∀ i, x ≤ i → i < y → (i, i + 1) ∈ K) → canF f b n K = true
  | 0, b, n, h, h1, _, _ => by omega
  | f + 1, b, n, h, h1, hK, hi => by
    by_cases h3 : b + n ≤ x ∨ y ≤ b
    · rw [runF, if_pos h3] at hK
      rw [canF, if_pos (hK _ (List.mem_singleton.2 rfl))]
    · by_cases h4 : x ≤ b ∧ b + n ≤ y
      · exact can_leaves K (f + 1) b n h h1 fun i h5 h6 => hi i (by omega) (by omega)
      · have s1 := sp_lt (n := n) (by omega)
        have s2 := sp_pos (n := n) (by omega)
        rw [runF, if_neg h3, if_neg h4] at hK
        rw [canF]
        split
        · rfl
        · rw [if_neg (by omega), can_run K x y f b (sp n) (by omega) (by omega) (fun s hs => hK s (List.mem_append_left _ hs)) hi, can_run K x y f (b + sp n) (n - sp n) (by omega) (by omega) (fun s hs => hK s (List.mem_append_right _ hs)) hi]
          rfl
end Tree
end Go.Proofs.YtappjeepajjioaaGreatDoor

/- THE PLAIN MATHEMATICS OF LAYER 13: what is told, and what is folded of it; nothing of the program. -/
namespace Go.Proofs.YtappjeepajjioaaGreatDoor
namespace Chn
theorem canF_fuel (K : List (Nat × Nat)) : ∀ (f g b n : Nat), n ≤ f → n ≤ g → 1 ≤ n → Tree.canF f b n K = Tree.canF g b n K
  | 0, _, _, _, h, _, h1 => by omega
  | _ + 1, 0, _, _, _, h, h1 => by omega
  | f + 1, g + 1, b, n, hf, hg, h1 => by
    rw [Tree.canF, Tree.canF]
    by_cases h2 : n < 2
    · rw [if_pos h2, if_pos h2]
    · have s1 := Tree.sp_lt (n := n) (by omega)
      have s2 := Tree.sp_pos (n := n) (by omega)
      rw [canF_fuel K f g b (Tree.sp n) (by omega) (by omega) (by omega), canF_fuel K f g (b + Tree.sp n) (n - Tree.sp n) (by omega) (by omega) (by omega)]
theorem fldF_fuel (K : List (Nat × Nat)) (H : List (List UInt8)) : ∀ (f g b n : Nat), n ≤ f → n ≤ g → 1 ≤ n → Tree.canF f b n K = true → Tree.fldF f b n K H = Tree.fldF g b n K H
  | 0, _, _, _, h, _, h1, _ => by omega
  | _ + 1, 0, _, _, _, h, h1, _ => by omega
  | f + 1, g + 1, b, n, hf, hg, h1, hc => by
    rw [Tree.fldF, Tree.fldF]
    rw [Tree.canF] at hc
    by_cases hk : (b, b + n) ∈ K
    · rw [if_pos hk, if_pos hk]
    · rw [if_neg hk] at hc ⊢
      rw [if_neg hk]
      by_cases h2 : n < 2
      · rw [if_pos h2] at hc; cases hc
      · have s1 := Tree.sp_lt (n := n) (by omega)
        have s2 := Tree.sp_pos (n := n) (by omega)
        rw [if_neg h2, Bool.and_eq_true] at hc
        rw [fldF_fuel K H f g b (Tree.sp n) (by omega) (by omega) (by omega) hc.1, fldF_fuel K H f g (b + Tree.sp n) (n - Tree.sp n) (by omega) (by omega) (by omega) hc.2]
/-- can a span be folded of some? -/
def can (K : List (Nat × Nat)) (s : Nat × Nat) : Bool := Tree.canF (s.2 - s.1) s.1 (s.2 - s.1) K
/-- and its hash -/
def fld (K : List (Nat × Nat)) (H : List (List UInt8)) (s : Nat × Nat) : List UInt8 := Tree.fldF (s.2 - s.1) s.1 (s.2 - s.1) K H
theorem can_eq (K : List (Nat × Nat)) {x y : Nat} (h : x < y) : can K (x, y) = if (x, y) ∈ K then true else if y - x < 2 then false else can K (x, x + Tree.sp (y - x)) && can K (x + Tree.sp (y - x), y) := by
  unfold can
  dsimp only
  obtain ⟨n, hn⟩ : ∃ n, y - x = n + 1 := ⟨y - x - 1, by omega⟩
  rw [hn, Tree.canF, show x + (n + 1) = y by omega]
  by_cases h2 : n + 1 < 2
  · rw [if_pos h2, if_pos h2]
  · have s1 := Tree.sp_lt (n := n + 1) (by omega)
    have s2 := Tree.sp_pos (n := n + 1) (by omega)
    rw [if_neg h2, if_neg h2, show x + Tree.sp (n + 1) - x = Tree.sp (n + 1) by omega, show y - (x + Tree.sp (n + 1)) = n + 1 - Tree.sp (n + 1) by omega]
    rw [canF_fuel K n (Tree.sp (n + 1)) x _ (by omega) (by omega) (by omega), canF_fuel K n (n + 1 - Tree.sp (n + 1)) (x + Tree.sp (n + 1)) _ (by omega) (by omega) (by omega)]
theorem can_mem {K : List (Nat × Nat)} {x y : Nat} (h : x < y) (hk : (x, y) ∈ K) : can K (x, y) = true := by rw [can_eq K h, if_pos hk]
theorem can_one {K : List (Nat × Nat)} {x y : Nat} (h : x < y) (hk : ¬ (x, y) ∈ K) (h2 : y - x < 2) : can K (x, y) = false := by rw [can_eq K h, if_neg hk, if_pos h2]
theorem can_two {K : List (Nat × Nat)} {x y : Nat} (h : x < y) (hk : ¬ (x, y) ∈ K) (h2 : ¬ y - x < 2) : can K (x, y) = (can K (x, x + Tree.sp (y - x)) && can K (x + Tree.sp (y - x), y)) := by rw [can_eq K h, if_neg hk, if_neg h2]
theorem fld_mem {K : List (Nat × Nat)} {H : List (List UInt8)} {x y : Nat} (h : x < y) (hk : (x, y) ∈ K) : fld K H (x, y) = Tree.hashAt K H (x, y) := by
  unfold fld
  dsimp only
  obtain ⟨n, hn⟩ : ∃ n, y - x = n + 1 := ⟨y - x - 1, by omega⟩
  rw [hn, Tree.fldF, show x + (n + 1) = y by omega, if_pos hk]
theorem fld_two {K : List (Nat × Nat)} {H : List (List UInt8)} {x y : Nat} (h : x < y) (hk : ¬ (x, y) ∈ K) (hc : can K (x, y) = true) : 2 ≤ y - x ∧ can K (x, x + Tree.sp (y - x)) = true ∧ can K (x + Tree.sp (y - x), y) = true ∧ fld K H (x, y) = Tree.nd (fld K H (x, x + Tree.sp (y - x))) (fld K H (x + Tree.sp (y - x), y)) := by
  rw [can_eq K h, if_neg hk] at hc
  by_cases h2 : y - x < 2
  · rw [if_pos h2] at hc; cases hc
  · rw [if_neg h2, Bool.and_eq_true] at hc
    refine ⟨by omega, hc.1, hc.2, ?_⟩
    unfold can at hc
    unfold fld
    dsimp only at hc ⊢
    obtain ⟨n, hn⟩ : ∃ n, y - x = n + 1 := ⟨y - x - 1, by omega⟩
    have s1 := Tree.sp_lt (n := n + 1) (by omega)
    have s2 := Tree.sp_pos (n := n + 1) (by omega)
    rw [hn, show x + Tree.sp (n + 1) - x = Tree.sp (n + 1) by omega, show y - (x + Tree.sp (n + 1)) = n + 1 - Tree.sp (n + 1) by omega] at hc
    rw [hn, Tree.fldF, show x + (n + 1) = y by omega, if_neg hk, show x + Tree.sp (n + 1) - x = Tree.sp (n + 1) by omega, show y - (x + Tree.sp (n + 1)) = n + 1 - Tree.sp (n + 1) by omega]
    rw [fldF_fuel K H n (Tree.sp (n + 1)) x _ (by omega) (by omega) (by omega) (by rw [canF_fuel K n (Tree.sp (n + 1)) x _ (by omega) (by omega) (by omega)]; exact hc.1), fldF_fuel K H n (n + 1 - Tree.sp (n + 1)) (x + Tree.sp (n + 1)) _ (by omega) (by omega) (by omega) (by rw [canF_fuel K n (n + 1 - Tree.sp (n + 1)) (x + Tree.sp (n + 1)) _ (by omega) (by omega) (by omega)]; exact hc.2)]
/-- by a span's parts -/
theorem parts_ind {P : Nat → Nat → Prop} (h : ∀ x y, x < y → (2 ≤ y - x → P x (x + Tree.sp (y - x)) ∧ P (x + Tree.sp (y - x)) y) → P x y) : ∀ (n x y : Nat), y - x ≤ n → x < y → P x y
  | 0, x, y, h0, h1 => by omega
  | n + 1, x, y, h0, h1 => h x y h1 fun h2 => by
    have s1 := Tree.sp_lt (n := y - x) (by omega)
    have s2 := Tree.sp_pos (n := y - x) (by omega)
    exact ⟨parts_ind h n x _ (by omega) (by omega), parts_ind h n _ y (by omega) (by omega)⟩
theorem can_mono {K K' : List (Nat × Nat)} (hK : ∀ t ∈ K, t ∈ K') {x y : Nat} (h : x < y) : can K (x, y) = true → can K' (x, y) = true := by
  refine parts_ind (P := fun x y => can K (x, y) = true → can K' (x, y) = true) ?_ (y - x) x y (Nat.le_refl _) h
  intro x y hxy ih hc
  by_cases hk' : (x, y) ∈ K'
  · exact can_mem hxy hk'
  · have hk : ¬ (x, y) ∈ K := fun e => hk' (hK _ e)
    obtain ⟨h2, c1, c2, _⟩ := fld_two (H := []) hxy hk hc
    rw [can_two hxy hk' (by omega), (ih h2).1 c1, (ih h2).2 c2]
    rfl
theorem can_grow {K : List (Nat × Nat)} {t : Nat × Nat} (ht : can K t = true) {x y : Nat} (h : x < y) : can (K ++ [t]) (x, y) = can K (x, y) := by
  have up := can_mono (K := K) (K' := K ++ [t]) (fun s hs => List.mem_append.2 (.inl hs)) h
  cases hc : can K (x, y) with
  | true => exact up hc
  | false =>
    cases hd : can (K ++ [t]) (x, y) with
    | false => rfl
    | true =>
      exfalso
      have key : can (K ++ [t]) (x, y) = true → can K (x, y) = true := by
        refine parts_ind (P := fun x y => can (K ++ [t]) (x, y) = true → can K (x, y) = true) ?_ (y - x) x y (Nat.le_refl _) h
        intro x y hxy ih hc
        by_cases hk : (x, y) ∈ K
        · exact can_mem hxy hk
        · by_cases hk' : (x, y) = t
          · rw [hk']; exact ht
          · have hk2 : ¬ (x, y) ∈ K ++ [t] := fun e => by
              rcases List.mem_append.1 e with e | e
              · exact hk e
              · exact hk' (List.mem_singleton.1 e)
            obtain ⟨h2, c1, c2, _⟩ := fld_two (H := []) hxy hk2 hc
            rw [can_two hxy hk (by omega), (ih h2).1 c1, (ih h2).2 c2]
            rfl
      rw [key hd] at hc
      cases hc
theorem hashAt_left : ∀ {K : List (Nat × Nat)} {H : List (List UInt8)} {s : Nat × Nat} (E : List (Nat × Nat)) (G : List (List UInt8)), K.length = H.length → s ∈ K → Tree.hashAt (K ++ E) (H ++ G) s = Tree.hashAt K H s
  | [], _, s, _, _, _, h => by cases h
  | k :: K, [], s, _, _, h, _ => by cases h
  | k :: K, x :: H, s, E, G, hl, hs => by
    rw [List.cons_append, List.cons_append, Tree.hashAt, Tree.hashAt]
    by_cases hk : k = s
    · rw [if_pos hk, if_pos hk]
    · rw [if_neg hk, if_neg hk]
      refine hashAt_left E G (by simpa using hl) ?_
      rcases List.mem_cons.1 hs with e | e
      · exact absurd e.symm hk
      · exact e
theorem hashAt_last : ∀ {K : List (Nat × Nat)} {H : List (List UInt8)} {s : Nat × Nat} (x : List UInt8), K.length = H.length → ¬ s ∈ K → Tree.hashAt (K ++ [s]) (H ++ [x]) s = x
  | [], [], s, x, _, _ => by simp [Tree.hashAt]
  | [], _ :: _, s, x, h, _ => by cases h
  | k :: K, [], s, _, h, _ => by cases h
  | k :: K, y :: H, s, x, hl, hs => by
    rw [List.cons_append, List.cons_append, Tree.hashAt, if_neg (fun e => hs (by rw [e]; exact List.mem_cons_self))]
    exact hashAt_last x (by simpa using hl) fun e => hs (List.mem_cons_of_mem _ e)
theorem hashAt_get : ∀ {K : List (Nat × Nat)} {H : List (List UInt8)} {s : Nat × Nat} {j : Nat} {x : List UInt8}, K.Nodup → K[j]? = some s → H[j]? = some x → Tree.hashAt K H s = x
  | [], _, s, j, x, _, h, _ => by simp at h
  | k :: K, [], s, j, x, _, _, h => by simp at h
  | k :: K, y :: H, s, 0, x, _, h, h2 => by
    obtain rfl : k = s := by simpa using h
    obtain rfl : y = x := by simpa using h2
    rw [Tree.hashAt, if_pos rfl]
  | k :: K, y :: H, s, j + 1, x, hn, h, h2 => by
    have hn := List.nodup_cons.1 hn
    have hj : K[j]? = some s := by simpa using h
    rw [Tree.hashAt, if_neg (fun e => hn.1 (by rw [e]; exact List.mem_of_getElem? hj))]
    exact hashAt_get hn.2 hj (by simpa using h2)
/-- what is told behind changes nothing of what can be folded ahead -/
theorem fld_old {K E : List (Nat × Nat)} {H G : List (List UInt8)} (hl : K.length = H.length) (hE : ∀ e ∈ E, can K e = false) {x y : Nat} (h : x < y) : can K (x, y) = true → fld (K ++ E) (H ++ G) (x, y) = fld K H (x, y) := by
  refine parts_ind (P := fun x y => can K (x, y) = true → fld (K ++ E) (H ++ G) (x, y) = fld K H (x, y)) ?_ (y - x) x y (Nat.le_refl _) h
  intro x y hxy ih hc
  by_cases hk : (x, y) ∈ K
  · rw [fld_mem hxy hk, fld_mem hxy (List.mem_append.2 (.inl hk)), hashAt_left E G hl hk]
  · have hk2 : ¬ (x, y) ∈ K ++ E := fun e => by
      rcases List.mem_append.1 e with e | e
      · exact hk e
      · rw [hE _ e] at hc; cases hc
    have hc2 : can (K ++ E) (x, y) = true := can_mono (fun s hs => List.mem_append.2 (.inl hs)) hxy hc
    obtain ⟨h2, c1, c2, e1⟩ := fld_two (H := H) hxy hk hc
    obtain ⟨_, _, _, e2⟩ := fld_two (H := H ++ G) hxy hk2 hc2
    rw [e1, e2, (ih h2).1 c1, (ih h2).2 c2]
/-- what was folded counts as told, and changes nothing -/
theorem fld_new {K : List (Nat × Nat)} {H : List (List UInt8)} {t : Nat × Nat} (hl : K.length = H.length) (ht : ¬ t ∈ K) (hct : can K t = true) {x y : Nat} (h : x < y) : can K (x, y) = true → fld (K ++ [t]) (H ++ [fld K H t]) (x, y) = fld K H (x, y) := by
  refine parts_ind (P := fun x y => can K (x, y) = true → fld (K ++ [t]) (H ++ [fld K H t]) (x, y) = fld K H (x, y)) ?_ (y - x) x y (Nat.le_refl _) h
  intro x y hxy ih hc
  by_cases hk : (x, y) ∈ K
  · rw [fld_mem hxy hk, fld_mem hxy (List.mem_append.2 (.inl hk)), hashAt_left _ _ hl hk]
  · by_cases hk' : (x, y) = t
    · subst hk'
      rw [fld_mem hxy (List.mem_append.2 (.inr List.mem_cons_self)), hashAt_last _ hl hk]
    · have hk2 : ¬ (x, y) ∈ K ++ [t] := fun e => by
        rcases List.mem_append.1 e with e | e
        · exact hk e
        · exact hk' (List.mem_singleton.1 e)
      have hc2 : can (K ++ [t]) (x, y) = true := by rw [can_grow hct hxy]; exact hc
      obtain ⟨h2, c1, c2, e1⟩ := fld_two (H := H) hxy hk hc
      obtain ⟨_, _, _, e2⟩ := fld_two (H := H ++ [fld K H t]) hxy hk2 hc2
      rw [e1, e2, (ih h2).1 c1, (ih h2).2 c2]
theorem fld_len {K : List (Nat × Nat)} {H : List (List UInt8)} (hl : K.length = H.length) (h32 : ∀ x ∈ H, x.length = 32) {x y : Nat} (h : x < y) : can K (x, y) = true → (fld K H (x, y)).length = 32 := by
  refine parts_ind (P := fun x y => can K (x, y) = true → (fld K H (x, y)).length = 32) ?_ (y - x) x y (Nat.le_refl _) h
  intro x y hxy ih hc
  by_cases hk : (x, y) ∈ K
  · rw [fld_mem hxy hk]
    have key : ∀ (K : List (Nat × Nat)) (H : List (List UInt8)), K.length = H.length → (∀ x ∈ H, x.length = 32) → (x, y) ∈ K → (Tree.hashAt K H (x, y)).length = 32 := by
      intro K
      induction K with
      | nil => intro H _ _ hk; cases hk
      | cons k K ihK =>
        intro H hl h32 hk
        cases H with
        | nil => cases hl
        | cons z H =>
          rw [Tree.hashAt]
          split
          · exact h32 z List.mem_cons_self
          · rename_i hne
            refine ihK H (by simpa using hl) (fun x hx => h32 x (List.mem_cons_of_mem _ hx)) ?_
            rcases List.mem_cons.1 hk with e | e
            · exact absurd e.symm hne
            · exact e
    exact key K H hl h32 hk
  · obtain ⟨h2, c1, c2, e1⟩ := fld_two (H := H) hxy hk hc
    rw [e1]
    exact Tree.nd_length ((ih h2).1 c1) ((ih h2).2 c2)
end Chn
end Go.Proofs.YtappjeepajjioaaGreatDoor
