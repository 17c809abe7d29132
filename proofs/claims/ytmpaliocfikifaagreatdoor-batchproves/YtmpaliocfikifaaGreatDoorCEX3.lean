import Derived.Test.YtmpaliocfikifaaGreatDoorCI1
/- which proofs begin with their first hash: those from a size that is no power of two -/
namespace Go.Proofs.YtmpaliocfikifaaGreatDoor
namespace Tree
theorem St_zero : ∀ (f p l : Nat), p ≤ f → ((St p l).1 = 0 ↔ ∃ j, p + 1 = 2 ^ j)
  | f, p, l, hf => by
    by_cases h : p % 2 = 1
    · match f, hf with
      | 0, hf => omega
      | f + 1, hf =>
      rw [St_odd _ h, St_zero f (p / 2) (l / 2) (by omega)]
      constructor
      · rintro ⟨j, hj⟩
        exact ⟨j + 1, by rw [Nat.pow_succ]; omega⟩
      · rintro ⟨j, hj⟩
        match j, hj with
        | 0, hj => simp at hj; omega
        | j + 1, hj => exact ⟨j, by rw [Nat.pow_succ] at hj; omega⟩
    · rw [St_even _ h]
      constructor
      · intro e
        have e : p = 0 := e
        exact ⟨0, by simp; omega⟩
      · rintro ⟨j, hj⟩
        show p = 0
        match j, hj with
        | 0, hj => simp at hj; omega
        | j + 1, hj => rw [Nat.pow_succ] at hj; omega
/-- a size is a power of two: told by what it is made of -/
def pw (m : Nat) : Bool := [1, 2, 4, 8, 16, 32, 64, 128, 256, 512, 1024, 2048, 4096].contains m
theorem pw_iff {m : Nat} (h : m ≤ 4096) : pw m = true ↔ ∃ j, m = 2 ^ j := by
  constructor
  · intro h1
    have h2 : m ∈ [1, 2, 4, 8, 16, 32, 64, 128, 256, 512, 1024, 2048, 4096] := by simpa [pw] using h1
    simp only [List.mem_cons, List.not_mem_nil, or_false] at h2
    rcases h2 with rfl | rfl | rfl | rfl | rfl | rfl | rfl | rfl | rfl | rfl | rfl | rfl | rfl
    · exact ⟨0, rfl⟩
    · exact ⟨1, rfl⟩
    · exact ⟨2, rfl⟩
    · exact ⟨3, rfl⟩
    · exact ⟨4, rfl⟩
    · exact ⟨5, rfl⟩
    · exact ⟨6, rfl⟩
    · exact ⟨7, rfl⟩
    · exact ⟨8, rfl⟩
    · exact ⟨9, rfl⟩
    · exact ⟨10, rfl⟩
    · exact ⟨11, rfl⟩
    · exact ⟨12, rfl⟩
  · rintro ⟨j, rfl⟩
    have hj : j < 13 := by
      refine Nat.lt_of_not_le fun hle => ?_
      have := Nat.pow_le_pow_right (n := 2) (by decide) hle
      omega
    have : ∀ j : Fin 13, pw (2 ^ j.val) = true := by decide
    exact this ⟨j, hj⟩
theorem fl_pw {m n : Nat} (h1 : 1 ≤ m) (h2 : m < n) (h3 : m ≤ 4096) : fl m n true = !pw m := by
  have h := (PD_SU n m n (Nat.le_refl _) h1 h2).2
  unfold fl
  rw [h]
  have hz := St_zero (m - 1) (m - 1) (n - 1) (Nat.le_refl _)
  rw [show m - 1 + 1 = m by omega, ← pw_iff h3] at hz
  by_cases hp : pw m = true
  · rw [hp]
    have := hz.2 hp
    simp [this]
  · have hp' : pw m = false := by simpa using hp
    have : ¬ (St (m - 1) (n - 1)).1 = 0 := fun e => hp (hz.1 e)
    simp [hp', this]
end Tree
end Go.Proofs.YtmpaliocfikifaaGreatDoor

/- THE PLAIN MATHEMATICS OF LAYER 6: the document's steps of a walk. -/
namespace Go.Proofs.YtmpaliocfikifaaGreatDoor
namespace Tree
/-- the steps from a subtree (b, n) down to a span: what stands beside (begin, end), and does it stand left? -/
def dn : Nat → Nat → Nat → Nat → Nat → List (Nat × Nat × Bool)
  | 0, _, _, _, _ => []
  | f + 1, b, n, fb, fe => if (b = fb ∧ b + n = fe) ∨ n < 2 then [] else if b + sp n ≤ fb then (b, b + sp n, true) :: dn f (b + sp n) (n - sp n) fb fe else (b + sp n, b + n, false) :: dn f b (sp n) fb fe
theorem dn_stop {f b n fb fe : Nat} (h : (b = fb ∧ b + n = fe) ∨ n < 2) : dn f b n fb fe = [] := by
  cases f
  · rfl
  · rw [dn, if_pos h]
theorem dn_right {f b n fb fe : Nat} (h : ¬ ((b = fb ∧ b + n = fe) ∨ n < 2)) (h2 : b + sp n ≤ fb) : dn (f + 1) b n fb fe = (b, b + sp n, true) :: dn f (b + sp n) (n - sp n) fb fe := by rw [dn, if_neg h, if_pos h2]
theorem dn_left {f b n fb fe : Nat} (h : ¬ ((b = fb ∧ b + n = fe) ∨ n < 2)) (h2 : ¬ b + sp n ≤ fb) : dn (f + 1) b n fb fe = (b + sp n, b + n, false) :: dn f b (sp n) fb fe := by rw [dn, if_neg h, if_neg h2]
theorem dn_D : ∀ (f b n i : Nat), n ≤ f → b ≤ i → i < b + n → (dn f b n i (i + 1)).map (·.2.2) = (D n (i - b)).reverse
  | 0, b, n, i, h, _, h2 => by omega
  | f + 1, b, n, i, h, hb, h2 => by
    by_cases h3 : n < 2
    · rw [dn_stop (.inr h3), D_one _ h3]; rfl
    · have s1 := sp_lt (n := n) (by omega)
      have s2 := sp_pos (n := n) (by omega)
      have hs : ¬ ((b = i ∧ b + n = i + 1) ∨ n < 2) := by omega
      by_cases hi : b + sp n ≤ i
      · rw [dn_right hs hi, D_right (by omega) (by omega), List.reverse_append, List.map_cons, dn_D f (b + sp n) (n - sp n) i (by omega) hi (by omega), show i - b - sp n = i - (b + sp n) by omega]; rfl
      · rw [dn_left hs hi, D_left (by omega) (by omega), List.reverse_append, List.map_cons, dn_D f b (sp n) i (by omega) hb (by omega)]; rfl
theorem pow_mono {a b : Nat} (h : a ≤ b) : 2 ^ a ∣ 2 ^ b := Nat.pow_dvd_pow 2 h
/-- sp n is a power of two, n at most its double -/
theorem sp_pow {n : Nat} (h : 2 ≤ n) : ∃ a, sp n = 2 ^ a ∧ 2 ^ a < n ∧ n ≤ 2 ^ (a + 1) := by
  refine ⟨(n - 1).log2, sp_eq h, ?_, ?_⟩
  · rw [← sp_eq h]; exact sp_lt h
  · have := Nat.lt_log2_self (n := n - 1)
    omega
theorem dn_PD (l : List T) : ∀ (f b n k j : Nat), n ≤ f → 1 ≤ k → k < n → (∃ J, n ≤ 2 ^ J ∧ 2 ^ J ∣ b) → 2 ^ j ∣ b + k → ¬ 2 ^ (j + 1) ∣ b + k → b + n ≤ l.length →
    (dn f b n (b + k - 2 ^ j) (b + k)).map (·.2.2) = (PD k n).reverse ∧ (dn f b n (b + k - 2 ^ j) (b + k)).map (fun s => root (seg l s.1 s.2.1)) = (own f k (seg l b (b + n))).reverse ∧ root (seg l (b + k - 2 ^ j) (b + k)) = stt f k (seg l b (b + n))
  | 0, b, n, k, j, h, h1, h2, _, _, _, _ => by omega
  | f + 1, b, n, k, j, h, h1, h2, ⟨J, hJ, hd⟩, hj, hj2, hl => by
    obtain ⟨a, ha, ha1, ha2⟩ := sp_pow (n := n) (by omega)
    have sl : (seg l b (b + n)).length = n := by rw [seg_len hl]; omega
    have q1 := seg_take (l := l) (b := b) (n := n) (k := sp n) (by omega)
    have q2 := seg_drop (l := l) (b := b) (n := n) (k := sp n) (by omega)
    have haJ : a + 1 ≤ J := by
      rcases Nat.lt_or_ge a J with e | e
      · exact e
      · have := Nat.pow_le_pow_right (n := 2) (by omega) e; omega
    have d1 : 2 ^ (a + 1) ∣ b := Nat.dvd_trans (pow_mono haJ) hd
    have d0 : 2 ^ a ∣ b := Nat.dvd_trans (pow_mono (by omega)) d1
    have hs : ¬ ((b = b + k - 2 ^ j ∧ b + n = b + k) ∨ n < 2) := by omega
    have ho : ¬ (n < 2 ∨ k = n) := by omega
    have pj := Nat.two_pow_pos j
    rw [own, stt, sl, if_neg ho, if_neg ho]
    rcases Nat.lt_trichotomy k (sp n) with hk | hk | hk
    · obtain ⟨r1, r2, r3⟩ := dn_PD l f b (sp n) k j (by omega) h1 hk ⟨J, by omega, hd⟩ hj hj2 (by omega)
      rw [dn_left hs (by omega), List.map_cons, List.map_cons, r1, r2, r3, PD_left h1 h2 (by omega), if_pos (by omega), if_pos (by omega), q1, q2, List.reverse_append, List.reverse_append]
      refine ⟨rfl, ?_, rfl⟩
      show root (seg l (b + sp n) (b + n)) :: _ = _
      rw [show b + sp n + (n - sp n) = b + n by omega]; rfl
    · have e : j = a := by
        have k1 : 2 ^ a ∣ b + k := by rw [hk, ha]; exact Nat.dvd_add d0 (Nat.dvd_refl _)
        have k2 : ¬ 2 ^ (a + 1) ∣ b + k := fun e => by
          have := (Nat.dvd_add_right d1).1 e
          rw [hk, ha] at this
          have := Nat.le_of_dvd (Nat.two_pow_pos a) this
          rw [Nat.pow_succ] at this; have := Nat.two_pow_pos a; omega
        rcases Nat.lt_trichotomy j a with e | e | e
        · exact absurd (Nat.dvd_trans (pow_mono e) k1) hj2
        · exact e
        · exact absurd (Nat.dvd_trans (pow_mono e) hj) k2
      subst e
      have e1 : b + k - 2 ^ j = b := by omega
      have e2 : PD k (sp n) = [] := by rw [hk, PD_same]
      have e3 : own f k (seg l b (b + sp n)) = [] ∧ stt f k (seg l b (b + sp n)) = root (seg l b (b + sp n)) := by
        have sl2 : (seg l b (b + sp n)).length = sp n := by rw [seg_len (by omega)]; omega
        cases f with
        | zero => exact ⟨rfl, rfl⟩
        | succ f =>
          rw [own, stt, sl2, if_pos (.inr hk), if_pos (.inr hk)]
          exact ⟨rfl, rfl⟩
      rw [dn_left hs (by omega), e1, dn_stop (.inl ⟨rfl, by rw [hk]⟩), PD_left h1 h2 (by omega), e2, if_pos (by omega), if_pos (by omega), q1, q2, e3.1, e3.2]
      refine ⟨rfl, ?_, by rw [hk]⟩
      show [root (seg l (b + sp n) (b + n))] = _
      rw [show b + sp n + (n - sp n) = b + n by omega]; rfl
    · have d2 : 2 ^ a ∣ b + sp n := by rw [ha]; exact Nat.dvd_add d0 (Nat.dvd_refl _)
      have e0 : b + k = b + sp n + (k - sp n) := by omega
      have hlt : k - sp n < 2 ^ a := by rw [Nat.pow_succ] at ha2; omega
      have hja : j < a := by
        rcases Nat.lt_or_ge j a with e | e
        · exact e
        · have := Nat.dvd_trans (pow_mono e) hj
          rw [e0] at this
          have := Nat.le_of_dvd (by omega) ((Nat.dvd_add_right d2).1 this)
          omega
      have hle : 2 ^ j ≤ k - sp n := by
        rw [e0] at hj
        exact Nat.le_of_dvd (by omega) ((Nat.dvd_add_right (Nat.dvd_trans (pow_mono (by omega)) d2)).1 hj)
      obtain ⟨r1, r2, r3⟩ := dn_PD l f (b + sp n) (n - sp n) (k - sp n) j (by omega) (by omega) (by omega) ⟨a, by rw [Nat.pow_succ] at ha2; omega, d2⟩ (by rw [← e0]; exact hj) (by rw [← e0]; exact hj2) (by omega)
      rw [← e0] at r1 r2 r3
      rw [dn_right hs (by omega), List.map_cons, List.map_cons, r1, r2, r3, PD_right h1 h2 (by omega), if_neg (by omega), if_neg (by omega), q1, q2, List.reverse_append, List.reverse_append]
      exact ⟨rfl, rfl, rfl⟩
/-- the hash that a walk has come to -/
def stw : T → List Bool → List T → T
  | r, d :: ds, h :: hs => stw (Sha.sha (txt d r h)) ds hs
  | r, _, _ => r
theorem txs_step : ∀ (r : T) (ds : List Bool) (hs : List T) (d : Bool) (h : T), ds.length = hs.length → txs r (ds ++ [d]) (hs ++ [h]) = txs r ds hs ++ [txt d (stw r ds hs) h] ∧ stw r (ds ++ [d]) (hs ++ [h]) = Sha.sha (txt d (stw r ds hs) h)
  | _, [], [], _, _, _ => ⟨rfl, rfl⟩
  | r, x :: ds, y :: hs, d, h, e => by
    obtain ⟨e1, e2⟩ := txs_step (Sha.sha (txt x r y)) ds hs d h (by simpa using e)
    refine ⟨?_, e2⟩
    show txt x r y :: txs _ (ds ++ [d]) (hs ++ [h]) = _
    rw [e1]; rfl
end Tree
end Go.Proofs.YtmpaliocfikifaaGreatDoor

/- THE PLAIN MATHEMATICS OF LAYER 8: spans of paths and proofs; nothing of the program. -/
namespace Go.Proofs.YtmpaliocfikifaaGreatDoor
namespace Tree
/-- the greatest power of two below n is the only one -/
theorem sp_unique {n j : Nat} (h1 : 2 ^ j < n) (h2 : n ≤ 2 ^ (j + 1)) : sp n = 2 ^ j := by
  have p := Nat.two_pow_pos j
  obtain ⟨a, ha, a1, a2⟩ := sp_pow (n := n) (by omega)
  rw [ha]
  rcases Nat.lt_trichotomy a j with e | e | e
  · have := Nat.pow_le_pow_right (n := 2) (by omega) (show a + 1 ≤ j from e); omega
  · rw [e]
  · have := Nat.pow_le_pow_right (n := 2) (by omega) (show j + 1 ≤ a from e); omega
theorem root_seg_two {l : List T} {b n : Nat} (h : 2 ≤ n) (hl : b + n ≤ l.length) : root (seg l b (b + n)) = nd (root (seg l b (b + sp n))) (root (seg l (b + sp n) (b + n))) := by
  have s1 := sp_lt (n := n) h
  have sl : (seg l b (b + n)).length = n := by rw [seg_len hl]; omega
  rw [root_cut (l := seg l b (b + n)) (by omega), sl, seg_take (by omega), seg_drop (by omega), show b + sp n + (n - sp n) = b + n by omega]
/-- H2: what lies beside the way to leaf i, from below -/
def pthF : Nat → Nat → Nat → Nat → List (Nat × Nat)
  | 0, _, _, _ => []
  | f + 1, b, n, i => if n < 2 then [] else if i < b + sp n then pthF f b (sp n) i ++ [(b + sp n, b + n)] else pthF f (b + sp n) (n - sp n) i ++ [(b, b + sp n)]
theorem pthF_small {f b n i : Nat} (h : n < 2) : pthF f b n i = [] := by
  cases f
  · rfl
  · rw [pthF, if_pos h]
theorem pthF_left {f b n i : Nat} (h : 2 ≤ n) (hi : i < b + sp n) : pthF (f + 1) b n i = pthF f b (sp n) i ++ [(b + sp n, b + n)] := by rw [pthF, if_neg (by omega), if_pos hi]
theorem pthF_right {f b n i : Nat} (h : 2 ≤ n) (hi : ¬ i < b + sp n) : pthF (f + 1) b n i = pthF f (b + sp n) (n - sp n) i ++ [(b, b + sp n)] := by rw [pthF, if_neg (by omega), if_neg hi]
theorem pthF_len : ∀ (f b n i : Nat), n ≤ f → b ≤ i → (pthF f b n i).length = (D n (i - b)).length
  | 0, b, n, i, h, _ => by rw [D_one _ (by omega)]; rfl
  | f + 1, b, n, i, h, hb => by
    by_cases h2 : n < 2
    · rw [pthF_small h2, D_one _ h2]; rfl
    · have s1 := sp_lt (n := n) (by omega)
      have s2 := sp_pos (n := n) (by omega)
      by_cases hi : i < b + sp n
      · rw [pthF_left (by omega) hi, D_left (by omega) (by omega), List.length_append, List.length_append, pthF_len f b (sp n) i (by omega) hb]; rfl
      · rw [pthF_right (by omega) hi, D_right (by omega) (by omega), List.length_append, List.length_append, pthF_len f (b + sp n) (n - sp n) i (by omega) (by omega), show i - b - sp n = i - (b + sp n) by omega]; rfl
/-- H6: their hashes are the path -/
theorem pthF_hash (l : List T) : ∀ (f b n i : Nat), n ≤ f → b ≤ i → i < b + n → b + n ≤ l.length → (pthF f b n i).map (fun s => root (seg l s.1 s.2)) = path (i - b) (seg l b (b + n))
  | 0, b, n, i, h, _, h2, _ => by omega
  | f + 1, b, n, i, h, hb, h2, hl => by
    have sl : (seg l b (b + n)).length = n := by rw [seg_len hl]; omega
    by_cases h3 : n < 2
    · rw [pthF_small h3, path_small (by omega)]; rfl
    · have s1 := sp_lt (n := n) (by omega)
      have s2 := sp_pos (n := n) (by omega)
      have q1 := seg_take (l := l) (b := b) (n := n) (k := sp n) (by omega)
      have q2 := seg_drop (l := l) (b := b) (n := n) (k := sp n) (by omega)
      rw [path_cut (by omega), sl, q1, q2, show b + sp n + (n - sp n) = b + n by omega]
      by_cases hi : i < b + sp n
      · rw [pthF_left (by omega) hi, if_pos (by omega), List.map_append, pthF_hash l f b (sp n) i (by omega) hb hi (by omega)]; rfl
      · have e := pthF_hash l f (b + sp n) (n - sp n) i (by omega) (by omega) (by omega) (by omega)
        rw [show b + sp n + (n - sp n) = b + n by omega] at e
        rw [pthF_right (by omega) hi, if_neg (by omega), List.map_append, e, show i - b - sp n = i - (b + sp n) by omega]; rfl
/-- H3: of a proof from size m -/
def prfF : Nat → Nat → Nat → Nat → List (Nat × Nat)
  | 0, _, _, _ => []
  | f + 1, b, n, m => if b + n = m then (if b = 0 then [] else [(b, b + n)]) else if m ≤ b + sp n then prfF f b (sp n) m ++ [(b + sp n, b + n)] else prfF f (b + sp n) (n - sp n) m ++ [(b, b + sp n)]
theorem prfF_hash (l : List T) : ∀ (f b n m : Nat), n ≤ f → b < m → m ≤ b + n → b + n ≤ l.length → (prfF f b n m).map (fun s => root (seg l s.1 s.2)) = proof (m - b) (seg l b (b + n)) (decide (b = 0))
  | 0, b, n, m, h, _, h2, _ => by omega
  | f + 1, b, n, m, h, hb, h2, hl => by
    have sl : (seg l b (b + n)).length = n := by rw [seg_len hl]; omega
    rw [prfF]
    by_cases hm : b + n = m
    · rw [if_pos hm]
      obtain rfl : m = b + n := hm.symm
      rw [show b + n - b = (seg l b (b + n)).length by rw [sl]; omega]
      by_cases h0 : b = 0
      · rw [if_pos h0, decide_eq_true h0, proof_whole (by omega)]; rfl
      · rw [if_neg h0, decide_eq_false h0, proof_part (by omega)]; rfl
    · rw [if_neg hm]
      have s1 := sp_lt (n := n) (by omega)
      have s2 := sp_pos (n := n) (by omega)
      have q1 := seg_take (l := l) (b := b) (n := n) (k := sp n) (by omega)
      have q2 := seg_drop (l := l) (b := b) (n := n) (k := sp n) (by omega)
      by_cases hi : m ≤ b + sp n
      · rw [if_pos hi, List.map_append, prfF_hash l f b (sp n) m (by omega) hb hi (by omega), proof_left (l := seg l b (b + n)) (by omega) (by omega) (by rw [sl]; omega), sl, q1, q2, show b + sp n + (n - sp n) = b + n by omega]; rfl
      · have e := prfF_hash l f (b + sp n) (n - sp n) m (by omega) (by omega) (by omega) (by omega)
        rw [show b + sp n + (n - sp n) = b + n by omega, decide_eq_false (by omega), show m - (b + sp n) = m - b - sp n by omega] at e
        rw [if_neg hi, List.map_append, e, proof_right (l := seg l b (b + n)) (by omega) (by omega) (by rw [sl]; omega), sl, q1, q2, show b + sp n + (n - sp n) = b + n by omega]; rfl
theorem prfF_len : ∀ (f b n m : Nat), n ≤ f → b < m → m ≤ b + n → (prfF f b n m).length = pl (m - b) n (decide (b = 0))
  | 0, b, n, m, h, _, h2 => by omega
  | f + 1, b, n, m, h, hb, h2 => by
    rw [prfF]
    by_cases hm : b + n = m
    · rw [if_pos hm, show m - b = n by omega, pl_same]
      by_cases h0 : b = 0
      · rw [if_pos h0, decide_eq_true h0]; rfl
      · rw [if_neg h0, decide_eq_false h0]; rfl
    · rw [if_neg hm]
      have s1 := sp_lt (n := n) (by omega)
      have s2 := sp_pos (n := n) (by omega)
      by_cases hi : m ≤ b + sp n
      · rw [if_pos hi, List.length_append, prfF_len f b (sp n) m (by omega) hb hi, pl_left (m := m - b) (n := n) (by omega) (by omega) (by omega), List.length_singleton]; omega
      · have e := prfF_len f (b + sp n) (n - sp n) m (by omega) (by omega) (by omega)
        rw [decide_eq_false (by omega), show m - (b + sp n) = m - b - sp n by omega] at e
        rw [if_neg hi, List.length_append, e, pl_right (m := m - b) (n := n) (by omega) (by omega) (by omega), List.length_singleton]; omega
end Tree
end Go.Proofs.YtmpaliocfikifaaGreatDoor

/- THE PLAIN MATHEMATICS OF LAYER 8: spans that lie beside some leaves, beside a run of them; nothing of the program. -/
namespace Go.Proofs.YtmpaliocfikifaaGreatDoor
namespace Tree
/-- has [b, e) one of some leaves? -/
def tch (is : List Nat) (b e : Nat) : Bool := is.any fun i => decide (b ≤ i ∧ i < e)
theorem tch_mem {is : List Nat} {b e : Nat} : tch is b e = true ↔ ∃ i ∈ is, b ≤ i ∧ i < e := by
  unfold tch; rw [List.any_eq_true]; simp
theorem tch_cut {is : List Nat} {b m e : Nat} (h1 : b ≤ m) (h2 : m ≤ e) : tch is b e = (tch is b m || tch is m e) := by
  rw [Bool.eq_iff_iff, Bool.or_eq_true, tch_mem, tch_mem, tch_mem]
  constructor
  · rintro ⟨i, hi, h3, h4⟩
    by_cases h : i < m
    · exact .inl ⟨i, hi, h3, h⟩
    · exact .inr ⟨i, hi, by omega, h4⟩
  · rintro (⟨i, hi, h3, h4⟩ | ⟨i, hi, h3, h4⟩)
    · exact ⟨i, hi, h3, by omega⟩
    · exact ⟨i, hi, by omega, h4⟩
/-- H4: from the left, the subtrees that have none of these leaves, as great as may be -/
def othF : Nat → Nat → Nat → List Nat → List (Nat × Nat)
  | 0, _, _, _ => []
  | f + 1, b, n, is => if tch is b (b + n) = false then [(b, b + n)] else if n < 2 then [] else othF f b (sp n) is ++ othF f (b + sp n) (n - sp n) is
theorem othF_no {f b n : Nat} {is : List Nat} (h : tch is b (b + n) = false) : othF (f + 1) b n is = [(b, b + n)] := by rw [othF, if_pos h]
theorem othF_one {f b n : Nat} {is : List Nat} (h : tch is b (b + n) = true) (h2 : n < 2) : othF (f + 1) b n is = [] := by rw [othF, if_neg (by rw [h]; simp), if_pos h2]
theorem othF_two {f b n : Nat} {is : List Nat} (h : tch is b (b + n) = true) (h2 : 2 ≤ n) : othF (f + 1) b n is = othF f b (sp n) is ++ othF f (b + sp n) (n - sp n) is := by rw [othF, if_neg (by rw [h]; simp), if_neg (by omega)]
/-- the leaves within a span -/
def wit (is : List Nat) (b e : Nat) : List Nat := is.filter fun i => decide (b ≤ i ∧ i < e)
theorem wit_nil {is : List Nat} {b e : Nat} (h : tch is b e = false) : wit is b e = [] := by
  unfold wit
  rw [List.filter_eq_nil_iff]
  intro i hi hc
  rw [decide_eq_true_iff] at hc
  have := tch_mem.2 ⟨i, hi, hc⟩
  rw [h] at this; cases this
theorem wit_ne {is : List Nat} {b e : Nat} (h : tch is b e = true) : wit is b e ≠ [] := by
  obtain ⟨i, hi, hc⟩ := tch_mem.1 h
  intro e'
  have : i ∈ wit is b e := List.mem_filter.2 ⟨hi, by simpa using hc⟩
  rw [e'] at this; cases this
theorem wit_left {is : List Nat} {b m e : Nat} (h : m ≤ e) : (wit is b e).filter (· < m) = wit is b m := by
  unfold wit
  rw [List.filter_filter]
  congr 1
  funext i
  rw [Bool.eq_iff_iff]
  simp
  omega
theorem wit_right {is : List Nat} {b m e : Nat} (h : b ≤ m) : (wit is b e).filter (m ≤ ·) = wit is m e := by
  unfold wit
  rw [List.filter_filter]
  congr 1
  funext i
  rw [Bool.eq_iff_iff]
  simp
  omega
/-- H6: their hashes are what layer 3 says of many -/
theorem othF_hash (l : List T) (is : List Nat) : ∀ (f b n : Nat), 1 ≤ n → n ≤ f → b + n ≤ l.length → (othF f b n is).map (fun s => root (seg l s.1 s.2)) = many (wit is b (b + n)) b (seg l b (b + n))
  | 0, b, n, h1, h, _ => by omega
  | f + 1, b, n, h1, h, hl => by
    have sl : (seg l b (b + n)).length = n := by rw [seg_len hl]; omega
    cases ht : tch is b (b + n) with
    | false => rw [othF_no ht, wit_nil ht, many_none (by omega)]; rfl
    | true =>
      by_cases h2 : n < 2
      · rw [othF_one ht h2, many_one (wit_ne ht) (by omega)]; rfl
      · have s1 := sp_lt (n := n) (by omega)
        have s2 := sp_pos (n := n) (by omega)
        have q1 := seg_take (l := l) (b := b) (n := n) (k := sp n) (by omega)
        have q2 := seg_drop (l := l) (b := b) (n := n) (k := sp n) (by omega)
        have e := othF_hash l is f (b + sp n) (n - sp n) (by omega) (by omega) (by omega)
        rw [show b + sp n + (n - sp n) = b + n by omega] at e
        rw [othF_two ht (by omega), List.map_append, othF_hash l is f b (sp n) (by omega) (by omega) (by omega), e, many_cut (wit_ne ht) (by omega), sl, wit_left (by omega), wit_right (by omega), q1, q2, show b + sp n + (n - sp n) = b + n by omega]
/-- spans that rise from b to e, with the leaves of is between them -/
def Apt : Nat → Nat → List (Nat × Nat) → (Nat → Bool) → Prop
  | b, e, [], p => b ≤ e ∧ ∀ i, b ≤ i → i < e → p i = true
  | b, e, s :: r, p => b ≤ s.1 ∧ s.1 < s.2 ∧ s.2 ≤ e ∧ (∀ i, b ≤ i → i < s.1 → p i = true) ∧ (∀ i, s.1 ≤ i → i < s.2 → p i = false) ∧ Apt s.2 e r p
theorem Apt.append : ∀ {b m e : Nat} {x y : List (Nat × Nat)} {p : Nat → Bool}, Apt b m x p → Apt m e y p → Apt b e (x ++ y) p
  | b, m, e, [], [], p, ⟨h1, h2⟩, ⟨h3, h4⟩ => ⟨by omega, fun i hi he => by
      by_cases h : i < m
      · exact h2 i hi h
      · exact h4 i (by omega) he⟩
  | b, m, e, [], s :: y, p, ⟨h1, h2⟩, ⟨h3, h4, h5, h6, h7, h8⟩ => ⟨by omega, h4, h5, fun i hi he => by
      by_cases h : i < m
      · exact h2 i hi h
      · exact h6 i (by omega) he, h7, h8⟩
  | b, m, e, s :: x, y, p, ⟨h3, h4, h5, h6, h7, h8⟩, hy => by
    have hm : m ≤ e := by
      cases y with
      | nil => exact hy.1
      | cons t y => have := hy.1; have := hy.2.1; have := hy.2.2.1; omega
    exact ⟨h3, h4, by omega, h6, h7, h8.append hy⟩
theorem othF_apart (is : List Nat) : ∀ (f b n : Nat), 1 ≤ n → n ≤ f → Apt b (b + n) (othF f b n is) (fun i => decide (i ∈ is))
  | 0, b, n, h1, h => by omega
  | f + 1, b, n, h1, h => by
    cases ht : tch is b (b + n) with
    | false =>
      rw [othF_no ht]
      refine ⟨Nat.le_refl _, by show b < b + n; omega, Nat.le_refl _, fun i hi he => by omega, fun i hi he => decide_eq_false fun hm => ?_, Nat.le_refl _, fun i hi he => by omega⟩
      have := tch_mem.2 ⟨i, hm, hi, he⟩
      rw [ht] at this; cases this
    | true =>
      by_cases h2 : n < 2
      · rw [othF_one ht h2]
        obtain ⟨i, hi, h3, h4⟩ := tch_mem.1 ht
        exact ⟨by omega, fun j hj he => decide_eq_true (by rw [show j = i by omega]; exact hi)⟩
      · have s1 := sp_lt (n := n) (by omega)
        have s2 := sp_pos (n := n) (by omega)
        have e := othF_apart is f (b + sp n) (n - sp n) (by omega) (by omega)
        rw [show b + sp n + (n - sp n) = b + n by omega] at e
        rw [othF_two ht (by omega)]
        exact (othF_apart is f b (sp n) (by omega) (by omega)).append e
/-- H4: likewise of a run [x, y) -/
def runF : Nat → Nat → Nat → Nat → Nat → List (Nat × Nat)
  | 0, _, _, _, _ => []
  | f + 1, b, n, x, y => if b + n ≤ x ∨ y ≤ b then [(b, b + n)] else if x ≤ b ∧ b + n ≤ y then [] else runF f b (sp n) x y ++ runF f (b + sp n) (n - sp n) x y
theorem runF_apart (x y : Nat) : ∀ (f b n : Nat), 1 ≤ n → n ≤ f → x < y → Apt b (b + n) (runF f b n x y) (fun i => decide (x ≤ i ∧ i < y))
  | 0, b, n, h1, h, _ => by omega
  | f + 1, b, n, h1, h, hxy => by
    rw [runF]
    by_cases h2 : b + n ≤ x ∨ y ≤ b
    · rw [if_pos h2]
      exact ⟨Nat.le_refl _, by show b < b + n; omega, Nat.le_refl _, fun i hi he => by omega, fun i hi he => decide_eq_false (by omega), Nat.le_refl _, fun i hi he => by omega⟩
    · rw [if_neg h2]
      by_cases h3 : x ≤ b ∧ b + n ≤ y
      · rw [if_pos h3]
        exact ⟨by omega, fun i hi he => decide_eq_true (by omega)⟩
      · rw [if_neg h3]
        have s1 := sp_lt (n := n) (by omega)
        have s2 := sp_pos (n := n) (by omega)
        have e := runF_apart x y f (b + sp n) (n - sp n) (by omega) (by omega) hxy
        rw [show b + sp n + (n - sp n) = b + n by omega] at e
        exact (runF_apart x y f b (sp n) (by omega) (by omega) hxy).append e
end Tree
end Go.Proofs.YtmpaliocfikifaaGreatDoor

/- THE PLAIN MATHEMATICS OF LAYER 8: subtrees, and what can be folded; nothing of the program. -/
namespace Go.Proofs.YtmpaliocfikifaaGreatDoor
namespace Tree
/-- H1: is [x, y) a subtree of [b, b + n)? -/
def insF : Nat → Nat → Nat → Nat → Nat → Bool
  | 0, _, _, _, _ => false
  | f + 1, b, n, x, y => if x = b ∧ y = b + n then true else if n < 2 then false else if y ≤ b + sp n then insF f b (sp n) x y else if b + sp n ≤ x then insF f (b + sp n) (n - sp n) x y else false
theorem insF_self {f b n : Nat} : insF (f + 1) b n b (b + n) = true := by rw [insF, if_pos ⟨rfl, rfl⟩]
theorem insF_in : ∀ (f b n x y : Nat), insF f b n x y = true → 1 ≤ n → b ≤ x ∧ x < y ∧ y ≤ b + n
  | 0, _, _, _, _, h, _ => by cases h
  | f + 1, b, n, x, y, h, h1 => by
    rw [insF] at h
    split at h
    · omega
    · split at h
      · cases h
      · have s1 := sp_lt (n := n) (by omega)
        have s2 := sp_pos (n := n) (by omega)
        split at h
        · have := insF_in f b (sp n) x y h (by omega); omega
        · split at h
          · have := insF_in f (b + sp n) (n - sp n) x y h (by omega); omega
          · cases h
/-- the parts of a subtree are subtrees -/
theorem insF_parts : ∀ (f b n x y : Nat), n ≤ f → 1 ≤ n → insF f b n x y = true → 2 ≤ y - x → insF f b n x (x + sp (y - x)) = true ∧ insF f b n (x + sp (y - x)) y = true
  | 0, _, _, _, _, _, _, h, _ => by cases h
  | f + 1, b, n, x, y, hf, h1, h, h2 => by
    have hin := insF_in (f + 1) b n x y h h1
    have t1 := sp_lt (n := y - x) h2
    have t2 := sp_pos (n := y - x) h2
    rw [insF] at h
    by_cases he : x = b ∧ y = b + n
    · obtain ⟨rfl, rfl⟩ := he
      rw [show x + n - x = n by omega] at h2 t1 t2 ⊢
      obtain ⟨f', rfl⟩ : ∃ f', f = f' + 1 := ⟨f - 1, by omega⟩
      constructor
      · rw [insF, if_neg (by omega), if_neg (by omega), if_pos (by omega), insF_self]
      · rw [insF, if_neg (by omega), if_neg (by omega), if_neg (by omega), if_pos (by omega), show x + n = x + sp n + (n - sp n) by omega, insF_self]
    · rw [if_neg he] at h
      split at h
      · cases h
      · have s1 := sp_lt (n := n) (by omega)
        have s2 := sp_pos (n := n) (by omega)
        split at h
        · rename_i hy
          obtain ⟨a1, a2⟩ := insF_parts f b (sp n) x y (by omega) (by omega) h h2
          constructor
          · rw [insF, if_neg (by omega), if_neg (by omega), if_pos (by omega)]; exact a1
          · rw [insF, if_neg (by omega), if_neg (by omega), if_pos (by omega)]; exact a2
        · split at h
          · rename_i hx
            obtain ⟨a1, a2⟩ := insF_parts f (b + sp n) (n - sp n) x y (by omega) (by omega) h h2
            constructor
            · rw [insF, if_neg (by omega), if_neg (by omega), if_neg (by omega), if_pos (by omega)]; exact a1
            · rw [insF, if_neg (by omega), if_neg (by omega), if_neg (by omega), if_pos (by omega)]; exact a2
          · cases h
/-- H5: can [b, b + n) be folded of some spans? -/
def canF : Nat → Nat → Nat → List (Nat × Nat) → Bool
  | 0, _, _, _ => false
  | f + 1, b, n, K => if (b, b + n) ∈ K then true else if n < 2 then false else canF f b (sp n) K && canF f (b + sp n) (n - sp n) K
/-- the hash of the first of known that a span is -/
def hashAt : List (Nat × Nat) → List T → Nat × Nat → T
  | k :: K, h :: H, s => if k = s then h else hashAt K H s
  | _, _, _ => []
def fldF : Nat → Nat → Nat → List (Nat × Nat) → List T → T
  | 0, _, _, _, _ => []
  | f + 1, b, n, K, H => if (b, b + n) ∈ K then hashAt K H (b, b + n) else nd (fldF f b (sp n) K H) (fldF f (b + sp n) (n - sp n) K H)
theorem hashAt_ok (l : List T) : ∀ (K : List (Nat × Nat)) (H : List T) (s : Nat × Nat), H = K.map (fun s => root (seg l s.1 s.2)) → s ∈ K → hashAt K H s = root (seg l s.1 s.2)
  | [], _, s, _, h => by cases h
  | k :: K, [], s, e, _ => by cases e
  | k :: K, h :: H, s, e, hs => by
    have e1 : h = root (seg l k.1 k.2) := (List.cons.inj e).1
    have e2 : H = K.map (fun s => root (seg l s.1 s.2)) := (List.cons.inj e).2
    rw [hashAt]
    by_cases hk : k = s
    · rw [if_pos hk, e1, hk]
    · rw [if_neg hk]
      refine hashAt_ok l K H s e2 ?_
      rcases List.mem_cons.1 hs with e3 | e3
      · exact absurd e3.symm hk
      · exact e3
/-- H6: what can be folded of right hashes is the right hash -/
theorem fld_root (l : List T) (K : List (Nat × Nat)) (H : List T) (hH : H = K.map (fun s => root (seg l s.1 s.2))) : ∀ (f b n : Nat), n ≤ f → 1 ≤ n → b + n ≤ l.length → canF f b n K = true → fldF f b n K H = root (seg l b (b + n))
  | 0, b, n, h, h1, _, _ => by omega
  | f + 1, b, n, h, h1, hl, hc => by
    rw [canF] at hc
    rw [fldF]
    by_cases hk : (b, b + n) ∈ K
    · rw [if_pos hk, hashAt_ok l K H _ hH hk]
    · rw [if_neg hk] at hc ⊢
      split at hc
      · cases hc
      · have s1 := sp_lt (n := n) (by omega)
        have s2 := sp_pos (n := n) (by omega)
        rw [Bool.and_eq_true] at hc
        have e := fld_root l K H hH f (b + sp n) (n - sp n) (by omega) (by omega) (by omega) hc.2
        rw [show b + sp n + (n - sp n) = b + n by omega] at e
        rw [fld_root l K H hH f b (sp n) (by omega) (by omega) (by omega) hc.1, e, ← root_seg_two (by omega) hl]
/-- what can be folded has one of known within it -/
theorem can_within (K : List (Nat × Nat)) : ∀ (f b n : Nat), n ≤ f → 1 ≤ n → canF f b n K = true → ∃ s ∈ K, b ≤ s.1 ∧ s.2 ≤ b + n ∧ s.1 < s.2
  | 0, b, n, h, h1, _ => by omega
  | f + 1, b, n, h, h1, hc => by
    rw [canF] at hc
    by_cases hk : (b, b + n) ∈ K
    · exact ⟨_, hk, Nat.le_refl _, Nat.le_refl _, by show b < b + n; omega⟩
    · rw [if_neg hk] at hc
      split at hc
      · cases hc
      · have s1 := sp_lt (n := n) (by omega)
        have s2 := sp_pos (n := n) (by omega)
        rw [Bool.and_eq_true] at hc
        obtain ⟨s, h3, h4, h5, h6⟩ := can_within K f b (sp n) (by omega) (by omega) hc.1
        exact ⟨s, h3, h4, by omega, h6⟩
theorem can_leaves (K : List (Nat × Nat)) : ∀ (f b n : Nat), n ≤ f → 1 ≤ n → (∀ i, b ≤ i → i < b + n → (i, i + 1) ∈ K) → canF f b n K = true
  | 0, b, n, h, h1, _ => by omega
  | f + 1, b, n, h, h1, hK => by
    rw [canF]
    by_cases hk : (b, b + n) ∈ K
    · rw [if_pos hk]
    · rw [if_neg hk]
      by_cases h2 : n < 2
      · exact absurd (by have := hK b (Nat.le_refl _) (by omega); rwa [show n = 1 by omega]) hk
      · have s1 := sp_lt (n := n) (by omega)
        have s2 := sp_pos (n := n) (by omega)
        rw [if_neg h2, can_leaves K f b (sp n) (by omega) (by omega) fun i hi he => hK i hi (by omega), can_leaves K f (b + sp n) (n - sp n) (by omega) (by omega) fun i hi he => hK i (by omega) (by omega)]
        rfl
theorem can_oth (K : List (Nat × Nat)) (is : List Nat) : ∀ (f b n : Nat), n ≤ f → 1 ≤ n → (∀ s ∈ othF f b n is, s ∈ K) → (∀ i ∈ is, b ≤ i → i < b + n → (i, i + 1) ∈ K) → canF f b n K = true
  | 0, b, n, h, h1, _, _ => by omega
  | f + 1, b, n, h, h1, hK, hi => by
    rw [canF]
    by_cases hk : (b, b + n) ∈ K
    · rw [if_pos hk]
    · rw [if_neg hk]
      cases ht : tch is b (b + n) with
      | false =>
        rw [othF_no ht] at hK
        exact absurd (hK _ (List.mem_singleton.2 rfl)) hk
      | true =>
        by_cases h2 : n < 2
        · obtain ⟨i, h3, h4, h5⟩ := tch_mem.1 ht
          exact absurd (by have := hi i h3 h4 h5; rwa [show i = b by omega, show b + 1 = b + n by omega] at this) hk
        · have s1 := sp_lt (n := n) (by omega)
          have s2 := sp_pos (n := n) (by omega)
          rw [othF_two ht (by omega)] at hK
          rw [if_neg h2, can_oth K is f b (sp n) (by omega) (by omega) (fun s hs => hK s (List.mem_append_left _ hs)) (fun i h3 h4 h5 => hi i h3 h4 (by omega)), can_oth K is f (b + sp n) (n - sp n) (by omega) (by omega) (fun s hs => hK s (List.mem_append_right _ hs)) (fun i h3 h4 h5 => hi i h3 (by omega) (by omega))]
          rfl
theorem can_run (K : List (Nat × Nat)) (x y : Nat) : ∀ (f b n : Nat), n ≤ f → 1 ≤ n → (∀ s ∈ runF f b n x y, s ∈ K) → (∀ i, x ≤ i → i < y → (i, i + 1) ∈ K) → canF f b n K = true
  | 0, b, n, h, h1, _, _ => by omega
  | f + 1, b, n, h, h1, hK, hi => by
    by_cases h3 : b + n ≤ x ∨ y ≤ b
    · rw [runF, if_pos h3] at hK
      rw [canF, if_pos (hK _ (List.mem_singleton.2 rfl))]
    · by_cases h4 : x ≤ b ∧ b + n ≤ y
      · exact can_leaves K (f + 1) b n h h1 fun i h5 h6 => hi i (by omega) (by omega)
      · have s1 := sp_lt (n := n) (by omega)
        have s2 := sp_pos (n := n) (by omega)
        rw [runF, if_neg h3, if_neg h4] at hK
        rw [canF]
        split
        · rfl
        · rw [if_neg (by omega), can_run K x y f b (sp n) (by omega) (by omega) (fun s hs => hK s (List.mem_append_left _ hs)) hi, can_run K x y f (b + sp n) (n - sp n) (by omega) (by omega) (fun s hs => hK s (List.mem_append_right _ hs)) hi]
          rfl
end Tree
end Go.Proofs.YtmpaliocfikifaaGreatDoor

/- THE PLAIN MATHEMATICS OF LAYER 8: how many spans a batch has; nothing of the program. -/
namespace Go.Proofs.YtmpaliocfikifaaGreatDoor
namespace Tree
theorem sp_two (a : Nat) : sp (2 ^ (a + 1)) = 2 ^ a := sp_unique (Nat.pow_lt_pow_right (by omega) (by omega)) (Nat.le_refl _)
/-- the longest path: of a tree of more than 2^a, at most 2^(a + 1) leaves it has a + 1 steps -/
theorem D_zero : ∀ (a n : Nat), 2 ^ a < n → n ≤ 2 ^ (a + 1) → (D n 0).length = a + 1
  | 0, n, h1, h2 => by
    obtain rfl : n = 2 := by simp at h1 h2; omega
    have e : sp 2 = 1 := sp_two 0
    rw [D_left (by omega) (by rw [e]; omega), e, D_one _ (by omega)]; rfl
  | a + 1, n, h1, h2 => by
    have p := Nat.two_pow_pos (a + 1)
    have e := sp_unique h1 h2
    have lt : 2 ^ a < 2 ^ (a + 1) := Nat.pow_lt_pow_right (by omega) (by omega)
    rw [D_left (by omega) (by rw [e]; omega), List.length_append, e, D_zero a (2 ^ (a + 1)) lt (Nat.le_refl _)]; rfl
theorem D_mono {m n : Nat} (h : m ≤ n) : (D m 0).length ≤ (D n 0).length := by
  by_cases hm : m < 2
  · rw [D_one _ hm]; exact Nat.zero_le _
  · obtain ⟨a, _, a1, a2⟩ := sp_pow (n := m) (by omega)
    obtain ⟨c, _, c1, c2⟩ := sp_pow (n := n) (by omega)
    rw [D_zero a m a1 a2, D_zero c n c1 c2]
    rcases Nat.lt_or_ge c a with e | e
    · have := Nat.pow_le_pow_right (n := 2) (by omega) (show c + 1 ≤ a from e); omega
    · omega
theorem D_step {n : Nat} (h : 2 ≤ n) : (D n 0).length = (D (sp n) 0).length + 1 := by
  have := sp_pos (n := n) h
  rw [D_left h (by omega), List.length_append]; rfl
theorem wit_len {is : List Nat} {b m e : Nat} (h1 : b ≤ m) (h2 : m ≤ e) : (wit is b e).length = (wit is b m).length + (wit is m e).length := by
  induction is with
  | nil => rfl
  | cons i is ih =>
    unfold wit at ih ⊢
    simp only [List.filter_cons]
    by_cases c1 : b ≤ i ∧ i < m
    · rw [if_pos (by simp; omega), if_pos (by simpa using c1), if_neg (by simp; omega)]
      simp only [List.length_cons]; omega
    · by_cases c2 : m ≤ i ∧ i < e
      · rw [if_pos (by simp; omega), if_neg (by simpa using c1), if_pos (by simpa using c2)]
        simp only [List.length_cons]; omega
      · rw [if_neg (by simp; omega), if_neg (by simpa using c1), if_neg (by simpa using c2)]
        exact ih
theorem wit_one {is : List Nat} (hn : is.Nodup) (b : Nat) : (wit is b (b + 1)).length ≤ 1 := by
  have h1 : (wit is b (b + 1)).Nodup := hn.filter _
  match hw : wit is b (b + 1), h1 with
  | [], _ => exact Nat.zero_le _
  | [x], _ => exact Nat.le_refl _
  | x :: y :: r, h1 =>
    have hx : x ∈ wit is b (b + 1) := by rw [hw]; simp
    have hy : y ∈ wit is b (b + 1) := by rw [hw]; simp
    have e1 := (List.mem_filter.1 hx).2
    have e2 := (List.mem_filter.1 hy).2
    simp only [decide_eq_true_eq] at e1 e2
    have : x = y := by omega
    rw [this] at h1
    simp at h1
/-- H6: at most as many spans as there are other leaves -/
theorem oth_count (is : List Nat) (hn : is.Nodup) : ∀ (f b n : Nat), n ≤ f → 1 ≤ n → (othF f b n is).length + (wit is b (b + n)).length ≤ n
  | 0, b, n, h, h1 => by omega
  | f + 1, b, n, h, h1 => by
    cases ht : tch is b (b + n) with
    | false => rw [othF_no ht, wit_nil ht]; simpa using h1
    | true =>
      by_cases h2 : n < 2
      · obtain rfl : n = 1 := by omega
        rw [othF_one ht h2]
        have := wit_one hn b
        simpa using this
      · have s1 := sp_lt (n := n) (by omega)
        have s2 := sp_pos (n := n) (by omega)
        have e1 := oth_count is hn f b (sp n) (by omega) (by omega)
        have e2 := oth_count is hn f (b + sp n) (n - sp n) (by omega) (by omega)
        rw [show b + sp n + (n - sp n) = b + n by omega] at e2
        rw [othF_two ht (by omega), List.length_append, wit_len (is := is) (b := b) (m := b + sp n) (e := b + n) (by omega) (by omega)]
        omega
/-- H6: at most so many times the longest path as there are leaves -/
theorem oth_most (is : List Nat) : ∀ (f b n : Nat), n ≤ f → 1 ≤ n → tch is b (b + n) = true → (othF f b n is).length ≤ (wit is b (b + n)).length * (D n 0).length
  | 0, b, n, h, h1, _ => by omega
  | f + 1, b, n, h, h1, ht => by
    by_cases h2 : n < 2
    · rw [othF_one ht h2]; exact Nat.zero_le _
    · have s1 := sp_lt (n := n) (by omega)
      have s2 := sp_pos (n := n) (by omega)
      have s3 : n - sp n ≤ sp n := by
        obtain ⟨a, ha, a1, a2⟩ := sp_pow (n := n) (by omega)
        rw [Nat.pow_succ] at a2; omega
      have hd := D_step (n := n) (by omega)
      have hm := D_mono s3
      have w1 := wit_len (is := is) (b := b) (m := b + sp n) (e := b + n) (by omega) (by omega)
      rw [othF_two ht (by omega), List.length_append, hd, w1]
      have nz : ∀ {x y : Nat}, tch is x y = true → 1 ≤ (wit is x y).length := fun h => by
        have := wit_ne h
        exact Nat.one_le_iff_ne_zero.2 fun e => this (List.length_eq_zero_iff.1 e)
      have nl : ∀ (f b n : Nat), 1 ≤ f → tch is b (b + n) = false → (othF f b n is).length = 1 := fun f b n hf h => by
        cases f with
        | zero => omega
        | succ f => rw [othF_no h]; rfl
      obtain ⟨dl, hdl⟩ : ∃ dl, (D (sp n) 0).length = dl := ⟨_, rfl⟩
      rw [hdl] at hm ⊢
      cases c1 : tch is b (b + sp n) with
      | false =>
        cases c2 : tch is (b + sp n) (b + n) with
        | false =>
          rw [tch_cut (m := b + sp n) (by omega) (by omega), c1, c2] at ht
          cases ht
        | true =>
          have e2 := oth_most is f (b + sp n) (n - sp n) (by omega) (by omega) (by rw [show b + sp n + (n - sp n) = b + n by omega]; exact c2)
          rw [show b + sp n + (n - sp n) = b + n by omega] at e2
          have e1 := nl f b (sp n) (by omega) c1
          have k2 := nz c2
          have m2 := Nat.mul_le_mul_left (wit is (b + sp n) (b + n)).length hm
          rw [e1, wit_nil c1, List.length_nil, Nat.zero_add, Nat.mul_add, Nat.mul_one]
          omega
      | true =>
        have e1 := oth_most is f b (sp n) (by omega) (by omega) c1
        rw [hdl] at e1
        have k1 := nz c1
        cases c2 : tch is (b + sp n) (b + n) with
        | false =>
          have e2 := nl f (b + sp n) (n - sp n) (by omega) (by rw [show b + sp n + (n - sp n) = b + n by omega]; exact c2)
          rw [e2, wit_nil c2, List.length_nil, Nat.mul_add, Nat.mul_one]
          simp only [Nat.add_zero]
          omega
        | true =>
          have e2 := oth_most is f (b + sp n) (n - sp n) (by omega) (by omega) (by rw [show b + sp n + (n - sp n) = b + n by omega]; exact c2)
          rw [show b + sp n + (n - sp n) = b + n by omega] at e2
          have m2 := Nat.mul_le_mul_left (wit is (b + sp n) (b + n)).length hm
          rw [Nat.mul_add, Nat.mul_one, Nat.add_mul]
          omega
end Tree
end Go.Proofs.YtmpaliocfikifaaGreatDoor

/- THE PLAIN MATHEMATICS OF LAYER 8: the way to a leaf; subtrees told by counts; nothing of the program. -/
namespace Go.Proofs.YtmpaliocfikifaaGreatDoor
namespace Tree
/-- the subtrees that have leaf i, from [b, b + n) down -/
def wayF : Nat → Nat → Nat → Nat → List (Nat × Nat)
  | 0, _, _, _ => []
  | f + 1, b, n, i => (b, b + n) :: (if n < 2 then [] else if i < b + sp n then wayF f b (sp n) i else wayF f (b + sp n) (n - sp n) i)
theorem wayF_one {f b n i : Nat} (h : n < 2) : wayF (f + 1) b n i = [(b, b + n)] := by rw [wayF, if_pos h]
theorem wayF_left {f b n i : Nat} (h : 2 ≤ n) (hi : i < b + sp n) : wayF (f + 1) b n i = (b, b + n) :: wayF f b (sp n) i := by rw [wayF, if_neg (by omega), if_pos hi]
theorem wayF_right {f b n i : Nat} (h : 2 ≤ n) (hi : ¬ i < b + sp n) : wayF (f + 1) b n i = (b, b + n) :: wayF f (b + sp n) (n - sp n) i := by rw [wayF, if_neg (by omega), if_neg hi]
theorem wayF_len : ∀ (f b n i : Nat), n ≤ f → 1 ≤ n → (wayF f b n i).length ≤ n
  | 0, b, n, i, h, h1 => by omega
  | f + 1, b, n, i, h, h1 => by
    by_cases h2 : n < 2
    · rw [wayF_one h2]; simpa using h1
    · have s1 := sp_lt (n := n) (by omega)
      have s2 := sp_pos (n := n) (by omega)
      by_cases hi : i < b + sp n
      · rw [wayF_left (by omega) hi, List.length_cons]; have := wayF_len f b (sp n) i (by omega) (by omega); omega
      · rw [wayF_right (by omega) hi, List.length_cons]; have := wayF_len f (b + sp n) (n - sp n) i (by omega) (by omega); omega
/-- each has the leaf, and lies within -/
theorem wayF_has : ∀ (f b n i : Nat), n ≤ f → b ≤ i → i < b + n → ∀ s ∈ wayF f b n i, b ≤ s.1 ∧ s.1 ≤ i ∧ i < s.2 ∧ s.2 ≤ b + n
  | 0, b, n, i, h, _, h1 => by omega
  | f + 1, b, n, i, h, hb, h1 => by
    intro s hs
    by_cases h2 : n < 2
    · rw [wayF_one h2] at hs
      obtain rfl : s = (b, b + n) := by simpa using hs
      exact ⟨Nat.le_refl _, hb, h1, Nat.le_refl _⟩
    · have s1 := sp_lt (n := n) (by omega)
      have s2 := sp_pos (n := n) (by omega)
      by_cases hi : i < b + sp n
      · rw [wayF_left (by omega) hi] at hs
        rcases List.mem_cons.1 hs with rfl | hs
        · exact ⟨Nat.le_refl _, hb, h1, Nat.le_refl _⟩
        · have := wayF_has f b (sp n) i (by omega) hb hi s hs; omega
      · rw [wayF_right (by omega) hi] at hs
        rcases List.mem_cons.1 hs with rfl | hs
        · exact ⟨Nat.le_refl _, hb, h1, Nat.le_refl _⟩
        · have := wayF_has f (b + sp n) (n - sp n) i (by omega) (by omega) (by omega) s hs; omega
/-- H1: a subtree is on the way to the leaf that it begins at -/
theorem wayF_ins : ∀ (f b n x y : Nat), n ≤ f → b ≤ x → x < b + n → (insF f b n x y = true ↔ (x, y) ∈ wayF f b n x)
  | 0, b, n, x, y, h, _, h1 => by omega
  | f + 1, b, n, x, y, h, hb, h1 => by
    rw [insF]
    by_cases he : x = b ∧ y = b + n
    · obtain ⟨rfl, rfl⟩ := he
      rw [if_pos ⟨rfl, rfl⟩, wayF]
      exact ⟨fun _ => List.mem_cons_self, fun _ => rfl⟩
    · rw [if_neg he]
      have hne : ¬ (x, y) = (b, b + n) := fun e => he (by injection e with e1 e2; exact ⟨e1, e2⟩)
      by_cases h2 : n < 2
      · rw [if_pos h2, wayF_one h2]
        refine ⟨fun e => (by cases e), fun e => absurd ?_ hne⟩
        simpa using e
      · have s1 := sp_lt (n := n) (by omega)
        have s2 := sp_pos (n := n) (by omega)
        rw [if_neg h2]
        by_cases hi : x < b + sp n
        · rw [wayF_left (by omega) hi, List.mem_cons, ← wayF_ins f b (sp n) x y (by omega) hb hi]
          by_cases hy : y ≤ b + sp n
          · rw [if_pos hy]
            exact ⟨.inr, fun e => e.resolve_left hne⟩
          · rw [if_neg hy, if_neg (by omega)]
            refine ⟨fun e => (by cases e), fun e => ?_⟩
            have := insF_in f b (sp n) x y (e.resolve_left hne) (by omega)
            omega
        · rw [wayF_right (by omega) hi, List.mem_cons, ← wayF_ins f (b + sp n) (n - sp n) x y (by omega) (by omega) (by omega)]
          by_cases hy : y ≤ b + sp n
          · rw [if_pos hy]
            refine ⟨fun e => ?_, fun e => ?_⟩
            · have := insF_in f b (sp n) x y e (by omega); omega
            · have := insF_in f (b + sp n) (n - sp n) x y (e.resolve_left hne) (by omega); omega
          · rw [if_neg hy, if_pos (by omega)]
            exact ⟨.inr, fun e => e.resolve_left hne⟩
/-- the part that has not the leaf -/
def osd (i : Nat) (s : Nat × Nat) : Nat × Nat := if i < s.1 + sp (s.2 - s.1) then (s.1 + sp (s.2 - s.1), s.2) else (s.1, s.1 + sp (s.2 - s.1))
/-- the part that has it -/
def twd (i : Nat) (s : Nat × Nat) : Nat × Nat := if i < s.1 + sp (s.2 - s.1) then (s.1, s.1 + sp (s.2 - s.1)) else (s.1 + sp (s.2 - s.1), s.2)
/-- what Path takes of the way -/
def pcol (i : Nat) (l : List (Nat × Nat)) : List (Nat × Nat) := (l.filter fun s => decide (1 < s.2 - s.1)).map (osd i)
theorem pcol_nil (i : Nat) : pcol i [] = [] := rfl
theorem pcol_hit {i : Nat} {l : List (Nat × Nat)} {s : Nat × Nat} (h : 1 < s.2 - s.1) : pcol i (l ++ [s]) = pcol i l ++ [osd i s] := by simp [pcol, List.filter_append, h]
theorem pcol_miss {i : Nat} {l : List (Nat × Nat)} {s : Nat × Nat} (h : ¬ 1 < s.2 - s.1) : pcol i (l ++ [s]) = pcol i l := by simp [pcol, List.filter_append, h]
theorem pcol_len (i : Nat) (l : List (Nat × Nat)) : (pcol i l).length ≤ l.length := by rw [pcol, List.length_map]; exact List.length_filter_le _ _
theorem pcol_way (i : Nat) : ∀ (f b n : Nat), n ≤ f → pcol i (wayF f b n i) = (pthF f b n i).reverse
  | 0, b, n, h => rfl
  | f + 1, b, n, h => by
    by_cases h2 : n < 2
    · rw [wayF_one h2, pthF_small h2]
      simp [pcol]; omega
    · have s1 := sp_lt (n := n) (by omega)
      have s2 := sp_pos (n := n) (by omega)
      have e : 1 < (b, b + n).2 - (b, b + n).1 := by show 1 < b + n - b; omega
      have c : ∀ l : List (Nat × Nat), pcol i ((b, b + n) :: l) = osd i (b, b + n) :: pcol i l := fun l => by
        unfold pcol; rw [List.filter_cons_of_pos (by simpa using e), List.map_cons]
      have en : b + n - b = n := by omega
      by_cases hi : i < b + sp n
      · rw [wayF_left (by omega) hi, pthF_left (by omega) hi, c, pcol_way i f b (sp n) (by omega), List.reverse_append]
        simp only [osd, en, if_pos hi]; rfl
      · rw [wayF_right (by omega) hi, pthF_right (by omega) hi, c, pcol_way i f (b + sp n) (n - sp n) (by omega), List.reverse_append]
        simp only [osd, en, if_neg hi]; rfl
/-- what Proof takes of the way to leaf m - 1 -/
def rcol (m : Nat) : List (Nat × Nat) → List (Nat × Nat)
  | [] => []
  | s :: r => if m < s.2 then osd (m - 1) s :: rcol m r else if 0 < s.1 then [s] else []
theorem rcol_way (m : Nat) : ∀ (f b n : Nat), n ≤ f → b < m → m ≤ b + n → rcol m (wayF f b n (m - 1)) = (prfF f b n m).reverse
  | 0, b, n, h, _, h2 => by omega
  | f + 1, b, n, h, hb, h2 => by
    rw [prfF]
    by_cases hm : b + n = m
    · rw [if_pos hm]
      have e : wayF (f + 1) b n (m - 1) = (b, b + n) :: (wayF (f + 1) b n (m - 1)).tail := by rw [wayF]; rfl
      rw [e, rcol, if_neg (by show ¬ m < b + n; omega)]
      by_cases h0 : b = 0
      · rw [if_pos h0, if_neg (by show ¬ 0 < b; omega)]; rfl
      · rw [if_neg h0, if_pos (by show 0 < b; omega)]; rfl
    · rw [if_neg hm]
      have h3 : 2 ≤ n := by omega
      have s1 := sp_lt (n := n) h3
      have s2 := sp_pos (n := n) h3
      have en : b + n - b = n := by omega
      by_cases hi : m ≤ b + sp n
      · rw [if_pos hi, wayF_left h3 (by omega), rcol, if_pos (by show m < b + n; omega), rcol_way m f b (sp n) (by omega) hb hi, List.reverse_append]
        simp only [osd, en, if_pos (show m - 1 < b + sp n by omega)]; rfl
      · rw [if_neg hi, wayF_right h3 (by omega), rcol, if_pos (by show m < b + n; omega), rcol_way m f (b + sp n) (n - sp n) (by omega) (by omega) (by omega), List.reverse_append]
        simp only [osd, en, if_neg (show ¬ m - 1 < b + sp n by omega)]; rfl
theorem rcol_split {m : Nat} : ∀ {pre : List (Nat × Nat)} {x : Nat × Nat} {rest : List (Nat × Nat)}, (∀ s ∈ pre, m < s.2) → ¬ m < x.2 → rcol m (pre ++ x :: rest) = pre.map (osd (m - 1)) ++ (if 0 < x.1 then [x] else [])
  | [], x, rest, _, hx => by rw [List.nil_append, rcol, if_neg hx]; rfl
  | s :: pre, x, rest, h, hx => by
    rw [List.cons_append, rcol, if_pos (h s List.mem_cons_self), rcol_split (fun t ht => h t (List.mem_cons_of_mem _ ht)) hx]; rfl
/-- the last on the way is the leaf alone -/
theorem wayF_last : ∀ (f b n i : Nat), n ≤ f → b ≤ i → i < b + n → ∃ pre, wayF f b n i = pre ++ [(i, i + 1)]
  | 0, b, n, i, h, _, h1 => by omega
  | f + 1, b, n, i, h, hb, h1 => by
    by_cases h2 : n < 2
    · rw [wayF_one h2, show b = i by omega, show n = 1 by omega]; exact ⟨[], rfl⟩
    · have s1 := sp_lt (n := n) (by omega)
      have s2 := sp_pos (n := n) (by omega)
      by_cases hi : i < b + sp n
      · obtain ⟨p, hp⟩ := wayF_last f b (sp n) i (by omega) hb hi
        rw [wayF_left (by omega) hi, hp]; exact ⟨(b, b + n) :: p, rfl⟩
      · obtain ⟨p, hp⟩ := wayF_last f (b + sp n) (n - sp n) i (by omega) (by omega) (by omega)
        rw [wayF_right (by omega) hi, hp]; exact ⟨(b, b + n) :: p, rfl⟩
/-- from the left, the greatest subtrees without wanted leaves, by their counts -/
def barF : Nat → Nat → Nat → (Nat → Nat → Nat) → List (Nat × Nat)
  | 0, _, _, _ => []
  | f + 1, b, n, c => if c b (b + n) = 0 then [(b, b + n)] else if n ≤ c b (b + n) then [] else barF f b (sp n) c ++ barF f (b + sp n) (n - sp n) c
theorem barF_no {f b n : Nat} {c : Nat → Nat → Nat} (h : c b (b + n) = 0) : barF (f + 1) b n c = [(b, b + n)] := by rw [barF, if_pos h]
theorem barF_all {f b n : Nat} {c : Nat → Nat → Nat} (h0 : c b (b + n) ≠ 0) (h : n ≤ c b (b + n)) : barF (f + 1) b n c = [] := by rw [barF, if_neg h0, if_pos h]
theorem barF_two {f b n : Nat} {c : Nat → Nat → Nat} (h0 : c b (b + n) ≠ 0) (h : ¬ n ≤ c b (b + n)) : barF (f + 1) b n c = barF f b (sp n) c ++ barF f (b + sp n) (n - sp n) c := by rw [barF, if_neg h0, if_neg h]
/-- more depth changes nothing -/
theorem barF_fuel (c : Nat → Nat → Nat) : ∀ (f g b n : Nat), n ≤ f → n ≤ g → 1 ≤ n → barF f b n c = barF g b n c
  | 0, g, b, n, h, _, h1 => by omega
  | f + 1, 0, b, n, h, hg, h1 => by omega
  | f + 1, g + 1, b, n, h, hg, h1 => by
    by_cases h0 : c b (b + n) = 0
    · rw [barF_no h0, barF_no h0]
    · by_cases h2 : n ≤ c b (b + n)
      · rw [barF_all h0 h2, barF_all h0 h2]
      · rw [barF_two h0 h2, barF_two h0 h2]
        have h3 : 2 ≤ n := by omega
        have s1 := sp_lt (n := n) h3
        have s2 := sp_pos (n := n) h3
        rw [barF_fuel c f g b (sp n) (by omega) (by omega) (by omega), barF_fuel c f g (b + sp n) (n - sp n) (by omega) (by omega) (by omega)]
theorem barF_len (c : Nat → Nat → Nat) : ∀ (f b n : Nat), n ≤ f → 1 ≤ n → (barF f b n c).length ≤ n
  | 0, b, n, h, h1 => by omega
  | f + 1, b, n, h, h1 => by
    by_cases h0 : c b (b + n) = 0
    · rw [barF_no h0]; simpa using h1
    · by_cases h2 : n ≤ c b (b + n)
      · rw [barF_all h0 h2]; exact Nat.zero_le _
      · rw [barF_two h0 h2, List.length_append]
        have h3 : 2 ≤ n := by omega
        have s1 := sp_lt (n := n) h3
        have s2 := sp_pos (n := n) h3
        have := barF_len c f b (sp n) (by omega) (by omega)
        have := barF_len c f (b + sp n) (n - sp n) (by omega) (by omega)
        omega
/-- each lies within -/
theorem barF_in (c : Nat → Nat → Nat) : ∀ (f b n : Nat), n ≤ f → 1 ≤ n → ∀ s ∈ barF f b n c, b ≤ s.1 ∧ s.1 < s.2 ∧ s.2 ≤ b + n
  | 0, b, n, h, h1 => by omega
  | f + 1, b, n, h, h1 => by
    intro s hs
    by_cases h0 : c b (b + n) = 0
    · rw [barF_no h0] at hs
      obtain rfl : s = (b, b + n) := by simpa using hs
      exact ⟨Nat.le_refl _, by show b < b + n; omega, Nat.le_refl _⟩
    · by_cases h2 : n ≤ c b (b + n)
      · rw [barF_all h0 h2] at hs; cases hs
      · rw [barF_two h0 h2] at hs
        have h3 : 2 ≤ n := by omega
        have s1 := sp_lt (n := n) h3
        have s2 := sp_pos (n := n) h3
        rcases List.mem_append.1 hs with e | e
        · have := barF_in c f b (sp n) (by omega) (by omega) s e; omega
        · have := barF_in c f (b + sp n) (n - sp n) (by omega) (by omega) s e; omega
theorem wit_zero {is : List Nat} {b e : Nat} : (wit is b e).length = 0 ↔ tch is b e = false := by
  constructor
  · intro h
    cases ht : tch is b e with
    | false => rfl
    | true => exact absurd (List.length_eq_zero_iff.1 h) (wit_ne ht)
  · intro h; rw [wit_nil h]; rfl
theorem barF_oth (is : List Nat) (hn : is.Nodup) : ∀ (f b n : Nat), n ≤ f → 1 ≤ n → barF f b n (fun b e => (wit is b e).length) = othF f b n is
  | 0, b, n, h, h1 => by omega
  | f + 1, b, n, h, h1 => by
    cases ht : tch is b (b + n) with
    | false => rw [othF_no ht, barF_no (wit_zero.2 ht)]
    | true =>
      have h0 : (wit is b (b + n)).length ≠ 0 := fun e => by rw [wit_zero.1 e] at ht; cases ht
      by_cases h2 : n ≤ (wit is b (b + n)).length
      · rw [barF_all h0 h2]
        have := oth_count is hn (f + 1) b n h h1
        exact (List.length_eq_zero_iff.1 (by omega)).symm
      · rw [barF_two h0 h2]
        have h3 : 2 ≤ n := by omega
        have s1 := sp_lt (n := n) h3
        have s2 := sp_pos (n := n) h3
        rw [othF_two ht h3, barF_oth is hn f b (sp n) (by omega) (by omega), barF_oth is hn f (b + sp n) (n - sp n) (by omega) (by omega)]
/-- how many leaves two spans share -/
def shr (x y b e : Nat) : Nat := min e y - max b x
theorem barF_run (x y : Nat) (hxy : x < y) : ∀ (f b n : Nat), n ≤ f → 1 ≤ n → barF f b n (shr x y) = runF f b n x y
  | 0, b, n, h, h1 => by omega
  | f + 1, b, n, h, h1 => by
    rw [runF]
    by_cases h0 : shr x y b (b + n) = 0
    · rw [barF_no h0, if_pos (by unfold shr at h0; omega)]
    · by_cases h2 : n ≤ shr x y b (b + n)
      · rw [barF_all h0 h2, if_neg (by unfold shr at h0; omega), if_pos (by unfold shr at h2; omega)]
      · rw [barF_two h0 h2, if_neg (by unfold shr at h0; omega), if_neg (by unfold shr at h2; omega)]
        have h3 : 2 ≤ n := by omega
        have s1 := sp_lt (n := n) h3
        have s2 := sp_pos (n := n) h3
        rw [barF_run x y hxy f b (sp n) (by omega) (by omega), barF_run x y hxy f (b + sp n) (n - sp n) (by omega) (by omega)]
end Tree
end Go.Proofs.YtmpaliocfikifaaGreatDoor
