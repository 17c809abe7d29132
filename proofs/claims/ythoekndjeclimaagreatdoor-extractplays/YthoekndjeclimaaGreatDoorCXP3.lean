import Derived.Test.YthoekndjeclimaaGreatDoorCEX3
import Derived.Test.YthoekndjeclimaaGreatDoorCEX1
/- THE PLAIN MATHEMATICS OF LAYER 6: the document's steps of a walk. -/
namespace Go.Proofs.YthoekndjeclimaaGreatDoor
namespace Tree
/-- the steps from a subtree (b, n) down to a span: what stands beside (begin, end), and does it stand left? -/
def dn : Nat → Nat → Nat → Nat → Nat → List (Nat × Nat × Bool)
  | 0, _, _, _, _ => []
  | f + 1, b, n, fb, fe => if (b = fb ∧ b + n = fe) ∨ n < 2 then [] else if b + sp n ≤ fb then (b, b + sp n, true) :: dn f (b + sp n) (n - sp n) fb fe else (b + sp n, b + n, false) :: dn f b (sp n) fb fe
theorem dn_stop {f b n fb fe : Nat} (h : (b = fb ∧ b + n = fe) ∨ n < 2) : dn f b n fb fe = [] := by
  cases f
  · rfl
  · rw [dn, if_pos h]
theorem dn_right {f b n fb fe : Nat} (h : ¬ ((b = fb ∧ b + n = fe) ∨ n < 2)) (h2 : b + sp n ≤ fb) : dn (f + 1) b n fb fe = (b, b + sp n, true) :: dn f (b + sp n) (n - sp n) fb fe := by rw [dn, if_neg h, if_pos h2]
theorem dn_left {f b n fb fe : Nat} (h : ¬ ((b = fb ∧ b + n = fe) ∨ n < 2)) (h2 : ¬ b + sp n ≤ fb) : dn (f + 1) b n fb fe = (b + sp n, b + n, false) :: dn f b (sp n) fb fe := by rw [dn, if_neg h, if_neg h2]
theorem dn_D : ∀ (f b n i : Nat), n ≤ f → b ≤ i → i < b + n → (dn f b n i (i + 1)).map (·.2.2) = (D n (i - b)).reverse
  | 0, b, n, i, h, _, h2 => by omega
  | f + 1, b, n, i, h, hb, h2 => by
    by_cases h3 : n < 2
    · rw [dn_stop (.inr h3), D_one _ h3]; rfl
    · have s1 := sp_lt (n := n) (by omega)
      have s2 := sp_pos (n := n) (by omega)
      have hs : ¬ ((b = i ∧ b + n = i + 1) ∨ n < 2) := by omega
      by_cases hi : b + sp n ≤ i
      · rw [dn_right hs hi, D_right (by omega) (by omega), List.reverse_append, List.map_cons, dn_D f (b + sp n) (n - sp n) i (by omega) hi (by omega), show i - b - sp n = i - (b + sp n) by omega]; rfl
      · rw [dn_left hs hi, D_left (by omega) (by omega), List.reverse_append, List.map_cons, dn_D f b (sp n) i (by omega) hb (by omega)]; rfl
theorem pow_mono {a b : Nat} (h : a ≤ b) : 2 ^ a ∣ 2 ^ b := Nat.pow_dvd_pow 2 h
/-- sp n is a power of two, n at most its double -/
theorem sp_pow {n : Nat} (h : 2 ≤ n) : ∃ a, sp n = 2 ^ a ∧ 2 ^ a < n ∧ n ≤ 2 ^ (a + 1) := by
  refine ⟨(n - 1).log2, sp_eq h, ?_, ?_⟩
  · rw [← sp_eq h]; exact sp_lt h
  · have := Nat.lt_log2_self (n := n - 1)
    omega
theorem dn_PD (l : List T) : ∀ (f b n k j : Nat), n ≤ f → 1 ≤ k → k < n → (∃ J, n ≤ 2 ^ J ∧ 2 ^ J ∣ b) → 2 ^ j ∣ b + k → ¬ 2 ^ (j + 1) ∣ b + k → b + n ≤ l.length →
    (dn f b n (b + k - 2 ^ j) (b + k)).map (·.2.2) = (PD k n).reverse ∧ (dn f b n (b + k - 2 ^ j) (b + k)).map (fun s => root (seg l s.1 s.2.1)) = (own f k (seg l b (b + n))).reverse ∧ root (seg l (b + k - 2 ^ j) (b + k)) = stt f k (seg l b (b + n))
  | 0, b, n, k, j, h, h1, h2, _, _, _, _ => by omega
  | f + 1, b, n, k, j, h, h1, h2, ⟨J, hJ, hd⟩, hj, hj2, hl => by
    obtain ⟨a, ha, ha1, ha2⟩ := sp_pow (n := n) (by omega)
    have sl : (seg l b (b + n)).length = n := by rw [seg_len hl]; omega
    have q1 := seg_take (l := l) (b := b) (n := n) (k := sp n) (by omega)
    have q2 := seg_drop (l := l) (b := b) (n := n) (k := sp n) (by omega)
    have haJ : a + 1 ≤ J := by
      rcases Nat.lt_or_ge a J with e | e
      · exact e
      · have := Nat.pow_le_pow_right (n := 2) (by omega) e; omega
    have d1 : 2 ^ (a + 1) ∣ b := Nat.dvd_trans (pow_mono haJ) hd
    have d0 : 2 ^ a ∣ b := Nat.dvd_trans (pow_mono (by omega)) d1
    have hs : ¬ ((b = b + k - 2 ^ j ∧ b + n = b + k) ∨ n < 2) := by omega
    have ho : ¬ (n < 2 ∨ k = n) := by omega
    have pj := Nat.two_pow_pos j
    rw [own, stt, sl, if_neg ho, if_neg ho]
    rcases Nat.lt_trichotomy k (sp n) with hk | hk | hk
    · obtain ⟨r1, r2, r3⟩ := dn_PD l f b (sp n) k j (by omega) h1 hk ⟨J, by omega, hd⟩ hj hj2 (by omega)
      rw [dn_left hs (by omega), List.map_cons, List.map_cons, r1, r2, r3, PD_left h1 h2 (by omega), if_pos (by omega), if_pos (by omega), q1, q2, List.reverse_append, List.reverse_append]
      refine ⟨rfl, ?_, rfl⟩
      show root (seg l (b + sp n) (b + n)) :: _ = _
      rw [show b + sp n + (n - sp n) = b + n by omega]; rfl
    · have e : j = a := by
        have k1 : 2 ^ a ∣ b + k := by rw [hk, ha]; exact Nat.dvd_add d0 (Nat.dvd_refl _)
        have k2 : ¬ 2 ^ (a + 1) ∣ b + k := fun e => by
          have := (Nat.dvd_add_right d1).1 e
          rw [hk, ha] at this
          have := Nat.le_of_dvd (Nat.two_pow_pos a) this
          rw [Nat.pow_succ] at this; have := Nat.two_pow_pos a; omega
        rcases Nat.lt_trichotomy j a with e | e | e
        · exact absurd (Nat.dvd_trans (pow_mono e) k1) hj2
        · exact e
        · exact absurd (Nat.dvd_trans (pow_mono e) hj) k2
      subst e
      have e1 : b + k - 2 ^ j = b := by omega
      have e2 : PD k (sp n) = [] := by rw [hk, PD_same]
      have e3 : own f k (seg l b (b + sp n)) = [] ∧ stt f k (seg l b (b + sp n)) = root (seg l b (b + sp n)) := by
        have sl2 : (seg l b (b + sp n)).length = sp n := by rw [seg_len (by omega)]; omega
        cases f with
        | zero => exact ⟨rfl, rfl⟩
        | succ f =>
          rw [own, stt, sl2, if_pos (.inr hk), if_pos (.inr hk)]
          exact ⟨rfl, rfl⟩
      rw [dn_left hs (by omega), e1, dn_stop (.inl ⟨rfl, by rw [hk]⟩), PD_left h1 h2 (by omega), e2, if_pos (by omega), if_pos (by omega), q1, q2, e3.1, e3.2]
      refine ⟨rfl, ?_, by rw [hk]⟩
      show [root (seg l (b + sp n) (b + n))] = _
      rw [show b + sp n + (n - sp n) = b + n by omega]; rfl
    · have d2 : 2 ^ a ∣ b + sp n := by rw [ha]; exact Nat.dvd_add d0 (Nat.dvd_refl _)
      have e0 : b + k = b + sp n + (k - sp n) := by omega
      have hlt : k - sp n < 2 ^ a := by rw [Nat.pow_succ] at ha2; omega
      have hja : j < a := by
        rcases Nat.lt_or_ge j a with e | e
        · exact e
        · have := Nat.dvd_trans (pow_mono e) hj
          rw [e0] at this
          have := Nat.le_of_dvd (by omega) ((Nat.dvd_add_right d2).1 this)
          omega
      have hle : 2 ^ j ≤ k - sp n := by
        rw [e0] at hj
        exact Nat.le_of_dvd (by omega) ((Nat.dvd_add_right (Nat.dvd_trans (pow_mono (by omega)) d2)).1 hj)
      obtain ⟨r1, r2, r3⟩ := dn_PD l f (b + sp n) (n - sp n) (k - sp n) j (by omega) (by omega) (by omega) ⟨a, by rw [Nat.pow_succ] at ha2; omega, d2⟩ (by rw [← e0]; exact hj) (by rw [← e0]; exact hj2) (by omega)
      rw [← e0] at r1 r2 r3
      rw [dn_right hs (by omega), List.map_cons, List.map_cons, r1, r2, r3, PD_right h1 h2 (by omega), if_neg (by omega), if_neg (by omega), q1, q2, List.reverse_append, List.reverse_append]
      exact ⟨rfl, rfl, rfl⟩
/-- the hash that a walk has come to -/
def stw : T → List Bool → List T → T
  | r, d :: ds, h :: hs => stw (Sha.sha (txt d r h)) ds hs
  | r, _, _ => r
theorem txs_step : ∀ (r : T) (ds : List Bool) (hs : List T) (d : Bool) (h : T), ds.length = hs.length → txs r (ds ++ [d]) (hs ++ [h]) = txs r ds hs ++ [txt d (stw r ds hs) h] ∧ stw r (ds ++ [d]) (hs ++ [h]) = Sha.sha (txt d (stw r ds hs) h)
  | _, [], [], _, _, _ => ⟨rfl, rfl⟩
  | r, x :: ds, y :: hs, d, h, e => by
    obtain ⟨e1, e2⟩ := txs_step (Sha.sha (txt x r y)) ds hs d h (by simpa using e)
    refine ⟨?_, e2⟩
    show txt x r y :: txs _ (ds ++ [d]) (hs ++ [h]) = _
    rw [e1]; rfl
end Tree
end Go.Proofs.YthoekndjeclimaaGreatDoor

/- how long the texts are -/
namespace Go.Proofs.YthoekndjeclimaaGreatDoor
namespace Tree
theorem nt_len {a b : T} (ha : a.length = 32) (hb : b.length = 32) : (nt a b).length = 65 := by unfold nt; simp; omega
theorem hi_mem : ∀ (a b : List T) (p q : T), hi a b = some (p, q) → p ∈ a ∧ q ∈ b
  | [], _, p, q, h => by simp [hi] at h
  | _ :: _, [], p, q, h => by simp [hi] at h
  | x :: a, y :: b, p, q, h => by
    rw [hi] at h
    cases hh : hi a b with
    | none =>
      rw [hh] at h
      simp only at h
      split at h
      · cases h
      · injection h with h
        injection h with h1 h2
        subst h1 h2
        exact ⟨List.mem_cons_self .., List.mem_cons_self ..⟩
    | some z =>
      rw [hh] at h
      simp only at h
      injection h with h
      subst h
      have := hi_mem a b p q hh
      exact ⟨List.mem_cons_of_mem _ this.1, List.mem_cons_of_mem _ this.2⟩
theorem txs_len : ∀ (r : T) (ds : List Bool) (hs : List T), r.length = 32 → Hs hs → ∀ t ∈ txs r ds hs, t.length = 65
  | _, [], _, _, _, t, h => by simp [txs] at h
  | _, _ :: _, [], _, _, t, h => by simp [txs] at h
  | r, d :: ds, g :: hs, hr, H, t, h => by
    have c := H.cons
    rw [txs] at h
    rcases List.mem_cons.1 h with rfl | h
    · cases d
      · exact nt_len hr c.1
      · exact nt_len c.1 hr
    · exact txs_len _ ds hs (Sha.sha_length _) c.2 t h
theorem partF_len : ∀ (f : Nat) (a b : List T) (p q : T), Hs a → Hs b → partF f a b = some (p, q) → p.length = 65 ∧ q.length = 65
  | 0, a, b, p, q, _, _, h => by simp [partF] at h
  | f + 1, a, b, p, q, ha, hb, h => by
    rw [partF] at h
    split at h
    · cases h
    · split at h
      · split at h
        · exact partF_len f _ _ p q (ha.drop _) (hb.drop _) h
        · exact partF_len f _ _ p q (ha.take _) (hb.take _) h
      · injection h with h
        injection h with h1 h2
        subst h1 h2
        exact ⟨nt_len (root_len (ha.take _)) (root_len (ha.drop _)), nt_len (root_len (hb.take _)) (root_len (hb.drop _))⟩
end Tree
end Go.Proofs.YthoekndjeclimaaGreatDoor
