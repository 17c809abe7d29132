import Derived.Test.YtblmaokonhdjaaaGreatDoorPkSH3
import Derived.Test.YtblmaokonhdjaaaGreatDoorPkR5
/- THE PLAIN MATHEMATICS OF LAYER 8: the way to a leaf; subtrees told by counts; nothing of the program. -/
namespace Go.Proofs.YtblmaokonhdjaaaGreatDoor
namespace Tree
/-- the subtrees that have leaf i, from [b, b + n) down -/
def wayF : Nat → Nat → Nat → Nat → List (Nat × Nat)
  | 0, _, _, _ => []
  | f + 1, b, n, i => (b, b + n) :: (if n < 2 then [] else if i < b + sp n then wayF f b (sp n) i else wayF f (b + sp n) (n - sp n) i)
theorem wayF_one {f b n i : Nat} (h : n < 2) : wayF (f + 1) b n i = [(b, b + n)] := by rw [wayF, if_pos h]
theorem wayF_left {f b n i : Nat} (h : 2 ≤ n) (hi : i < b + sp n) : wayF (f + 1) b n i = (b, b + n) :: wayF f b (sp n) i := by rw [wayF, if_neg (by omega), if_pos hi]
theorem wayF_right {f b n i : Nat} (h : 2 ≤ n) (hi : ¬ i < b + sp n) : wayF (f + 1) b n i = (b, b + n) :: wayF f (b + sp n) (n - sp n) i := by rw [wayF, if_neg (by omega), if_neg hi]
theorem wayF_len : ∀ (f b n i : Nat), n ≤ f → 1 ≤ n → (wayF f b n i).length ≤ n
  | 0, b, n, i, h, h1 => by omega
  | f + 1, b, n, i, h, h1 => by
    by_cases h2 : n < 2
    · rw [wayF_one h2]; simpa using h1
    · have s1 := sp_lt (n := n) (by omega)
      have s2 := sp_pos (n := n) (by omega)
      by_cases hi : i < b + sp n
      · rw [wayF_left (by omega) hi, List.length_cons]; have := wayF_len f b (sp n) i (by omega) (by omega); omega
      · rw [wayF_right (by omega) hi, List.length_cons]; have := wayF_len f (b + sp n) (n - sp n) i (by omega) (by omega); omega
/-- each has the leaf, and lies within -/
theorem wayF_has : ∀ (f b n i : Nat), n ≤ f → b ≤ i → i < b + n → ∀ s ∈ wayF f b n i, b ≤ s.1 ∧ s.1 ≤ i ∧ i < s.2 ∧ s.2 ≤ b + n
  | 0, b, n, i, h, _, h1 => by omega
  | f + 1, b, n, i, h, hb, h1 => by
    intro s hs
    by_cases h2 : n < 2
    · rw [wayF_one h2] at hs
      obtain rfl : s = (b, b + n) := by simpa using hs
      exact ⟨Nat.le_refl _, hb, h1, Nat.le_refl _⟩
    · have s1 := sp_lt (n := n) (by omega)
      have s2 := sp_pos (n := n) (by omega)
      by_cases hi : i < b + sp n
      · rw [wayF_left (by omega) hi] at hs
        rcases List.mem_cons.1 hs with rfl | hs
        · exact ⟨Nat.le_refl _, hb, h1, Nat.le_refl _⟩
        · have := wayF_has f b (sp n) i (by omega) hb hi s hs; omega
      · rw [wayF_right (by omega) hi] at hs
        rcases List.mem_cons.1 hs with rfl | hs
        · exact ⟨Nat.le_refl _, hb, h1, Nat.le_refl _⟩
        · have := wayF_has f (b + sp n) (n - sp n) i (by omega) (by omega) (by omega) s hs; omega
/-- H1: a subtree is on the way to the leaf that it begins at -/
theorem wayF_ins : ∀ (f b n x y : Nat), n ≤ f → b ≤ x → x < b + n → (insF f b n x y = true ↔ (x, y) ∈ wayF f b n x)
  | 0, b, n, x, y, h, _, h1 => by omega
  | f + 1, b, n, x, y, h, hb, h1 => by
    rw [insF]
    by_cases he : x = b ∧ y = b + n
    · obtain ⟨rfl, rfl⟩ := he
      rw [if_pos ⟨rfl, rfl⟩, wayF]
      exact ⟨fun _ => List.mem_cons_self, fun _ => rfl⟩
    · rw [if_neg he]
      have hne : ¬ (x, y) = (b, b + n) := fun e => he (by injection e with e1 e2; exact ⟨e1, e2⟩)
      by_cases h2 : n < 2
      · rw [if_pos h2, wayF_one h2]
        refine ⟨fun e => (by cases e), fun e => absurd ?_ hne⟩
        simpa using e
      · have s1 := sp_lt (n := n) (by omega)
        have s2 := sp_pos (n := n) (by omega)
        rw [if_neg h2]
        by_cases hi : x < b + sp n
        · rw [wayF_left (by omega) hi, List.mem_cons, ← wayF_ins f b (sp n) x y (by omega) hb hi]
          by_cases hy : y ≤ b + sp n
          · rw [if_pos hy]
            exact ⟨.inr, fun e => e.resolve_left hne⟩
          · rw [if_neg hy, if_neg (by omega)]
            refine ⟨fun e => (by cases e), fun e => ?_⟩
            have := insF_in f b (sp n) x y (e.resolve_left hne) (by omega)
            omega
        · rw [wayF_right (by omega) hi, List.mem_cons, ← wayF_ins f (b + sp n) (n - sp n) x y (by omega) (by omega) (by omega)]
          by_cases hy : y ≤ b + sp n
          · rw [if_pos hy]
            refine ⟨fun e => ?_, fun e => ?_⟩
            · have := insF_in f b (sp n) x y e (by omega); omega
            · have := insF_in f (b + sp n) (n - sp n) x y (e.resolve_left hne) (by omega); omega
          · rw [if_neg hy, if_pos (by omega)]
            exact ⟨.inr, fun e => e.resolve_left hne⟩
/-- the part that has not the leaf -/
def osd (i : Nat) (s : Nat × Nat) : Nat × Nat := if i < s.1 + sp (s.2 - s.1) then (s.1 + sp (s.2 - s.1), s.2) else (s.1, s.1 + sp (s.2 - s.1))
/-- the part that has it -/
def twd (i : Nat) (s : Nat × Nat) : Nat × Nat := if i < s.1 + sp (s.2 - s.1) then (s.1, s.1 + sp (s.2 - s.1)) else (s.1 + sp (s.2 - s.1), s.2)
/-- what Path takes of the way -/
def pcol (i : Nat) (l : List (Nat × Nat)) : List (Nat × Nat) := (l.filter fun s => decide (1 < s.2 - s.1)).map (osd i)
theorem pcol_nil (i : Nat) : pcol i [] = [] := rfl
theorem pcol_hit {i : Nat} {l : List (Nat × Nat)} {s : Nat × Nat} (h : 1 < s.2 - s.1) : pcol i (l ++ [s]) = pcol i l ++ [osd i s] := by simp [pcol, List.filter_append, h]
theorem pcol_miss {i : Nat} {l : List (Nat × Nat)} {s : Nat × Nat} (h : ¬ 1 < s.2 - s.1) : pcol i (l ++ [s]) = pcol i l := by simp [pcol, List.filter_append, h]
theorem pcol_len (i : Nat) (l : List (Nat × Nat)) : (pcol i l).length ≤ l.length := by rw [pcol, List.length_map]; exact List.length_filter_le _ _
theorem pcol_way (i : Nat) : ∀ (f b n : Nat), n ≤ f → pcol i (wayF f b n i) = (pthF f b n i).reverse
  | 0, b, n, h => rfl
  | f + 1, b, n, h => by
    by_cases h2 : n < 2
    · rw [wayF_one h2, pthF_small h2]
      simp [pcol]; omega
    · have s1 := sp_lt (n := n) (by omega)
      have s2 := sp_pos (n := n) (by omega)
      have e : 1 < (b, b + n).2 - (b, b + n).1 := by show 1 < b + n - b; omega
      have c : ∀ l : List (Nat × Nat), pcol i ((b, b + n) :: l) = osd i (b, b + n) :: pcol i l := fun l => by
        unfold pcol; rw [List.filter_cons_of_pos (by simpa using e), List.map_cons]
      have en : b + n - b = n := by omega
      by_cases hi : i < b + sp n
      · rw [wayF_left (by omega) hi, pthF_left (by omega) hi, c, pcol_way i f b (sp n) (by omega), List.reverse_append]
        simp only [osd, en, if_pos hi]; rfl
      · rw [wayF_right (by omega) hi, pthF_right (by omega) hi, c, pcol_way i f (b + sp n) (n - sp n) (by omega), List.reverse_append]
        simp only [osd, en, if_neg hi]; rfl
/-- what Proof takes of the way to leaf m - 1 -/
def rcol (m : Nat) : List (Nat × Nat) → List (Nat × Nat)
  | [] => []
  | s :: r => if m < s.2 then osd (m - 1) s :: rcol m r else if 0 < s.1 then [s] else []
theorem rcol_way (m : Nat) : ∀ (f b n : Nat), n ≤ f → b < m → m ≤ b + n → rcol m (wayF f b n (m - 1)) = (prfF f b n m).reverse
  | 0, b, n, h, _, h2 => by omega
  | f + 1, b, n, h, hb, h2 => by
    rw [prfF]
    by_cases hm : b + n = m
    · rw [if_pos hm]
      have e : wayF (f + 1) b n (m - 1) = (b, b + n) :: (wayF (f + 1) b n (m - 1)).tail := by rw [wayF]; rfl
      rw [e, rcol, if_neg (by show ¬ m < b + n; omega)]
      by_cases h0 : b = 0
      · rw [if_pos h0, if_neg (by show ¬ 0 < b; omega)]; rfl
      · rw [if_neg h0, if_pos (by show 0 < b; omega)]; rfl
    · rw [if_neg hm]
      have h3 : 2 ≤ n := by omega
      have s1 := sp_lt (n := n) h3
      have s2 := sp_pos (n := n) h3
      have en : b + n - b = n := by omega
      by_cases hi : m ≤ b + sp n
      · rw [if_pos hi, wayF_left h3 (by omega), rcol, if_pos (by show m < b + n; omega), rcol_way m f b (sp n) (by omega) hb hi, List.reverse_append]
        simp only [osd, en, if_pos (show m - 1 < b + sp n by omega)]; rfl
      · rw [if_neg hi, wayF_right h3 (by omega), rcol, if_pos (by show m < b + n; omega), rcol_way m f (b + sp n) (n - sp n) (by omega) (by omega) (by omega), List.reverse_append]
        simp only [osd, en, if_neg (show ¬ m - 1 < b + sp n by omega)]; rfl
theorem rcol_split {m : Nat} : ∀ {pre : List (Nat × Nat)} {x : Nat × Nat} {rest : List (Nat × Nat)}, (∀ s ∈ pre, m < s.2) → ¬ m < x.2 → rcol m (pre ++ x :: rest) = pre.map (osd (m - 1)) ++ (if 0 < x.1 then [x] else [])
  | [], x, rest, _, hx => by rw [List.nil_append, rcol, if_neg hx]; rfl
  | s :: pre, x, rest, h, hx => by
    rw [List.cons_append, rcol, if_pos (h s List.mem_cons_self), rcol_split (fun t ht => h t (List.mem_cons_of_mem _ ht)) hx]; rfl
/-- the last on the way is the leaf alone -/
theorem wayF_last : ∀ (f b n i : Nat), n ≤ f → b ≤ i → i < b + n → ∃ pre, wayF f b n i = pre ++ [(i, i + 1)]
  | 0, b, n, i, h, _, h1 => by omega
  | f + 1, b, n, i, h, hb, h1 => by
    by_cases h2 : n < 2
    · rw [wayF_one h2, show b = i by omega, show n = 1 by omega]; exact ⟨[], rfl⟩
    · have s1 := sp_lt (n := n) (by omega)
      have s2 := sp_pos (n := n) (by omega)
      by_cases hi : i < b + sp n
      · obtain ⟨p, hp⟩ := wayF_last f b (sp n) i (by omega) hb hi
        rw [wayF_left (by omega) hi, hp]; exact ⟨(b, b + n) :: p, rfl⟩
      · obtain ⟨p, hp⟩ := wayF_last f (b + sp n) (n - sp n) i (by omega) (by omega) (by omega)
        rw [wayF_right (by omega) hi, hp]; exact ⟨(b, b + n) :: p, rfl⟩
/-- from the left, the greatest subtrees without wanted leaves, by their counts -/
def barF : Nat → Nat → Nat → (Nat → Nat → Nat) → List (Nat × Nat)
  | 0, _, _, _ => []
  | f + 1, b, n, c => if c b (b + n) = 0 then [(b, b + n)] else if n ≤ c b (b + n) then [] else barF f b (sp n) c ++ barF f (b + sp n) (n - sp n) c
theorem barF_no {f b n : Nat} {c : Nat → Nat → Nat} (h : c b (b + n) = 0) : barF (f + 1) b n c = [(b, b + n)] := by rw [barF, if_pos h]
theorem barF_all {f b n : Nat} {c : Nat → Nat → Nat} (h0 : c b (b + n) ≠ 0) (h : n ≤ c b (b + n)) : barF (f + 1) b n c = [] := by rw [barF, if_neg h0, if_pos h]
theorem barF_two {f b n : Nat} {c : Nat → Nat → Nat} (h0 : c b (b + n) ≠ 0) (h : ¬ n ≤ c b (b + n)) : barF (f + 1) b n c = barF f b (sp n) c ++ barF f (b + sp n) (n - sp n) c := by rw [barF, if_neg h0, if_neg h]
/-- more depth changes nothing -/
theorem barF_fuel (c : Nat → Nat → Nat) : ∀ (f g b n : Nat), n ≤ f → n ≤ g → 1 ≤ n → barF f b n c = barF g b n c
  | 0, g, b, n, h, _, h1 => by omega
  | f + 1, 0, b, n, h, hg, h1 => by omega
  | f + 1, g + 1, b, n, h, hg, h1 => by
    by_cases h0 : c b (b + n) = 0
    · rw [barF_no h0, barF_no h0]
    · by_cases h2 : n ≤ c b (b + n)
      · rw [barF_all h0 h2, barF_all h0 h2]
      · rw [barF_two h0 h2, barF_two h0 h2]
        have h3 : 2 ≤ n := by omega
        have s1 := sp_lt (n := n) h3
        have s2 := sp_pos (n := n) h3
        rw [barF_fuel c f g b (sp n) (by omega) (by omega) (by omega), barF_fuel c f g (b + sp n) (n - sp n) (by omega) (by omega) (by omega)]
theorem barF_len (c : Nat → Nat → Nat) : ∀ (f b n : Nat), n ≤ f → 1 ≤ n → (barF f b n c).length ≤ n
  | 0, b, n, h, h1 => by omega
  | f + 1, b, n, h, h1 => by
    by_cases h0 : c b (b + n) = 0
    · rw [barF_no h0]; simpa using h1
    · by_cases h2 : n ≤ c b (b + n)
      · rw [barF_all h0 h2]; exact Nat.zero_le _
      · rw [barF_two h0 h2, List.length_append]
        have h3 : 2 ≤ n := by omega
        have s1 := sp_lt (n := n) h3
        have s2 := sp_pos (n := n) h3
        have := barF_len c f b (sp n) (by omega) (by omega)
        have := barF_len c f (b + sp n) (n - sp n) (by omega) (by omega)
        omega
/-- each lies within -/
theorem barF_in (c : Nat → Nat → Nat) : ∀ (f b n : Nat), n ≤ f → 1 ≤ n → ∀ s ∈ barF f b n c, b ≤ s.1 ∧ s.1 < s.2 ∧ s.2 ≤ b + n
  | 0, b, n, h, h1 => by omega
  | f + 1, b, n, h, h1 => by
    intro s hs
    by_cases h0 : c b (b + n) = 0
    · rw [barF_no h0] at hs
      obtain rfl : s = (b, b + n) := by simpa using hs
      exact ⟨Nat.le_refl _, by show b < b + n; omega, Nat.le_refl _⟩
    · by_cases h2 : n ≤ c b (b + n)
      · rw [barF_all h0 h2] at hs; cases hs
      · rw [barF_two h0 h2] at hs
        have h3 : 2 ≤ n := by omega
        have s1 := sp_lt (n := n) h3
        have s2 := sp_pos (n := n) h3
        rcases List.mem_append.1 hs with e | e
        · have := barF_in c f b (sp n) (by omega) (by omega) s e; omega
        · have := barF_in c f (b + sp n) (n - sp n) (by omega) (by omega) s e; omega
theorem wit_zero {is : List Nat} {b e : Nat} : (wit is b e).length = 0 ↔ tch is b e = false := by
  constructor
  · intro h
    cases ht : tch is b e with
    | false => rfl
    | true => exact absurd (List.length_eq_zero_iff.1 h) (wit_ne ht)
  · intro h; rw [wit_nil h]; rfl
theorem barF_oth (is : List Nat) (hn : is.Nodup) : ∀ (f b n : Nat), n ≤ f → 1 ≤ n → barF f b n (fun b e => (wit is b e).length) = othF f b n is
  | 0, b, n, h, h1 => by omega
  | f + 1, b, n, h, h1 => by
    cases ht : tch is b (b + n) with
    | false => rw [othF_no ht, barF_no (wit_zero.2 ht)]
    | true =>
      have h0 : (wit is b (b + n)).length ≠ 0 := fun e => by rw [wit_zero.1 e] at ht; cases ht
      by_cases h2 : n ≤ (wit is b (b + n)).length
      · rw [barF_all h0 h2]
        have := oth_count is hn (f + 1) b n h h1
        exact (List.length_eq_zero_iff.1 (by omega)).symm
      · rw [barF_two h0 h2]
        have h3 : 2 ≤ n := by omega
        have s1 := sp_lt (n := n) h3
        have s2 := sp_pos (n := n) h3
        rw [othF_two ht h3, barF_oth is hn f b (sp n) (by omega) (by omega), barF_oth is hn f (b + sp n) (n - sp n) (by omega) (by omega)]
/-- how many leaves two spans share -/
def shr (x y b e : Nat) : Nat := min e y - max b x
theorem barF_run (x y : Nat) (hxy : x < y) : ∀ (f b n : Nat), n ≤ f → 1 ≤ n → barF f b n (shr x y) = runF f b n x y
  | 0, b, n, h, h1 => by omega
  | f + 1, b, n, h, h1 => by
    rw [runF]
    by_cases h0 : shr x y b (b + n) = 0
    · rw [barF_no h0, if_pos (by unfold shr at h0; omega)]
    · by_cases h2 : n ≤ shr x y b (b + n)
      · rw [barF_all h0 h2, if_neg (by unfold shr at h0; omega), if_pos (by unfold shr at h2; omega)]
      · rw [barF_two h0 h2, if_neg (by unfold shr at h0; omega), if_neg (by unfold shr at h2; omega)]
        have h3 : 2 ≤ n := by omega
        have s1 := sp_lt (n := n) h3
        have s2 := sp_pos (n := n) h3
        rw [barF_run x y hxy f b (sp n) (by omega) (by omega), barF_run x y hxy f (b + sp n) (n - sp n) (by omega) (by omega)]
end Tree
end Go.Proofs.YtblmaokonhdjaaaGreatDoor

namespace Go.Proofs.YtblmaokonhdjaaaGreatDoor
namespace Cut
/-- complete subtrees (where it begins, how many leaves), one behind the other, from a to b -/
def Cov : Nat → Nat → List (Nat × Nat) → Prop
  | a, b, [] => a = b
  | a, b, (p, n) :: l => p = a ∧ (∃ k, n = 2 ^ k) ∧ a % n = 0 ∧ Cov (a + n) b l
/-- no two neighbours are the halves of a complete subtree -/
def Free : List (Nat × Nat) → Prop
  | (p, n) :: (q, m) :: l => ¬ (n = m ∧ p % (2 * n) = 0) ∧ Free ((q, m) :: l)
  | _ => True
theorem Cov.le : ∀ {l : List (Nat × Nat)} {a b : Nat}, Cov a b l → a ≤ b
  | [], a, b, h => Nat.le_of_eq h
  | (p, n) :: l, a, b, h => by
    have := Cov.le h.2.2.2
    omega
theorem two_pos (k : Nat) : 0 < 2 ^ k := Nat.two_pow_pos k
theorem Free.tail {x : Nat × Nat} {l : List (Nat × Nat)} (h : Free (x :: l)) : Free l := by
  cases l with
  | nil => trivial
  | cons y l => exact h.2
theorem pow_le_of_dvd {k j : Nat} (h : 2 ^ j < 2 ^ k) : j < k := (Nat.pow_lt_pow_iff_right (by omega)).1 h
/-- what covers an aligned stretch begins with it, or with more -/
theorem first : ∀ (k p e : Nat) (n : Nat) (l : List (Nat × Nat)), p % 2 ^ k = 0 → p + 2 ^ k ≤ e → Cov p e ((p, n) :: l) → Free ((p, n) :: l) → n ≤ 2 ^ k → n = 2 ^ k
  | 0, p, e, n, l, h1, h2, h3, h4, h5 => by
    obtain ⟨_, ⟨j, rfl⟩, _⟩ := h3
    have := two_pos j
    have : (2 : Nat) ^ 0 = 1 := rfl
    omega
  | k + 1, p, e, n, l, h1, h2, h3, h4, h5 => by
    obtain ⟨_, ⟨j, hj⟩, hn, hc⟩ := h3
    have e2 : 2 ^ (k + 1) = 2 * 2 ^ k := by rw [Nat.pow_succ, Nat.mul_comm]
    by_cases he : n = 2 ^ (k + 1)
    · exact he
    · exfalso
      have hk := two_pos k
      have hjk : j < k + 1 := pow_le_of_dvd (by omega)
      have hn2 : n ≤ 2 ^ k := by rw [hj]; exact Nat.pow_le_pow_right (by omega) (by omega)
      have hpk : p % 2 ^ k = 0 := Nat.mod_eq_zero_of_dvd (Nat.dvd_trans ⟨2, by rw [e2, Nat.mul_comm]⟩ (Nat.dvd_of_mod_eq_zero h1))
      have hf := first k p e n l hpk (by omega) ⟨rfl, ⟨j, hj⟩, hn, hc⟩ h4 hn2
      subst hf
      cases l with
      | nil => have : p + 2 ^ k = e := hc; omega
      | cons y l =>
        obtain ⟨q, m⟩ := y
        obtain ⟨rfl, ⟨i, hi⟩, hm, hc'⟩ := hc
        have hm2 : m ≤ 2 ^ k := by
          rcases Nat.lt_or_ge k i with hlt | hge
          · exfalso
            have hd : 2 ^ (k + 1) ∣ m := by rw [hi]; exact Nat.pow_dvd_pow 2 (by omega)
            have h7 := Nat.dvd_trans hd (Nat.dvd_of_mod_eq_zero hm)
            have h8 := (Nat.dvd_add_right (Nat.dvd_of_mod_eq_zero h1)).1 h7
            have := Nat.le_of_dvd hk h8
            omega
          · rw [hi]; exact Nat.pow_le_pow_right (by omega) hge
        have hq : (p + 2 ^ k) % 2 ^ k = 0 := by rw [Nat.add_mod_right]; exact hpk
        have hf2 := first k (p + 2 ^ k) e m l hq (by omega) ⟨rfl, ⟨i, hi⟩, hm, hc'⟩ h4.2 hm2
        exact h4.1 ⟨hf2.symm, by rw [← e2]; exact h1⟩
/-- THERE IS ONE CUT -/
theorem unique : ∀ (l l' : List (Nat × Nat)) (a b : Nat), Cov a b l → Cov a b l' → Free l → Free l' → l = l'
  | [], [], _, _, _, _, _, _ => rfl
  | [], (p, n) :: l', a, b, h, h', _, _ => by
    have e : a = b := h
    have := Cov.le h'.2.2.2
    obtain ⟨k, hk⟩ := h'.2.1
    have := two_pos k
    omega
  | (p, n) :: l, [], a, b, h, h', _, _ => by
    have e : a = b := h'
    have := Cov.le h.2.2.2
    obtain ⟨k, hk⟩ := h.2.1
    have := two_pos k
    omega
  | (p, n) :: l, (q, m) :: l', a, b, h, h', f, f' => by
    obtain ⟨rfl, ⟨k, hk⟩, hn, hc⟩ := h
    obtain ⟨rfl, ⟨j, hj⟩, hm, hc'⟩ := h'
    have e : n = m := by
      rcases Nat.le_total n m with hle | hle
      · rw [hj] at hle hm
        have := Cov.le hc'
        rw [hj] at this
        rw [hj]
        exact first j q b n l hm this ⟨rfl, ⟨k, hk⟩, hn, hc⟩ f hle
      · rw [hk] at hle hn
        have := Cov.le hc
        rw [hk] at this
        rw [hk]
        exact (first k q b m l' hn this ⟨rfl, ⟨j, hj⟩, hm, hc'⟩ f' hle).symm
    subst e
    rw [unique l l' _ b hc hc' f.tail f'.tail]
/-- the greatest complete subtree at b that does not end behind e, from one of n on -/
def grow : Nat → Nat → Nat → Nat → Nat
  | 0, n, _, _ => n
  | f + 1, n, b, e => if b % (2 * n) = 0 ∧ b + 2 * n ≤ e then grow f (2 * n) b e else n
theorem grow_spec : ∀ (f n b e : Nat), (∃ k, n = 2 ^ k) → b % n = 0 → b + n ≤ e → e < n * 2 ^ (f + 1) → (∃ k, grow f n b e = 2 ^ k) ∧ b % grow f n b e = 0 ∧ b + grow f n b e ≤ e ∧ n ≤ grow f n b e ∧ ¬ (b % (2 * grow f n b e) = 0 ∧ b + 2 * grow f n b e ≤ e)
  | 0, n, b, e, hp, h1, h2, h3 => by
    refine ⟨hp, h1, h2, Nat.le_refl _, fun h => ?_⟩
    have : n * 2 ^ (0 + 1) = 2 * n := by rw [Nat.zero_add, Nat.pow_one, Nat.mul_comm]
    have := h.2
    show False
    simp only [grow] at *
    omega
  | f + 1, n, b, e, hp, h1, h2, h3 => by
    rw [grow]
    split
    · rename_i h
      obtain ⟨k, hk⟩ := hp
      obtain ⟨a1, a2, a3, a4, a5⟩ := grow_spec f (2 * n) b e ⟨k + 1, by rw [hk, Nat.pow_succ, Nat.mul_comm]⟩ h.1 h.2 (by rw [Nat.pow_succ] at h3; rw [Nat.mul_comm 2 n, Nat.mul_assoc, Nat.mul_comm 2]; exact h3)
      exact ⟨a1, a2, a3, by omega, a5⟩
    · rename_i h
      exact ⟨hp, h1, h2, Nat.le_refl _, h⟩
def cutF : Nat → Nat → Nat → List (Nat × Nat)
  | 0, _, _ => []
  | f + 1, b, e => if b < e then (b, grow 40 1 b e) :: cutF f (b + grow 40 1 b e) e else []
/-- the cut of [b, e) -/
def cut (b e : Nat) : List (Nat × Nat) := cutF (e - b) b e
theorem cutF_cov : ∀ (f b e : Nat), e ≤ 1099511627776 → b ≤ e → e - b ≤ f → Cov b e (cutF f b e)
  | 0, b, e, _, h1, h2 => by show b = e; omega
  | f + 1, b, e, h0, h1, h2 => by
    rw [cutF]
    split
    · rename_i h
      obtain ⟨a1, a2, a3, a4, a5⟩ := grow_spec 40 1 b e ⟨0, rfl⟩ (Nat.mod_one b) (by omega) (by rw [Nat.one_mul]; exact Nat.lt_of_le_of_lt h0 (by decide))
      exact ⟨rfl, a1, a2, cutF_cov f _ e h0 a3 (by omega)⟩
    · show b = e; omega
theorem cutF_free : ∀ (f b e : Nat), e ≤ 1099511627776 → Free (cutF f b e)
  | 0, b, e, _ => trivial
  | f + 1, b, e, h0 => by
    rw [cutF]
    split
    · rename_i h
      have ih := cutF_free f (b + grow 40 1 b e) e h0
      obtain ⟨a1, a2, a3, a4, a5⟩ := grow_spec 40 1 b e ⟨0, rfl⟩ (Nat.mod_one b) (by omega) (by rw [Nat.one_mul]; exact Nat.lt_of_le_of_lt h0 (by decide))
      generalize grow 40 1 b e = n at *
      cases f with
      | zero => trivial
      | succ f =>
        rw [cutF] at ih ⊢
        split
        · rename_i h'
          rw [if_pos h'] at ih
          obtain ⟨c1, c2, c3, c4, c5⟩ := grow_spec 40 1 (b + n) e ⟨0, rfl⟩ (Nat.mod_one _) (by omega) (by rw [Nat.one_mul]; exact Nat.lt_of_le_of_lt h0 (by decide))
          exact ⟨fun hh => a5 ⟨hh.2, by omega⟩, ih⟩
        · trivial
    · trivial
theorem cut_cov {b e : Nat} (h0 : e ≤ 1099511627776) (h1 : b ≤ e) : Cov b e (cut b e) := cutF_cov _ b e h0 h1 (Nat.le_refl _)
theorem cut_free {b e : Nat} (h0 : e ≤ 1099511627776) : Free (cut b e) := cutF_free _ b e h0
theorem cut_of {b e : Nat} {l : List (Nat × Nat)} (h0 : e ≤ 1099511627776) (h : Cov b e l) (hf : Free l) : l = cut b e := unique l _ b e h (cut_cov h0 h.le) hf (cut_free h0)
/-- a subtree is laid behind; halves become one (the list from behind) -/
def push : List (Nat × Nat) → Nat → Nat → List (Nat × Nat)
  | [], b, n => [(b, n)]
  | (p, m) :: l, b, n => if m = n ∧ p % (2 * n) = 0 then push l p (2 * n) else (b, n) :: (p, m) :: l
end Cut
end Go.Proofs.YtblmaokonhdjaaaGreatDoor
