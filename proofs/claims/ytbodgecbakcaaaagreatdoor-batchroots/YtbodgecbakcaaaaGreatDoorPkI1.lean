import Derived.Test.YtbodgecbakcaaaaGreatDoorPkO1
/- THE PLAIN MATHEMATICS OF LAYER 4: going up by halves, going down by the recursion; nothing of the program. -/
namespace Go.Proofs.YtbodgecbakcaaaaGreatDoor.Tree
def U (p l : Nat) : List Bool :=
  if h : l = 0 then [] else if p = l ∧ p % 2 = 0 then U (p / 2) (l / 2) else (p % 2 == 1) :: U (p / 2) (l / 2)
termination_by l
decreasing_by all_goals omega
theorem U_zero (p : Nat) : U p 0 = [] := by rw [U, dif_pos rfl]
theorem U_skip {p : Nat} (h : p ≠ 0) (h2 : p % 2 = 0) : U p p = U (p / 2) (p / 2) := by rw [U, dif_neg h, if_pos ⟨rfl, h2⟩]
theorem U_step {p l : Nat} (h : l ≠ 0) (h2 : ¬ (p = l ∧ p % 2 = 0)) : U p l = (p % 2 == 1) :: U (p / 2) (l / 2) := by rw [U, dif_neg h, if_neg h2]
def D (n m : Nat) : List Bool :=
  if _h : n < 2 then [] else if m < sp n then D (sp n) m ++ [false] else D (n - sp n) (m - sp n) ++ [true]
termination_by n
decreasing_by
  · exact sp_lt (by omega)
  · have := sp_pos (n := n) (by omega); omega
theorem D_one {n : Nat} (m : Nat) (h : n < 2) : D n m = [] := by rw [D, dif_pos h]
theorem D_left {n m : Nat} (h : 2 ≤ n) (hm : m < sp n) : D n m = D (sp n) m ++ [false] := by rw [D, dif_neg (by omega), if_pos hm]
theorem D_right {n m : Nat} (h : 2 ≤ n) (hm : ¬ m < sp n) : D n m = D (n - sp n) (m - sp n) ++ [true] := by rw [D, dif_neg (by omega), if_neg hm]
theorem U_left : ∀ (j m l : Nat), m < 2 ^ j → 2 ^ j ≤ l → l < 2 ^ (j + 1) → U m l = U m (2 ^ j - 1) ++ [false]
  | 0, m, l, h1, h2, h3 => by
    obtain rfl : m = 0 := by simp at h1; omega
    obtain rfl : l = 1 := by simp at h2 h3; omega
    rw [U_step (by omega) (by omega)]; simp [U_zero]
  | j + 1, m, l, h1, h2, h3 => by
    have e1 : 2 ^ (j + 1) = 2 * 2 ^ j := by rw [Nat.pow_succ]; omega
    have e2 : 2 ^ (j + 1 + 1) = 2 * 2 ^ (j + 1) := by rw [Nat.pow_succ]; omega
    have h0 : 0 < 2 ^ j := Nat.two_pow_pos _
    have ih := U_left j (m / 2) (l / 2) (by omega) (by omega) (by omega)
    rw [U_step (l := l) (by omega) (by omega), U_step (l := 2 ^ (j + 1) - 1) (by omega) (by omega), ih, show (2 ^ (j + 1) - 1) / 2 = 2 ^ j - 1 from by omega]
    rfl
theorem U_right : ∀ (j m l : Nat), m ≤ l → l < 2 ^ j → U (2 ^ j + m) (2 ^ j + l) = U m l ++ [true]
  | 0, m, l, h1, h2 => by
    obtain rfl : l = 0 := by simp at h2; omega
    obtain rfl : m = 0 := by omega
    show U 1 1 = U 0 0 ++ [true]
    rw [U_step (by omega) (by omega)]; simp [U_zero]
  | j + 1, m, l, h1, h2 => by
    have e1 : 2 ^ (j + 1) = 2 * 2 ^ j := by rw [Nat.pow_succ]; omega
    have h0 : 0 < 2 ^ j := Nat.two_pow_pos _
    have ih := U_right j (m / 2) (l / 2) (by omega) (by omega)
    have a1 : (2 ^ (j + 1) + m) / 2 = 2 ^ j + m / 2 := by omega
    have a2 : (2 ^ (j + 1) + l) / 2 = 2 ^ j + l / 2 := by omega
    by_cases hs : m = l ∧ m % 2 = 0
    · obtain ⟨rfl, hs⟩ := hs
      rw [U_skip (by omega) (by omega), a1, ih]
      by_cases hm : m = 0
      · subst hm; rfl
      · rw [← U_skip hm hs]
    · have hl : l ≠ 0 := by omega
      rw [U_step (by omega) (by omega), a1, a2, ih, U_step hl hs, show (2 ^ (j + 1) + m) % 2 = m % 2 from by omega]
      rfl
theorem D_U : ∀ (f n m : Nat), n ≤ f → m < n → D n m = U m (n - 1)
  | 0, n, m, hf, h => by omega
  | f + 1, n, m, hf, h => by
    by_cases h2 : n < 2
    · obtain rfl : n = 1 := by omega
      rw [D_one _ h2]; exact (U_zero m).symm
    · have a := sp_lt (n := n) (by omega)
      have b := sp_pos (n := n) (by omega)
      have c := sp_ge (n := n) (by omega)
      have d := sp_eq (n := n) (by omega)
      generalize (n - 1).log2 = j at d
      by_cases hm : m < sp n
      · rw [D_left (by omega) hm, D_U f _ m (by omega) hm, d]
        exact (U_left j m (n - 1) (by omega) (by omega) (by rw [Nat.pow_succ]; omega)).symm
      · rw [D_right (by omega) hm, D_U f _ (m - sp n) (by omega) (by omega)]
        have := U_right j (m - 2 ^ j) (n - 1 - 2 ^ j) (by omega) (by omega)
        rw [d, show n - 2 ^ j - 1 = n - 1 - 2 ^ j from by omega, ← this, show 2 ^ j + (m - 2 ^ j) = m from by omega, show 2 ^ j + (n - 1 - 2 ^ j) = n - 1 from by omega]
theorem U_len : ∀ (j p l : Nat), l < 2 ^ j → (U p l).length ≤ j
  | 0, p, l, h => by
    obtain rfl : l = 0 := by simp at h; omega
    rw [U_zero]; simp
  | j + 1, p, l, h => by
    by_cases hl : l = 0
    · subst hl; rw [U_zero]; simp
    · have e1 : 2 ^ (j + 1) = 2 * 2 ^ j := by rw [Nat.pow_succ]; omega
      have ih := U_len j (p / 2) (l / 2) (by omega)
      by_cases hs : p = l ∧ p % 2 = 0
      · obtain ⟨rfl, hs⟩ := hs
        rw [U_skip hl hs]; omega
      · rw [U_step hl hs, List.length_cons]; omega
def upd (r : T) : List Bool → List T → T
  | d :: ds, h :: hs => upd (if d then nd h r else nd r h) ds hs
  | _, _ => r
theorem upd_snoc : ∀ (r : T) (ds : List Bool) (hs : List T) (d : Bool) (h : T), ds.length = hs.length → upd r (ds ++ [d]) (hs ++ [h]) = if d then nd h (upd r ds hs) else nd (upd r ds hs) h
  | r, [], [], d, h, _ => rfl
  | r, x :: ds, y :: hs, d, h, e => by
    show upd _ (ds ++ [d]) (hs ++ [h]) = _
    rw [upd_snoc _ ds hs d h (by simpa using e)]; rfl
def PD (m n : Nat) : List Bool :=
  if _h : n < 2 ∨ m = n then [] else if m ≤ sp n then PD m (sp n) ++ [false] else PD (m - sp n) (n - sp n) ++ [true]
termination_by n
decreasing_by
  · exact sp_lt (by omega)
  · have := sp_pos (n := n) (by omega); omega
def fl (m n : Nat) (whole : Bool) : Bool := !whole || (PD m n).any id
def pl (m n : Nat) (whole : Bool) : Nat := (PD m n).length + if fl m n whole then 1 else 0
def St (p l : Nat) : Nat × Nat := if h : p % 2 = 1 then St (p / 2) (l / 2) else (p, l)
termination_by p
decreasing_by omega
end Go.Proofs.YtbodgecbakcaaaaGreatDoor.Tree

/- THE PLAIN MATHEMATICS OF LAYER 6: texts of the steps of a walk, the highest ones that differ; nothing of the program. -/
namespace Go.Proofs.YtbodgecbakcaaaaGreatDoor
namespace Tree
def hi : List T → List T → Option (T × T)
  | a :: az, b :: bs => match hi az bs with
    | some p => some p
    | none => if a = b then none else some (a, b)
  | _, _ => none
end Tree
end Go.Proofs.YtbodgecbakcaaaaGreatDoor

/- THE PLAIN MATHEMATICS OF LAYER 6: forks, and what stands beside the way of a proof. -/
namespace Go.Proofs.YtbodgecbakcaaaaGreatDoor
namespace Tree
abbrev Fork := Nat × Nat × Nat × Bool
def own : Nat → Nat → List T → List T
  | 0, _, _ => []
  | f + 1, k, l => if l.length < 2 ∨ k = l.length then [] else if k ≤ sp l.length then own f k (l.take (sp l.length)) ++ [root (l.drop (sp l.length))] else own f (k - sp l.length) (l.drop (sp l.length)) ++ [root (l.take (sp l.length))]
def seg (l : List T) (b e : Nat) : List T := (l.take e).drop b
theorem seg_len {l : List T} {b e : Nat} (h : e ≤ l.length) : (seg l b e).length = e - b := by unfold seg; rw [List.length_drop, List.length_take]; omega
theorem seg_take {l : List T} {b n k : Nat} (hk : k ≤ n) : (seg l b (b + n)).take k = seg l b (b + k) := by
  unfold seg
  rw [List.take_drop, List.take_take, show min (b + k) (b + n) = b + k by omega]
theorem seg_drop {l : List T} {b n k : Nat} (hk : k ≤ n) : (seg l b (b + n)).drop k = seg l (b + k) (b + k + (n - k)) := by
  unfold seg
  rw [List.drop_drop, show b + k + (n - k) = b + n by omega]
end Tree
end Go.Proofs.YtbodgecbakcaaaaGreatDoor

/- which proofs begin with their first hash: those from a size that is no power of two -/
namespace Go.Proofs.YtbodgecbakcaaaaGreatDoor
namespace Tree
end Tree
end Go.Proofs.YtbodgecbakcaaaaGreatDoor

/- THE PLAIN MATHEMATICS OF LAYER 6: the document's steps of a walk. -/
namespace Go.Proofs.YtbodgecbakcaaaaGreatDoor
namespace Tree
theorem sp_pow {n : Nat} (h : 2 ≤ n) : ∃ a, sp n = 2 ^ a ∧ 2 ^ a < n ∧ n ≤ 2 ^ (a + 1) := by
  refine ⟨(n - 1).log2, sp_eq h, ?_, ?_⟩
  · rw [← sp_eq h]; exact sp_lt h
  · have := Nat.lt_log2_self (n := n - 1)
    omega
end Tree
end Go.Proofs.YtbodgecbakcaaaaGreatDoor

/- THE PLAIN MATHEMATICS OF LAYER 8: spans of paths and proofs; nothing of the program. -/
namespace Go.Proofs.YtbodgecbakcaaaaGreatDoor
namespace Tree
theorem sp_unique {n j : Nat} (h1 : 2 ^ j < n) (h2 : n ≤ 2 ^ (j + 1)) : sp n = 2 ^ j := by
  have p := Nat.two_pow_pos j
  obtain ⟨a, ha, a1, a2⟩ := sp_pow (n := n) (by omega)
  rw [ha]
  rcases Nat.lt_trichotomy a j with e | e | e
  · have := Nat.pow_le_pow_right (n := 2) (by omega) (show a + 1 ≤ j from e); omega
  · rw [e]
  · have := Nat.pow_le_pow_right (n := 2) (by omega) (show j + 1 ≤ a from e); omega
theorem root_seg_two {l : List T} {b n : Nat} (h : 2 ≤ n) (hl : b + n ≤ l.length) : root (seg l b (b + n)) = nd (root (seg l b (b + sp n))) (root (seg l (b + sp n) (b + n))) := by
  have s1 := sp_lt (n := n) h
  have sl : (seg l b (b + n)).length = n := by rw [seg_len hl]; omega
  rw [root_cut (l := seg l b (b + n)) (by omega), sl, seg_take (by omega), seg_drop (by omega), show b + sp n + (n - sp n) = b + n by omega]
def pthF : Nat → Nat → Nat → Nat → List (Nat × Nat)
  | 0, _, _, _ => []
  | f + 1, b, n, i => if n < 2 then [] else if i < b + sp n then pthF f b (sp n) i ++ [(b + sp n, b + n)] else pthF f (b + sp n) (n - sp n) i ++ [(b, b + sp n)]
theorem pthF_small {f b n i : Nat} (h : n < 2) : pthF f b n i = [] := by
  cases f
  · rfl
  · rw [pthF, if_pos h]
theorem pthF_left {f b n i : Nat} (h : 2 ≤ n) (hi : i < b + sp n) : pthF (f + 1) b n i = pthF f b (sp n) i ++ [(b + sp n, b + n)] := by rw [pthF, if_neg (by omega), if_pos hi]
theorem pthF_right {f b n i : Nat} (h : 2 ≤ n) (hi : ¬ i < b + sp n) : pthF (f + 1) b n i = pthF f (b + sp n) (n - sp n) i ++ [(b, b + sp n)] := by rw [pthF, if_neg (by omega), if_neg hi]
theorem pthF_len : ∀ (f b n i : Nat), n ≤ f → b ≤ i → (pthF f b n i).length = (D n (i - b)).length
  | 0, b, n, i, h, _ => by rw [D_one _ (by omega)]; rfl
  | f + 1, b, n, i, h, hb => by
    by_cases h2 : n < 2
    · rw [pthF_small h2, D_one _ h2]; rfl
    · have s1 := sp_lt (n := n) (by omega)
      have s2 := sp_pos (n := n) (by omega)
      by_cases hi : i < b + sp n
      · rw [pthF_left (by omega) hi, D_left (by omega) (by omega), List.length_append, List.length_append, pthF_len f b (sp n) i (by omega) hb]; rfl
      · rw [pthF_right (by omega) hi, D_right (by omega) (by omega), List.length_append, List.length_append, pthF_len f (b + sp n) (n - sp n) i (by omega) (by omega), show i - b - sp n = i - (b + sp n) by omega]; rfl
end Tree
end Go.Proofs.YtbodgecbakcaaaaGreatDoor

/- THE PLAIN MATHEMATICS OF LAYER 8: spans that lie beside some leaves, beside a run of them; nothing of the program. -/
namespace Go.Proofs.YtbodgecbakcaaaaGreatDoor
namespace Tree
def tch (is : List Nat) (b e : Nat) : Bool := is.any fun i => decide (b ≤ i ∧ i < e)
theorem tch_mem {is : List Nat} {b e : Nat} : tch is b e = true ↔ ∃ i ∈ is, b ≤ i ∧ i < e := by
  unfold tch; rw [List.any_eq_true]; simp
theorem tch_cut {is : List Nat} {b m e : Nat} (h1 : b ≤ m) (h2 : m ≤ e) : tch is b e = (tch is b m || tch is m e) := by
  rw [Bool.eq_iff_iff, Bool.or_eq_true, tch_mem, tch_mem, tch_mem]
  constructor
  · rintro ⟨i, hi, h3, h4⟩
    by_cases h : i < m
    · exact .inl ⟨i, hi, h3, h⟩
    · exact .inr ⟨i, hi, by omega, h4⟩
  · rintro (⟨i, hi, h3, h4⟩ | ⟨i, hi, h3, h4⟩)
    · exact ⟨i, hi, h3, by omega⟩
    · exact ⟨i, hi, by omega, h4⟩
def othF : Nat → Nat → Nat → List Nat → List (Nat × Nat)
  | 0, _, _, _ => []
  | f + 1, b, n, is => if tch is b (b + n) = false then [(b, b + n)] else if n < 2 then [] else othF f b (sp n) is ++ othF f (b + sp n) (n - sp n) is
theorem othF_no {f b n : Nat} {is : List Nat} (h : tch is b (b + n) = false) : othF (f + 1) b n is = [(b, b + n)] := by rw [othF, if_pos h]
theorem othF_one {f b n : Nat} {is : List Nat} (h : tch is b (b + n) = true) (h2 : n < 2) : othF (f + 1) b n is = [] := by rw [othF, if_neg (by rw [h]; simp), if_pos h2]
theorem othF_two {f b n : Nat} {is : List Nat} (h : tch is b (b + n) = true) (h2 : 2 ≤ n) : othF (f + 1) b n is = othF f b (sp n) is ++ othF f (b + sp n) (n - sp n) is := by rw [othF, if_neg (by rw [h]; simp), if_neg (by omega)]
def wit (is : List Nat) (b e : Nat) : List Nat := is.filter fun i => decide (b ≤ i ∧ i < e)
theorem wit_nil {is : List Nat} {b e : Nat} (h : tch is b e = false) : wit is b e = [] := by
  unfold wit
  rw [List.filter_eq_nil_iff]
  intro i hi hc
  rw [decide_eq_true_iff] at hc
  have := tch_mem.2 ⟨i, hi, hc⟩
  rw [h] at this; cases this
theorem wit_ne {is : List Nat} {b e : Nat} (h : tch is b e = true) : wit is b e ≠ [] := by
  obtain ⟨i, hi, hc⟩ := tch_mem.1 h
  intro e'
  have : i ∈ wit is b e := List.mem_filter.2 ⟨hi, by simpa using hc⟩
  rw [e'] at this; cases this
theorem wit_left {is : List Nat} {b m e : Nat} (h : m ≤ e) : (wit is b e).filter (· < m) = wit is b m := by
  unfold wit
  rw [List.filter_filter]
  congr 1
  funext i
  rw [Bool.eq_iff_iff]
  simp
  omega
theorem wit_right {is : List Nat} {b m e : Nat} (h : b ≤ m) : (wit is b e).filter (m ≤ ·) = wit is m e := by
  unfold wit
  rw [List.filter_filter]
  congr 1
  funext i
  rw [Bool.eq_iff_iff]
  simp
  omega
theorem othF_hash (l : List T) (is : List Nat) : ∀ (f b n : Nat), 1 ≤ n → n ≤ f → b + n ≤ l.length → (othF f b n is).map (fun s => root (seg l s.1 s.2)) = many (wit is b (b + n)) b (seg l b (b + n))
  | 0, b, n, h1, h, _ => by omega
  | f + 1, b, n, h1, h, hl => by
    have sl : (seg l b (b + n)).length = n := by rw [seg_len hl]; omega
    cases ht : tch is b (b + n) with
    | false => rw [othF_no ht, wit_nil ht, many_none (by omega)]; rfl
    | true =>
      by_cases h2 : n < 2
      · rw [othF_one ht h2, many_one (wit_ne ht) (by omega)]; rfl
      · have s1 := sp_lt (n := n) (by omega)
        have s2 := sp_pos (n := n) (by omega)
        have q1 := seg_take (l := l) (b := b) (n := n) (k := sp n) (by omega)
        have q2 := seg_drop (l := l) (b := b) (n := n) (k := sp n) (by omega)
        have e := othF_hash l is f (b + sp n) (n - sp n) (by omega) (by omega) (by omega)
        rw [show b + sp n + (n - sp n) = b + n by omega] at e
        rw [othF_two ht (by omega), List.map_append, othF_hash l is f b (sp n) (by omega) (by omega) (by omega), e, many_cut (wit_ne ht) (by omega), sl, wit_left (by omega), wit_right (by omega), q1, q2, show b + sp n + (n - sp n) = b + n by omega]
def Apt : Nat → Nat → List (Nat × Nat) → (Nat → Bool) → Prop
  | b, e, [], p => b ≤ e ∧ ∀ i, b ≤ i → i < e → p i = true
  | b, e, s :: r, p => b ≤ s.1 ∧ s.1 < s.2 ∧ s.2 ≤ e ∧ (∀ i, b ≤ i → i < s.1 → p i = true) ∧ (∀ i, s.1 ≤ i → i < s.2 → p i = false) ∧ Apt s.2 e r p
theorem Apt.append : ∀ {b m e : Nat} {x y : List (Nat × Nat)} {p : Nat → Bool}, Apt b m x p → Apt m e y p → Apt b e (x ++ y) p
  | b, m, e, [], [], p, ⟨h1, h2⟩, ⟨h3, h4⟩ => ⟨by omega, fun i hi he => by
      by_cases h : i < m
      · exact h2 i hi h
      · exact h4 i (by omega) he⟩
  | b, m, e, [], s :: y, p, ⟨h1, h2⟩, ⟨h3, h4, h5, h6, h7, h8⟩ => ⟨by omega, h4, h5, fun i hi he => by
      by_cases h : i < m
      · exact h2 i hi h
      · exact h6 i (by omega) he, h7, h8⟩
  | b, m, e, s :: x, y, p, ⟨h3, h4, h5, h6, h7, h8⟩, hy => by
    have hm : m ≤ e := by
      cases y with
      | nil => exact hy.1
      | cons t y => have := hy.1; have := hy.2.1; have := hy.2.2.1; omega
    exact ⟨h3, h4, by omega, h6, h7, h8.append hy⟩
theorem othF_apart (is : List Nat) : ∀ (f b n : Nat), 1 ≤ n → n ≤ f → Apt b (b + n) (othF f b n is) (fun i => decide (i ∈ is))
  | 0, b, n, h1, h => by omega
  | f + 1, b, n, h1, h => by
    cases ht : tch is b (b + n) with
    | false =>
      rw [othF_no ht]
      refine ⟨Nat.le_refl _, by show b < b + n; omega, Nat.le_refl _, fun i hi he => by omega, fun i hi he => decide_eq_false fun hm => ?_, Nat.le_refl _, fun i hi he => by omega⟩
      have := tch_mem.2 ⟨i, hm, hi, he⟩
      rw [ht] at this; cases this
    | true =>
      by_cases h2 : n < 2
      · rw [othF_one ht h2]
        obtain ⟨i, hi, h3, h4⟩ := tch_mem.1 ht
        exact ⟨by omega, fun j hj he => decide_eq_true (by rw [show j = i by omega]; exact hi)⟩
      · have s1 := sp_lt (n := n) (by omega)
        have s2 := sp_pos (n := n) (by omega)
        have e := othF_apart is f (b + sp n) (n - sp n) (by omega) (by omega)
        rw [show b + sp n + (n - sp n) = b + n by omega] at e
        rw [othF_two ht (by omega)]
        exact (othF_apart is f b (sp n) (by omega) (by omega)).append e
end Tree
end Go.Proofs.YtbodgecbakcaaaaGreatDoor

/- THE PLAIN MATHEMATICS OF LAYER 8: subtrees, and what can be folded; nothing of the program. -/
namespace Go.Proofs.YtbodgecbakcaaaaGreatDoor
namespace Tree
def insF : Nat → Nat → Nat → Nat → Nat → Bool
  | 0, _, _, _, _ => false
  | f + 1, b, n, x, y => if x = b ∧ y = b + n then true else if n < 2 then false else if y ≤ b + sp n then insF f b (sp n) x y else if b + sp n ≤ x then insF f (b + sp n) (n - sp n) x y else false
theorem insF_self {f b n : Nat} : insF (f + 1) b n b (b + n) = true := by rw [insF, if_pos ⟨rfl, rfl⟩]
theorem insF_in : ∀ (f b n x y : Nat), insF f b n x y = true → 1 ≤ n → b ≤ x ∧ x < y ∧ y ≤ b + n
  | 0, _, _, _, _, h, _ => by cases h
  | f + 1, b, n, x, y, h, h1 => by
    rw [insF] at h
    split at h
    · omega
    · split at h
      · cases h
      · have s1 := sp_lt (n := n) (by omega)
        have s2 := sp_pos (n := n) (by omega)
        split at h
        · have := insF_in f b (sp n) x y h (by omega); omega
        · split at h
          · have := insF_in f (b + sp n) (n - sp n) x y h (by omega); omega
          · cases h
theorem insF_parts : ∀ (f b n x y : Nat), n ≤ f → 1 ≤ n → insF f b n x y = true → 2 ≤ y - x → insF f b n x (x + sp (y - x)) = true ∧ insF f b n (x + sp (y - x)) y = true
  | 0, _, _, _, _, _, _, h, _ => by cases h
  | f + 1, b, n, x, y, hf, h1, h, h2 => by
    have hin := insF_in (f + 1) b n x y h h1
    have t1 := sp_lt (n := y - x) h2
    have t2 := sp_pos (n := y - x) h2
    rw [insF] at h
    by_cases he : x = b ∧ y = b + n
    · obtain ⟨rfl, rfl⟩ := he
      rw [show x + n - x = n by omega] at h2 t1 t2 ⊢
      obtain ⟨f', rfl⟩ : ∃ f', f = f' + 1 := ⟨f - 1, by omega⟩
      constructor
      · rw [insF, if_neg (by omega), if_neg (by omega), if_pos (by omega), insF_self]
      · rw [insF, if_neg (by omega), if_neg (by omega), if_neg (by omega), if_pos (by omega), show x + n = x + sp n + (n - sp n) by omega, insF_self]
    · rw [if_neg he] at h
      split at h
      · cases h
      · have s1 := sp_lt (n := n) (by omega)
        have s2 := sp_pos (n := n) (by omega)
        split at h
        · rename_i hy
          obtain ⟨a1, a2⟩ := insF_parts f b (sp n) x y (by omega) (by omega) h h2
          constructor
          · rw [insF, if_neg (by omega), if_neg (by omega), if_pos (by omega)]; exact a1
          · rw [insF, if_neg (by omega), if_neg (by omega), if_pos (by omega)]; exact a2
        · split at h
          · rename_i hx
            obtain ⟨a1, a2⟩ := insF_parts f (b + sp n) (n - sp n) x y (by omega) (by omega) h h2
            constructor
            · rw [insF, if_neg (by omega), if_neg (by omega), if_neg (by omega), if_pos (by omega)]; exact a1
            · rw [insF, if_neg (by omega), if_neg (by omega), if_neg (by omega), if_pos (by omega)]; exact a2
          · cases h
def hashAt : List (Nat × Nat) → List T → Nat × Nat → T
  | k :: K, h :: H, s => if k = s then h else hashAt K H s
  | _, _, _ => []
end Tree
end Go.Proofs.YtbodgecbakcaaaaGreatDoor

/- THE PLAIN MATHEMATICS OF LAYER 8: how many spans a batch has; nothing of the program. -/
namespace Go.Proofs.YtbodgecbakcaaaaGreatDoor
namespace Tree
theorem sp_two (a : Nat) : sp (2 ^ (a + 1)) = 2 ^ a := sp_unique (Nat.pow_lt_pow_right (by omega) (by omega)) (Nat.le_refl _)
theorem D_zero : ∀ (a n : Nat), 2 ^ a < n → n ≤ 2 ^ (a + 1) → (D n 0).length = a + 1
  | 0, n, h1, h2 => by
    obtain rfl : n = 2 := by simp at h1 h2; omega
    have e : sp 2 = 1 := sp_two 0
    rw [D_left (by omega) (by rw [e]; omega), e, D_one _ (by omega)]; rfl
  | a + 1, n, h1, h2 => by
    have p := Nat.two_pow_pos (a + 1)
    have e := sp_unique h1 h2
    have lt : 2 ^ a < 2 ^ (a + 1) := Nat.pow_lt_pow_right (by omega) (by omega)
    rw [D_left (by omega) (by rw [e]; omega), List.length_append, e, D_zero a (2 ^ (a + 1)) lt (Nat.le_refl _)]; rfl
theorem D_mono {m n : Nat} (h : m ≤ n) : (D m 0).length ≤ (D n 0).length := by
  by_cases hm : m < 2
  · rw [D_one _ hm]; exact Nat.zero_le _
  · obtain ⟨a, _, a1, a2⟩ := sp_pow (n := m) (by omega)
    obtain ⟨c, _, c1, c2⟩ := sp_pow (n := n) (by omega)
    rw [D_zero a m a1 a2, D_zero c n c1 c2]
    rcases Nat.lt_or_ge c a with e | e
    · have := Nat.pow_le_pow_right (n := 2) (by omega) (show c + 1 ≤ a from e); omega
    · omega
theorem D_step {n : Nat} (h : 2 ≤ n) : (D n 0).length = (D (sp n) 0).length + 1 := by
  have := sp_pos (n := n) h
  rw [D_left h (by omega), List.length_append]; rfl
theorem wit_len {is : List Nat} {b m e : Nat} (h1 : b ≤ m) (h2 : m ≤ e) : (wit is b e).length = (wit is b m).length + (wit is m e).length := by
  induction is with
  | nil => rfl
  | cons i is ih =>
    unfold wit at ih ⊢
    simp only [List.filter_cons]
    by_cases c1 : b ≤ i ∧ i < m
    · rw [if_pos (by simp; omega), if_pos (by simpa using c1), if_neg (by simp; omega)]
      simp only [List.length_cons]; omega
    · by_cases c2 : m ≤ i ∧ i < e
      · rw [if_pos (by simp; omega), if_neg (by simpa using c1), if_pos (by simpa using c2)]
        simp only [List.length_cons]; omega
      · rw [if_neg (by simp; omega), if_neg (by simpa using c1), if_neg (by simpa using c2)]
        exact ih
theorem wit_one {is : List Nat} (hn : is.Nodup) (b : Nat) : (wit is b (b + 1)).length ≤ 1 := by
  have h1 : (wit is b (b + 1)).Nodup := hn.filter _
  match hw : wit is b (b + 1), h1 with
  | [], _ => exact Nat.zero_le _
  | [x], _ => exact Nat.le_refl _
  | x :: y :: r, h1 =>
    have hx : x ∈ wit is b (b + 1) := by rw [hw]; simp
    have hy : y ∈ wit is b (b + 1) := by rw [hw]; simp
    have e1 := (List.mem_filter.1 hx).2
    have e2 := (List.mem_filter.1 hy).2
    simp only [decide_eq_true_eq] at e1 e2
    have : x = y := by omega
    rw [this] at h1
    simp at h1
theorem oth_count (is : List Nat) (hn : is.Nodup) : ∀ (f b n : Nat), n ≤ f → 1 ≤ n → (othF f b n is).length + (wit is b (b + n)).length ≤ n
  | 0, b, n, h, h1 => by omega
  | f + 1, b, n, h, h1 => by
    cases ht : tch is b (b + n) with
    | false => rw [othF_no ht, wit_nil ht]; simpa using h1
    | true =>
      by_cases h2 : n < 2
      · obtain rfl : n = 1 := by omega
        rw [othF_one ht h2]
        have := wit_one hn b
        simpa using this
      · have s1 := sp_lt (n := n) (by omega)
        have s2 := sp_pos (n := n) (by omega)
        have e1 := oth_count is hn f b (sp n) (by omega) (by omega)
        have e2 := oth_count is hn f (b + sp n) (n - sp n) (by omega) (by omega)
        rw [show b + sp n + (n - sp n) = b + n by omega] at e2
        rw [othF_two ht (by omega), List.length_append, wit_len (is := is) (b := b) (m := b + sp n) (e := b + n) (by omega) (by omega)]
        omega
theorem oth_most (is : List Nat) : ∀ (f b n : Nat), n ≤ f → 1 ≤ n → tch is b (b + n) = true → (othF f b n is).length ≤ (wit is b (b + n)).length * (D n 0).length
  | 0, b, n, h, h1, _ => by omega
  | f + 1, b, n, h, h1, ht => by
    by_cases h2 : n < 2
    · rw [othF_one ht h2]; exact Nat.zero_le _
    · have s1 := sp_lt (n := n) (by omega)
      have s2 := sp_pos (n := n) (by omega)
      have s3 : n - sp n ≤ sp n := by
        obtain ⟨a, ha, a1, a2⟩ := sp_pow (n := n) (by omega)
        rw [Nat.pow_succ] at a2; omega
      have hd := D_step (n := n) (by omega)
      have hm := D_mono s3
      have w1 := wit_len (is := is) (b := b) (m := b + sp n) (e := b + n) (by omega) (by omega)
      rw [othF_two ht (by omega), List.length_append, hd, w1]
      have nz : ∀ {x y : Nat}, tch is x y = true → 1 ≤ (wit is x y).length := fun h => by
        have := wit_ne h
        exact Nat.one_le_iff_ne_zero.2 fun e => this (List.length_eq_zero_iff.1 e)
      have nl : ∀ (f b n : Nat), 1 ≤ f → tch is b (b + n) = false → (othF f b n is).length = 1 := fun f b n hf h => by
        cases f with
        | zero => omega
        | succ f => rw [othF_no h]; rfl
      obtain ⟨dl, hdl⟩ : ∃ dl, (D (sp n) 0).length = dl := ⟨_, rfl⟩
      rw [hdl] at hm ⊢
      cases c1 : tch is b (b + sp n) with
      | false =>
        cases c2 : tch is (b + sp n) (b + n) with
        | false =>
          rw [tch_cut (m := b + sp n) (by omega) (by omega), c1, c2] at ht
          cases ht
        | true =>
          have e2 := oth_most is f (b + sp n) (n - sp n) (by omega) (by omega) (by rw [show b + sp n + (n - sp n) = b + n by omega]; exact c2)
          rw [show b + sp n + (n - sp n) = b + n by omega] at e2
          have e1 := nl f b (sp n) (by omega) c1
          have k2 := nz c2
          have m2 := Nat.mul_le_mul_left (wit is (b + sp n) (b + n)).length hm
          rw [e1, wit_nil c1, List.length_nil, Nat.zero_add, Nat.mul_add, Nat.mul_one]
          omega
      | true =>
        have e1 := oth_most is f b (sp n) (by omega) (by omega) c1
        rw [hdl] at e1
        have k1 := nz c1
        cases c2 : tch is (b + sp n) (b + n) with
        | false =>
          have e2 := nl f (b + sp n) (n - sp n) (by omega) (by rw [show b + sp n + (n - sp n) = b + n by omega]; exact c2)
          rw [e2, wit_nil c2, List.length_nil, Nat.mul_add, Nat.mul_one]
          simp only [Nat.add_zero]
          omega
        | true =>
          have e2 := oth_most is f (b + sp n) (n - sp n) (by omega) (by omega) (by rw [show b + sp n + (n - sp n) = b + n by omega]; exact c2)
          rw [show b + sp n + (n - sp n) = b + n by omega] at e2
          have m2 := Nat.mul_le_mul_left (wit is (b + sp n) (b + n)).length hm
          rw [Nat.mul_add, Nat.mul_one, Nat.add_mul]
          omega
end Tree
end Go.Proofs.YtbodgecbakcaaaaGreatDoor

/- THE PLAIN MATHEMATICS OF LAYER 8: the way to a leaf; subtrees told by counts; nothing of the program. -/
namespace Go.Proofs.YtbodgecbakcaaaaGreatDoor
namespace Tree
def wayF : Nat → Nat → Nat → Nat → List (Nat × Nat)
  | 0, _, _, _ => []
  | f + 1, b, n, i => (b, b + n) :: (if n < 2 then [] else if i < b + sp n then wayF f b (sp n) i else wayF f (b + sp n) (n - sp n) i)
theorem wayF_one {f b n i : Nat} (h : n < 2) : wayF (f + 1) b n i = [(b, b + n)] := by rw [wayF, if_pos h]
theorem wayF_left {f b n i : Nat} (h : 2 ≤ n) (hi : i < b + sp n) : wayF (f + 1) b n i = (b, b + n) :: wayF f b (sp n) i := by rw [wayF, if_neg (by omega), if_pos hi]
theorem wayF_right {f b n i : Nat} (h : 2 ≤ n) (hi : ¬ i < b + sp n) : wayF (f + 1) b n i = (b, b + n) :: wayF f (b + sp n) (n - sp n) i := by rw [wayF, if_neg (by omega), if_neg hi]
theorem wayF_len : ∀ (f b n i : Nat), n ≤ f → 1 ≤ n → (wayF f b n i).length ≤ n
  | 0, b, n, i, h, h1 => by omega
  | f + 1, b, n, i, h, h1 => by
    by_cases h2 : n < 2
    · rw [wayF_one h2]; simpa using h1
    · have s1 := sp_lt (n := n) (by omega)
      have s2 := sp_pos (n := n) (by omega)
      by_cases hi : i < b + sp n
      · rw [wayF_left (by omega) hi, List.length_cons]; have := wayF_len f b (sp n) i (by omega) (by omega); omega
      · rw [wayF_right (by omega) hi, List.length_cons]; have := wayF_len f (b + sp n) (n - sp n) i (by omega) (by omega); omega
theorem wayF_has : ∀ (f b n i : Nat), n ≤ f → b ≤ i → i < b + n → ∀ s ∈ wayF f b n i, b ≤ s.1 ∧ s.1 ≤ i ∧ i < s.2 ∧ s.2 ≤ b + n
  | 0, b, n, i, h, _, h1 => by omega
  | f + 1, b, n, i, h, hb, h1 => by
    intro s hs
    by_cases h2 : n < 2
    · rw [wayF_one h2] at hs
      obtain rfl : s = (b, b + n) := by simpa using hs
      exact ⟨Nat.le_refl _, hb, h1, Nat.le_refl _⟩
    · have s1 := sp_lt (n := n) (by omega)
      have s2 := sp_pos (n := n) (by omega)
      by_cases hi : i < b + sp n
      · rw [wayF_left (by omega) hi] at hs
        rcases List.mem_cons.1 hs with rfl | hs
        · exact ⟨Nat.le_refl _, hb, h1, Nat.le_refl _⟩
        · have := wayF_has f b (sp n) i (by omega) hb hi s hs; omega
      · rw [wayF_right (by omega) hi] at hs
        rcases List.mem_cons.1 hs with rfl | hs
        · exact ⟨Nat.le_refl _, hb, h1, Nat.le_refl _⟩
        · have := wayF_has f (b + sp n) (n - sp n) i (by omega) (by omega) (by omega) s hs; omega
def osd (i : Nat) (s : Nat × Nat) : Nat × Nat := if i < s.1 + sp (s.2 - s.1) then (s.1 + sp (s.2 - s.1), s.2) else (s.1, s.1 + sp (s.2 - s.1))
def twd (i : Nat) (s : Nat × Nat) : Nat × Nat := if i < s.1 + sp (s.2 - s.1) then (s.1, s.1 + sp (s.2 - s.1)) else (s.1 + sp (s.2 - s.1), s.2)
def pcol (i : Nat) (l : List (Nat × Nat)) : List (Nat × Nat) := (l.filter fun s => decide (1 < s.2 - s.1)).map (osd i)
theorem pcol_hit {i : Nat} {l : List (Nat × Nat)} {s : Nat × Nat} (h : 1 < s.2 - s.1) : pcol i (l ++ [s]) = pcol i l ++ [osd i s] := by simp [pcol, List.filter_append, h]
theorem pcol_miss {i : Nat} {l : List (Nat × Nat)} {s : Nat × Nat} (h : ¬ 1 < s.2 - s.1) : pcol i (l ++ [s]) = pcol i l := by simp [pcol, List.filter_append, h]
theorem pcol_len (i : Nat) (l : List (Nat × Nat)) : (pcol i l).length ≤ l.length := by rw [pcol, List.length_map]; exact List.length_filter_le _ _
theorem pcol_way (i : Nat) : ∀ (f b n : Nat), n ≤ f → pcol i (wayF f b n i) = (pthF f b n i).reverse
  | 0, b, n, h => rfl
  | f + 1, b, n, h => by
    by_cases h2 : n < 2
    · rw [wayF_one h2, pthF_small h2]
      simp [pcol]; omega
    · have s1 := sp_lt (n := n) (by omega)
      have s2 := sp_pos (n := n) (by omega)
      have e : 1 < (b, b + n).2 - (b, b + n).1 := by show 1 < b + n - b; omega
      have c : ∀ l : List (Nat × Nat), pcol i ((b, b + n) :: l) = osd i (b, b + n) :: pcol i l := fun l => by
        unfold pcol; rw [List.filter_cons_of_pos (by simpa using e), List.map_cons]
      have en : b + n - b = n := by omega
      by_cases hi : i < b + sp n
      · rw [wayF_left (by omega) hi, pthF_left (by omega) hi, c, pcol_way i f b (sp n) (by omega), List.reverse_append]
        simp only [osd, en, if_pos hi]; rfl
      · rw [wayF_right (by omega) hi, pthF_right (by omega) hi, c, pcol_way i f (b + sp n) (n - sp n) (by omega), List.reverse_append]
        simp only [osd, en, if_neg hi]; rfl
def barF : Nat → Nat → Nat → (Nat → Nat → Nat) → List (Nat × Nat)
  | 0, _, _, _ => []
  | f + 1, b, n, c => if c b (b + n) = 0 then [(b, b + n)] else if n ≤ c b (b + n) then [] else barF f b (sp n) c ++ barF f (b + sp n) (n - sp n) c
theorem barF_no {f b n : Nat} {c : Nat → Nat → Nat} (h : c b (b + n) = 0) : barF (f + 1) b n c = [(b, b + n)] := by rw [barF, if_pos h]
theorem barF_all {f b n : Nat} {c : Nat → Nat → Nat} (h0 : c b (b + n) ≠ 0) (h : n ≤ c b (b + n)) : barF (f + 1) b n c = [] := by rw [barF, if_neg h0, if_pos h]
theorem barF_two {f b n : Nat} {c : Nat → Nat → Nat} (h0 : c b (b + n) ≠ 0) (h : ¬ n ≤ c b (b + n)) : barF (f + 1) b n c = barF f b (sp n) c ++ barF f (b + sp n) (n - sp n) c := by rw [barF, if_neg h0, if_neg h]
theorem barF_fuel (c : Nat → Nat → Nat) : ∀ (f g b n : Nat), n ≤ f → n ≤ g → 1 ≤ n → barF f b n c = barF g b n c
  | 0, g, b, n, h, _, h1 => by omega
  | f + 1, 0, b, n, h, hg, h1 => by omega
  | f + 1, g + 1, b, n, h, hg, h1 => by
    by_cases h0 : c b (b + n) = 0
    · rw [barF_no h0, barF_no h0]
    · by_cases h2 : n ≤ c b (b + n)
      · rw [barF_all h0 h2, barF_all h0 h2]
      · rw [barF_two h0 h2, barF_two h0 h2]
        have h3 : 2 ≤ n := by omega
        have s1 := sp_lt (n := n) h3
        have s2 := sp_pos (n := n) h3
        rw [barF_fuel c f g b (sp n) (by omega) (by omega) (by omega), barF_fuel c f g (b + sp n) (n - sp n) (by omega) (by omega) (by omega)]
theorem barF_len (c : Nat → Nat → Nat) : ∀ (f b n : Nat), n ≤ f → 1 ≤ n → (barF f b n c).length ≤ n
  | 0, b, n, h, h1 => by omega
  | f + 1, b, n, h, h1 => by
    by_cases h0 : c b (b + n) = 0
    · rw [barF_no h0]; simpa using h1
    · by_cases h2 : n ≤ c b (b + n)
      · rw [barF_all h0 h2]; exact Nat.zero_le _
      · rw [barF_two h0 h2, List.length_append]
        have h3 : 2 ≤ n := by omega
        have s1 := sp_lt (n := n) h3
        have s2 := sp_pos (n := n) h3
        have := barF_len c f b (sp n) (by omega) (by omega)
        have := barF_len c f (b + sp n) (n - sp n) (by omega) (by omega)
        omega
theorem wit_zero {is : List Nat} {b e : Nat} : (wit is b e).length = 0 ↔ tch is b e = false := by
  constructor
  · intro h
    cases ht : tch is b e with
    | false => rfl
    | true => exact absurd (List.length_eq_zero_iff.1 h) (wit_ne ht)
  · intro h; rw [wit_nil h]; rfl
theorem barF_oth (is : List Nat) (hn : is.Nodup) : ∀ (f b n : Nat), n ≤ f → 1 ≤ n → barF f b n (fun b e => (wit is b e).length) = othF f b n is
  | 0, b, n, h, h1 => by omega
  | f + 1, b, n, h, h1 => by
    cases ht : tch is b (b + n) with
    | false => rw [othF_no ht, barF_no (wit_zero.2 ht)]
    | true =>
      have h0 : (wit is b (b + n)).length ≠ 0 := fun e => by rw [wit_zero.1 e] at ht; cases ht
      by_cases h2 : n ≤ (wit is b (b + n)).length
      · rw [barF_all h0 h2]
        have := oth_count is hn (f + 1) b n h h1
        exact (List.length_eq_zero_iff.1 (by omega)).symm
      · rw [barF_two h0 h2]
        have h3 : 2 ≤ n := by omega
        have s1 := sp_lt (n := n) h3
        have s2 := sp_pos (n := n) h3
        rw [othF_two ht h3, barF_oth is hn f b (sp n) (by omega) (by omega), barF_oth is hn f (b + sp n) (n - sp n) (by omega) (by omega)]
end Tree
end Go.Proofs.YtbodgecbakcaaaaGreatDoor
