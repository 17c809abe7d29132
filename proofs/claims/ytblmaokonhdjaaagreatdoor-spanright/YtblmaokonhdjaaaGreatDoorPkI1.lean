import Derived.Test.YtblmaokonhdjaaaGreatDoorPkR5
/- THE PLAIN MATHEMATICS OF LAYER 4: going up by halves, going down by the recursion; nothing of the program. -/
namespace Go.Proofs.YtblmaokonhdjaaaGreatDoor.Tree
/-- going up from a place of a level whose last place is l: does the next hash stand left? -/
def U (p l : Nat) : List Bool :=
  if h : l = 0 then [] else if p = l ∧ p % 2 = 0 then U (p / 2) (l / 2) else (p % 2 == 1) :: U (p / 2) (l / 2)
termination_by l
decreasing_by all_goals omega
theorem U_zero (p : Nat) : U p 0 = [] := by rw [U, dif_pos rfl]
theorem U_skip {p : Nat} (h : p ≠ 0) (h2 : p % 2 = 0) : U p p = U (p / 2) (p / 2) := by rw [U, dif_neg h, if_pos ⟨rfl, h2⟩]
theorem U_step {p l : Nat} (h : l ≠ 0) (h2 : ¬ (p = l ∧ p % 2 = 0)) : U p l = (p % 2 == 1) :: U (p / 2) (l / 2) := by rw [U, dif_neg h, if_neg h2]
/-- going down: the sides, from below -/
def D (n m : Nat) : List Bool :=
  if _h : n < 2 then [] else if m < sp n then D (sp n) m ++ [false] else D (n - sp n) (m - sp n) ++ [true]
termination_by n
decreasing_by
  · exact sp_lt (by omega)
  · have := sp_pos (n := n) (by omega); omega
theorem D_one {n : Nat} (m : Nat) (h : n < 2) : D n m = [] := by rw [D, dif_pos h]
theorem D_left {n m : Nat} (h : 2 ≤ n) (hm : m < sp n) : D n m = D (sp n) m ++ [false] := by rw [D, dif_neg (by omega), if_pos hm]
theorem D_right {n m : Nat} (h : 2 ≤ n) (hm : ¬ m < sp n) : D n m = D (n - sp n) (m - sp n) ++ [true] := by rw [D, dif_neg (by omega), if_neg hm]
theorem U_left : ∀ (j m l : Nat), m < 2 ^ j → 2 ^ j ≤ l → l < 2 ^ (j + 1) → U m l = U m (2 ^ j - 1) ++ [false]
  | 0, m, l, h1, h2, h3 => by
    obtain rfl : m = 0 := by simp at h1; omega
    obtain rfl : l = 1 := by simp at h2 h3; omega
    rw [U_step (by omega) (by omega)]; simp [U_zero]
  | j + 1, m, l, h1, h2, h3 => by
    have e1 : 2 ^ (j + 1) = 2 * 2 ^ j := by rw [Nat.pow_succ]; omega
    have e2 : 2 ^ (j + 1 + 1) = 2 * 2 ^ (j + 1) := by rw [Nat.pow_succ]; omega
    have h0 : 0 < 2 ^ j := Nat.two_pow_pos _
    have ih := U_left j (m / 2) (l / 2) (by omega) (by omega) (by omega)
    rw [U_step (l := l) (by omega) (by omega), U_step (l := 2 ^ (j + 1) - 1) (by omega) (by omega), ih, show (2 ^ (j + 1) - 1) / 2 = 2 ^ j - 1 from by omega]
    rfl
theorem U_right : ∀ (j m l : Nat), m ≤ l → l < 2 ^ j → U (2 ^ j + m) (2 ^ j + l) = U m l ++ [true]
  | 0, m, l, h1, h2 => by
    obtain rfl : l = 0 := by simp at h2; omega
    obtain rfl : m = 0 := by omega
    show U 1 1 = U 0 0 ++ [true]
    rw [U_step (by omega) (by omega)]; simp [U_zero]
  | j + 1, m, l, h1, h2 => by
    have e1 : 2 ^ (j + 1) = 2 * 2 ^ j := by rw [Nat.pow_succ]; omega
    have h0 : 0 < 2 ^ j := Nat.two_pow_pos _
    have ih := U_right j (m / 2) (l / 2) (by omega) (by omega)
    have a1 : (2 ^ (j + 1) + m) / 2 = 2 ^ j + m / 2 := by omega
    have a2 : (2 ^ (j + 1) + l) / 2 = 2 ^ j + l / 2 := by omega
    by_cases hs : m = l ∧ m % 2 = 0
    · obtain ⟨rfl, hs⟩ := hs
      rw [U_skip (by omega) (by omega), a1, ih]
      by_cases hm : m = 0
      · subst hm; rfl
      · rw [← U_skip hm hs]
    · have hl : l ≠ 0 := by omega
      rw [U_step (by omega) (by omega), a1, a2, ih, U_step hl hs, show (2 ^ (j + 1) + m) % 2 = m % 2 from by omega]
      rfl
theorem D_U : ∀ (f n m : Nat), n ≤ f → m < n → D n m = U m (n - 1)
  | 0, n, m, hf, h => by omega
  | f + 1, n, m, hf, h => by
    by_cases h2 : n < 2
    · obtain rfl : n = 1 := by omega
      rw [D_one _ h2]; exact (U_zero m).symm
    · have a := sp_lt (n := n) (by omega)
      have b := sp_pos (n := n) (by omega)
      have c := sp_ge (n := n) (by omega)
      have d := sp_eq (n := n) (by omega)
      generalize (n - 1).log2 = j at d
      by_cases hm : m < sp n
      · rw [D_left (by omega) hm, D_U f _ m (by omega) hm, d]
        exact (U_left j m (n - 1) (by omega) (by omega) (by rw [Nat.pow_succ]; omega)).symm
      · rw [D_right (by omega) hm, D_U f _ (m - sp n) (by omega) (by omega)]
        have := U_right j (m - 2 ^ j) (n - 1 - 2 ^ j) (by omega) (by omega)
        rw [d, show n - 2 ^ j - 1 = n - 1 - 2 ^ j from by omega, ← this, show 2 ^ j + (m - 2 ^ j) = m from by omega, show 2 ^ j + (n - 1 - 2 ^ j) = n - 1 from by omega]
theorem U_len : ∀ (j p l : Nat), l < 2 ^ j → (U p l).length ≤ j
  | 0, p, l, h => by
    obtain rfl : l = 0 := by simp at h; omega
    rw [U_zero]; simp
  | j + 1, p, l, h => by
    by_cases hl : l = 0
    · subst hl; rw [U_zero]; simp
    · have e1 : 2 ^ (j + 1) = 2 * 2 ^ j := by rw [Nat.pow_succ]; omega
      have ih := U_len j (p / 2) (l / 2) (by omega)
      by_cases hs : p = l ∧ p % 2 = 0
      · obtain ⟨rfl, hs⟩ := hs
        rw [U_skip hl hs]; omega
      · rw [U_step hl hs, List.length_cons]; omega
/-- the walk from below -/
def upd (r : T) : List Bool → List T → T
  | d :: ds, h :: hs => upd (if d then nd h r else nd r h) ds hs
  | _, _ => r
theorem upd_snoc : ∀ (r : T) (ds : List Bool) (hs : List T) (d : Bool) (h : T), ds.length = hs.length → upd r (ds ++ [d]) (hs ++ [h]) = if d then nd h (upd r ds hs) else nd (upd r ds hs) h
  | r, [], [], d, h, _ => rfl
  | r, x :: ds, y :: hs, d, h, e => by
    show upd _ (ds ++ [d]) (hs ++ [h]) = _
    rw [upd_snoc _ ds hs d h (by simpa using e)]; rfl
/-- S(m, n): the sides, from below -/
def PD (m n : Nat) : List Bool :=
  if _h : n < 2 ∨ m = n then [] else if m ≤ sp n then PD m (sp n) ++ [false] else PD (m - sp n) (n - sp n) ++ [true]
termination_by n
decreasing_by
  · exact sp_lt (by omega)
  · have := sp_pos (n := n) (by omega); omega
theorem PD_same (n : Nat) : PD n n = [] := by rw [PD, dif_pos (Or.inr rfl)]
theorem PD_left {m n : Nat} (h1 : 1 ≤ m) (h2 : m < n) (hm : m ≤ sp n) : PD m n = PD m (sp n) ++ [false] := by rw [PD, dif_neg (by omega), if_pos hm]
theorem PD_right {m n : Nat} (h1 : 1 ≤ m) (h2 : m < n) (hm : ¬ m ≤ sp n) : PD m n = PD (m - sp n) (n - sp n) ++ [true] := by rw [PD, dif_neg (by omega), if_neg hm]
/-- is a hash taken ahead? -/
def fl (m n : Nat) (whole : Bool) : Bool := !whole || (PD m n).any id
theorem fl_false (m n : Nat) : fl m n false = true := rfl
theorem fl_same (n : Nat) (whole : Bool) : fl n n whole = !whole := by simp [fl, PD_same]
theorem fl_left {m n : Nat} (h1 : 1 ≤ m) (h2 : m < n) (hm : m ≤ sp n) (whole : Bool) : fl m n whole = fl m (sp n) whole := by simp [fl, PD_left h1 h2 hm]
theorem fl_right {m n : Nat} (h1 : 1 ≤ m) (h2 : m < n) (hm : ¬ m ≤ sp n) (whole : Bool) : fl m n whole = true := by simp [fl, PD_right h1 h2 hm]
def pl (m n : Nat) (whole : Bool) : Nat := (PD m n).length + if fl m n whole then 1 else 0
theorem pl_left {m n : Nat} (h1 : 1 ≤ m) (h2 : m < n) (hm : m ≤ sp n) (whole : Bool) : pl m n whole = 1 + pl m (sp n) whole := by
  unfold pl; rw [fl_left h1 h2 hm, PD_left h1 h2 hm, List.length_append, List.length_singleton]; omega
theorem pl_right {m n : Nat} (h1 : 1 ≤ m) (h2 : m < n) (hm : ¬ m ≤ sp n) (whole : Bool) : pl m n whole = 1 + pl (m - sp n) (n - sp n) false := by
  unfold pl; rw [fl_right h1 h2 hm, fl_false, PD_right h1 h2 hm, List.length_append, List.length_singleton]; omega
theorem pl_same (n : Nat) (whole : Bool) : pl n n whole = if whole then 0 else 1 := by unfold pl; rw [fl_same, PD_same]; cases whole <;> rfl
/-- the odd places are left behind -/
def St (p l : Nat) : Nat × Nat := if h : p % 2 = 1 then St (p / 2) (l / 2) else (p, l)
termination_by p
decreasing_by omega
theorem St_odd {p : Nat} (l : Nat) (h : p % 2 = 1) : St p l = St (p / 2) (l / 2) := by rw [St, dif_pos h]
theorem St_even {p : Nat} (l : Nat) (h : ¬ p % 2 = 1) : St p l = (p, l) := by rw [St, dif_neg h]
def SU (p l : Nat) : List Bool := U (St p l).1 (St p l).2
theorem SU_odd {p : Nat} (l : Nat) (h : p % 2 = 1) : SU p l = SU (p / 2) (l / 2) := by unfold SU; rw [St_odd l h]
theorem SU_even {p : Nat} (l : Nat) (h : ¬ p % 2 = 1) : SU p l = U p l := by unfold SU; rw [St_even l h]
theorem SU_left : ∀ (j m l : Nat), m < 2 ^ j → 2 ^ j ≤ l → l < 2 ^ (j + 1) → SU m l = SU m (2 ^ j - 1) ++ [false]
  | 0, m, l, h1, h2, h3 => by
    obtain rfl : m = 0 := by simp at h1; omega
    rw [SU_even _ (by omega), SU_even _ (by omega)]
    exact U_left 0 0 l h1 h2 h3
  | j + 1, m, l, h1, h2, h3 => by
    have e1 : 2 ^ (j + 1) = 2 * 2 ^ j := by rw [Nat.pow_succ]; omega
    have e2 : 2 ^ (j + 1 + 1) = 2 * 2 ^ (j + 1) := by rw [Nat.pow_succ]; omega
    have h0 : 0 < 2 ^ j := Nat.two_pow_pos _
    by_cases ho : m % 2 = 1
    · rw [SU_odd _ ho, SU_odd _ ho, SU_left j (m / 2) (l / 2) (by omega) (by omega) (by omega), show (2 ^ (j + 1) - 1) / 2 = 2 ^ j - 1 from by omega]
    · rw [SU_even _ ho, SU_even _ ho]
      exact U_left (j + 1) m l h1 h2 h3
theorem SU_right : ∀ (j m l : Nat), m < l → l < 2 ^ j → SU (2 ^ j + m) (2 ^ j + l) = SU m l ++ [true]
  | 0, m, l, h1, h2 => by have : (2 : Nat) ^ 0 = 1 := rfl; omega
  | j + 1, m, l, h1, h2 => by
    have e1 : 2 ^ (j + 1) = 2 * 2 ^ j := by rw [Nat.pow_succ]; omega
    have h0 : 0 < 2 ^ j := Nat.two_pow_pos _
    by_cases ho : m % 2 = 1
    · rw [SU_odd _ (by omega), SU_odd _ ho, show (2 ^ (j + 1) + m) / 2 = 2 ^ j + m / 2 from by omega, show (2 ^ (j + 1) + l) / 2 = 2 ^ j + l / 2 from by omega, SU_right j (m / 2) (l / 2) (by omega) (by omega)]
    · rw [SU_even _ (by omega), SU_even _ ho]
      exact U_right (j + 1) m l (by omega) h2
theorem St_full : ∀ (j : Nat), St (2 ^ j - 1) (2 ^ j - 1) = (0, 0)
  | 0 => by rw [St_even _ (by simp)]
  | j + 1 => by
    have e1 : 2 ^ (j + 1) = 2 * 2 ^ j := by rw [Nat.pow_succ]; omega
    have h0 : 0 < 2 ^ j := Nat.two_pow_pos _
    rw [St_odd _ (by omega), show (2 ^ (j + 1) - 1) / 2 = 2 ^ j - 1 from by omega, St_full j]
theorem St_one : ∀ (p l l' : Nat), (St p l).1 = (St p l').1 := by
  intro p
  induction p using Nat.strongRecOn with
  | ind p ih =>
    intro l l'
    by_cases h : p % 2 = 1
    · rw [St_odd _ h, St_odd _ h]; exact ih _ (by omega) _ _
    · rw [St_even _ h, St_even _ h]
theorem St_right : ∀ (j m l : Nat), m + 1 < 2 ^ j → (St (2 ^ j + m) l).1 ≠ 0
  | 0, m, l, h => by simp at h
  | j + 1, m, l, h => by
    have e1 : 2 ^ (j + 1) = 2 * 2 ^ j := by rw [Nat.pow_succ]; omega
    have h0 : 0 < 2 ^ j := Nat.two_pow_pos _
    by_cases ho : m % 2 = 1
    · rw [St_odd _ (by omega), show (2 ^ (j + 1) + m) / 2 = 2 ^ j + m / 2 from by omega]
      exact St_right j _ _ (by omega)
    · rw [St_even _ (by omega)]
      show 2 ^ (j + 1) + m ≠ 0
      omega
theorem PD_SU : ∀ (f m n : Nat), n ≤ f → 1 ≤ m → m < n → PD m n = SU (m - 1) (n - 1) ∧ (PD m n).any id = decide ((St (m - 1) (n - 1)).1 ≠ 0)
  | 0, m, n, hf, h1, h2 => by omega
  | f + 1, m, n, hf, h1, h2 => by
    have a := sp_lt (n := n) (by omega)
    have b := sp_pos (n := n) (by omega)
    have c := sp_ge (n := n) (by omega)
    have d := sp_eq (n := n) (by omega)
    generalize (n - 1).log2 = j at d
    by_cases hm : m ≤ sp n
    · have hl := SU_left j (m - 1) (n - 1) (by omega) (by omega) (by rw [Nat.pow_succ]; omega)
      rw [PD_left h1 h2 hm, List.any_append]
      by_cases hk : m = sp n
      · have hz := St_full j
        have e : m - 1 = 2 ^ j - 1 := by omega
        have hs : SU (2 ^ j - 1) (2 ^ j - 1) = [] := by unfold SU; rw [hz, U_zero]
        rw [e] at hl ⊢
        rw [hk, PD_same, hl, hs, St_one _ _ (2 ^ j - 1), hz]
        exact ⟨rfl, rfl⟩
      · obtain ⟨i1, i2⟩ := PD_SU f m (sp n) (by omega) h1 (by omega)
        rw [i2, St_one _ (sp n - 1) (n - 1)]
        rw [i1, hl, d]
        exact ⟨rfl, by simp⟩
    · obtain ⟨i1, i2⟩ := PD_SU f (m - sp n) (n - sp n) (by omega) (by omega) (by omega)
      have hr := SU_right j (m - 1 - 2 ^ j) (n - 1 - 2 ^ j) (by omega) (by omega)
      have hz := St_right j (m - 1 - 2 ^ j) (n - 1) (by omega)
      rw [show 2 ^ j + (m - 1 - 2 ^ j) = m - 1 from by omega] at hr hz
      rw [show 2 ^ j + (n - 1 - 2 ^ j) = n - 1 from by omega] at hr
      rw [PD_right h1 h2 hm, i1, hr, d, show m - 2 ^ j - 1 = m - 1 - 2 ^ j from by omega, show n - 2 ^ j - 1 = n - 1 - 2 ^ j from by omega]
      refine ⟨rfl, ?_⟩
      rw [List.any_append]
      simp [hz]
theorem St_le : ∀ (p l : Nat), (St p l).1 ≤ p ∧ (St p l).2 ≤ l := by
  intro p
  induction p using Nat.strongRecOn with
  | ind p ih =>
    intro l
    by_cases h : p % 2 = 1
    · rw [St_odd _ h]; have := ih (p / 2) (by omega) (l / 2); omega
    · rw [St_even _ h]; simp
theorem St_lt : ∀ (p l : Nat), p < l → (St p l).1 < (St p l).2 := by
  intro p
  induction p using Nat.strongRecOn with
  | ind p ih =>
    intro l hl
    by_cases h : p % 2 = 1
    · rw [St_odd _ h]; exact ih (p / 2) (by omega) (l / 2) (by omega)
    · rw [St_even _ h]; exact hl
/-- both roots, from below -/
def upd2 (a b : T) : List Bool → List T → T × T
  | true :: ds, h :: hs => upd2 (nd h a) (nd h b) ds hs
  | false :: ds, h :: hs => upd2 a (nd b h) ds hs
  | _, _ => (a, b)
theorem upd2_snoc : ∀ (a b : T) (ds : List Bool) (hs : List T) (d : Bool) (h : T), ds.length = hs.length → upd2 a b (ds ++ [d]) (hs ++ [h]) = if d then (nd h (upd2 a b ds hs).1, nd h (upd2 a b ds hs).2) else ((upd2 a b ds hs).1, nd (upd2 a b ds hs).2 h)
  | a, b, [], [], d, h, _ => by cases d <;> rfl
  | a, b, true :: ds, y :: hs, d, h, e => by
    show upd2 _ _ (ds ++ [d]) (hs ++ [h]) = _
    rw [upd2_snoc _ _ ds hs d h (by simpa using e)]; rfl
  | a, b, false :: ds, y :: hs, d, h, e => by
    show upd2 _ _ (ds ++ [d]) (hs ++ [h]) = _
    rw [upd2_snoc _ _ ds hs d h (by simpa using e)]; rfl
def bth (m n : Nat) (whole : Bool) (old : T) (P : List T) : T × T :=
  if fl m n whole then upd2 (P.headD []) (P.headD []) (PD m n) P.tail else upd2 old old (PD m n) P
theorem bth_same (n : Nat) (whole : Bool) (old : T) (P : List T) : bth n n whole old P = if whole then (old, old) else (P.headD [], P.headD []) := by
  unfold bth; rw [fl_same, PD_same]; cases whole <;> rfl
theorem bth_left {m n : Nat} (h1 : 1 ≤ m) (h2 : m < n) (hm : m ≤ sp n) (whole : Bool) (old : T) (P : List T) (h : T) (hl : P.length = pl m (sp n) whole) :
    bth m n whole old (P ++ [h]) = ((bth m (sp n) whole old P).1, nd (bth m (sp n) whole old P).2 h) := by
  unfold bth
  unfold pl at hl
  rw [fl_left h1 h2 hm, PD_left h1 h2 hm]
  by_cases hf : fl m (sp n) whole = true
  · rw [if_pos hf] at hl
    rw [if_pos hf, if_pos hf]
    match P, hl with
    | p :: P, hl =>
      show upd2 p p _ (P ++ [h]) = _
      rw [upd2_snoc _ _ _ _ _ _ (by simp at hl; omega)]; rfl
  · rw [if_neg hf] at hl
    rw [if_neg hf, if_neg hf, upd2_snoc _ _ _ _ _ _ (by omega)]; rfl
theorem bth_right {m n : Nat} (h1 : 1 ≤ m) (h2 : m < n) (hm : ¬ m ≤ sp n) (whole : Bool) (old : T) (P : List T) (h : T) (hl : P.length = pl (m - sp n) (n - sp n) false) :
    bth m n whole old (P ++ [h]) = (nd h (bth (m - sp n) (n - sp n) false old P).1, nd h (bth (m - sp n) (n - sp n) false old P).2) := by
  unfold bth
  unfold pl at hl
  rw [fl_false, if_pos rfl] at hl
  rw [fl_right h1 h2 hm, fl_false, PD_right h1 h2 hm, if_pos rfl, if_pos rfl]
  match P, hl with
  | p :: P, hl =>
    show upd2 p p _ (P ++ [h]) = _
    rw [upd2_snoc _ _ _ _ _ _ (by simp at hl; omega)]; rfl
/-- what the definitions say: a path leads to the root -/
theorem path_D : ∀ (f m : Nat) (l : List T) (x : T), l[m]? = some x → l.length ≤ f → (path m l).length = (D l.length m).length ∧ upd x (D l.length m) (path m l) = root l
  | f, m, l, x, hx, hf => by
    have h : m < l.length := by
      rcases Nat.lt_or_ge m l.length with h | h
      · exact h
      · rw [List.getElem?_eq_none h] at hx; cases hx
    match f, hf with
    | 0, hf => omega
    | f + 1, hf =>
    by_cases h2 : l.length < 2
    · have h1 : l.length = 1 := by omega
      obtain ⟨a, rfl⟩ := List.length_eq_one_iff.1 h1
      have : m = 0 := by simp at h; omega
      subst this
      obtain rfl : a = x := by simpa using hx
      rw [path_small h2, D_one _ h2]; exact ⟨rfl, rfl⟩
    · have a := sp_lt (n := l.length) (by omega)
      have b := sp_pos (n := l.length) (by omega)
      rw [path_cut (by omega), root_cut (l := l) (by omega)]
      by_cases hm : m < sp l.length
      · obtain ⟨i1, i2⟩ := path_D f m (l.take (sp l.length)) x (by rw [List.getElem?_take, if_pos hm]; exact hx) (by simp; omega)
        rw [show (l.take (sp l.length)).length = sp l.length from by simp; omega] at i1 i2
        rw [if_pos hm, D_left (by omega) hm, upd_snoc _ _ _ _ _ i1.symm, i2]
        exact ⟨by simp [i1], rfl⟩
      · obtain ⟨i1, i2⟩ := path_D f (m - sp l.length) (l.drop (sp l.length)) x (by rw [List.getElem?_drop, show sp l.length + (m - sp l.length) = m from by omega]; exact hx) (by simp; omega)
        rw [show (l.drop (sp l.length)).length = l.length - sp l.length from by simp] at i1 i2
        rw [if_neg hm, D_right (by omega) hm, upd_snoc _ _ _ _ _ i1.symm, i2]
        exact ⟨by simp [i1], rfl⟩
theorem proof_PD : ∀ (f m : Nat) (l : List T) (whole : Bool), 1 ≤ m → m ≤ l.length → l.length ≤ f → (proof m l whole).length = pl m l.length whole ∧ ∀ old, (whole = true → old = root (l.take m)) → bth m l.length whole old (proof m l whole) = (root (l.take m), root l)
  | 0, m, l, whole, h1, h2, hf => by omega
  | f + 1, m, l, whole, h1, h2, hf => by
    by_cases h : m = l.length
    · subst h
      rw [pl_same]
      refine ⟨by cases whole; (rw [proof_part h1]; rfl); (rw [proof_whole h1]; rfl), fun old ho => ?_⟩
      rw [bth_same, List.take_length]
      cases whole
      · rw [proof_part h1]; rfl
      · rw [List.take_length] at ho
        rw [← ho rfl]; rfl
    · have a := sp_lt (n := l.length) (by omega)
      have b := sp_pos (n := l.length) (by omega)
      have c := sp_ge (n := l.length) (by omega)
      by_cases hm : m ≤ sp l.length
      · obtain ⟨i1, i2⟩ := proof_PD f m (l.take (sp l.length)) whole h1 (by simp; omega) (by simp; omega)
        rw [show (l.take (sp l.length)).length = sp l.length from by simp; omega] at i1 i2
        rw [List.take_take, Nat.min_eq_left hm] at i2
        rw [proof_left h1 (by omega) hm, pl_left h1 (by omega) hm]
        refine ⟨by rw [List.length_append, i1]; simp; omega, fun old ho => ?_⟩
        rw [bth_left h1 (by omega) hm _ _ _ _ i1, i2 old ho, root_cut (l := l) (by omega)]
      · obtain ⟨i1, i2⟩ := proof_PD f (m - sp l.length) (l.drop (sp l.length)) false (by omega) (by simp; omega) (by simp; omega)
        rw [show (l.drop (sp l.length)).length = l.length - sp l.length from by simp] at i1 i2
        rw [proof_right h1 (by omega) hm, pl_right h1 (by omega) hm]
        refine ⟨by rw [List.length_append, i1]; simp; omega, fun old ho => ?_⟩
        rw [bth_right h1 (by omega) hm _ _ _ _ i1, i2 old (by simp), root_cut (l := l) (by omega)]
        have e1 : sp (l.take m).length = sp l.length := by
          rw [List.length_take, Nat.min_eq_left h2]
          have d := sp_eq (n := l.length) (by omega)
          rw [d]
          exact sp_one (by omega) _ (by omega) (by omega)
        have e2 : root (l.take m) = nd (root (l.take (sp l.length))) (root ((l.drop (sp l.length)).take (m - sp l.length))) := by
          rw [root_cut (l := l.take m) (by simp; omega), e1, List.take_take, Nat.min_eq_left (by omega), List.drop_take]
        rw [e2]
theorem pl_le : ∀ (f m n : Nat) (whole : Bool), n ≤ f → 1 ≤ m → m ≤ n → pl m n whole ≤ n
  | 0, m, n, whole, hf, h1, h2 => by omega
  | f + 1, m, n, whole, hf, h1, h2 => by
    by_cases h : m = n
    · subst h; rw [pl_same]; cases whole
      · exact h1
      · exact Nat.zero_le _
    · have a := sp_lt (n := n) (by omega)
      have b := sp_pos (n := n) (by omega)
      have c := sp_ge (n := n) (by omega)
      by_cases hm : m ≤ sp n
      · rw [pl_left h1 (by omega) hm]
        have := pl_le f m (sp n) whole (by omega) h1 hm
        omega
      · rw [pl_right h1 (by omega) hm]
        have := pl_le f (m - sp n) (n - sp n) false (by omega) (by omega) (by omega)
        omega
end Go.Proofs.YtblmaokonhdjaaaGreatDoor.Tree
