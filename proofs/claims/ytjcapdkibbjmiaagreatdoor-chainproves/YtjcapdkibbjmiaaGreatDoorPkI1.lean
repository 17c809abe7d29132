import Derived.Test.YtjcapdkibbjmiaaGreatDoorPkR5
/- THE PLAIN MATHEMATICS OF LAYER 4: going up by halves, going down by the recursion; nothing of the program. -/
namespace Go.Proofs.YtjcapdkibbjmiaaGreatDoor.Tree
def U (p l : Nat) : List Bool :=
  if h : l = 0 then [] else if p = l ∧ p % 2 = 0 then U (p / 2) (l / 2) else (p % 2 == 1) :: U (p / 2) (l / 2)
termination_by l
decreasing_by all_goals omega
theorem U_zero (p : Nat) : U p 0 = [] := by rw [U, dif_pos rfl]
theorem U_skip {p : Nat} (h : p ≠ 0) (h2 : p % 2 = 0) : U p p = U (p / 2) (p / 2) := by rw [U, dif_neg h, if_pos ⟨rfl, h2⟩]
theorem U_step {p l : Nat} (h : l ≠ 0) (h2 : ¬ (p = l ∧ p % 2 = 0)) : U p l = (p % 2 == 1) :: U (p / 2) (l / 2) := by rw [U, dif_neg h, if_neg h2]
def D (n m : Nat) : List Bool :=
  if _h : n < 2 then [] else if m < sp n then D (sp n) m ++ [false] else D (n - sp n) (m - sp n) ++ [true]
termination_by n
decreasing_by
  · exact sp_lt (by omega)
  · have := sp_pos (n := n) (by omega); omega
theorem U_left : ∀ (j m l : Nat), m < 2 ^ j → 2 ^ j ≤ l → l < 2 ^ (j + 1) → U m l = U m (2 ^ j - 1) ++ [false]
  | 0, m, l, h1, h2, h3 => by
    obtain rfl : m = 0 := by simp at h1; omega
    obtain rfl : l = 1 := by simp at h2 h3; omega
    rw [U_step (by omega) (by omega)]; simp [U_zero]
  | j + 1, m, l, h1, h2, h3 => by
    have e1 : 2 ^ (j + 1) = 2 * 2 ^ j := by rw [Nat.pow_succ]; omega
    have e2 : 2 ^ (j + 1 + 1) = 2 * 2 ^ (j + 1) := by rw [Nat.pow_succ]; omega
    have h0 : 0 < 2 ^ j := Nat.two_pow_pos _
    have ih := U_left j (m / 2) (l / 2) (by omega) (by omega) (by omega)
    rw [U_step (l := l) (by omega) (by omega), U_step (l := 2 ^ (j + 1) - 1) (by omega) (by omega), ih, show (2 ^ (j + 1) - 1) / 2 = 2 ^ j - 1 from by omega]
    rfl
theorem U_right : ∀ (j m l : Nat), m ≤ l → l < 2 ^ j → U (2 ^ j + m) (2 ^ j + l) = U m l ++ [true]
  | 0, m, l, h1, h2 => by
    obtain rfl : l = 0 := by simp at h2; omega
    obtain rfl : m = 0 := by omega
    show U 1 1 = U 0 0 ++ [true]
    rw [U_step (by omega) (by omega)]; simp [U_zero]
  | j + 1, m, l, h1, h2 => by
    have e1 : 2 ^ (j + 1) = 2 * 2 ^ j := by rw [Nat.pow_succ]; omega
    have h0 : 0 < 2 ^ j := Nat.two_pow_pos _
    have ih := U_right j (m / 2) (l / 2) (by omega) (by omega)
    have a1 : (2 ^ (j + 1) + m) / 2 = 2 ^ j + m / 2 := by omega
    have a2 : (2 ^ (j + 1) + l) / 2 = 2 ^ j + l / 2 := by omega
    by_cases hs : m = l ∧ m % 2 = 0
    · obtain ⟨rfl, hs⟩ := hs
      rw [U_skip (by omega) (by omega), a1, ih]
      by_cases hm : m = 0
      · subst hm; rfl
      · rw [← U_skip hm hs]
    · have hl : l ≠ 0 := by omega
      rw [U_step (by omega) (by omega), a1, a2, ih, U_step hl hs, show (2 ^ (j + 1) + m) % 2 = m % 2 from by omega]
      rfl
theorem U_len : ∀ (j p l : Nat), l < 2 ^ j → (U p l).length ≤ j
  | 0, p, l, h => by
    obtain rfl : l = 0 := by simp at h; omega
    rw [U_zero]; simp
  | j + 1, p, l, h => by
    by_cases hl : l = 0
    · subst hl; rw [U_zero]; simp
    · have e1 : 2 ^ (j + 1) = 2 * 2 ^ j := by rw [Nat.pow_succ]; omega
      have ih := U_len j (p / 2) (l / 2) (by omega)
      by_cases hs : p = l ∧ p % 2 = 0
      · obtain ⟨rfl, hs⟩ := hs
        rw [U_skip hl hs]; omega
      · rw [U_step hl hs, List.length_cons]; omega
def upd (r : T) : List Bool → List T → T
  | d :: ds, h :: hs => upd (if d then nd h r else nd r h) ds hs
  | _, _ => r
def PD (m n : Nat) : List Bool :=
  if _h : n < 2 ∨ m = n then [] else if m ≤ sp n then PD m (sp n) ++ [false] else PD (m - sp n) (n - sp n) ++ [true]
termination_by n
decreasing_by
  · exact sp_lt (by omega)
  · have := sp_pos (n := n) (by omega); omega
theorem PD_same (n : Nat) : PD n n = [] := by rw [PD, dif_pos (Or.inr rfl)]
theorem PD_left {m n : Nat} (h1 : 1 ≤ m) (h2 : m < n) (hm : m ≤ sp n) : PD m n = PD m (sp n) ++ [false] := by rw [PD, dif_neg (by omega), if_pos hm]
theorem PD_right {m n : Nat} (h1 : 1 ≤ m) (h2 : m < n) (hm : ¬ m ≤ sp n) : PD m n = PD (m - sp n) (n - sp n) ++ [true] := by rw [PD, dif_neg (by omega), if_neg hm]
def fl (m n : Nat) (whole : Bool) : Bool := !whole || (PD m n).any id
theorem fl_same (n : Nat) (whole : Bool) : fl n n whole = !whole := by simp [fl, PD_same]
def pl (m n : Nat) (whole : Bool) : Nat := (PD m n).length + if fl m n whole then 1 else 0
theorem pl_same (n : Nat) (whole : Bool) : pl n n whole = if whole then 0 else 1 := by unfold pl; rw [fl_same, PD_same]; cases whole <;> rfl
def St (p l : Nat) : Nat × Nat := if h : p % 2 = 1 then St (p / 2) (l / 2) else (p, l)
termination_by p
decreasing_by omega
theorem St_odd {p : Nat} (l : Nat) (h : p % 2 = 1) : St p l = St (p / 2) (l / 2) := by rw [St, dif_pos h]
theorem St_even {p : Nat} (l : Nat) (h : ¬ p % 2 = 1) : St p l = (p, l) := by rw [St, dif_neg h]
def SU (p l : Nat) : List Bool := U (St p l).1 (St p l).2
theorem SU_odd {p : Nat} (l : Nat) (h : p % 2 = 1) : SU p l = SU (p / 2) (l / 2) := by unfold SU; rw [St_odd l h]
theorem SU_even {p : Nat} (l : Nat) (h : ¬ p % 2 = 1) : SU p l = U p l := by unfold SU; rw [St_even l h]
theorem SU_left : ∀ (j m l : Nat), m < 2 ^ j → 2 ^ j ≤ l → l < 2 ^ (j + 1) → SU m l = SU m (2 ^ j - 1) ++ [false]
  | 0, m, l, h1, h2, h3 => by
    obtain rfl : m = 0 := by simp at h1; omega
    rw [SU_even _ (by omega), SU_even _ (by omega)]
    exact U_left 0 0 l h1 h2 h3
  | j + 1, m, l, h1, h2, h3 => by
    have e1 : 2 ^ (j + 1) = 2 * 2 ^ j := by rw [Nat.pow_succ]; omega
    have e2 : 2 ^ (j + 1 + 1) = 2 * 2 ^ (j + 1) := by rw [Nat.pow_succ]; omega
    have h0 : 0 < 2 ^ j := Nat.two_pow_pos _
    by_cases ho : m % 2 = 1
    · rw [SU_odd _ ho, SU_odd _ ho, SU_left j (m / 2) (l / 2) (by omega) (by omega) (by omega), show (2 ^ (j + 1) - 1) / 2 = 2 ^ j - 1 from by omega]
    · rw [SU_even _ ho, SU_even _ ho]
      exact U_left (j + 1) m l h1 h2 h3
theorem SU_right : ∀ (j m l : Nat), m < l → l < 2 ^ j → SU (2 ^ j + m) (2 ^ j + l) = SU m l ++ [true]
  | 0, m, l, h1, h2 => by have : (2 : Nat) ^ 0 = 1 := rfl; omega
  | j + 1, m, l, h1, h2 => by
    have e1 : 2 ^ (j + 1) = 2 * 2 ^ j := by rw [Nat.pow_succ]; omega
    have h0 : 0 < 2 ^ j := Nat.two_pow_pos _
    by_cases ho : m % 2 = 1
    · rw [SU_odd _ (by omega), SU_odd _ ho, show (2 ^ (j + 1) + m) / 2 = 2 ^ j + m / 2 from by omega, show (2 ^ (j + 1) + l) / 2 = 2 ^ j + l / 2 from by omega, SU_right j (m / 2) (l / 2) (by omega) (by omega)]
    · rw [SU_even _ (by omega), SU_even _ ho]
      exact U_right (j + 1) m l (by omega) h2
theorem St_full : ∀ (j : Nat), St (2 ^ j - 1) (2 ^ j - 1) = (0, 0)
  | 0 => by rw [St_even _ (by simp)]
  | j + 1 => by
    have e1 : 2 ^ (j + 1) = 2 * 2 ^ j := by rw [Nat.pow_succ]; omega
    have h0 : 0 < 2 ^ j := Nat.two_pow_pos _
    rw [St_odd _ (by omega), show (2 ^ (j + 1) - 1) / 2 = 2 ^ j - 1 from by omega, St_full j]
theorem St_one : ∀ (p l l' : Nat), (St p l).1 = (St p l').1 := by
  intro p
  induction p using Nat.strongRecOn with
  | ind p ih =>
    intro l l'
    by_cases h : p % 2 = 1
    · rw [St_odd _ h, St_odd _ h]; exact ih _ (by omega) _ _
    · rw [St_even _ h, St_even _ h]
theorem St_right : ∀ (j m l : Nat), m + 1 < 2 ^ j → (St (2 ^ j + m) l).1 ≠ 0
  | 0, m, l, h => by simp at h
  | j + 1, m, l, h => by
    have e1 : 2 ^ (j + 1) = 2 * 2 ^ j := by rw [Nat.pow_succ]; omega
    have h0 : 0 < 2 ^ j := Nat.two_pow_pos _
    by_cases ho : m % 2 = 1
    · rw [St_odd _ (by omega), show (2 ^ (j + 1) + m) / 2 = 2 ^ j + m / 2 from by omega]
      exact St_right j _ _ (by omega)
    · rw [St_even _ (by omega)]
      show 2 ^ (j + 1) + m ≠ 0
      omega
theorem PD_SU : ∀ (f m n : Nat), n ≤ f → 1 ≤ m → m < n → PD m n = SU (m - 1) (n - 1) ∧ (PD m n).any id = decide ((St (m - 1) (n - 1)).1 ≠ 0)
  | 0, m, n, hf, h1, h2 => by omega
  | f + 1, m, n, hf, h1, h2 => by
    have a := sp_lt (n := n) (by omega)
    have b := sp_pos (n := n) (by omega)
    have c := sp_ge (n := n) (by omega)
    have d := sp_eq (n := n) (by omega)
    generalize (n - 1).log2 = j at d
    by_cases hm : m ≤ sp n
    · have hl := SU_left j (m - 1) (n - 1) (by omega) (by omega) (by rw [Nat.pow_succ]; omega)
      rw [PD_left h1 h2 hm, List.any_append]
      by_cases hk : m = sp n
      · have hz := St_full j
        have e : m - 1 = 2 ^ j - 1 := by omega
        have hs : SU (2 ^ j - 1) (2 ^ j - 1) = [] := by unfold SU; rw [hz, U_zero]
        rw [e] at hl ⊢
        rw [hk, PD_same, hl, hs, St_one _ _ (2 ^ j - 1), hz]
        exact ⟨rfl, rfl⟩
      · obtain ⟨i1, i2⟩ := PD_SU f m (sp n) (by omega) h1 (by omega)
        rw [i2, St_one _ (sp n - 1) (n - 1)]
        rw [i1, hl, d]
        exact ⟨rfl, by simp⟩
    · obtain ⟨i1, i2⟩ := PD_SU f (m - sp n) (n - sp n) (by omega) (by omega) (by omega)
      have hr := SU_right j (m - 1 - 2 ^ j) (n - 1 - 2 ^ j) (by omega) (by omega)
      have hz := St_right j (m - 1 - 2 ^ j) (n - 1) (by omega)
      rw [show 2 ^ j + (m - 1 - 2 ^ j) = m - 1 from by omega] at hr hz
      rw [show 2 ^ j + (n - 1 - 2 ^ j) = n - 1 from by omega] at hr
      rw [PD_right h1 h2 hm, i1, hr, d, show m - 2 ^ j - 1 = m - 1 - 2 ^ j from by omega, show n - 2 ^ j - 1 = n - 1 - 2 ^ j from by omega]
      refine ⟨rfl, ?_⟩
      rw [List.any_append]
      simp [hz]
theorem St_le : ∀ (p l : Nat), (St p l).1 ≤ p ∧ (St p l).2 ≤ l := by
  intro p
  induction p using Nat.strongRecOn with
  | ind p ih =>
    intro l
    by_cases h : p % 2 = 1
    · rw [St_odd _ h]; have := ih (p / 2) (by omega) (l / 2); omega
    · rw [St_even _ h]; simp
theorem St_lt : ∀ (p l : Nat), p < l → (St p l).1 < (St p l).2 := by
  intro p
  induction p using Nat.strongRecOn with
  | ind p ih =>
    intro l hl
    by_cases h : p % 2 = 1
    · rw [St_odd _ h]; exact ih (p / 2) (by omega) (l / 2) (by omega)
    · rw [St_even _ h]; exact hl
def upd2 (a b : T) : List Bool → List T → T × T
  | true :: ds, h :: hs => upd2 (nd h a) (nd h b) ds hs
  | false :: ds, h :: hs => upd2 a (nd b h) ds hs
  | _, _ => (a, b)
def bth (m n : Nat) (whole : Bool) (old : T) (P : List T) : T × T :=
  if fl m n whole then upd2 (P.headD []) (P.headD []) (PD m n) P.tail else upd2 old old (PD m n) P
theorem bth_same (n : Nat) (whole : Bool) (old : T) (P : List T) : bth n n whole old P = if whole then (old, old) else (P.headD [], P.headD []) := by
  unfold bth; rw [fl_same, PD_same]; cases whole <;> rfl
end Go.Proofs.YtjcapdkibbjmiaaGreatDoor.Tree

/- THE PLAIN MATHEMATICS OF LAYER 6: texts of the steps of a walk, the highest ones that differ; nothing of the program. -/
namespace Go.Proofs.YtjcapdkibbjmiaaGreatDoor
namespace Tree
def hi : List T → List T → Option (T × T)
  | a :: az, b :: bs => match hi az bs with
    | some p => some p
    | none => if a = b then none else some (a, b)
  | _, _ => none
end Tree
end Go.Proofs.YtjcapdkibbjmiaaGreatDoor

/- THE PLAIN MATHEMATICS OF LAYER 6: forks, and what stands beside the way of a proof. -/
namespace Go.Proofs.YtjcapdkibbjmiaaGreatDoor
namespace Tree
abbrev Fork := Nat × Nat × Nat × Bool
def own : Nat → Nat → List T → List T
  | 0, _, _ => []
  | f + 1, k, l => if l.length < 2 ∨ k = l.length then [] else if k ≤ sp l.length then own f k (l.take (sp l.length)) ++ [root (l.drop (sp l.length))] else own f (k - sp l.length) (l.drop (sp l.length)) ++ [root (l.take (sp l.length))]
def seg (l : List T) (b e : Nat) : List T := (l.take e).drop b
theorem seg_len {l : List T} {b e : Nat} (h : e ≤ l.length) : (seg l b e).length = e - b := by unfold seg; rw [List.length_drop, List.length_take]; omega
theorem seg_take {l : List T} {b n k : Nat} (hk : k ≤ n) : (seg l b (b + n)).take k = seg l b (b + k) := by
  unfold seg
  rw [List.take_drop, List.take_take, show min (b + k) (b + n) = b + k by omega]
theorem seg_drop {l : List T} {b n k : Nat} (hk : k ≤ n) : (seg l b (b + n)).drop k = seg l (b + k) (b + k + (n - k)) := by
  unfold seg
  rw [List.drop_drop, show b + k + (n - k) = b + n by omega]
end Tree
end Go.Proofs.YtjcapdkibbjmiaaGreatDoor

/- which proofs begin with their first hash: those from a size that is no power of two -/
namespace Go.Proofs.YtjcapdkibbjmiaaGreatDoor
namespace Tree
end Tree
end Go.Proofs.YtjcapdkibbjmiaaGreatDoor

/- THE PLAIN MATHEMATICS OF LAYER 6: the document's steps of a walk. -/
namespace Go.Proofs.YtjcapdkibbjmiaaGreatDoor
namespace Tree
end Tree
end Go.Proofs.YtjcapdkibbjmiaaGreatDoor

/- THE PLAIN MATHEMATICS OF LAYER 8: spans of paths and proofs; nothing of the program. -/
namespace Go.Proofs.YtjcapdkibbjmiaaGreatDoor
namespace Tree
theorem root_seg_two {l : List T} {b n : Nat} (h : 2 ≤ n) (hl : b + n ≤ l.length) : root (seg l b (b + n)) = nd (root (seg l b (b + sp n))) (root (seg l (b + sp n) (b + n))) := by
  have s1 := sp_lt (n := n) h
  have sl : (seg l b (b + n)).length = n := by rw [seg_len hl]; omega
  rw [root_cut (l := seg l b (b + n)) (by omega), sl, seg_take (by omega), seg_drop (by omega), show b + sp n + (n - sp n) = b + n by omega]
def pthF : Nat → Nat → Nat → Nat → List (Nat × Nat)
  | 0, _, _, _ => []
  | f + 1, b, n, i => if n < 2 then [] else if i < b + sp n then pthF f b (sp n) i ++ [(b + sp n, b + n)] else pthF f (b + sp n) (n - sp n) i ++ [(b, b + sp n)]
theorem pthF_small {f b n i : Nat} (h : n < 2) : pthF f b n i = [] := by
  cases f
  · rfl
  · rw [pthF, if_pos h]
theorem pthF_left {f b n i : Nat} (h : 2 ≤ n) (hi : i < b + sp n) : pthF (f + 1) b n i = pthF f b (sp n) i ++ [(b + sp n, b + n)] := by rw [pthF, if_neg (by omega), if_pos hi]
theorem pthF_right {f b n i : Nat} (h : 2 ≤ n) (hi : ¬ i < b + sp n) : pthF (f + 1) b n i = pthF f (b + sp n) (n - sp n) i ++ [(b, b + sp n)] := by rw [pthF, if_neg (by omega), if_neg hi]
def prfF : Nat → Nat → Nat → Nat → List (Nat × Nat)
  | 0, _, _, _ => []
  | f + 1, b, n, m => if b + n = m then (if b = 0 then [] else [(b, b + n)]) else if m ≤ b + sp n then prfF f b (sp n) m ++ [(b + sp n, b + n)] else prfF f (b + sp n) (n - sp n) m ++ [(b, b + sp n)]
end Tree
end Go.Proofs.YtjcapdkibbjmiaaGreatDoor

/- THE PLAIN MATHEMATICS OF LAYER 8: spans that lie beside some leaves, beside a run of them; nothing of the program. -/
namespace Go.Proofs.YtjcapdkibbjmiaaGreatDoor
namespace Tree
end Tree
end Go.Proofs.YtjcapdkibbjmiaaGreatDoor

/- THE PLAIN MATHEMATICS OF LAYER 8: subtrees, and what can be folded; nothing of the program. -/
namespace Go.Proofs.YtjcapdkibbjmiaaGreatDoor
namespace Tree
def insF : Nat → Nat → Nat → Nat → Nat → Bool
  | 0, _, _, _, _ => false
  | f + 1, b, n, x, y => if x = b ∧ y = b + n then true else if n < 2 then false else if y ≤ b + sp n then insF f b (sp n) x y else if b + sp n ≤ x then insF f (b + sp n) (n - sp n) x y else false
theorem insF_self {f b n : Nat} : insF (f + 1) b n b (b + n) = true := by rw [insF, if_pos ⟨rfl, rfl⟩]
theorem insF_in : ∀ (f b n x y : Nat), insF f b n x y = true → 1 ≤ n → b ≤ x ∧ x < y ∧ y ≤ b + n
  | 0, _, _, _, _, h, _ => by cases h
  | f + 1, b, n, x, y, h, h1 => by
    rw [insF] at h
    split at h
    · omega
    · split at h
      · cases h
      · have s1 := sp_lt (n := n) (by omega)
        have s2 := sp_pos (n := n) (by omega)
        split at h
        · have := insF_in f b (sp n) x y h (by omega); omega
        · split at h
          · have := insF_in f (b + sp n) (n - sp n) x y h (by omega); omega
          · cases h
def canF : Nat → Nat → Nat → List (Nat × Nat) → Bool
  | 0, _, _, _ => false
  | f + 1, b, n, K => if (b, b + n) ∈ K then true else if n < 2 then false else canF f b (sp n) K && canF f (b + sp n) (n - sp n) K
def hashAt : List (Nat × Nat) → List T → Nat × Nat → T
  | k :: K, h :: H, s => if k = s then h else hashAt K H s
  | _, _, _ => []
def fldF : Nat → Nat → Nat → List (Nat × Nat) → List T → T
  | 0, _, _, _, _ => []
  | f + 1, b, n, K, H => if (b, b + n) ∈ K then hashAt K H (b, b + n) else nd (fldF f b (sp n) K H) (fldF f (b + sp n) (n - sp n) K H)
theorem hashAt_ok (l : List T) : ∀ (K : List (Nat × Nat)) (H : List T) (s : Nat × Nat), H = K.map (fun s => root (seg l s.1 s.2)) → s ∈ K → hashAt K H s = root (seg l s.1 s.2)
  | [], _, s, _, h => by cases h
  | k :: K, [], s, e, _ => by cases e
  | k :: K, h :: H, s, e, hs => by
    have e1 : h = root (seg l k.1 k.2) := (List.cons.inj e).1
    have e2 : H = K.map (fun s => root (seg l s.1 s.2)) := (List.cons.inj e).2
    rw [hashAt]
    by_cases hk : k = s
    · rw [if_pos hk, e1, hk]
    · rw [if_neg hk]
      refine hashAt_ok l K H s e2 ?_
      rcases List.mem_cons.1 hs with e3 | e3
      · exact absurd e3.symm hk
      · exact e3
theorem fld_root (l : List T) (K : List (Nat × Nat)) (H : List T) (hH : H = K.map (fun s => root (seg l s.1 s.2))) : ∀ (f b n : Nat), n ≤ f → 1 ≤ n → b + n ≤ l.length → canF f b n K = true → fldF f b n K H = root (seg l b (b + n))
  | 0, b, n, h, h1, _, _ => by omega
  | f + 1, b, n, h, h1, hl, hc => by
    rw [canF] at hc
    rw [fldF]
    by_cases hk : (b, b + n) ∈ K
    · rw [if_pos hk, hashAt_ok l K H _ hH hk]
    · rw [if_neg hk] at hc ⊢
      split at hc
      · cases hc
      · have s1 := sp_lt (n := n) (by omega)
        have s2 := sp_pos (n := n) (by omega)
        rw [Bool.and_eq_true] at hc
        have e := fld_root l K H hH f (b + sp n) (n - sp n) (by omega) (by omega) (by omega) hc.2
        rw [show b + sp n + (n - sp n) = b + n by omega] at e
        rw [fld_root l K H hH f b (sp n) (by omega) (by omega) (by omega) hc.1, e, ← root_seg_two (by omega) hl]
theorem can_within (K : List (Nat × Nat)) : ∀ (f b n : Nat), n ≤ f → 1 ≤ n → canF f b n K = true → ∃ s ∈ K, b ≤ s.1 ∧ s.2 ≤ b + n ∧ s.1 < s.2
  | 0, b, n, h, h1, _ => by omega
  | f + 1, b, n, h, h1, hc => by
    rw [canF] at hc
    by_cases hk : (b, b + n) ∈ K
    · exact ⟨_, hk, Nat.le_refl _, Nat.le_refl _, by show b < b + n; omega⟩
    · rw [if_neg hk] at hc
      split at hc
      · cases hc
      · have s1 := sp_lt (n := n) (by omega)
        have s2 := sp_pos (n := n) (by omega)
        rw [Bool.and_eq_true] at hc
        obtain ⟨s, h3, h4, h5, h6⟩ := can_within K f b (sp n) (by omega) (by omega) hc.1
        exact ⟨s, h3, h4, by omega, h6⟩
end Tree
end Go.Proofs.YtjcapdkibbjmiaaGreatDoor

/- THE PLAIN MATHEMATICS OF LAYER 8: how many spans a batch has; nothing of the program. -/
namespace Go.Proofs.YtjcapdkibbjmiaaGreatDoor
namespace Tree
end Tree
end Go.Proofs.YtjcapdkibbjmiaaGreatDoor

/- THE PLAIN MATHEMATICS OF LAYER 8: the way to a leaf; subtrees told by counts; nothing of the program. -/
namespace Go.Proofs.YtjcapdkibbjmiaaGreatDoor
namespace Tree
def wayF : Nat → Nat → Nat → Nat → List (Nat × Nat)
  | 0, _, _, _ => []
  | f + 1, b, n, i => (b, b + n) :: (if n < 2 then [] else if i < b + sp n then wayF f b (sp n) i else wayF f (b + sp n) (n - sp n) i)
theorem wayF_one {f b n i : Nat} (h : n < 2) : wayF (f + 1) b n i = [(b, b + n)] := by rw [wayF, if_pos h]
theorem wayF_left {f b n i : Nat} (h : 2 ≤ n) (hi : i < b + sp n) : wayF (f + 1) b n i = (b, b + n) :: wayF f b (sp n) i := by rw [wayF, if_neg (by omega), if_pos hi]
theorem wayF_right {f b n i : Nat} (h : 2 ≤ n) (hi : ¬ i < b + sp n) : wayF (f + 1) b n i = (b, b + n) :: wayF f (b + sp n) (n - sp n) i := by rw [wayF, if_neg (by omega), if_neg hi]
theorem wayF_len : ∀ (f b n i : Nat), n ≤ f → 1 ≤ n → (wayF f b n i).length ≤ n
  | 0, b, n, i, h, h1 => by omega
  | f + 1, b, n, i, h, h1 => by
    by_cases h2 : n < 2
    · rw [wayF_one h2]; simpa using h1
    · have s1 := sp_lt (n := n) (by omega)
      have s2 := sp_pos (n := n) (by omega)
      by_cases hi : i < b + sp n
      · rw [wayF_left (by omega) hi, List.length_cons]; have := wayF_len f b (sp n) i (by omega) (by omega); omega
      · rw [wayF_right (by omega) hi, List.length_cons]; have := wayF_len f (b + sp n) (n - sp n) i (by omega) (by omega); omega
theorem wayF_has : ∀ (f b n i : Nat), n ≤ f → b ≤ i → i < b + n → ∀ s ∈ wayF f b n i, b ≤ s.1 ∧ s.1 ≤ i ∧ i < s.2 ∧ s.2 ≤ b + n
  | 0, b, n, i, h, _, h1 => by omega
  | f + 1, b, n, i, h, hb, h1 => by
    intro s hs
    by_cases h2 : n < 2
    · rw [wayF_one h2] at hs
      obtain rfl : s = (b, b + n) := by simpa using hs
      exact ⟨Nat.le_refl _, hb, h1, Nat.le_refl _⟩
    · have s1 := sp_lt (n := n) (by omega)
      have s2 := sp_pos (n := n) (by omega)
      by_cases hi : i < b + sp n
      · rw [wayF_left (by omega) hi] at hs
        rcases List.mem_cons.1 hs with rfl | hs
        · exact ⟨Nat.le_refl _, hb, h1, Nat.le_refl _⟩
        · have := wayF_has f b (sp n) i (by omega) hb hi s hs; omega
      · rw [wayF_right (by omega) hi] at hs
        rcases List.mem_cons.1 hs with rfl | hs
        · exact ⟨Nat.le_refl _, hb, h1, Nat.le_refl _⟩
        · have := wayF_has f (b + sp n) (n - sp n) i (by omega) (by omega) (by omega) s hs; omega
theorem wayF_ins : ∀ (f b n x y : Nat), n ≤ f → b ≤ x → x < b + n → (insF f b n x y = true ↔ (x, y) ∈ wayF f b n x)
  | 0, b, n, x, y, h, _, h1 => by omega
  | f + 1, b, n, x, y, h, hb, h1 => by
    rw [insF]
    by_cases he : x = b ∧ y = b + n
    · obtain ⟨rfl, rfl⟩ := he
      rw [if_pos ⟨rfl, rfl⟩, wayF]
      exact ⟨fun _ => List.mem_cons_self, fun _ => rfl⟩
    · rw [if_neg he]
      have hne : ¬ (x, y) = (b, b + n) := fun e => he (by injection e with e1 e2; exact ⟨e1, e2⟩)
      by_cases h2 : n < 2
      · rw [if_pos h2, wayF_one h2]
        refine ⟨fun e => (by cases e), fun e => absurd ?_ hne⟩
        simpa using e
      · have s1 := sp_lt (n := n) (by omega)
        have s2 := sp_pos (n := n) (by omega)
        rw [if_neg h2]
        by_cases hi : x < b + sp n
        · rw [wayF_left (by omega) hi, List.mem_cons, ← wayF_ins f b (sp n) x y (by omega) hb hi]
          by_cases hy : y ≤ b + sp n
          · rw [if_pos hy]
            exact ⟨.inr, fun e => e.resolve_left hne⟩
          · rw [if_neg hy, if_neg (by omega)]
            refine ⟨fun e => (by cases e), fun e => ?_⟩
            have := insF_in f b (sp n) x y (e.resolve_left hne) (by omega)
            omega
        · rw [wayF_right (by omega) hi, List.mem_cons, ← wayF_ins f (b + sp n) (n - sp n) x y (by omega) (by omega) (by omega)]
          by_cases hy : y ≤ b + sp n
          · rw [if_pos hy]
            refine ⟨fun e => ?_, fun e => ?_⟩
            · have := insF_in f b (sp n) x y e (by omega); omega
            · have := insF_in f (b + sp n) (n - sp n) x y (e.resolve_left hne) (by omega); omega
          · rw [if_neg hy, if_pos (by omega)]
            exact ⟨.inr, fun e => e.resolve_left hne⟩
def osd (i : Nat) (s : Nat × Nat) : Nat × Nat := if i < s.1 + sp (s.2 - s.1) then (s.1 + sp (s.2 - s.1), s.2) else (s.1, s.1 + sp (s.2 - s.1))
def twd (i : Nat) (s : Nat × Nat) : Nat × Nat := if i < s.1 + sp (s.2 - s.1) then (s.1, s.1 + sp (s.2 - s.1)) else (s.1 + sp (s.2 - s.1), s.2)
def pcol (i : Nat) (l : List (Nat × Nat)) : List (Nat × Nat) := (l.filter fun s => decide (1 < s.2 - s.1)).map (osd i)
theorem pcol_way (i : Nat) : ∀ (f b n : Nat), n ≤ f → pcol i (wayF f b n i) = (pthF f b n i).reverse
  | 0, b, n, h => rfl
  | f + 1, b, n, h => by
    by_cases h2 : n < 2
    · rw [wayF_one h2, pthF_small h2]
      simp [pcol]; omega
    · have s1 := sp_lt (n := n) (by omega)
      have s2 := sp_pos (n := n) (by omega)
      have e : 1 < (b, b + n).2 - (b, b + n).1 := by show 1 < b + n - b; omega
      have c : ∀ l : List (Nat × Nat), pcol i ((b, b + n) :: l) = osd i (b, b + n) :: pcol i l := fun l => by
        unfold pcol; rw [List.filter_cons_of_pos (by simpa using e), List.map_cons]
      have en : b + n - b = n := by omega
      by_cases hi : i < b + sp n
      · rw [wayF_left (by omega) hi, pthF_left (by omega) hi, c, pcol_way i f b (sp n) (by omega), List.reverse_append]
        simp only [osd, en, if_pos hi]; rfl
      · rw [wayF_right (by omega) hi, pthF_right (by omega) hi, c, pcol_way i f (b + sp n) (n - sp n) (by omega), List.reverse_append]
        simp only [osd, en, if_neg hi]; rfl
def rcol (m : Nat) : List (Nat × Nat) → List (Nat × Nat)
  | [] => []
  | s :: r => if m < s.2 then osd (m - 1) s :: rcol m r else if 0 < s.1 then [s] else []
theorem rcol_way (m : Nat) : ∀ (f b n : Nat), n ≤ f → b < m → m ≤ b + n → rcol m (wayF f b n (m - 1)) = (prfF f b n m).reverse
  | 0, b, n, h, _, h2 => by omega
  | f + 1, b, n, h, hb, h2 => by
    rw [prfF]
    by_cases hm : b + n = m
    · rw [if_pos hm]
      have e : wayF (f + 1) b n (m - 1) = (b, b + n) :: (wayF (f + 1) b n (m - 1)).tail := by rw [wayF]; rfl
      rw [e, rcol, if_neg (by show ¬ m < b + n; omega)]
      by_cases h0 : b = 0
      · rw [if_pos h0, if_neg (by show ¬ 0 < b; omega)]; rfl
      · rw [if_neg h0, if_pos (by show 0 < b; omega)]; rfl
    · rw [if_neg hm]
      have h3 : 2 ≤ n := by omega
      have s1 := sp_lt (n := n) h3
      have s2 := sp_pos (n := n) h3
      have en : b + n - b = n := by omega
      by_cases hi : m ≤ b + sp n
      · rw [if_pos hi, wayF_left h3 (by omega), rcol, if_pos (by show m < b + n; omega), rcol_way m f b (sp n) (by omega) hb hi, List.reverse_append]
        simp only [osd, en, if_pos (show m - 1 < b + sp n by omega)]; rfl
      · rw [if_neg hi, wayF_right h3 (by omega), rcol, if_pos (by show m < b + n; omega), rcol_way m f (b + sp n) (n - sp n) (by omega) (by omega) (by omega), List.reverse_append]
        simp only [osd, en, if_neg (show ¬ m - 1 < b + sp n by omega)]; rfl
theorem rcol_split {m : Nat} : ∀ {pre : List (Nat × Nat)} {x : Nat × Nat} {rest : List (Nat × Nat)}, (∀ s ∈ pre, m < s.2) → ¬ m < x.2 → rcol m (pre ++ x :: rest) = pre.map (osd (m - 1)) ++ (if 0 < x.1 then [x] else [])
  | [], x, rest, _, hx => by rw [List.nil_append, rcol, if_neg hx]; rfl
  | s :: pre, x, rest, h, hx => by
    rw [List.cons_append, rcol, if_pos (h s List.mem_cons_self), rcol_split (fun t ht => h t (List.mem_cons_of_mem _ ht)) hx]; rfl
theorem wayF_last : ∀ (f b n i : Nat), n ≤ f → b ≤ i → i < b + n → ∃ pre, wayF f b n i = pre ++ [(i, i + 1)]
  | 0, b, n, i, h, _, h1 => by omega
  | f + 1, b, n, i, h, hb, h1 => by
    by_cases h2 : n < 2
    · rw [wayF_one h2, show b = i by omega, show n = 1 by omega]; exact ⟨[], rfl⟩
    · have s1 := sp_lt (n := n) (by omega)
      have s2 := sp_pos (n := n) (by omega)
      by_cases hi : i < b + sp n
      · obtain ⟨p, hp⟩ := wayF_last f b (sp n) i (by omega) hb hi
        rw [wayF_left (by omega) hi, hp]; exact ⟨(b, b + n) :: p, rfl⟩
      · obtain ⟨p, hp⟩ := wayF_last f (b + sp n) (n - sp n) i (by omega) (by omega) (by omega)
        rw [wayF_right (by omega) hi, hp]; exact ⟨(b, b + n) :: p, rfl⟩
end Tree
end Go.Proofs.YtjcapdkibbjmiaaGreatDoor
