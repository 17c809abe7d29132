import Derived.Test.YtenklmjeeejfdaaGreatDoorPkR4
import Derived.Lib.TrailingZeros
import Derived.Test.YtenklmjeeejfdaaGreatDoorPkO2
import Derived.Test.YtenklmjeeejfdaaGreatDoorPkW7
import Derived.Laws.Bits64b
import Derived.WalkMore
import Derived.Laws.ResultCell
import Derived.BigQuiet
import Derived.Deep.RegionHeld3
/- THE PLAIN MATHEMATICS OF LAYER 4: going up by halves, going down by the recursion; nothing of the program. -/
namespace Go.Proofs.YtenklmjeeejfdaaGreatDoor.Tree
def U (p l : Nat) : List Bool :=
  if h : l = 0 then [] else if p = l ∧ p % 2 = 0 then U (p / 2) (l / 2) else (p % 2 == 1) :: U (p / 2) (l / 2)
termination_by l
decreasing_by all_goals omega
theorem U_zero (p : Nat) : U p 0 = [] := by rw [U, dif_pos rfl]
theorem U_skip {p : Nat} (h : p ≠ 0) (h2 : p % 2 = 0) : U p p = U (p / 2) (p / 2) := by rw [U, dif_neg h, if_pos ⟨rfl, h2⟩]
theorem U_step {p l : Nat} (h : l ≠ 0) (h2 : ¬ (p = l ∧ p % 2 = 0)) : U p l = (p % 2 == 1) :: U (p / 2) (l / 2) := by rw [U, dif_neg h, if_neg h2]
def D (n m : Nat) : List Bool :=
  if _h : n < 2 then [] else if m < sp n then D (sp n) m ++ [false] else D (n - sp n) (m - sp n) ++ [true]
termination_by n
decreasing_by
  · exact sp_lt (by omega)
  · have := sp_pos (n := n) (by omega); omega
theorem U_left : ∀ (j m l : Nat), m < 2 ^ j → 2 ^ j ≤ l → l < 2 ^ (j + 1) → U m l = U m (2 ^ j - 1) ++ [false]
  | 0, m, l, h1, h2, h3 => by
    obtain rfl : m = 0 := by simp at h1; omega
    obtain rfl : l = 1 := by simp at h2 h3; omega
    rw [U_step (by omega) (by omega)]; simp [U_zero]
  | j + 1, m, l, h1, h2, h3 => by
    have e1 : 2 ^ (j + 1) = 2 * 2 ^ j := by rw [Nat.pow_succ]; omega
    have e2 : 2 ^ (j + 1 + 1) = 2 * 2 ^ (j + 1) := by rw [Nat.pow_succ]; omega
    have h0 : 0 < 2 ^ j := Nat.two_pow_pos _
    have ih := U_left j (m / 2) (l / 2) (by omega) (by omega) (by omega)
    rw [U_step (l := l) (by omega) (by omega), U_step (l := 2 ^ (j + 1) - 1) (by omega) (by omega), ih, show (2 ^ (j + 1) - 1) / 2 = 2 ^ j - 1 from by omega]
    rfl
theorem U_right : ∀ (j m l : Nat), m ≤ l → l < 2 ^ j → U (2 ^ j + m) (2 ^ j + l) = U m l ++ [true]
  | 0, m, l, h1, h2 => by
    obtain rfl : l = 0 := by simp at h2; omega
    obtain rfl : m = 0 := by omega
    show U 1 1 = U 0 0 ++ [true]
    rw [U_step (by omega) (by omega)]; simp [U_zero]
  | j + 1, m, l, h1, h2 => by
    have e1 : 2 ^ (j + 1) = 2 * 2 ^ j := by rw [Nat.pow_succ]; omega
    have h0 : 0 < 2 ^ j := Nat.two_pow_pos _
    have ih := U_right j (m / 2) (l / 2) (by omega) (by omega)
    have a1 : (2 ^ (j + 1) + m) / 2 = 2 ^ j + m / 2 := by omega
    have a2 : (2 ^ (j + 1) + l) / 2 = 2 ^ j + l / 2 := by omega
    by_cases hs : m = l ∧ m % 2 = 0
    · obtain ⟨rfl, hs⟩ := hs
      rw [U_skip (by omega) (by omega), a1, ih]
      by_cases hm : m = 0
      · subst hm; rfl
      · rw [← U_skip hm hs]
    · have hl : l ≠ 0 := by omega
      rw [U_step (by omega) (by omega), a1, a2, ih, U_step hl hs, show (2 ^ (j + 1) + m) % 2 = m % 2 from by omega]
      rfl
theorem U_len : ∀ (j p l : Nat), l < 2 ^ j → (U p l).length ≤ j
  | 0, p, l, h => by
    obtain rfl : l = 0 := by simp at h; omega
    rw [U_zero]; simp
  | j + 1, p, l, h => by
    by_cases hl : l = 0
    · subst hl; rw [U_zero]; simp
    · have e1 : 2 ^ (j + 1) = 2 * 2 ^ j := by rw [Nat.pow_succ]; omega
      have ih := U_len j (p / 2) (l / 2) (by omega)
      by_cases hs : p = l ∧ p % 2 = 0
      · obtain ⟨rfl, hs⟩ := hs
        rw [U_skip hl hs]; omega
      · rw [U_step hl hs, List.length_cons]; omega
def upd (r : T) : List Bool → List T → T
  | d :: ds, h :: hs => upd (if d then nd h r else nd r h) ds hs
  | _, _ => r
def PD (m n : Nat) : List Bool :=
  if _h : n < 2 ∨ m = n then [] else if m ≤ sp n then PD m (sp n) ++ [false] else PD (m - sp n) (n - sp n) ++ [true]
termination_by n
decreasing_by
  · exact sp_lt (by omega)
  · have := sp_pos (n := n) (by omega); omega
theorem PD_same (n : Nat) : PD n n = [] := by rw [PD, dif_pos (Or.inr rfl)]
theorem PD_left {m n : Nat} (h1 : 1 ≤ m) (h2 : m < n) (hm : m ≤ sp n) : PD m n = PD m (sp n) ++ [false] := by rw [PD, dif_neg (by omega), if_pos hm]
theorem PD_right {m n : Nat} (h1 : 1 ≤ m) (h2 : m < n) (hm : ¬ m ≤ sp n) : PD m n = PD (m - sp n) (n - sp n) ++ [true] := by rw [PD, dif_neg (by omega), if_neg hm]
def fl (m n : Nat) (whole : Bool) : Bool := !whole || (PD m n).any id
theorem fl_false (m n : Nat) : fl m n false = true := rfl
theorem fl_same (n : Nat) (whole : Bool) : fl n n whole = !whole := by simp [fl, PD_same]
theorem fl_left {m n : Nat} (h1 : 1 ≤ m) (h2 : m < n) (hm : m ≤ sp n) (whole : Bool) : fl m n whole = fl m (sp n) whole := by simp [fl, PD_left h1 h2 hm]
theorem fl_right {m n : Nat} (h1 : 1 ≤ m) (h2 : m < n) (hm : ¬ m ≤ sp n) (whole : Bool) : fl m n whole = true := by simp [fl, PD_right h1 h2 hm]
def pl (m n : Nat) (whole : Bool) : Nat := (PD m n).length + if fl m n whole then 1 else 0
theorem pl_left {m n : Nat} (h1 : 1 ≤ m) (h2 : m < n) (hm : m ≤ sp n) (whole : Bool) : pl m n whole = 1 + pl m (sp n) whole := by
  unfold pl; rw [fl_left h1 h2 hm, PD_left h1 h2 hm, List.length_append, List.length_singleton]; omega
theorem pl_right {m n : Nat} (h1 : 1 ≤ m) (h2 : m < n) (hm : ¬ m ≤ sp n) (whole : Bool) : pl m n whole = 1 + pl (m - sp n) (n - sp n) false := by
  unfold pl; rw [fl_right h1 h2 hm, fl_false, PD_right h1 h2 hm, List.length_append, List.length_singleton]; omega
theorem pl_same (n : Nat) (whole : Bool) : pl n n whole = if whole then 0 else 1 := by unfold pl; rw [fl_same, PD_same]; cases whole <;> rfl
def St (p l : Nat) : Nat × Nat := if h : p % 2 = 1 then St (p / 2) (l / 2) else (p, l)
termination_by p
decreasing_by omega
theorem St_odd {p : Nat} (l : Nat) (h : p % 2 = 1) : St p l = St (p / 2) (l / 2) := by rw [St, dif_pos h]
theorem St_even {p : Nat} (l : Nat) (h : ¬ p % 2 = 1) : St p l = (p, l) := by rw [St, dif_neg h]
def SU (p l : Nat) : List Bool := U (St p l).1 (St p l).2
theorem SU_odd {p : Nat} (l : Nat) (h : p % 2 = 1) : SU p l = SU (p / 2) (l / 2) := by unfold SU; rw [St_odd l h]
theorem SU_even {p : Nat} (l : Nat) (h : ¬ p % 2 = 1) : SU p l = U p l := by unfold SU; rw [St_even l h]
theorem SU_left : ∀ (j m l : Nat), m < 2 ^ j → 2 ^ j ≤ l → l < 2 ^ (j + 1) → SU m l = SU m (2 ^ j - 1) ++ [false]
  | 0, m, l, h1, h2, h3 => by
    obtain rfl : m = 0 := by simp at h1; omega
    rw [SU_even _ (by omega), SU_even _ (by omega)]
    exact U_left 0 0 l h1 h2 h3
  | j + 1, m, l, h1, h2, h3 => by
    have e1 : 2 ^ (j + 1) = 2 * 2 ^ j := by rw [Nat.pow_succ]; omega
    have e2 : 2 ^ (j + 1 + 1) = 2 * 2 ^ (j + 1) := by rw [Nat.pow_succ]; omega
    have h0 : 0 < 2 ^ j := Nat.two_pow_pos _
    by_cases ho : m % 2 = 1
    · rw [SU_odd _ ho, SU_odd _ ho, SU_left j (m / 2) (l / 2) (by omega) (by omega) (by omega), show (2 ^ (j + 1) - 1) / 2 = 2 ^ j - 1 from by omega]
    · rw [SU_even _ ho, SU_even _ ho]
      exact U_left (j + 1) m l h1 h2 h3
theorem SU_right : ∀ (j m l : Nat), m < l → l < 2 ^ j → SU (2 ^ j + m) (2 ^ j + l) = SU m l ++ [true]
  | 0, m, l, h1, h2 => by have : (2 : Nat) ^ 0 = 1 := rfl; omega
  | j + 1, m, l, h1, h2 => by
    have e1 : 2 ^ (j + 1) = 2 * 2 ^ j := by rw [Nat.pow_succ]; omega
    have h0 : 0 < 2 ^ j := Nat.two_pow_pos _
    by_cases ho : m % 2 = 1
    · rw [SU_odd _ (by omega), SU_odd _ ho, show (2 ^ (j + 1) + m) / 2 = 2 ^ j + m / 2 from by omega, show (2 ^ (j + 1) + l) / 2 = 2 ^ j + l / 2 from by omega, SU_right j (m / 2) (l / 2) (by omega) (by omega)]
    · rw [SU_even _ (by omega), SU_even _ ho]
      exact U_right (j + 1) m l (by omega) h2
theorem St_full : ∀ (j : Nat), St (2 ^ j - 1) (2 ^ j - 1) = (0, 0)
  | 0 => by rw [St_even _ (by simp)]
  | j + 1 => by
    have e1 : 2 ^ (j + 1) = 2 * 2 ^ j := by rw [Nat.pow_succ]; omega
    have h0 : 0 < 2 ^ j := Nat.two_pow_pos _
    rw [St_odd _ (by omega), show (2 ^ (j + 1) - 1) / 2 = 2 ^ j - 1 from by omega, St_full j]
theorem St_one : ∀ (p l l' : Nat), (St p l).1 = (St p l').1 := by
  intro p
  induction p using Nat.strongRecOn with
  | ind p ih =>
    intro l l'
    by_cases h : p % 2 = 1
    · rw [St_odd _ h, St_odd _ h]; exact ih _ (by omega) _ _
    · rw [St_even _ h, St_even _ h]
theorem St_right : ∀ (j m l : Nat), m + 1 < 2 ^ j → (St (2 ^ j + m) l).1 ≠ 0
  | 0, m, l, h => by simp at h
  | j + 1, m, l, h => by
    have e1 : 2 ^ (j + 1) = 2 * 2 ^ j := by rw [Nat.pow_succ]; omega
    have h0 : 0 < 2 ^ j := Nat.two_pow_pos _
    by_cases ho : m % 2 = 1
    · rw [St_odd _ (by omega), show (2 ^ (j + 1) + m) / 2 = 2 ^ j + m / 2 from by omega]
      exact St_right j _ _ (by omega)
    · rw [St_even _ (by omega)]
      show 2 ^ (j + 1) + m ≠ 0
      omega
theorem PD_SU : ∀ (f m n : Nat), n ≤ f → 1 ≤ m → m < n → PD m n = SU (m - 1) (n - 1) ∧ (PD m n).any id = decide ((St (m - 1) (n - 1)).1 ≠ 0)
  | 0, m, n, hf, h1, h2 => by omega
  | f + 1, m, n, hf, h1, h2 => by
    have a := sp_lt (n := n) (by omega)
    have b := sp_pos (n := n) (by omega)
    have c := sp_ge (n := n) (by omega)
    have d := sp_eq (n := n) (by omega)
    generalize (n - 1).log2 = j at d
    by_cases hm : m ≤ sp n
    · have hl := SU_left j (m - 1) (n - 1) (by omega) (by omega) (by rw [Nat.pow_succ]; omega)
      rw [PD_left h1 h2 hm, List.any_append]
      by_cases hk : m = sp n
      · have hz := St_full j
        have e : m - 1 = 2 ^ j - 1 := by omega
        have hs : SU (2 ^ j - 1) (2 ^ j - 1) = [] := by unfold SU; rw [hz, U_zero]
        rw [e] at hl ⊢
        rw [hk, PD_same, hl, hs, St_one _ _ (2 ^ j - 1), hz]
        exact ⟨rfl, rfl⟩
      · obtain ⟨i1, i2⟩ := PD_SU f m (sp n) (by omega) h1 (by omega)
        rw [i2, St_one _ (sp n - 1) (n - 1)]
        rw [i1, hl, d]
        exact ⟨rfl, by simp⟩
    · obtain ⟨i1, i2⟩ := PD_SU f (m - sp n) (n - sp n) (by omega) (by omega) (by omega)
      have hr := SU_right j (m - 1 - 2 ^ j) (n - 1 - 2 ^ j) (by omega) (by omega)
      have hz := St_right j (m - 1 - 2 ^ j) (n - 1) (by omega)
      rw [show 2 ^ j + (m - 1 - 2 ^ j) = m - 1 from by omega] at hr hz
      rw [show 2 ^ j + (n - 1 - 2 ^ j) = n - 1 from by omega] at hr
      rw [PD_right h1 h2 hm, i1, hr, d, show m - 2 ^ j - 1 = m - 1 - 2 ^ j from by omega, show n - 2 ^ j - 1 = n - 1 - 2 ^ j from by omega]
      refine ⟨rfl, ?_⟩
      rw [List.any_append]
      simp [hz]
theorem St_le : ∀ (p l : Nat), (St p l).1 ≤ p ∧ (St p l).2 ≤ l := by
  intro p
  induction p using Nat.strongRecOn with
  | ind p ih =>
    intro l
    by_cases h : p % 2 = 1
    · rw [St_odd _ h]; have := ih (p / 2) (by omega) (l / 2); omega
    · rw [St_even _ h]; simp
theorem St_lt : ∀ (p l : Nat), p < l → (St p l).1 < (St p l).2 := by
  intro p
  induction p using Nat.strongRecOn with
  | ind p ih =>
    intro l hl
    by_cases h : p % 2 = 1
    · rw [St_odd _ h]; exact ih (p / 2) (by omega) (l / 2) (by omega)
    · rw [St_even _ h]; exact hl
def upd2 (a b : T) : List Bool → List T → T × T
  | true :: ds, h :: hs => upd2 (nd h a) (nd h b) ds hs
  | false :: ds, h :: hs => upd2 a (nd b h) ds hs
  | _, _ => (a, b)
theorem upd2_snoc : ∀ (a b : T) (ds : List Bool) (hs : List T) (d : Bool) (h : T), ds.length = hs.length → upd2 a b (ds ++ [d]) (hs ++ [h]) = if d then (nd h (upd2 a b ds hs).1, nd h (upd2 a b ds hs).2) else ((upd2 a b ds hs).1, nd (upd2 a b ds hs).2 h)
  | a, b, [], [], d, h, _ => by cases d <;> rfl
  | a, b, true :: ds, y :: hs, d, h, e => by
    show upd2 _ _ (ds ++ [d]) (hs ++ [h]) = _
    rw [upd2_snoc _ _ ds hs d h (by simpa using e)]; rfl
  | a, b, false :: ds, y :: hs, d, h, e => by
    show upd2 _ _ (ds ++ [d]) (hs ++ [h]) = _
    rw [upd2_snoc _ _ ds hs d h (by simpa using e)]; rfl
def bth (m n : Nat) (whole : Bool) (old : T) (P : List T) : T × T :=
  if fl m n whole then upd2 (P.headD []) (P.headD []) (PD m n) P.tail else upd2 old old (PD m n) P
theorem bth_same (n : Nat) (whole : Bool) (old : T) (P : List T) : bth n n whole old P = if whole then (old, old) else (P.headD [], P.headD []) := by
  unfold bth; rw [fl_same, PD_same]; cases whole <;> rfl
theorem bth_left {m n : Nat} (h1 : 1 ≤ m) (h2 : m < n) (hm : m ≤ sp n) (whole : Bool) (old : T) (P : List T) (h : T) (hl : P.length = pl m (sp n) whole) :
    bth m n whole old (P ++ [h]) = ((bth m (sp n) whole old P).1, nd (bth m (sp n) whole old P).2 h) := by
  unfold bth
  unfold pl at hl
  rw [fl_left h1 h2 hm, PD_left h1 h2 hm]
  by_cases hf : fl m (sp n) whole = true
  · rw [if_pos hf] at hl
    rw [if_pos hf, if_pos hf]
    match P, hl with
    | p :: P, hl =>
      show upd2 p p _ (P ++ [h]) = _
      rw [upd2_snoc _ _ _ _ _ _ (by simp at hl; omega)]; rfl
  · rw [if_neg hf] at hl
    rw [if_neg hf, if_neg hf, upd2_snoc _ _ _ _ _ _ (by omega)]; rfl
theorem bth_right {m n : Nat} (h1 : 1 ≤ m) (h2 : m < n) (hm : ¬ m ≤ sp n) (whole : Bool) (old : T) (P : List T) (h : T) (hl : P.length = pl (m - sp n) (n - sp n) false) :
    bth m n whole old (P ++ [h]) = (nd h (bth (m - sp n) (n - sp n) false old P).1, nd h (bth (m - sp n) (n - sp n) false old P).2) := by
  unfold bth
  unfold pl at hl
  rw [fl_false, if_pos rfl] at hl
  rw [fl_right h1 h2 hm, fl_false, PD_right h1 h2 hm, if_pos rfl, if_pos rfl]
  match P, hl with
  | p :: P, hl =>
    show upd2 p p _ (P ++ [h]) = _
    rw [upd2_snoc _ _ _ _ _ _ (by simp at hl; omega)]; rfl
theorem pl_le : ∀ (f m n : Nat) (whole : Bool), n ≤ f → 1 ≤ m → m ≤ n → pl m n whole ≤ n
  | 0, m, n, whole, hf, h1, h2 => by omega
  | f + 1, m, n, whole, hf, h1, h2 => by
    by_cases h : m = n
    · subst h; rw [pl_same]; cases whole
      · exact h1
      · exact Nat.zero_le _
    · have a := sp_lt (n := n) (by omega)
      have b := sp_pos (n := n) (by omega)
      have c := sp_ge (n := n) (by omega)
      by_cases hm : m ≤ sp n
      · rw [pl_left h1 (by omega) hm]
        have := pl_le f m (sp n) whole (by omega) h1 hm
        omega
      · rw [pl_right h1 (by omega) hm]
        have := pl_le f (m - sp n) (n - sp n) false (by omega) (by omega) (by omega)
        omega
end Go.Proofs.YtenklmjeeejfdaaGreatDoor.Tree

/- THE PLAIN MATHEMATICS OF LAYER 6: texts of the steps of a walk, the highest ones that differ; nothing of the program. -/
namespace Go.Proofs.YtenklmjeeejfdaaGreatDoor
namespace Tree
def nt (a b : T) : T := 1 :: (a ++ b)
def hi : List T → List T → Option (T × T)
  | a :: az, b :: bs => match hi az bs with
    | some p => some p
    | none => if a = b then none else some (a, b)
  | _, _ => none
end Tree
end Go.Proofs.YtenklmjeeejfdaaGreatDoor

/- THE PLAIN MATHEMATICS OF LAYER 6: forks, and what stands beside the way of a proof. -/
namespace Go.Proofs.YtenklmjeeejfdaaGreatDoor
namespace Tree
abbrev Fork := Nat × Nat × Nat × Bool
def own : Nat → Nat → List T → List T
  | 0, _, _ => []
  | f + 1, k, l => if l.length < 2 ∨ k = l.length then [] else if k ≤ sp l.length then own f k (l.take (sp l.length)) ++ [root (l.drop (sp l.length))] else own f (k - sp l.length) (l.drop (sp l.length)) ++ [root (l.take (sp l.length))]
def seg (l : List T) (b e : Nat) : List T := (l.take e).drop b
theorem seg_len {l : List T} {b e : Nat} (h : e ≤ l.length) : (seg l b e).length = e - b := by unfold seg; rw [List.length_drop, List.length_take]; omega
theorem seg_take {l : List T} {b n k : Nat} (hk : k ≤ n) : (seg l b (b + n)).take k = seg l b (b + k) := by
  unfold seg
  rw [List.take_drop, List.take_take, show min (b + k) (b + n) = b + k by omega]
theorem seg_drop {l : List T} {b n k : Nat} (hk : k ≤ n) : (seg l b (b + n)).drop k = seg l (b + k) (b + k + (n - k)) := by
  unfold seg
  rw [List.drop_drop, show b + k + (n - k) = b + n by omega]
end Tree
end Go.Proofs.YtenklmjeeejfdaaGreatDoor

/- which proofs begin with their first hash: those from a size that is no power of two -/
namespace Go.Proofs.YtenklmjeeejfdaaGreatDoor
namespace Tree
end Tree
end Go.Proofs.YtenklmjeeejfdaaGreatDoor

/- THE PLAIN MATHEMATICS OF LAYER 6: the document's steps of a walk. -/
namespace Go.Proofs.YtenklmjeeejfdaaGreatDoor
namespace Tree
end Tree
end Go.Proofs.YtenklmjeeejfdaaGreatDoor

/- THE PLAIN MATHEMATICS OF LAYER 8: spans of paths and proofs; nothing of the program. -/
namespace Go.Proofs.YtenklmjeeejfdaaGreatDoor
namespace Tree
theorem root_seg_two {l : List T} {b n : Nat} (h : 2 ≤ n) (hl : b + n ≤ l.length) : root (seg l b (b + n)) = nd (root (seg l b (b + sp n))) (root (seg l (b + sp n) (b + n))) := by
  have s1 := sp_lt (n := n) h
  have sl : (seg l b (b + n)).length = n := by rw [seg_len hl]; omega
  rw [root_cut (l := seg l b (b + n)) (by omega), sl, seg_take (by omega), seg_drop (by omega), show b + sp n + (n - sp n) = b + n by omega]
def pthF : Nat → Nat → Nat → Nat → List (Nat × Nat)
  | 0, _, _, _ => []
  | f + 1, b, n, i => if n < 2 then [] else if i < b + sp n then pthF f b (sp n) i ++ [(b + sp n, b + n)] else pthF f (b + sp n) (n - sp n) i ++ [(b, b + sp n)]
theorem pthF_small {f b n i : Nat} (h : n < 2) : pthF f b n i = [] := by
  cases f
  · rfl
  · rw [pthF, if_pos h]
theorem pthF_left {f b n i : Nat} (h : 2 ≤ n) (hi : i < b + sp n) : pthF (f + 1) b n i = pthF f b (sp n) i ++ [(b + sp n, b + n)] := by rw [pthF, if_neg (by omega), if_pos hi]
theorem pthF_right {f b n i : Nat} (h : 2 ≤ n) (hi : ¬ i < b + sp n) : pthF (f + 1) b n i = pthF f (b + sp n) (n - sp n) i ++ [(b, b + sp n)] := by rw [pthF, if_neg (by omega), if_neg hi]
def prfF : Nat → Nat → Nat → Nat → List (Nat × Nat)
  | 0, _, _, _ => []
  | f + 1, b, n, m => if b + n = m then (if b = 0 then [] else [(b, b + n)]) else if m ≤ b + sp n then prfF f b (sp n) m ++ [(b + sp n, b + n)] else prfF f (b + sp n) (n - sp n) m ++ [(b, b + sp n)]
end Tree
end Go.Proofs.YtenklmjeeejfdaaGreatDoor

/- THE PLAIN MATHEMATICS OF LAYER 8: spans that lie beside some leaves, beside a run of them; nothing of the program. -/
namespace Go.Proofs.YtenklmjeeejfdaaGreatDoor
namespace Tree
end Tree
end Go.Proofs.YtenklmjeeejfdaaGreatDoor

/- THE PLAIN MATHEMATICS OF LAYER 8: subtrees, and what can be folded; nothing of the program. -/
namespace Go.Proofs.YtenklmjeeejfdaaGreatDoor
namespace Tree
def insF : Nat → Nat → Nat → Nat → Nat → Bool
  | 0, _, _, _, _ => false
  | f + 1, b, n, x, y => if x = b ∧ y = b + n then true else if n < 2 then false else if y ≤ b + sp n then insF f b (sp n) x y else if b + sp n ≤ x then insF f (b + sp n) (n - sp n) x y else false
theorem insF_self {f b n : Nat} : insF (f + 1) b n b (b + n) = true := by rw [insF, if_pos ⟨rfl, rfl⟩]
theorem insF_in : ∀ (f b n x y : Nat), insF f b n x y = true → 1 ≤ n → b ≤ x ∧ x < y ∧ y ≤ b + n
  | 0, _, _, _, _, h, _ => by cases h
  | f + 1, b, n, x, y, h, h1 => by
    rw [insF] at h
    split at h
    · omega
    · split at h
      · cases h
      · have s1 := sp_lt (n := n) (by omega)
        have s2 := sp_pos (n := n) (by omega)
        split at h
        · have := insF_in f b (sp n) x y h (by omega); omega
        · split at h
          · have := insF_in f (b + sp n) (n - sp n) x y h (by omega); omega
          · cases h
def canF : Nat → Nat → Nat → List (Nat × Nat) → Bool
  | 0, _, _, _ => false
  | f + 1, b, n, K => if (b, b + n) ∈ K then true else if n < 2 then false else canF f b (sp n) K && canF f (b + sp n) (n - sp n) K
def hashAt : List (Nat × Nat) → List T → Nat × Nat → T
  | k :: K, h :: H, s => if k = s then h else hashAt K H s
  | _, _, _ => []
def fldF : Nat → Nat → Nat → List (Nat × Nat) → List T → T
  | 0, _, _, _, _ => []
  | f + 1, b, n, K, H => if (b, b + n) ∈ K then hashAt K H (b, b + n) else nd (fldF f b (sp n) K H) (fldF f (b + sp n) (n - sp n) K H)
theorem hashAt_ok (l : List T) : ∀ (K : List (Nat × Nat)) (H : List T) (s : Nat × Nat), H = K.map (fun s => root (seg l s.1 s.2)) → s ∈ K → hashAt K H s = root (seg l s.1 s.2)
  | [], _, s, _, h => by cases h
  | k :: K, [], s, e, _ => by cases e
  | k :: K, h :: H, s, e, hs => by
    have e1 : h = root (seg l k.1 k.2) := (List.cons.inj e).1
    have e2 : H = K.map (fun s => root (seg l s.1 s.2)) := (List.cons.inj e).2
    rw [hashAt]
    by_cases hk : k = s
    · rw [if_pos hk, e1, hk]
    · rw [if_neg hk]
      refine hashAt_ok l K H s e2 ?_
      rcases List.mem_cons.1 hs with e3 | e3
      · exact absurd e3.symm hk
      · exact e3
theorem fld_root (l : List T) (K : List (Nat × Nat)) (H : List T) (hH : H = K.map (fun s => root (seg l s.1 s.2))) : ∀ (f b n : Nat), n ≤ f → 1 ≤ n → b + n ≤ l.length → canF f b n K = true → fldF f b n K H = root (seg l b (b + n))
  | 0, b, n, h, h1, _, _ => by omega
  | f + 1, b, n, h, h1, hl, hc => by
    rw [canF] at hc
    rw [fldF]
    by_cases hk : (b, b + n) ∈ K
    · rw [if_pos hk, hashAt_ok l K H _ hH hk]
    · rw [if_neg hk] at hc ⊢
      split at hc
      · cases hc
      · have s1 := sp_lt (n := n) (by omega)
        have s2 := sp_pos (n := n) (by omega)
        rw [Bool.and_eq_true] at hc
        have e := fld_root l K H hH f (b + sp n) (n - sp n) (by omega) (by omega) (by omega) hc.2
        rw [show b + sp n + (n - sp n) = b + n by omega] at e
        rw [fld_root l K H hH f b (sp n) (by omega) (by omega) (by omega) hc.1, e, ← root_seg_two (by omega) hl]
theorem can_within (K : List (Nat × Nat)) : ∀ (f b n : Nat), n ≤ f → 1 ≤ n → canF f b n K = true → ∃ s ∈ K, b ≤ s.1 ∧ s.2 ≤ b + n ∧ s.1 < s.2
  | 0, b, n, h, h1, _ => by omega
  | f + 1, b, n, h, h1, hc => by
    rw [canF] at hc
    by_cases hk : (b, b + n) ∈ K
    · exact ⟨_, hk, Nat.le_refl _, Nat.le_refl _, by show b < b + n; omega⟩
    · rw [if_neg hk] at hc
      split at hc
      · cases hc
      · have s1 := sp_lt (n := n) (by omega)
        have s2 := sp_pos (n := n) (by omega)
        rw [Bool.and_eq_true] at hc
        obtain ⟨s, h3, h4, h5, h6⟩ := can_within K f b (sp n) (by omega) (by omega) hc.1
        exact ⟨s, h3, h4, by omega, h6⟩
end Tree
end Go.Proofs.YtenklmjeeejfdaaGreatDoor

/- THE PLAIN MATHEMATICS OF LAYER 8: how many spans a batch has; nothing of the program. -/
namespace Go.Proofs.YtenklmjeeejfdaaGreatDoor
namespace Tree
end Tree
end Go.Proofs.YtenklmjeeejfdaaGreatDoor

/- THE PLAIN MATHEMATICS OF LAYER 8: the way to a leaf; subtrees told by counts; nothing of the program. -/
namespace Go.Proofs.YtenklmjeeejfdaaGreatDoor
namespace Tree
def wayF : Nat → Nat → Nat → Nat → List (Nat × Nat)
  | 0, _, _, _ => []
  | f + 1, b, n, i => (b, b + n) :: (if n < 2 then [] else if i < b + sp n then wayF f b (sp n) i else wayF f (b + sp n) (n - sp n) i)
theorem wayF_one {f b n i : Nat} (h : n < 2) : wayF (f + 1) b n i = [(b, b + n)] := by rw [wayF, if_pos h]
theorem wayF_left {f b n i : Nat} (h : 2 ≤ n) (hi : i < b + sp n) : wayF (f + 1) b n i = (b, b + n) :: wayF f b (sp n) i := by rw [wayF, if_neg (by omega), if_pos hi]
theorem wayF_right {f b n i : Nat} (h : 2 ≤ n) (hi : ¬ i < b + sp n) : wayF (f + 1) b n i = (b, b + n) :: wayF f (b + sp n) (n - sp n) i := by rw [wayF, if_neg (by omega), if_neg hi]
theorem wayF_len : ∀ (f b n i : Nat), n ≤ f → 1 ≤ n → (wayF f b n i).length ≤ n
  | 0, b, n, i, h, h1 => by omega
  | f + 1, b, n, i, h, h1 => by
    by_cases h2 : n < 2
    · rw [wayF_one h2]; simpa using h1
    · have s1 := sp_lt (n := n) (by omega)
      have s2 := sp_pos (n := n) (by omega)
      by_cases hi : i < b + sp n
      · rw [wayF_left (by omega) hi, List.length_cons]; have := wayF_len f b (sp n) i (by omega) (by omega); omega
      · rw [wayF_right (by omega) hi, List.length_cons]; have := wayF_len f (b + sp n) (n - sp n) i (by omega) (by omega); omega
theorem wayF_has : ∀ (f b n i : Nat), n ≤ f → b ≤ i → i < b + n → ∀ s ∈ wayF f b n i, b ≤ s.1 ∧ s.1 ≤ i ∧ i < s.2 ∧ s.2 ≤ b + n
  | 0, b, n, i, h, _, h1 => by omega
  | f + 1, b, n, i, h, hb, h1 => by
    intro s hs
    by_cases h2 : n < 2
    · rw [wayF_one h2] at hs
      obtain rfl : s = (b, b + n) := by simpa using hs
      exact ⟨Nat.le_refl _, hb, h1, Nat.le_refl _⟩
    · have s1 := sp_lt (n := n) (by omega)
      have s2 := sp_pos (n := n) (by omega)
      by_cases hi : i < b + sp n
      · rw [wayF_left (by omega) hi] at hs
        rcases List.mem_cons.1 hs with rfl | hs
        · exact ⟨Nat.le_refl _, hb, h1, Nat.le_refl _⟩
        · have := wayF_has f b (sp n) i (by omega) hb hi s hs; omega
      · rw [wayF_right (by omega) hi] at hs
        rcases List.mem_cons.1 hs with rfl | hs
        · exact ⟨Nat.le_refl _, hb, h1, Nat.le_refl _⟩
        · have := wayF_has f (b + sp n) (n - sp n) i (by omega) (by omega) (by omega) s hs; omega
theorem wayF_ins : ∀ (f b n x y : Nat), n ≤ f → b ≤ x → x < b + n → (insF f b n x y = true ↔ (x, y) ∈ wayF f b n x)
  | 0, b, n, x, y, h, _, h1 => by omega
  | f + 1, b, n, x, y, h, hb, h1 => by
    rw [insF]
    by_cases he : x = b ∧ y = b + n
    · obtain ⟨rfl, rfl⟩ := he
      rw [if_pos ⟨rfl, rfl⟩, wayF]
      exact ⟨fun _ => List.mem_cons_self, fun _ => rfl⟩
    · rw [if_neg he]
      have hne : ¬ (x, y) = (b, b + n) := fun e => he (by injection e with e1 e2; exact ⟨e1, e2⟩)
      by_cases h2 : n < 2
      · rw [if_pos h2, wayF_one h2]
        refine ⟨fun e => (by cases e), fun e => absurd ?_ hne⟩
        simpa using e
      · have s1 := sp_lt (n := n) (by omega)
        have s2 := sp_pos (n := n) (by omega)
        rw [if_neg h2]
        by_cases hi : x < b + sp n
        · rw [wayF_left (by omega) hi, List.mem_cons, ← wayF_ins f b (sp n) x y (by omega) hb hi]
          by_cases hy : y ≤ b + sp n
          · rw [if_pos hy]
            exact ⟨.inr, fun e => e.resolve_left hne⟩
          · rw [if_neg hy, if_neg (by omega)]
            refine ⟨fun e => (by cases e), fun e => ?_⟩
            have := insF_in f b (sp n) x y (e.resolve_left hne) (by omega)
            omega
        · rw [wayF_right (by omega) hi, List.mem_cons, ← wayF_ins f (b + sp n) (n - sp n) x y (by omega) (by omega) (by omega)]
          by_cases hy : y ≤ b + sp n
          · rw [if_pos hy]
            refine ⟨fun e => ?_, fun e => ?_⟩
            · have := insF_in f b (sp n) x y e (by omega); omega
            · have := insF_in f (b + sp n) (n - sp n) x y (e.resolve_left hne) (by omega); omega
          · rw [if_neg hy, if_pos (by omega)]
            exact ⟨.inr, fun e => e.resolve_left hne⟩
def osd (i : Nat) (s : Nat × Nat) : Nat × Nat := if i < s.1 + sp (s.2 - s.1) then (s.1 + sp (s.2 - s.1), s.2) else (s.1, s.1 + sp (s.2 - s.1))
def twd (i : Nat) (s : Nat × Nat) : Nat × Nat := if i < s.1 + sp (s.2 - s.1) then (s.1, s.1 + sp (s.2 - s.1)) else (s.1 + sp (s.2 - s.1), s.2)
def pcol (i : Nat) (l : List (Nat × Nat)) : List (Nat × Nat) := (l.filter fun s => decide (1 < s.2 - s.1)).map (osd i)
theorem pcol_way (i : Nat) : ∀ (f b n : Nat), n ≤ f → pcol i (wayF f b n i) = (pthF f b n i).reverse
  | 0, b, n, h => rfl
  | f + 1, b, n, h => by
    by_cases h2 : n < 2
    · rw [wayF_one h2, pthF_small h2]
      simp [pcol]; omega
    · have s1 := sp_lt (n := n) (by omega)
      have s2 := sp_pos (n := n) (by omega)
      have e : 1 < (b, b + n).2 - (b, b + n).1 := by show 1 < b + n - b; omega
      have c : ∀ l : List (Nat × Nat), pcol i ((b, b + n) :: l) = osd i (b, b + n) :: pcol i l := fun l => by
        unfold pcol; rw [List.filter_cons_of_pos (by simpa using e), List.map_cons]
      have en : b + n - b = n := by omega
      by_cases hi : i < b + sp n
      · rw [wayF_left (by omega) hi, pthF_left (by omega) hi, c, pcol_way i f b (sp n) (by omega), List.reverse_append]
        simp only [osd, en, if_pos hi]; rfl
      · rw [wayF_right (by omega) hi, pthF_right (by omega) hi, c, pcol_way i f (b + sp n) (n - sp n) (by omega), List.reverse_append]
        simp only [osd, en, if_neg hi]; rfl
def rcol (m : Nat) : List (Nat × Nat) → List (Nat × Nat)
  | [] => []
  | s :: r => if m < s.2 then osd (m - 1) s :: rcol m r else if 0 < s.1 then [s] else []
theorem rcol_way (m : Nat) : ∀ (f b n : Nat), n ≤ f → b < m → m ≤ b + n → rcol m (wayF f b n (m - 1)) = (prfF f b n m).reverse
  | 0, b, n, h, _, h2 => by omega
  | f + 1, b, n, h, hb, h2 => by
    rw [prfF]
    by_cases hm : b + n = m
    · rw [if_pos hm]
      have e : wayF (f + 1) b n (m - 1) = (b, b + n) :: (wayF (f + 1) b n (m - 1)).tail := by rw [wayF]; rfl
      rw [e, rcol, if_neg (by show ¬ m < b + n; omega)]
      by_cases h0 : b = 0
      · rw [if_pos h0, if_neg (by show ¬ 0 < b; omega)]; rfl
      · rw [if_neg h0, if_pos (by show 0 < b; omega)]; rfl
    · rw [if_neg hm]
      have h3 : 2 ≤ n := by omega
      have s1 := sp_lt (n := n) h3
      have s2 := sp_pos (n := n) h3
      have en : b + n - b = n := by omega
      by_cases hi : m ≤ b + sp n
      · rw [if_pos hi, wayF_left h3 (by omega), rcol, if_pos (by show m < b + n; omega), rcol_way m f b (sp n) (by omega) hb hi, List.reverse_append]
        simp only [osd, en, if_pos (show m - 1 < b + sp n by omega)]; rfl
      · rw [if_neg hi, wayF_right h3 (by omega), rcol, if_pos (by show m < b + n; omega), rcol_way m f (b + sp n) (n - sp n) (by omega) (by omega) (by omega), List.reverse_append]
        simp only [osd, en, if_neg (show ¬ m - 1 < b + sp n by omega)]; rfl
theorem rcol_split {m : Nat} : ∀ {pre : List (Nat × Nat)} {x : Nat × Nat} {rest : List (Nat × Nat)}, (∀ s ∈ pre, m < s.2) → ¬ m < x.2 → rcol m (pre ++ x :: rest) = pre.map (osd (m - 1)) ++ (if 0 < x.1 then [x] else [])
  | [], x, rest, _, hx => by rw [List.nil_append, rcol, if_neg hx]; rfl
  | s :: pre, x, rest, h, hx => by
    rw [List.cons_append, rcol, if_pos (h s List.mem_cons_self), rcol_split (fun t ht => h t (List.mem_cons_of_mem _ ht)) hx]; rfl
theorem wayF_last : ∀ (f b n i : Nat), n ≤ f → b ≤ i → i < b + n → ∃ pre, wayF f b n i = pre ++ [(i, i + 1)]
  | 0, b, n, i, h, _, h1 => by omega
  | f + 1, b, n, i, h, hb, h1 => by
    by_cases h2 : n < 2
    · rw [wayF_one h2, show b = i by omega, show n = 1 by omega]; exact ⟨[], rfl⟩
    · have s1 := sp_lt (n := n) (by omega)
      have s2 := sp_pos (n := n) (by omega)
      by_cases hi : i < b + sp n
      · obtain ⟨p, hp⟩ := wayF_last f b (sp n) i (by omega) hb hi
        rw [wayF_left (by omega) hi, hp]; exact ⟨(b, b + n) :: p, rfl⟩
      · obtain ⟨p, hp⟩ := wayF_last f (b + sp n) (n - sp n) i (by omega) (by omega) (by omega)
        rw [wayF_right (by omega) hi, hp]; exact ⟨(b, b + n) :: p, rfl⟩
end Tree
end Go.Proofs.YtenklmjeeejfdaaGreatDoor

namespace Go.Proofs.YtenklmjeeejfdaaGreatDoor
namespace Cut
def Cov : Nat → Nat → List (Nat × Nat) → Prop
  | a, b, [] => a = b
  | a, b, (p, n) :: l => p = a ∧ (∃ k, n = 2 ^ k) ∧ a % n = 0 ∧ Cov (a + n) b l
def Free : List (Nat × Nat) → Prop
  | (p, n) :: (q, m) :: l => ¬ (n = m ∧ p % (2 * n) = 0) ∧ Free ((q, m) :: l)
  | _ => True
theorem two_pos (k : Nat) : 0 < 2 ^ k := Nat.two_pow_pos k
theorem pow_le_of_dvd {k j : Nat} (h : 2 ^ j < 2 ^ k) : j < k := (Nat.pow_lt_pow_iff_right (by omega)).1 h
theorem first : ∀ (k p e : Nat) (n : Nat) (l : List (Nat × Nat)), p % 2 ^ k = 0 → p + 2 ^ k ≤ e → Cov p e ((p, n) :: l) → Free ((p, n) :: l) → n ≤ 2 ^ k → n = 2 ^ k
  | 0, p, e, n, l, h1, h2, h3, h4, h5 => by
    obtain ⟨_, ⟨j, rfl⟩, _⟩ := h3
    have := two_pos j
    have : (2 : Nat) ^ 0 = 1 := rfl
    omega
  | k + 1, p, e, n, l, h1, h2, h3, h4, h5 => by
    obtain ⟨_, ⟨j, hj⟩, hn, hc⟩ := h3
    have e2 : 2 ^ (k + 1) = 2 * 2 ^ k := by rw [Nat.pow_succ, Nat.mul_comm]
    by_cases he : n = 2 ^ (k + 1)
    · exact he
    · exfalso
      have hk := two_pos k
      have hjk : j < k + 1 := pow_le_of_dvd (by omega)
      have hn2 : n ≤ 2 ^ k := by rw [hj]; exact Nat.pow_le_pow_right (by omega) (by omega)
      have hpk : p % 2 ^ k = 0 := Nat.mod_eq_zero_of_dvd (Nat.dvd_trans ⟨2, by rw [e2, Nat.mul_comm]⟩ (Nat.dvd_of_mod_eq_zero h1))
      have hf := first k p e n l hpk (by omega) ⟨rfl, ⟨j, hj⟩, hn, hc⟩ h4 hn2
      subst hf
      cases l with
      | nil => have : p + 2 ^ k = e := hc; omega
      | cons y l =>
        obtain ⟨q, m⟩ := y
        obtain ⟨rfl, ⟨i, hi⟩, hm, hc'⟩ := hc
        have hm2 : m ≤ 2 ^ k := by
          rcases Nat.lt_or_ge k i with hlt | hge
          · exfalso
            have hd : 2 ^ (k + 1) ∣ m := by rw [hi]; exact Nat.pow_dvd_pow 2 (by omega)
            have h7 := Nat.dvd_trans hd (Nat.dvd_of_mod_eq_zero hm)
            have h8 := (Nat.dvd_add_right (Nat.dvd_of_mod_eq_zero h1)).1 h7
            have := Nat.le_of_dvd hk h8
            omega
          · rw [hi]; exact Nat.pow_le_pow_right (by omega) hge
        have hq : (p + 2 ^ k) % 2 ^ k = 0 := by rw [Nat.add_mod_right]; exact hpk
        have hf2 := first k (p + 2 ^ k) e m l hq (by omega) ⟨rfl, ⟨i, hi⟩, hm, hc'⟩ h4.2 hm2
        exact h4.1 ⟨hf2.symm, by rw [← e2]; exact h1⟩
def grow : Nat → Nat → Nat → Nat → Nat
  | 0, n, _, _ => n
  | f + 1, n, b, e => if b % (2 * n) = 0 ∧ b + 2 * n ≤ e then grow f (2 * n) b e else n
end Cut
end Go.Proofs.YtenklmjeeejfdaaGreatDoor

namespace Go.Proofs.YtenklmjeeejfdaaGreatDoor
namespace Cut
open Tree
def lh (L : List T) (a : Nat) (q : Nat × Nat) : T := root ((L.drop (q.1 - a)).take q.2)
end Cut
end Go.Proofs.YtenklmjeeejfdaaGreatDoor

namespace Go.Proofs.YtenklmjeeejfdaaGreatDoor
namespace Cut
open Tree
inductive Der (K : List ((Nat × Nat) × T)) : Nat × Nat → T → Prop where
  | known {q : Nat × Nat} {x : T} : (q, x) ∈ K → Der K q x
  | node {p n : Nat} {x y : T} : Der K (p, n) x → Der K (p + n, n) y → (∀ z, ((p, 2 * n), z) ∉ K) → Der K (p, 2 * n) (nd x y)
end Cut
end Go.Proofs.YtenklmjeeejfdaaGreatDoor

namespace Go.Proofs.YtenklmjeeejfdaaGreatDoor
open Go.RowKit
def Tz (w : World) : Prop := ∀ j, j < 64 → w.cell? ⟨1, j, none⟩ = some (.int .u8 ((Lib.deBruijn64tab.getD j 0 : Nat) : Int))
structure Tb (w : World) : Prop where
  t : Tabs w
  z : Tz w
theorem Tb.lt {w : World} (h : Tb w) : 4 ≤ w.heap.size := h.t.lt
theorem Tb.below {w w' : World} {B : Nat} (h : Tb w) (hb : Below B w w') (hB : 4 ≤ B) : Tb w' :=
  ⟨h.t.below hb hB, fun j hj => (hb.cell (p := ⟨1, j, none⟩) (Nat.lt_of_lt_of_le (by simp) hB)).trans (h.z j hj)⟩
set_option maxHeartbeats 1000000 in
theorem tz64_core (x k idx : Nat) (w : World) (hx0 : ((x : Int) == 0) = false)
    (key : IntKind.u64.wrap (bits BinOp.and IntKind.u64 (x : Int) (IntKind.u64.wrap (-(x : Int))) * 285870213051353865) / 288230376151711744 = (idx : Int))
    (hi : idx < 64) (hk : k < 64) (hcell : w.cell? ⟨1, idx, none⟩ = some (.int .u8 (k : Int))) :
    Calls Tryz.prog 100 #[.int .u64 x] w fun e w' => e = .returned (.int .i64 k) ∧ w' = w := by
  go_enter Tryz.func100, Tryz.ntmps100
  go_wp2_with (simp only [key])
  go_ret
  exact ⟨rfl, rfl⟩
theorem tz64_zero (w : World) : Calls Tryz.prog 100 #[.int .u64 0] w fun e w' => e = .returned (.int .i64 64) ∧ w' = w := by
  go_enter Tryz.func100, Tryz.ntmps100
  go_wp2
  go_ret
  exact ⟨rfl, rfl⟩
theorem tz64_key' (x a : Nat) (hx : x < 18446744073709551616) (hx0 : x ≠ 0) (hlow : x &&& (18446744073709551616 - x) = a) :
    IntKind.u64.wrap (bits BinOp.and IntKind.u64 (x : Int) (IntKind.u64.wrap (-(x : Int))) * 285870213051353865) / 288230376151711744 = ((a * 285870213051353865 % 18446744073709551616 / 288230376151711744 : Nat) : Int) := by
  have e1 : IntKind.u64.wrap (-(x : Int)) = ((18446744073709551616 - x : Nat) : Int) := by rw [IntKind.wrap_u64]; omega
  rw [e1, bits_and_u64_nat x _ hx (by omega), hlow, IntKind.wrap_u64]
  omega
theorem tz64_any (x : Nat) (hx : x < 18446744073709551616) (w : World) (Z : Tz w) :
    Calls Tryz.prog 100 #[.int .u64 x] w fun e w' => e = .returned (.int .i64 (Lib.ctz 64 x : Nat)) ∧ w' = w := by
  by_cases hx0 : x = 0
  · subst hx0
    exact tz64_zero w
  · obtain ⟨hlow, hk⟩ := Lib.lowest_bit 64 x hx0 hx
    obtain ⟨hi, htab⟩ := Lib.deBruijn64_at _ hk
    have hcell := Z _ hi
    rw [htab] at hcell
    exact tz64_core x _ _ w (by simp; omega) (tz64_key' x _ hx hx0 hlow) hi hk hcell
set_option maxHeartbeats 1000000 in
theorem tz_any (x : Nat) (hx : x < 18446744073709551616) (w : World) (Z : Tz w) :
    Calls Tryz.prog 80 #[.int .u64 x] w fun e w' => e = .returned (.int .i64 (Lib.ctz 64 x : Nat)) ∧ w' = w := by
  have c64 := tz64_any x hx w Z
  have hw : IntKind.u64.wrap (x : Int) = (x : Int) := by rw [IntKind.wrap_u64]; omega
  go_enter Tryz.func80, Tryz.ntmps80
  go_wp2_with (go_at_call 100; refine c64.mono ?_; rintro e w' ⟨rfl, rfl⟩)
  go_ret
  exact ⟨rfl, rfl⟩
abbrev spn (b e : Nat) : Value := .agg #[.int .i64 (b : Int), .int .i64 (e : Int)]
end Go.Proofs.YtenklmjeeejfdaaGreatDoor

namespace Go.Proofs.YtenklmjeeejfdaaGreatDoor
open Go.RowKit
def memN (w : World) (g i : Nat) : Nat := match w.cell? ⟨g, i, none⟩ with | some (.int _ n) => n.toNat | _ => 0
end Go.Proofs.YtenklmjeeejfdaaGreatDoor

namespace Go.Proofs.YtenklmjeeejfdaaGreatDoor
open Go.RowKit
theorem results_row_row {P : Program} {fn : Func} {p u : Tmp} {ty tu : TypeId} (h : fn.results = #[.cell p ty, .cell u tu]) (tmps : Array Value) (w : World) (g g' : Nat) (t t' : TypeId) (cs cs' : Array Value) (fr fr' : Nat × Nat) (d d' : TypeDesc)
    (hp : tmps.getD p undef = .pointer (some ⟨g, 0, none⟩)) (hg : w.heap[g]? = some (.cells cs t fr))
    (hu : P.underlying ty = some d) (hd : (match d with | .struct _ | .array _ _ => true | _ => false) = true) (hi : (P.info? ty).map (·.size) = some cs.size)
    (hp' : tmps.getD u undef = .pointer (some ⟨g', 0, none⟩)) (hg' : w.heap[g']? = some (.cells cs' t' fr'))
    (hu' : P.underlying tu = some d') (hd' : (match d' with | .struct _ | .array _ _ => true | _ => false) = true) (hi' : (P.info? tu).map (·.size) = some cs'.size) :
    (results fn tmps).run P w = .ok (.tuple #[.agg cs, .agg cs']) w := by
  have q : tmps[p]?.getD undef = .pointer (some ⟨g, 0, none⟩) := by simpa using hp
  have q' : tmps[u]?.getD undef = .pointer (some ⟨g', 0, none⟩) := by simpa using hp'
  simp only [results, h]
  simp [Sem.run_bind, Result.andThen, q, q', asAddr, run_loadVar_row w g t ty cs fr d hg hu hd hi, run_loadVar_row w g' t' tu cs' fr' d' hg' hu' hd' hi']
abbrev sg (b e : Int) : Value := .agg #[.int .i64 b, .int .i64 e]
def SpI (w : World) (g : Nat) (b e : Int) : Prop := w.heap[g]? = some (.cells #[.int .i64 b, .int .i64 e] 56 (0, 0))
theorem SpI.c0 {w : World} {g : Nat} {b e : Int} (h : SpI w g b e) : w.cell? ⟨g, 0, none⟩ = some (.int .i64 b) := by rw [cell_of_row w g 0 _ _ _ h]; rfl
theorem SpI.c1 {w : World} {g : Nat} {b e : Int} (h : SpI w g b e) : w.cell? ⟨g, 1, none⟩ = some (.int .i64 e) := by rw [cell_of_row w g 1 _ _ _ h]; rfl
theorem SpI.f0 {w : World} {g : Nat} {b e : Int} (h : SpI w g b e) : w.frozen? ⟨g, 0, none⟩ = false := frozen_of_row _ _ _ _ _ h
theorem SpI.f1 {w : World} {g : Nat} {b e : Int} (h : SpI w g b e) : w.frozen? ⟨g, 1, none⟩ = false := frozen_of_row _ _ _ _ _ h
theorem SpI.new (w : World) (b e : Int) : SpI (w.alloc (.cells #[.int .i64 b, .int .i64 e] 56)) w.heap.size b e := heap_alloc_new w _
theorem SpI.below {w w' : World} {g : Nat} {b e : Int} (h : SpI w g b e) (hb : Below w.heap.size w w') : SpI w' g b e := (hb.block g (lt_of_heap h)).trans h
theorem SpI.keep {w w' : World} {g : Nat} {b e : Int} {S : Nat → Prop} (h : SpI w g b e) (hb : Keep S w w') (hs : ¬ S g) : SpI w' g b e := (hb.block g (lt_of_heap h) hs).trans h
set_option maxRecDepth 100000 in
theorem isSize_is (n : Int) (q : Bool) (h : decide (1 ≤ n ∧ n ≤ 1099511627776) = q) (w : World) : Calls Tryz.prog 106 #[.int .i64 n] w fun r w' => r = .returned (.bool q) ∧ w' = w := by
  by_cases h0 : 1 ≤ n
  · by_cases h1 : n ≤ 1099511627776
    · have e := hid (show q = true by rw [← h]; simp [h0, h1])
      clear h
      go_enter Tryz.func106, Tryz.ntmps106
      go_wp2
      go_ret
      exact ⟨by rw [e.out]; rfl, rfl⟩
    · have e := hid (show q = false by rw [← h]; simp [h1])
      clear h
      go_enter Tryz.func106, Tryz.ntmps106
      go_wp2
      go_ret
      exact ⟨by rw [e.out]; rfl, rfl⟩
  · have e := hid (show q = false by rw [← h]; simp [h0])
    clear h
    go_enter Tryz.func106, Tryz.ntmps106
    go_wp2
    go_ret
    exact ⟨by rw [e.out]; rfl, rfl⟩
set_option maxRecDepth 100000 in
theorem isLeaf8_is (n i : Int) (q : Bool) (h : decide (0 ≤ i ∧ i < n) = q) (w : World) : Calls Tryz.prog 129 #[.int .i64 n, .int .i64 i] w fun r w' => r = .returned (.bool q) ∧ w' = w := by
  by_cases h0 : 0 ≤ i
  · by_cases h1 : i < n
    · have e := hid (show q = true by rw [← h]; simp [h0, h1])
      clear h
      go_enter Tryz.func129, Tryz.ntmps129
      go_wp2
      go_ret
      exact ⟨by rw [e.out]; rfl, rfl⟩
    · have e := hid (show q = false by rw [← h]; simp [h1])
      clear h
      go_enter Tryz.func129, Tryz.ntmps129
      go_wp2
      go_ret
      exact ⟨by rw [e.out]; rfl, rfl⟩
  · have e := hid (show q = false by rw [← h]; simp [h0])
    clear h
    go_enter Tryz.func129, Tryz.ntmps129
    go_wp2
    go_ret
    exact ⟨by rw [e.out]; rfl, rfl⟩
set_option maxRecDepth 100000 in
theorem slen_any (b e n : Int) (h : wrap64 (e - b) = n) (w : World) : Calls Tryz.prog 124 #[sg b e] w fun r w' => r = .returned (.int .i64 n) ∧ Below w.heap.size w w' := by
  have S0 := SpI.new w b e
  have c0 := S0.c0
  have c1 := S0.c1
  go_enter Tryz.func124, Tryz.ntmps124
  go_wp2
  go_ret
  exact ⟨by rw [← h]; rfl, (Below.refl _ _).alloc (Nat.le_refl _) _⟩
theorem slen_nat (b e : Nat) (hb : b ≤ e) (he : e ≤ 1099511627776) (w : World) : Calls Tryz.prog 124 #[sg b e] w fun r w' => r = .returned (.int .i64 ((e - b : Nat) : Int)) ∧ Below w.heap.size w w' :=
  slen_any b e _ (by unfold wrap64; omega) w
end Go.Proofs.YtenklmjeeejfdaaGreatDoor

namespace Go.Proofs.YtenklmjeeejfdaaGreatDoor
open Go.RowKit
theorem drewBelow8 {w w' : World} (h : Below w.drew.heap.size w.drew w') : Below w.heap.size w w' := (Below.refl _ w).drew.trans h
theorem sizeSp8 : (Tryz.prog.info? 56).map (·.size) = some 2 := by kernel_rfl
theorem SpI.two {w : World} {g : Nat} {b e : Int} (h : SpI w g b e) (b' e' : Int) : SpI ((w.setCell ⟨g, 0, none⟩ (.int .i64 b')).setCell ⟨g, 1, none⟩ (.int .i64 e')) g b' e' :=
  heap_setCell_same _ g 1 _ _ _ (heap_setCell_same w g 0 _ _ _ h)
theorem SpI.far {w : World} {g : Nat} {b e : Int} (h : SpI w g b e) (k o : Nat) (v : Value) (hk : g ≠ k) : SpI (w.setCell ⟨k, o, none⟩ v) g b e :=
  (Below.heap_setCell w _ v g hk).trans h
set_option maxRecDepth 100000 in
set_option maxHeartbeats 4000000 in
theorem parts_at (b e m : Nat) (h2 : 2 ≤ e - b) (he : e ≤ 1099511627776) (hm : Hid (m = b + Tree.sp (e - b))) (w : World) :
    Calls Tryz.prog 126 #[sg b e] w fun r w' => r = .returned (.tuple #[sg b m, sg m e]) ∧ Below w.heap.size w w' := by
  have hb := bitLen_log _ ((((e - b : Nat) : Int) - 1).toNat) (Nat.le_refl _) (by omega) (by omega)
  have hL := log_le (x := (((e - b : Nat) : Int) - 1).toNat) (by omega) (by omega)
  have hc := lenU_any (((e - b : Nat) : Int) - 1) (by omega) (by omega)
  have hm2 : Hid (m = b + 2 ^ (((e - b : Nat) : Int) - 1).toNat.log2) := by
    unfold Hid
    rw [hm.out, Tree.sp_eq (by omega), show e - b - 1 = (((e - b : Nat) : Int) - 1).toNat from by omega]
  have hme : m < e := by rw [hm.out]; have := Tree.sp_lt (n := e - b) h2; omega
  rw [hb] at hc
  clear hb
  generalize (((e - b : Nat) : Int) - 1).toNat.log2 = L at *
  have hw1 : IntKind.i64.wrap (((e - b : Nat) : Int) - 1) = ((e - b : Nat) : Int) - 1 := by rw [IntKind.wrap_i64]; omega
  have hw2 : IntKind.u64.wrap (((e - b : Nat) : Int) - 1) = ((e - b : Nat) : Int) - 1 := by rw [IntKind.wrap_u64]; omega
  have hp := wrap_pow hL
  obtain ⟨N, hN⟩ : ∃ N : Nat, Hid (2 ^ L = N) := ⟨_, rfl⟩
  rw [hN.out] at hp hm2
  have hN1 : (2 : Int) ^ L = (N : Int) := by rw [← hN.out]; simp
  have hN2 : IntKind.i64.wrap (N : Int) = (N : Int) := by rw [IntKind.wrap_i64]; have := hm2.out; omega
  have hL1 : IntKind.i64.wrap (L : Int) = (L : Int) := by rw [IntKind.wrap_i64]; omega
  have hL2 : (L : Int) ≤ 64 := by omega
  have hL3 : (0 : Int) ≤ (L : Int) := by omega
  have hadd : IntKind.i64.wrap ((b : Int) + (N : Int)) = (m : Int) := by rw [hm2.out, IntKind.wrap_i64]; have := hm2.out; omega
  clear hp
  have i1 := fun w' => slen_nat b e (by omega) he w'
  obtain ⟨n, hn⟩ : ∃ n, Hid (e - b = n) := ⟨_, rfl⟩
  rw [hn.out] at hc hw1 hw2 i1
  have S0 := SpI.new w b e
  have B0 := (Below.refl w.heap.size w).alloc (Nat.le_refl _) (.cells #[Value.int .i64 (b : Int), .int .i64 (e : Int)] 56)
  go_enter Tryz.func126, Tryz.ntmps126
  go_wp2
  obtain ⟨w3, hw3⟩ : ∃ w3, Hid ((((w.alloc (.cells #[.int .i64 (b : Int), .int .i64 (e : Int)] 56)).alloc (.cells #[.int .i64 0, .int .i64 0] 56)).alloc (.cells #[.int .i64 0, .int .i64 0] 56)) = w3) := ⟨_, rfl⟩
  rw [hw3.out]
  have B3 : Hid (Below w.heap.size w w3) := by unfold Hid; rw [← hw3.out]; exact (B0.alloc (by rw [size_alloc]; omega) _).alloc (by rw [size_alloc, size_alloc]; omega) _
  have z3 : Hid (w3.heap.size = w.heap.size + 3) := by unfold Hid; rw [← hw3.out]; simp
  have R0 : Hid (SpI w3 w.heap.size b e) := by unfold Hid; rw [← hw3.out]; exact (S0.below ((Below.refl _ _).alloc (Nat.le_refl _) _)).below ((Below.refl _ _).alloc (Nat.le_refl _) _)
  have R1 : Hid (SpI w3 (w.heap.size + 1) 0 0) := by
    unfold Hid; rw [← hw3.out]
    have := SpI.new (w.alloc (.cells #[.int .i64 (b : Int), .int .i64 (e : Int)] 56)) 0 0
    rw [size_alloc] at this
    exact this.below ((Below.refl _ _).alloc (Nat.le_refl _) _)
  have R2 : Hid (SpI w3 (w.heap.size + 1 + 1) 0 0) := by
    unfold Hid; rw [← hw3.out]
    have := SpI.new ((w.alloc (.cells #[.int .i64 (b : Int), .int .i64 (e : Int)] 56)).alloc (.cells #[.int .i64 0, .int .i64 0] 56)) 0 0
    rw [size_alloc, size_alloc] at this
    exact this
  clear hw3 S0 B0
  have x0 := And.intro R0.out.c0 R0.out.c1
  go_region_held3 (fun w' => w'.cell? ⟨w.heap.size, 0, none⟩ = some (.int .i64 (b : Int)) ∧ w'.cell? ⟨w.heap.size, 1, none⟩ = some (.int .i64 (e : Int))) (first | exact x4 | exact x0) (first
    | (go_at_call 124; refine (i1 _).mono ?_; rintro r w4 ⟨rfl, h4⟩; have B4 := hid (drewBelow8 h4); have R4 := R0.out.below B4.out; have x4 := And.intro R4.c0 R4.c1)
    | (go_at_call 105; refine (hc _).mono ?_; rintro r w5 ⟨rfl, rfl⟩))
  go_wp2
  have B5 := hid (B3.out.trans (B4.out.mono B3.out.size))
  have T0 := hid (R0.out.below B4.out)
  have T1 := hid (R1.out.below B4.out)
  have T2 := hid (R2.out.below B4.out)
  clear R0 R1 R2 R4 x0 x4 B3 B4 z3
  have y0 := And.intro T0.out.c0 T0.out.c1
  have p1 : w5.drew.cell? ⟨w.heap.size + 1, 0, none⟩ = some (.int .i64 0) := T1.out.c0
  have p2 : w5.drew.cell? ⟨w.heap.size + 1, 1, none⟩ = some (.int .i64 0) := T1.out.c1
  have p3 : w5.drew.frozen? ⟨w.heap.size + 1, 0, none⟩ = false := T1.out.f0
  have p4 : w5.drew.frozen? ⟨w.heap.size + 1, 1, none⟩ = false := T1.out.f1
  have q1 : w5.drew.cell? ⟨w.heap.size + 1 + 1, 0, none⟩ = some (.int .i64 0) := T2.out.c0
  have q2 : w5.drew.cell? ⟨w.heap.size + 1 + 1, 1, none⟩ = some (.int .i64 0) := T2.out.c1
  have q3 : w5.drew.frozen? ⟨w.heap.size + 1 + 1, 0, none⟩ = false := T2.out.f0
  have q4 : w5.drew.frozen? ⟨w.heap.size + 1 + 1, 1, none⟩ = false := T2.out.f1
  have y1 : w5.drew.cell? ⟨w.heap.size, 0, none⟩ = some (.int .i64 (b : Int)) := T0.out.c0
  have y2 : w5.drew.cell? ⟨w.heap.size, 1, none⟩ = some (.int .i64 (e : Int)) := T0.out.c1
  have p5 : w5.cell? ⟨w.heap.size + 1, 0, none⟩ = some (.int .i64 0) := T1.out.c0
  have p6 : w5.cell? ⟨w.heap.size + 1, 1, none⟩ = some (.int .i64 0) := T1.out.c1
  have p7 : w5.frozen? ⟨w.heap.size + 1, 0, none⟩ = false := T1.out.f0
  have p8 : w5.frozen? ⟨w.heap.size + 1, 1, none⟩ = false := T1.out.f1
  have q5 : w5.cell? ⟨w.heap.size + 1 + 1, 0, none⟩ = some (.int .i64 0) := T2.out.c0
  have q6 : w5.cell? ⟨w.heap.size + 1 + 1, 1, none⟩ = some (.int .i64 0) := T2.out.c1
  have q7 : w5.frozen? ⟨w.heap.size + 1 + 1, 0, none⟩ = false := T2.out.f0
  have q8 : w5.frozen? ⟨w.heap.size + 1 + 1, 1, none⟩ = false := T2.out.f1
  have s1 : ¬ w.heap.size + 1 = w.heap.size := by omega
  have s2 : ¬ w.heap.size + 1 + 1 = w.heap.size := by omega
  go_region_held3 (fun w' => w'.cell? ⟨w.heap.size, 0, none⟩ = some (.int .i64 (b : Int)) ∧ w'.cell? ⟨w.heap.size, 1, none⟩ = some (.int .i64 (e : Int))) (first | exact y0 | go_keep) (fail)
  go_wp2
  have U1 := (T1.out.two (b : Int) (m : Int))
  have U1' := (U1.far (w.heap.size + 1 + 1) 0 (.int .i64 (m : Int)) (by omega)).far (w.heap.size + 1 + 1) 1 (.int .i64 (e : Int)) (by omega)
  have U2 := ((T2.out.far (w.heap.size + 1) 0 (.int .i64 (b : Int)) (by omega)).far (w.heap.size + 1) 1 (.int .i64 (m : Int)) (by omega)).two (m : Int) (e : Int)
  refine bodyPost_ret (results_row_row rfl _ _ (w.heap.size + 1) (w.heap.size + 1 + 1) 56 56 #[.int .i64 (b : Int), .int .i64 (m : Int)] #[.int .i64 (m : Int), .int .i64 (e : Int)] (0, 0) (0, 0) _ _ rfl U1' Tryz.underlying56 rfl sizeSp8 rfl U2 Tryz.underlying56 rfl sizeSp8) rfl ⟨rfl, ?_⟩
  exact (((((B5.out.setCell (p := ⟨w.heap.size + 1, 0, none⟩) (by show w.heap.size ≤ w.heap.size + 1; omega) _).setCell (p := ⟨w.heap.size + 1, 1, none⟩) (by show w.heap.size ≤ w.heap.size + 1; omega) _).setCell (p := ⟨w.heap.size + 1 + 1, 0, none⟩) (by show w.heap.size ≤ w.heap.size + 1 + 1; omega) _).setCell (p := ⟨w.heap.size + 1 + 1, 1, none⟩) (by show w.heap.size ≤ w.heap.size + 1 + 1; omega) _)).drew
end Go.Proofs.YtenklmjeeejfdaaGreatDoor

namespace Go.Proofs.YtenklmjeeejfdaaGreatDoor
open Go.RowKit
set_option maxRecDepth 100000 in
set_option maxHeartbeats 4000000 in
theorem toward_at (b e m i : Nat) (h2 : 2 ≤ e - b) (he : e ≤ 1099511627776) (hm : Hid (m = b + Tree.sp (e - b))) (w : World) :
    Calls Tryz.prog 125 #[sg b e, .int .i64 (i : Int)] w fun r w' => r = .returned (if i < m then sg b m else sg m e) ∧ Below w.heap.size w w' := by
  have i1 := fun w' => parts_at b e m h2 he hm w'
  have S0 := SpI.new w b e
  have c0 := S0.c0
  have c1 := S0.c1
  have B0 := hid (((Below.refl w.heap.size w).alloc (Nat.le_refl _) (.cells #[Value.int .i64 (b : Int), .int .i64 (e : Int)] 56)).alloc (by rw [size_alloc]; omega) (.cells #[Value.int .i64 0, .int .i64 0] 56))
  have R1 := SpI.new (w.alloc (.cells #[Value.int .i64 (b : Int), .int .i64 (e : Int)] 56)) 0 0
  rw [size_alloc] at R1
  have R1 := hid R1
  have z0 : Hid (((w.alloc (.cells #[Value.int .i64 (b : Int), .int .i64 (e : Int)] 56)).alloc (.cells #[Value.int .i64 0, .int .i64 0] 56)).heap.size = w.heap.size + 2) := by unfold Hid; simp
  by_cases hi : i < m
  · rw [if_pos hi]
    have hi' : (i : Int) < (m : Int) := by omega
    go_enter Tryz.func125, Tryz.ntmps125
    go_wp2_with (go_at_call 126; refine (i1 _).mono ?_; rintro r w1 ⟨rfl, hw1⟩; have T1 := R1.out.below hw1; have B1 := hid (B0.out.trans (hw1.mono B0.out.size)); have z1 := hid hw1.size; clear hw1; have T2 := (T1.below ((Below.refl _ w1).alloc (Nat.le_refl _) (.cells #[Value.int .i64 (b : Int), .int .i64 (m : Int)] 56))).below ((Below.refl _ _).alloc (Nat.le_refl _) (.cells #[Value.int .i64 (m : Int), .int .i64 (e : Int)] 56)); have d0 := T2.c0; have d1 := T2.c1; have g0 := T2.f0; have g1 := T2.f1; have T2 := hid T2; have T1 := hid T1)
    have U := T2.out.two (b : Int) (m : Int)
    refine bodyPost_ret (v := sg b m) (results_cell_row rfl _ _ (w.heap.size + 1) 56 #[.int .i64 (b : Int), .int .i64 (m : Int)] (0, 0) _ rfl U Tryz.underlying56 rfl sizeSp8) rfl ⟨rfl, ?_⟩
    have z1 := z1.out
    have z0 := z0.out
    exact ((((B1.out.alloc (by omega) _).alloc (by rw [size_alloc]; omega) _).setCell (p := ⟨w.heap.size + 1, 0, none⟩) (by show w.heap.size ≤ w.heap.size + 1; omega) _).setCell (p := ⟨w.heap.size + 1, 1, none⟩) (by show w.heap.size ≤ w.heap.size + 1; omega) _)
  · rw [if_neg hi]
    have hi' : ¬ (i : Int) < (m : Int) := by omega
    go_enter Tryz.func125, Tryz.ntmps125
    go_wp2_with (go_at_call 126; refine (i1 _).mono ?_; rintro r w1 ⟨rfl, hw1⟩; have T1 := R1.out.below hw1; have B1 := hid (B0.out.trans (hw1.mono B0.out.size)); have z1 := hid hw1.size; clear hw1; have T2 := (T1.below ((Below.refl _ w1).alloc (Nat.le_refl _) (.cells #[Value.int .i64 (b : Int), .int .i64 (m : Int)] 56))).below ((Below.refl _ _).alloc (Nat.le_refl _) (.cells #[Value.int .i64 (m : Int), .int .i64 (e : Int)] 56)); have d0 := T2.c0; have d1 := T2.c1; have g0 := T2.f0; have g1 := T2.f1; have T2 := hid T2; have T1 := hid T1)
    have U := T2.out.two (m : Int) (e : Int)
    refine bodyPost_ret (v := sg m e) (results_cell_row rfl _ _ (w.heap.size + 1) 56 #[.int .i64 (m : Int), .int .i64 (e : Int)] (0, 0) _ rfl U Tryz.underlying56 rfl sizeSp8) rfl ⟨rfl, ?_⟩
    have z1 := z1.out
    have z0 := z0.out
    exact ((((B1.out.alloc (by omega) _).alloc (by rw [size_alloc]; omega) _).setCell (p := ⟨w.heap.size + 1, 0, none⟩) (by show w.heap.size ≤ w.heap.size + 1; omega) _).setCell (p := ⟨w.heap.size + 1, 1, none⟩) (by show w.heap.size ≤ w.heap.size + 1; omega) _)
set_option maxRecDepth 100000 in
set_option maxHeartbeats 4000000 in
theorem beside_at (b e m i : Nat) (h2 : 2 ≤ e - b) (he : e ≤ 1099511627776) (hm : Hid (m = b + Tree.sp (e - b))) (w : World) :
    Calls Tryz.prog 103 #[sg b e, .int .i64 (i : Int)] w fun r w' => r = .returned (if i < m then sg m e else sg b m) ∧ Below w.heap.size w w' := by
  have i1 := fun w' => parts_at b e m h2 he hm w'
  have S0 := SpI.new w b e
  have c0 := S0.c0
  have c1 := S0.c1
  have B0 := hid (((Below.refl w.heap.size w).alloc (Nat.le_refl _) (.cells #[Value.int .i64 (b : Int), .int .i64 (e : Int)] 56)).alloc (by rw [size_alloc]; omega) (.cells #[Value.int .i64 0, .int .i64 0] 56))
  have R1 := SpI.new (w.alloc (.cells #[Value.int .i64 (b : Int), .int .i64 (e : Int)] 56)) 0 0
  rw [size_alloc] at R1
  have R1 := hid R1
  have z0 : Hid (((w.alloc (.cells #[Value.int .i64 (b : Int), .int .i64 (e : Int)] 56)).alloc (.cells #[Value.int .i64 0, .int .i64 0] 56)).heap.size = w.heap.size + 2) := by unfold Hid; simp
  by_cases hi : i < m
  · rw [if_pos hi]
    have hi' : (i : Int) < (m : Int) := by omega
    go_enter Tryz.func103, Tryz.ntmps103
    go_wp2_with (go_at_call 126; refine (i1 _).mono ?_; rintro r w1 ⟨rfl, hw1⟩; have T1 := R1.out.below hw1; have B1 := hid (B0.out.trans (hw1.mono B0.out.size)); have z1 := hid hw1.size; clear hw1; have T2 := (T1.below ((Below.refl _ w1).alloc (Nat.le_refl _) (.cells #[Value.int .i64 (b : Int), .int .i64 (m : Int)] 56))).below ((Below.refl _ _).alloc (Nat.le_refl _) (.cells #[Value.int .i64 (m : Int), .int .i64 (e : Int)] 56)); have d0 := T2.c0; have d1 := T2.c1; have g0 := T2.f0; have g1 := T2.f1; have T2 := hid T2; have T1 := hid T1)
    have U := T2.out.two (m : Int) (e : Int)
    refine bodyPost_ret (v := sg m e) (results_cell_row rfl _ _ (w.heap.size + 1) 56 #[.int .i64 (m : Int), .int .i64 (e : Int)] (0, 0) _ rfl U Tryz.underlying56 rfl sizeSp8) rfl ⟨rfl, ?_⟩
    have z1 := z1.out
    have z0 := z0.out
    exact ((((B1.out.alloc (by omega) _).alloc (by rw [size_alloc]; omega) _).setCell (p := ⟨w.heap.size + 1, 0, none⟩) (by show w.heap.size ≤ w.heap.size + 1; omega) _).setCell (p := ⟨w.heap.size + 1, 1, none⟩) (by show w.heap.size ≤ w.heap.size + 1; omega) _)
  · rw [if_neg hi]
    have hi' : ¬ (i : Int) < (m : Int) := by omega
    go_enter Tryz.func103, Tryz.ntmps103
    go_wp2_with (go_at_call 126; refine (i1 _).mono ?_; rintro r w1 ⟨rfl, hw1⟩; have T1 := R1.out.below hw1; have B1 := hid (B0.out.trans (hw1.mono B0.out.size)); have z1 := hid hw1.size; clear hw1; have T2 := (T1.below ((Below.refl _ w1).alloc (Nat.le_refl _) (.cells #[Value.int .i64 (b : Int), .int .i64 (m : Int)] 56))).below ((Below.refl _ _).alloc (Nat.le_refl _) (.cells #[Value.int .i64 (m : Int), .int .i64 (e : Int)] 56)); have d0 := T2.c0; have d1 := T2.c1; have g0 := T2.f0; have g1 := T2.f1; have T2 := hid T2; have T1 := hid T1)
    have U := T2.out.two (b : Int) (m : Int)
    refine bodyPost_ret (v := sg b m) (results_cell_row rfl _ _ (w.heap.size + 1) 56 #[.int .i64 (b : Int), .int .i64 (m : Int)] (0, 0) _ rfl U Tryz.underlying56 rfl sizeSp8) rfl ⟨rfl, ?_⟩
    have z1 := z1.out
    have z0 := z0.out
    exact ((((B1.out.alloc (by omega) _).alloc (by rw [size_alloc]; omega) _).setCell (p := ⟨w.heap.size + 1, 0, none⟩) (by show w.heap.size ≤ w.heap.size + 1; omega) _).setCell (p := ⟨w.heap.size + 1, 1, none⟩) (by show w.heap.size ≤ w.heap.size + 1; omega) _)
theorem toward_any (b e i : Nat) (h2 : 2 ≤ e - b) (he : e ≤ 1099511627776) (w : World) :
    Calls Tryz.prog 125 #[sg b e, .int .i64 (i : Int)] w fun r w' => r = .returned (sg (Tree.twd i (b, e)).1 (Tree.twd i (b, e)).2) ∧ Below w.heap.size w w' := by
  refine (toward_at b e _ i h2 he rfl w).mono ?_
  rintro r w' ⟨rfl, h⟩
  refine ⟨?_, h⟩
  unfold Tree.twd
  by_cases hi : i < b + Tree.sp (e - b)
  · simp only [if_pos hi]
  · simp only [if_neg hi]
theorem beside_any (b e i : Nat) (h2 : 2 ≤ e - b) (he : e ≤ 1099511627776) (w : World) :
    Calls Tryz.prog 103 #[sg b e, .int .i64 (i : Int)] w fun r w' => r = .returned (sg (Tree.osd i (b, e)).1 (Tree.osd i (b, e)).2) ∧ Below w.heap.size w w' := by
  refine (beside_at b e _ i h2 he rfl w).mono ?_
  rintro r w' ⟨rfl, h⟩
  refine ⟨?_, h⟩
  unfold Tree.osd
  by_cases hi : i < b + Tree.sp (e - b)
  · simp only [if_pos hi]
  · simp only [if_neg hi]
end Go.Proofs.YtenklmjeeejfdaaGreatDoor
