import Derived.Test.YtjodbmbadhbblaaDoorCSH3
/- THE PLAIN MATHEMATICS OF LAYER 8: spans that lie apart, walked from the left; nothing of the program. -/
namespace Go.Proofs.YtjodbmbadhbblaaDoor
namespace Tree
/-- where the next span begins -/
def tgt (n : Nat) : List (Nat × Nat) → Nat
  | [] => n
  | s :: _ => s.1
/-- r's first K numbers lie below A, the others don't; from A on to T all are r's, T is not -/
structure Pos (r : List Nat) (A K T : Nat) : Prop where
  le : A ≤ T
  kl : K ≤ r.length
  lo : ∀ j x, r[j]? = some x → j < K → x < A
  hi : ∀ j x, r[j]? = some x → K ≤ j → A ≤ x
  mid : ∀ i, A ≤ i → i < T → i ∈ r
  no : ¬ T ∈ r
theorem Pos.at {r : List Nat} {A K T : Nat} (h : Pos r A K T) (hs : r.Pairwise (· < ·)) (hA : A < T) : r[K]? = some A ∧ Pos r (A + 1) (K + 1) T := by
  obtain ⟨j, hj⟩ := List.mem_iff_getElem?.1 (h.mid A (Nat.le_refl _) hA)
  have h1 : K ≤ j := by
    rcases Nat.lt_or_ge j K with h1 | h1
    · have := h.lo j A hj h1; omega
    · exact h1
  have hjl : j < r.length := by
    rcases Nat.lt_or_ge j r.length with h2 | h2
    · exact h2
    · rw [List.getElem?_eq_none h2] at hj; cases hj
  have h2 : j = K := by
    rcases Nat.lt_or_ge K j with h2 | h2
    · have e : r[K]? = some (r[K]'(by omega)) := List.getElem?_eq_getElem (by omega)
      have a := h.hi K _ e (Nat.le_refl _)
      have b := List.pairwise_iff_getElem.1 hs K j (by omega) hjl h2
      rw [List.getElem?_eq_getElem hjl] at hj
      have := Option.some.inj hj
      omega
    · omega
  subst h2
  refine ⟨hj, by omega, by omega, fun i x hx hi => ?_, fun i x hx hi => ?_, fun i h1 h2 => h.mid i (by omega) h2, h.no⟩
  · rcases Nat.lt_or_ge i j with h3 | h3
    · have := h.lo i x hx h3; omega
    · obtain rfl : i = j := by omega
      rw [hj] at hx
      have := Option.some.inj hx
      omega
  · have hil : i < r.length := by
      rcases Nat.lt_or_ge i r.length with h2 | h2
      · exact h2
      · rw [List.getElem?_eq_none h2] at hx; cases hx
    have b := List.pairwise_iff_getElem.1 hs j i hjl hil (by omega)
    rw [List.getElem?_eq_getElem hil] at hx
    rw [List.getElem?_eq_getElem hjl] at hj
    have := Option.some.inj hj
    have := Option.some.inj hx
    omega
theorem Pos.done {r : List Nat} {K T : Nat} (h : Pos r T K T) {x : Nat} (hx : r[K]? = some x) : x ≠ T := fun e => h.no (by rw [← e]; exact List.mem_of_getElem? hx)
/-- where the walk stands: what is left of the spans -/
structure Stand (r : List Nat) (n A K : Nat) (rest : List (Nat × Nat)) : Prop where
  kl : K ≤ r.length
  lo : ∀ j x, r[j]? = some x → j < K → x < A
  hi : ∀ j x, r[j]? = some x → K ≤ j → A ≤ x
  ap : Apt A n rest (fun i => decide (i ∈ r))
theorem Stand.pos {r : List Nat} {n A K : Nat} {rest : List (Nat × Nat)} (h : Stand r n A K rest) (hn : ∀ x ∈ r, x < n) : Pos r A K (tgt n rest) := by
  have ap := h.ap
  cases rest with
  | nil => exact ⟨ap.1, h.kl, h.lo, h.hi, fun i h1 h2 => of_decide_eq_true (ap.2 i h1 h2), fun hc => Nat.lt_irrefl _ (hn _ hc)⟩
  | cons s rest =>
    obtain ⟨a1, a2, a3, a4, a5, a6⟩ := ap
    exact ⟨a1, h.kl, h.lo, h.hi, fun i h1 h2 => of_decide_eq_true (a4 i h1 h2), fun hc => by
      have := a5 s.1 (Nat.le_refl _) a2
      have h2 := of_decide_eq_false this
      exact h2 hc⟩
theorem Stand.next {r : List Nat} {n A K A' K' : Nat} {s : Nat × Nat} {rest : List (Nat × Nat)} (h : Stand r n A K (s :: rest)) (p : Pos r A' K' s.1) (he : A' = s.1) : s.1 < s.2 ∧ s.2 ≤ n ∧ Stand r n s.2 K' rest := by
  obtain ⟨a1, a2, a3, a4, a5, a6⟩ := h.ap
  subst he
  refine ⟨a2, a3, p.kl, fun j x hx hj => ?_, fun j x hx hj => ?_, a6⟩
  · have := p.lo j x hx hj; omega
  · have h1 := p.hi j x hx hj
    rcases Nat.lt_or_ge x s.2 with h2 | h2
    · exact absurd (List.mem_of_getElem? hx) (of_decide_eq_false (a5 x h1 h2))
    · exact h2
theorem Stand.last {r : List Nat} {n K' : Nat} (hn : ∀ x ∈ r, x < n) (p : Pos r n K' n) : K' = r.length := by
  rcases Nat.lt_or_ge K' r.length with h | h
  · have e : r[K']? = some r[K'] := List.getElem?_eq_getElem h
    have := p.hi K' _ e (Nat.le_refl _)
    have := hn _ (List.getElem_mem h)
    omega
  · have := p.kl; omega
theorem Stand.start {r : List Nat} {n : Nat} {L : List (Nat × Nat)} (h : Apt 0 n L (fun i => decide (i ∈ r))) : Stand r n 0 0 L := ⟨Nat.zero_le _, fun j x _ h => by omega, fun j x _ _ => Nat.zero_le _, h⟩
/-- a run [x, y) of leaves left out, walked: A is where the walk stands -/
structure Over (x y n A : Nat) (rest : List (Nat × Nat)) : Prop where
  out : A ≤ x ∨ y ≤ A
  le : A ≤ n
  ap : Apt A n rest (fun i => decide (x ≤ i ∧ i < y))
/-- behind the run, where the walk stands at its begin -/
def hop (x y A : Nat) : Nat := if A = x then y else A
theorem Over.next {x y n A : Nat} {s : Nat × Nat} {rest : List (Nat × Nat)} (h : Over x y n A (s :: rest)) (hxy : x < y) : s.1 = hop x y A ∧ s.1 < s.2 ∧ s.2 ≤ n ∧ Over x y n s.2 rest := by
  obtain ⟨a1, a2, a3, a4, a5, a6⟩ := h.ap
  have n1 : ¬ (x ≤ s.1 ∧ s.1 < y) := of_decide_eq_false (a5 s.1 (Nat.le_refl _) a2)
  have ho := h.out
  have e : s.1 = hop x y A := by
    unfold hop
    split
    · rename_i hA
      subst hA
      rcases Nat.lt_or_ge y s.1 with h1 | h1
      · have := of_decide_eq_true (a4 y (by omega) h1); omega
      · omega
    · rename_i hA
      rcases Nat.lt_or_ge A s.1 with h1 | h1
      · have := of_decide_eq_true (a4 A (Nat.le_refl _) h1); omega
      · omega
  refine ⟨e, a2, a3, ?_, a3, a6⟩
  rcases Nat.lt_or_ge s.1 x with h1 | h1
  · rcases Nat.lt_or_ge x s.2 with h2 | h2
    · have : ¬ (x ≤ x ∧ x < y) := of_decide_eq_false (a5 x (by omega) h2)
      omega
    · exact .inl h2
  · exact .inr (by omega)
theorem Over.last {x y n A : Nat} (h : Over x y n A []) (hxy : x < y) (hy : y ≤ n) : hop x y A = n := by
  obtain ⟨a1, a2⟩ := h.ap
  have ho := h.out
  unfold hop
  split
  · rename_i hA
    subst hA
    rcases Nat.lt_or_ge y n with h1 | h1
    · have := of_decide_eq_true (a2 y (by omega) h1); omega
    · omega
  · rename_i hA
    rcases Nat.lt_or_ge A n with h1 | h1
    · have := of_decide_eq_true (a2 A (Nat.le_refl _) h1); omega
    · omega
theorem Over.start {x y n : Nat} {L : List (Nat × Nat)} (h : Apt 0 n L (fun i => decide (x ≤ i ∧ i < y))) : Over x y n 0 L := ⟨.inl (Nat.zero_le _), Nat.zero_le _, h⟩
end Tree
end Go.Proofs.YtjodbmbadhbblaaDoor
