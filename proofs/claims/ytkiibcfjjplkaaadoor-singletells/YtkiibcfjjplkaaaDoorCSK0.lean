import Derived.Test.YtkiibcfjjplkaaaDoorCFS1
namespace Go.Proofs.YtkiibcfjjplkaaaDoor
open Go.RowKit Go.Shelf

theorem OwnM.set {m : Nat} {w : World} {g n c : Nat} {cs : List Value} (h : OwnM m w (.slice (some ⟨g, 0, none⟩) n c) n cs) {j : Nat} (hj : j < cs.length) (u : Value) :
    OwnM m (w.setCell ⟨g, j, none⟩ u) (.slice (some ⟨g, 0, none⟩) n c) n (cs.set j u) ∧ (∃ y, w.cell? ⟨g, j, none⟩ = some y) ∧ w.frozen? ⟨g, j, none⟩ = false := by
  rcases h with ⟨h, _⟩ | ⟨g', cap', h, h2, h3, h0, h4, h5, h6⟩
  · cases h
  injection h with e1 e2 e3
  injection e1 with e1
  injection e1 with e1
  subst e1 e3
  have ht := h5 j (by have := Nat.mul_le_mul_right m h2; omega)
  rw [Nat.zero_add] at ht
  obtain ⟨y, hy⟩ := Option.isSome_iff_exists.1 ht.1
  refine ⟨.inr ⟨g, c, rfl, h2, h3, by rw [List.length_set]; exact h0, ?_, ?_, by simpa [World.setCell] using h6⟩, ⟨y, hy⟩, ht.2⟩
  · intro k u' hk
    rw [List.getElem?_set] at hk
    rw [Nat.zero_add]
    split at hk
    · next e =>
      subst e
      (try split at hk) <;> first | (rw [World.cell?_setCell_same _ _ _ (by rw [hy]; try rfl)]; exact hk) | cases hk
    · next e =>
      rw [World.cell?_setCell_other _ _ _ _ (by simp; try exact fun e' => e e'.symm)]
      have := h4 k u' hk
      rwa [Nat.zero_add] at this
  · intro k hk
    have := h5 k hk
    rw [World.frozen?_setCell]
    refine ⟨?_, this.2⟩
    by_cases e : j = 0 + k
    · rw [← e, World.cell?_setCell_same _ _ _ (by rw [hy]; try rfl)]; rfl
    · rw [World.cell?_setCell_other _ _ _ _ (by simp; try exact fun e' => e (by omega))]; exact this.1
/-- blocks by their roles: only those of role r are written -/
structure Wr (ρ : Nat → Nat) (r : Nat) (w w' : World) : Prop where
  os : w'.os = w.os
  tape : w'.tape = w.tape
  output : w'.output = w.output
  size : w.heap.size ≤ w'.heap.size
  block : ∀ k, k < w.heap.size → ρ k ≠ r → w'.heap[k]? = w.heap[k]?
/-- what is new has this role -/
def rx (ρ : Nat → Nat) (w : World) (r : Nat) : Nat → Nat := fun k => if k < w.heap.size then ρ k else r
theorem rx_old {ρ : Nat → Nat} {w : World} {r k : Nat} (h : k < w.heap.size) : rx ρ w r k = ρ k := if_pos h
theorem rx_new {ρ : Nat → Nat} {w : World} {r k : Nat} (h : w.heap.size ≤ k) : rx ρ w r k = r := if_neg (by omega)
theorem Wr.grow {ρ : Nat → Nat} {r : Nat} {w w' : World} {v v' : Value} (hg : Grow w w' v v') (hr : ∀ k, v.ownBlock = some k → ρ k = r) : Wr ρ r w w' :=
  ⟨hg.os, hg.tape, hg.output, hg.size, fun k hk hne => hg.old k hk (fun e => hne (hr k e))⟩
theorem Wr.setCell {ρ : Nat → Nat} {r : Nat} {w w' : World} (h : Wr ρ r w w') {g : Nat} (hg : g < w.heap.size → ρ g = r) (o : Nat) (u : Value) : Wr ρ r w (w'.setCell ⟨g, o, none⟩ u) :=
  ⟨h.os, h.tape, h.output, by simpa [World.setCell] using h.size, fun k hk hne => (heap_setCell_other w' ⟨g, o, none⟩ k u (fun e => hne (by subst e; exact hg hk))).trans (h.block k hk hne)⟩
theorem Wr.refl (ρ : Nat → Nat) (r : Nat) (w : World) : Wr ρ r w w := ⟨rfl, rfl, rfl, Nat.le_refl _, fun _ _ _ => rfl⟩
theorem Wr.below {ρ : Nat → Nat} {r : Nat} {w w' : World} (h : Below w.heap.size w w') : Wr ρ r w w' := ⟨h.os, h.tape, h.output, h.size, fun k hk _ => h.block k hk⟩
theorem Wr.own {ρ : Nat → Nat} {r : Nat} {w w' : World} {v v' : Value} (hg : Grow w w' v v') (hr : ∀ k, v.ownBlock = some k → ρ k = r) (hl : ∀ k, v.ownBlock = some k → k < w.heap.size) : ∀ k, v'.ownBlock = some k → rx ρ w r k = r := fun k e => by
  rcases hg.alt with e1 | ⟨e1, _⟩
  · rw [e1] at e; rw [rx_old (hl k e)]; exact hr k e
  · exact rx_new (e1 k e)
end Go.Proofs.YtkiibcfjjplkaaaDoor
