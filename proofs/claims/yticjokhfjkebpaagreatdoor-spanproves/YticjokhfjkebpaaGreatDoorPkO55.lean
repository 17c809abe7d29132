import Derived.Test.YticjokhfjkebpaaGreatDoorPkO53
namespace Go.Proofs.YticjokhfjkebpaaGreatDoor
open Go.RowKit
theorem En.of {μ μ' : Mu} {i : Nat} {s : Value} (e : En μ i s) (h : ∀ g ℓ, μ g = some (i, ℓ) → μ' g = some (i, ℓ)) : En μ' i s := by
  rcases e with rfl | ⟨g, n, c, ℓ, rfl, h1, h2, h3⟩
  · exact .inl rfl
  · exact .inr ⟨g, n, c, ℓ, rfl, h1, h2, h g ℓ h3⟩
theorem Xs.below {w w' : World} {base : Nat} {x : Value} {i ℓ : Nat} {μ : Mu} (h : Xs w base x i ℓ μ) (hb : Below w.heap.size w w') : Xs w' base x i ℓ μ := ⟨h.own.below hb (Nat.le_refl _), h.mrkd, h.en⟩
/-- another list grew -/
theorem Xs.other {w w' : World} {base : Nat} {x x' u : Value} {i j ℓ n : Nat} {μ μ' : Mu} (hu : Xs w base u j n μ) (hx : Xs w base x i ℓ μ) (hne : j ≠ i) (hg : Grow w w' x x') (hm : ∀ g k m, μ g = some (k, m) → k ≠ i → μ' g = some (k, m)) : Xs w' base u j n μ' := by
  refine ⟨hu.own.same hg.size fun g hgu => hg.old g (hu.own.lt g hgu) fun e => ?_, fun g hgu => hm g j n (hu.mrkd g hgu) hne, hu.en.of fun g m h => hm g j m h hne⟩
  have h1 := hx.mrkd g e
  rw [hu.mrkd g hgu] at h1
  injection h1 with h1
  exact hne (congrArg Prod.fst h1)
/-- the book's own lists grew -/
theorem Xs.book {w w' : World} {X base : Nat} {vl vg vh : Value} {us GS : List Value} {HS : List Nat} {μ : Mu} (hs : St w X base vl vg vh us GS HS μ) {x : Value} {i ℓ : Nat} (hx : Xs w base x i ℓ μ) {v v' : Value} (hv : v = vg ∨ v = vh) (hg : Grow w w' v v') (o : Nat) (y : Value) : Xs (w'.setCell ⟨X, o, none⟩ y) base x i ℓ μ := by
  refine ⟨hx.own.same (by simp [World.setCell]; exact hg.size) fun g hgx => ?_, hx.mrkd, hx.en⟩
  have hB := (hs.mkd g i ℓ (hx.mrkd g hgx)).2.2.1
  rw [Below.heap_setCell w' _ y g (fun e => hB (.inl e))]
  refine hg.old g (hx.own.lt g hgx) fun e => ?_
  rcases hv with rfl | rfl
  · exact hB (.inr (.inr (.inl e)))
  · exact hB (.inr (.inr (.inr e)))
theorem Grow.below {w w' : World} {v v' : Value} {base : Nat} (h : Grow w w' v v') (hv : ∀ k, v.ownBlock = some k → base ≤ k) (hb : base ≤ w.heap.size) : Below base w w' := ⟨h.os, h.tape, h.output, h.size, fun k hk => h.old k (by omega) fun e => by have := hv k e; omega⟩
theorem St.c2 {w : World} {X base : Nat} {vl vg vh : Value} {us GS : List Value} {HS : List Nat} {μ : Mu} (h : St w X base vl vg vh us GS HS μ) : w.cell? ⟨X, 2, none⟩ = some vl := by rw [cell_of_row _ _ _ _ _ _ h.row]; rfl
theorem St.c3 {w : World} {X base : Nat} {vl vg vh : Value} {us GS : List Value} {HS : List Nat} {μ : Mu} (h : St w X base vl vg vh us GS HS μ) : w.cell? ⟨X, 3, none⟩ = some vg := by rw [cell_of_row _ _ _ _ _ _ h.row]; rfl
theorem St.c4 {w : World} {X base : Nat} {vl vg vh : Value} {us GS : List Value} {HS : List Nat} {μ : Mu} (h : St w X base vl vg vh us GS HS μ) : w.cell? ⟨X, 4, none⟩ = some vh := by rw [cell_of_row _ _ _ _ _ _ h.row]; rfl
/-- the field that is stored behind an append -/
theorem St.field {w w' : World} {X base : Nat} {vl vg vh : Value} {us GS : List Value} {HS : List Nat} {μ : Mu} (h : St w X base vl vg vh us GS HS μ) {v v' : Value} (hv : v = vg ∨ v = vh) (hg : Grow w w' v v') : w'.cell? ⟨X, 3, none⟩ = some vg ∧ w'.frozen? ⟨X, 3, none⟩ = false ∧ w'.cell? ⟨X, 4, none⟩ = some vh ∧ w'.frozen? ⟨X, 4, none⟩ = false := by
  have hne : v.ownBlock ≠ some X := fun e => by
    rcases hv with rfl | rfl
    · exact h.dX X (.inr (.inl e)) rfl
    · exact h.dX X (.inr (.inr e)) rfl
  have r := (hg.old X (lt_of_heap h.row) hne).trans h.row
  exact ⟨by rw [cell_of_row _ _ _ _ _ _ r]; rfl, frozen_of_row _ _ _ _ _ r, by rw [cell_of_row _ _ _ _ _ _ r]; rfl, frozen_of_row _ _ _ _ _ r⟩
theorem ins_length (l : List Nat) : (ins l).length = l.length := by simp [ins]
theorem alloc_cell {w : World} {X : Nat} (hX : X < w.heap.size) (o : Nat) (ob : Obj) : (w.alloc ob).cell? ⟨X, o, none⟩ = w.cell? ⟨X, o, none⟩ := World.cell?_of_block (w := w) (Below.heap_alloc w ob X hX)
end Go.Proofs.YticjokhfjkebpaaGreatDoor
