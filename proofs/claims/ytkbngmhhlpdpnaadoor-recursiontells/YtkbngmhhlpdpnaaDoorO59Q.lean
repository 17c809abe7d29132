import Derived.Test.YtkbngmhhlpdpnaaDoorO57
import Derived.Test.YtkbngmhhlpdpnaaDoorO58
import Derived.Test.YtkbngmhhlpdpnaaDoorO53
namespace Go.Proofs.YtkbngmhhlpdpnaaDoor
open Go.RowKit
/-- what holds while the law asks -/
structure Cx (W w : World) (H X g cw : Nat) (qs : List (List UInt8)) (cs : List Int) (vf vw : Value) (us cc : List Value) (Ls : List (List (List UInt8))) : Prop where
  bel : Below W.heap.size W w
  row : Row w H (qs ++ behind 8)
  want : Own w (H + 1) (.slice (some ⟨g, 0, none⟩) (cs.length + 8) cw) (ivs (cs ++ sevens))
  bk : Bk w X vf vw us cc Ls
  hH : W.heap.size ≤ H
  hg : H < g
  hX : g < X
theorem Cx.below {W w w' : World} {H X g cw : Nat} {qs : List (List UInt8)} {cs : List Int} {vf vw : Value} {us cc : List Value} {Ls : List (List (List UInt8))} (h : Cx W w H X g cw qs cs vf vw us cc Ls) (hb : Below w.heap.size w w') : Cx W w' H X g cw qs cs vf vw us cc Ls :=
  ⟨h.bel.trans (hb.mono h.bel.size), h.row.below hb h.row.lt, h.want.below hb (Nat.le_refl _), h.bk.below hb, h.hH, h.hg, h.hX⟩
theorem Cx.but {W w w' : World} {H X g cw : Nat} {qs qs' : List (List UInt8)} {cs : List Int} {vf vw : Value} {us cc : List Value} {Ls : List (List (List UInt8))} (h : Cx W w H X g cw qs cs vf vw us cc Ls) (hb : But H w w') (hR : Row w' H (qs' ++ behind 8)) : Cx W w' H X g cw qs' cs vf vw us cc Ls :=
  ⟨h.bel.trans (hb.below h.hH h.bel.size), hR, h.want.but hb (fun e => by have := h.hg; have e' : g = H := Option.some.inj e; omega), h.bk.but hb (by have := h.hg; have := h.hX; omega), h.hH, h.hg, h.hX⟩
theorem Cx.take {W w w' : World} {H X g cw b2 : Nat} {qs : List (List UInt8)} {cs : List Int} {vf vw u : Value} {us cc : List Value} {Ls : List (List (List UInt8))} {L : List (List UInt8)} {vf' vw' c : Value} (h : Cx W w H X g cw qs cs vf vw us cc Ls)
    (T : Took w w' X X vf vw (.slice none 0 0) (.slice none 0 0) (.slice none 0 0) u us cc L vf' vw' c) (hu : Own w b2 u (svs L)) (hb2 : X ≤ b2) (hL : L.length ≤ 1000000) (hF : Fr X vf vw us u) : Cx W w' H X g cw qs cs vf' vw' (us ++ [u]) (cc ++ [c]) (Ls ++ [L]) := by
  have hS : ∀ k, k < X → ¬ (k = X ∨ vf.ownBlock = some k ∨ vw.ownBlock = some k) := fun k hk e => by
    rcases e with e | e | e
    · omega
    · have := h.bk.free.ge k e; omega
    · have := h.bk.was.ge k e; omega
  have h1 := h.hH
  have h2 := h.hg
  have h3 := h.hX
  have hsz := h.bel.size
  refine ⟨h.bel.trans ⟨T.keep.os, T.keep.tape, T.keep.output, T.keep.size, fun k hk => T.keep.block k (by omega) (hS k (by omega))⟩, ?_, h.want.keep T.keep (fun k hk => ?_), h.bk.take T hu hb2 hL hF, h1, h2, h3⟩
  · exact (T.keep.block H h.row.lt (hS H (by omega))).trans h.row
  · have e : g = k := Option.some.inj hk
    subst e
    exact hS g h3
theorem Cx.ints {W w : World} {H X g cw : Nat} {qs : List (List UInt8)} {cs : List Int} {vf vw : Value} {us cc : List Value} {Ls : List (List (List UInt8))} (h : Cx W w H X g cw qs cs vf vw us cc Ls) : AtI w (some ⟨g, 0, none⟩) (cs ++ sevens) ∧ cs.length + 8 ≤ cw ∧ cw ≤ 9223372036854775807 := by
  obtain ⟨a, c, e, h1, h2, h3⟩ := h.want.atI
  injection e with e1 e2 e3
  subst e1 e3
  refine ⟨h1, ?_, h3⟩
  rw [List.length_append] at h2
  exact h2
theorem Cx.wanted {W w : World} {H X g cw : Nat} {qs : List (List UInt8)} {cs : List Int} {vf vw : Value} {us cc : List Value} {Ls : List (List (List UInt8))} (h : Cx W w H X g cw qs cs vf vw us cc Ls) : AtI w (some ⟨g, 0, none⟩) cs := by
  have := h.ints.1.take cs.length
  rwa [List.take_left] at this
theorem Cx.seven {W w : World} {H X g cw : Nat} {qs : List (List UInt8)} {cs : List Int} {vf vw : Value} {us cc : List Value} {Ls : List (List (List UInt8))} (h : Cx W w H X g cw qs cs vf vw us cc Ls) {j : Nat} (hj : j < 8) : w.cell? ⟨g, cs.length + j, none⟩ = some (.int .i64 77) := by
  obtain ⟨x, hx, _, hc⟩ := h.ints.1 (cs.length + j) 77 (by
    rw [List.getElem?_append_right (by omega), Nat.add_sub_cancel_left]
    have : ∀ j : Fin 8, sevens[j.val]? = some 77 := by decide
    exact this ⟨j, hj⟩)
  obtain rfl := Option.some.inj hx
  rw [Addr.add_mid, Nat.zero_add] at hc
  exact hc
end Go.Proofs.YtkbngmhhlpdpnaaDoor

namespace Go.Proofs.YtkbngmhhlpdpnaaDoor
open Go.RowKit
theorem En.of {μ μ' : Mu} {i : Nat} {s : Value} (e : En μ i s) (h : ∀ g ℓ, μ g = some (i, ℓ) → μ' g = some (i, ℓ)) : En μ' i s := by
  rcases e with rfl | ⟨g, n, c, ℓ, rfl, h1, h2, h3⟩
  · exact .inl rfl
  · exact .inr ⟨g, n, c, ℓ, rfl, h1, h2, h g ℓ h3⟩
theorem Xs.below {w w' : World} {base : Nat} {x : Value} {i ℓ : Nat} {μ : Mu} (h : Xs w base x i ℓ μ) (hb : Below w.heap.size w w') : Xs w' base x i ℓ μ := ⟨h.own.below hb (Nat.le_refl _), h.mrkd, h.en⟩
/-- another list grew -/
theorem Xs.other {w w' : World} {base : Nat} {x x' u : Value} {i j ℓ n : Nat} {μ μ' : Mu} (hu : Xs w base u j n μ) (hx : Xs w base x i ℓ μ) (hne : j ≠ i) (hg : Grow w w' x x') (hm : ∀ g k m, μ g = some (k, m) → k ≠ i → μ' g = some (k, m)) : Xs w' base u j n μ' := by
  refine ⟨hu.own.same hg.size fun g hgu => hg.old g (hu.own.lt g hgu) fun e => ?_, fun g hgu => hm g j n (hu.mrkd g hgu) hne, hu.en.of fun g m h => hm g j m h hne⟩
  have h1 := hx.mrkd g e
  rw [hu.mrkd g hgu] at h1
  injection h1 with h1
  exact hne (congrArg Prod.fst h1)
/-- the book's own lists grew -/
theorem Xs.book {w w' : World} {X base : Nat} {vl vg vh : Value} {us GS : List Value} {HS : List Nat} {μ : Mu} (hs : St w X base vl vg vh us GS HS μ) {x : Value} {i ℓ : Nat} (hx : Xs w base x i ℓ μ) {v v' : Value} (hv : v = vg ∨ v = vh) (hg : Grow w w' v v') (o : Nat) (y : Value) : Xs (w'.setCell ⟨X, o, none⟩ y) base x i ℓ μ := by
  refine ⟨hx.own.same (by simp [World.setCell]; exact hg.size) fun g hgx => ?_, hx.mrkd, hx.en⟩
  have hB := (hs.mkd g i ℓ (hx.mrkd g hgx)).2.2.1
  rw [Below.heap_setCell w' _ y g (fun e => hB (.inl e))]
  refine hg.old g (hx.own.lt g hgx) fun e => ?_
  rcases hv with rfl | rfl
  · exact hB (.inr (.inr (.inl e)))
  · exact hB (.inr (.inr (.inr e)))
theorem Grow.below {w w' : World} {v v' : Value} {base : Nat} (h : Grow w w' v v') (hv : ∀ k, v.ownBlock = some k → base ≤ k) (hb : base ≤ w.heap.size) : Below base w w' := ⟨h.os, h.tape, h.output, h.size, fun k hk => h.old k (by omega) fun e => by have := hv k e; omega⟩
theorem St.c2 {w : World} {X base : Nat} {vl vg vh : Value} {us GS : List Value} {HS : List Nat} {μ : Mu} (h : St w X base vl vg vh us GS HS μ) : w.cell? ⟨X, 2, none⟩ = some vl := by rw [cell_of_row _ _ _ _ _ _ h.row]; rfl
theorem St.c3 {w : World} {X base : Nat} {vl vg vh : Value} {us GS : List Value} {HS : List Nat} {μ : Mu} (h : St w X base vl vg vh us GS HS μ) : w.cell? ⟨X, 3, none⟩ = some vg := by rw [cell_of_row _ _ _ _ _ _ h.row]; rfl
theorem St.c4 {w : World} {X base : Nat} {vl vg vh : Value} {us GS : List Value} {HS : List Nat} {μ : Mu} (h : St w X base vl vg vh us GS HS μ) : w.cell? ⟨X, 4, none⟩ = some vh := by rw [cell_of_row _ _ _ _ _ _ h.row]; rfl
/-- the field that is stored behind an append -/
theorem St.field {w w' : World} {X base : Nat} {vl vg vh : Value} {us GS : List Value} {HS : List Nat} {μ : Mu} (h : St w X base vl vg vh us GS HS μ) {v v' : Value} (hv : v = vg ∨ v = vh) (hg : Grow w w' v v') : w'.cell? ⟨X, 3, none⟩ = some vg ∧ w'.frozen? ⟨X, 3, none⟩ = false ∧ w'.cell? ⟨X, 4, none⟩ = some vh ∧ w'.frozen? ⟨X, 4, none⟩ = false := by
  have hne : v.ownBlock ≠ some X := fun e => by
    rcases hv with rfl | rfl
    · exact h.dX X (.inr (.inl e)) rfl
    · exact h.dX X (.inr (.inr e)) rfl
  have r := (hg.old X (lt_of_heap h.row) hne).trans h.row
  exact ⟨by rw [cell_of_row _ _ _ _ _ _ r]; rfl, frozen_of_row _ _ _ _ _ r, by rw [cell_of_row _ _ _ _ _ _ r]; rfl, frozen_of_row _ _ _ _ _ r⟩
theorem ins_length (l : List Nat) : (ins l).length = l.length := by simp [ins]
theorem alloc_cell {w : World} {X : Nat} (hX : X < w.heap.size) (o : Nat) (ob : Obj) : (w.alloc ob).cell? ⟨X, o, none⟩ = w.cell? ⟨X, o, none⟩ := World.cell?_of_block (w := w) (Below.heap_alloc w ob X hX)
end Go.Proofs.YtkbngmhhlpdpnaaDoor
