import Derived.Test.YtonmhimoglgbgaaDoorBK2
namespace Go.Proofs.YtonmhimoglgbgaaDoor
open Go.RowKit

theorem getSnoc {α : Type} {l : List α} {x y : α} {i : Nat} (h : (l ++ [x])[i]? = some y) : (i < l.length ∧ l[i]? = some y) ∨ (i = l.length ∧ y = x) := by
  by_cases hi : i < l.length
  · rw [List.getElem?_append_left hi] at h
    exact .inl ⟨hi, h⟩
  · have hl := (List.getElem?_eq_some_iff.1 h).1
    simp at hl
    have hm : i = l.length := by omega
    subst hm
    rw [List.getElem?_append_right (Nat.le_refl _), Nat.sub_self] at h
    exact .inr ⟨rfl, (Option.some.inj h).symm⟩
/-- new roles alone: what was, is -/
structure Ad (X : Nat) (w : World) (ρ : Rol) (w' : World) (ρ' : Rol) (o : Nat) : Prop where
  size : w.heap.size ≤ w'.heap.size
  old : ∀ k r, ρ k = some r → ¬ r.lst o → w'.heap[k]? = w.heap[k]?
  ext : ∀ k r, ρ k = some r → ρ' k = some r
  new : ∀ k r, ρ' k = some r → ρ k = some r ∨ (r.lst o ∧ X ≤ k ∧ k < w'.heap.size)
/-- one more list is kept untouched -/
theorem Lst.push {w w' : World} {X o lo b2 : Nat} {ρ : Rol} {v v' x : Value} {us : List Value} {Ls : List (List Value)} {L : List Value} (h : Lst w X ρ o lo v us Ls) (hlt : Lt w X ρ) (hg : Grow w w' v v') (ho : Own w' X v' (us ++ [x])) (hx : Own w b2 x L) (hb2 : X ≤ b2) (hL : L.length ≤ 1100000) (hf : ∀ g, x.ownBlock = some g → ρ g = none) :
    ∃ ρ', Lst w' X ρ' o lo v' (us ++ [x]) (Ls ++ [L]) ∧ Ad X w ρ w' ρ' o := by
  have hxl : ∀ g, x.ownBlock = some g → g < w.heap.size := hx.lt
  have hnew : ∀ k, v'.ownBlock = some k → ρ k = some (.fld o) ∨ (ρ k = none ∧ w.heap.size ≤ k) := fun k hk => by
    rcases hg.alt with e | ⟨e, _⟩
    · exact .inl (h.rl k (e ▸ hk))
    · refine .inr ⟨?_, e k hk⟩
      cases hr : ρ k with
      | none => rfl
      | some r => have := (hlt k r hr).2; have := e k hk; omega
  have hvx : ∀ k, v'.ownBlock = some k → x.ownBlock ≠ some k := fun k h1 h2 => by
    rcases hnew k h1 with e | ⟨_, e⟩
    · rw [hf k h2] at e; cases e
    · have := hxl k h2; omega
  have hxv : ∀ k, x.ownBlock = some k → v.ownBlock ≠ some k := fun k h1 h2 => by
    have := h.rl k h2
    rw [hf k h1] at this; cases this
  obtain ⟨ρ', hρ⟩ : ∃ ρ' : Rol, ∀ k, ρ' k = if v'.ownBlock = some k then some (.fld o) else if x.ownBlock = some k then some (.ls o us.length) else ρ k := ⟨fun k => if v'.ownBlock = some k then some (.fld o) else if x.ownBlock = some k then some (.ls o us.length) else ρ k, fun k => rfl⟩
  have hext : ∀ k r, ρ k = some r → ρ' k = some r := fun k r hr => by
    rw [hρ]
    split
    · rename_i e
      rcases hnew k e with e' | ⟨e', _⟩
      · rw [← e']; exact hr
      · rw [e'] at hr; cases hr
    · split
      · rename_i e
        rw [hf k e] at hr; cases hr
      · exact hr
  have hold : ∀ k r, ρ k = some r → ¬ r.lst o → w'.heap[k]? = w.heap[k]? := fun k r hr hn => hg.old k (hlt k r hr).2 fun e => by
    rw [h.rl k e] at hr
    obtain rfl := Option.some.inj hr
    exact hn rfl
  refine ⟨ρ', ⟨ho, fun k hk => by rw [hρ, if_pos hk], by simp [h.len], fun k u M h0 h1 h2 => ?_⟩, ⟨hg.size, hold, hext, fun k r hr => ?_⟩⟩
  · rcases getSnoc h1 with ⟨hi, k1⟩ | ⟨hi, k1⟩
    · rw [List.getElem?_append_left (by rw [← h.len]; exact hi)] at h2
      obtain ⟨o1, o2, o3⟩ := h.each k u M h0 k1 h2
      refine ⟨o1.kept hg.size fun g hv => hg.old g (o1.lt g hv) fun e => ?_, o2, fun g hv => hext g _ (o3 g hv)⟩
      have := h.rl g e
      rw [o3 g hv] at this; cases this
    · subst k1
      rw [hi, h.len, List.getElem?_append_right (Nat.le_refl _), Nat.sub_self] at h2
      obtain rfl := Option.some.inj h2
      refine ⟨(hx.mono hb2).kept hg.size fun g hv => hg.old g (hxl g hv) (hxv g hv), hL, fun g hv => ?_⟩
      rw [hρ, if_neg fun e => hvx g e hv, if_pos hv, hi]
  · rw [hρ] at hr
    split at hr
    · rename_i e
      obtain rfl := Option.some.inj hr
      exact .inr ⟨rfl, ho.ge k e, ho.lt k e⟩
    · split at hr
      · rename_i e
        obtain rfl := Option.some.inj hr
        exact .inr ⟨rfl, Nat.le_trans hb2 (hx.ge k e), Nat.lt_of_lt_of_le (hxl k e) hg.size⟩
      · exact .inl hr
theorem Fam.ad {w w' : World} {X f o : Nat} {ρ ρ' : Rol} {mv : Nat → Value} {v : Value} {GS : List Value} (h : Fam w X ρ f mv v GS) (ha : Ad X w ρ w' ρ' o) (hne : o ≠ f) : Fam w' X ρ' f mv v GS :=
  h.keep ha.size (fun k r hr hf => ⟨ha.old k r hr (Ro.fam_lst hne hf), ha.ext k r hr⟩) fun g i l e => by
    rcases ha.new g _ e with e' | ⟨e', _⟩
    · exact e'
    · exact e'.elim
theorem Lst.ad {w w' : World} {X p lo o : Nat} {ρ ρ' : Rol} {v : Value} {us : List Value} {Ls : List (List Value)} (h : Lst w X ρ p lo v us Ls) (ha : Ad X w ρ w' ρ' o) (hne : p ≠ o) : Lst w' X ρ' p lo v us Ls :=
  h.keep ha.size fun k r hr hf => ⟨ha.old k r hr (Ro.lst_ne hne hf), ha.ext k r hr⟩
theorem Ad.lt {X : Nat} {w w' : World} {ρ ρ' : Rol} {o : Nat} (h : Ad X w ρ w' ρ' o) (l : Lt w X ρ) : Lt w' X ρ' := fun k r hr => by
  rcases h.new k r hr with e | ⟨_, h1, h2⟩
  · exact ⟨(l k r e).1, Nat.lt_of_lt_of_le (l k r e).2 h.size⟩
  · exact ⟨h1, h2⟩
/-- what the book has -/
structure BS where
  (vI vT v2 v3 v4 v5 : Value)
  (GI GT u2 u3 u4 u5 : List Value)
  (L2 L3 L4 L5 : List (List Value))
  (o2 o4 : Nat)
def mrk (i : Nat) : List UInt8 := [109, 97, 114, 107, UInt8.ofNat i, 0]
def mvI (i : Nat) : Value := .int .i64 (-5 - (i : Int))
def mvT (i : Nat) : Value := sv (mrk i)
structure Bk (w : World) (X : Nat) (ρ : Rol) (S : BS) : Prop where
  row : w.heap[X]? = some (.cells #[S.vI, S.vT, S.v2, S.v3, S.v4, S.v5] 44 (0, 0))
  rX : ρ X = some .book
  lt : Lt w X ρ
  I : Fam w X ρ 0 mvI S.vI S.GI
  T : Fam w X ρ 1 mvT S.vT S.GT
  f2 : Lst w X ρ 2 S.o2 S.v2 S.u2 S.L2
  f3 : Lst w X ρ 3 0 S.v3 S.u3 S.L3
  f4 : Lst w X ρ 4 S.o4 S.v4 S.u4 S.L4
  f5 : Lst w X ρ 5 0 S.v5 S.u5 S.L5
theorem Bk.same {w w' : World} {X : Nat} {ρ : Rol} {S : BS} (h : Bk w X ρ S) (hs : w.heap.size ≤ w'.heap.size) (hk : ∀ k r, ρ k = some r → w'.heap[k]? = w.heap[k]?) : Bk w' X ρ S :=
  ⟨(hk X _ h.rX).trans h.row, h.rX, fun k r hr => ⟨(h.lt k r hr).1, Nat.lt_of_lt_of_le (h.lt k r hr).2 hs⟩, h.I.keep hs (fun k r hr _ => ⟨hk k r hr, hr⟩) (fun _ _ _ e => e), h.T.keep hs (fun k r hr _ => ⟨hk k r hr, hr⟩) (fun _ _ _ e => e),
    h.f2.keep hs (fun k r hr _ => ⟨hk k r hr, hr⟩), h.f3.keep hs (fun k r hr _ => ⟨hk k r hr, hr⟩), h.f4.keep hs (fun k r hr _ => ⟨hk k r hr, hr⟩), h.f5.keep hs (fun k r hr _ => ⟨hk k r hr, hr⟩)⟩
theorem Bk.below {w w' : World} {X : Nat} {ρ : Rol} {S : BS} (h : Bk w X ρ S) (hb : Below w.heap.size w w') : Bk w' X ρ S := h.same hb.size fun k r hr => hb.block k (h.lt k r hr).2
theorem Bk.but {w w' : World} {X b : Nat} {ρ : Rol} {S : BS} (h : Bk w X ρ S) (hb : But b w w') (hX : b < X) : Bk w' X ρ S := h.same hb.size fun k r hr => hb.block k (h.lt k r hr).2 (by have := (h.lt k r hr).1; omega)
/-- a list that came out has no role yet -/
theorem Bk.fresh {w w' : World} {X b2 : Nat} {ρ : Rol} {S : BS} (h : Bk w X ρ S) {x : Value} {L : List Value} (hx : Own w' b2 x L) (hb : w.heap.size ≤ b2) : ∀ g, x.ownBlock = some g → ρ g = none := fun g hg => by
  cases hr : ρ g with
  | none => rfl
  | some r => have := (h.lt g r hr).2; have := hx.ge g hg; omega
/-- what may be touched: the book's blocks and the list that is handed in -/
def KS (ρ : Rol) (x : Value) : Nat → Prop := fun k => (∃ r, ρ k = some r) ∨ x.ownBlock = some k
theorem KS.below {w w' : World} {X b2 : Nat} {ρ : Rol} {S : BS} {x : Value} {L : List Value} (h : Bk w X ρ S) (hx : Own w b2 x L) (hb2 : X ≤ b2) (k : Keep (KS ρ x) w w') : Below X w w' :=
  k.below (by have := lt_of_heap h.row; omega) fun j hj e => by
    rcases e with ⟨r, hr⟩ | e
    · have := (h.lt j r hr).1; omega
    · have := hx.ge j e; omega
/-- a list that is marked comes into a family -/
theorem Bk.adopt {w : World} {X b2 f i l : Nat} {ρ : Rol} {S : BS} (h : Bk w X ρ S) {x : Value} {mv : Nat → Value} (hm0 : f = 0 → mv = mvI) (hm1 : f = 1 → mv = mvT) (hx : Own w b2 x (List.replicate l (mv i))) (hb2 : X ≤ b2) (hfr : ∀ g, x.ownBlock = some g → ρ g = none) :
    ∃ ρ', Bk w X ρ' S ∧ Xs w X ρ' f mv i l x ∧ ∀ k r, ρ' k = some r → ρ k = some r ∨ x.ownBlock = some k := by
  obtain ⟨ρ', hρ⟩ : ∃ ρ' : Rol, ∀ k, ρ' k = if x.ownBlock = some k then some (.mk f i l) else ρ k := ⟨fun k => if x.ownBlock = some k then some (.mk f i l) else ρ k, fun k => rfl⟩
  have hext : ∀ k r, ρ k = some r → ρ' k = some r := fun k r hr => by
    rw [hρ, if_neg fun e => by rw [hfr k e] at hr; cases hr]; exact hr
  have hfam : ∀ (g : Nat) (mv' : Nat → Value) (v : Value) (GS : List Value), (g = f → mv' = mv) → Fam w X ρ g mv' v GS → Fam w X ρ' g mv' v GS := fun g mv' v GS hg hF => by
    refine ⟨hF.own, fun k hk => hext k _ (hF.rl k hk), fun k i2 l2 hm j hj => ?_, fun n s hs => ?_⟩
    · rw [hρ] at hm
      split at hm
      · rename_i e
        injection hm with hm
        injection hm with e0 e1 e2
        subst e1 e2
        rw [hg e0.symm]
        exact own_cell hx e (by rw [List.getElem?_replicate, if_pos hj])
      · exact hF.mkd k i2 l2 hm j hj
    · rcases hF.ent n s hs with e | ⟨g', m, c, l', e1, e2, e3, e4⟩
      · exact .inl e
      · exact .inr ⟨g', m, c, l', e1, e2, e3, hext g' _ e4⟩
  have hk : ∀ (o : Nat) (k : Nat) (r : Ro), ρ k = some r → r.lst o → w.heap[k]? = w.heap[k]? ∧ ρ' k = some r := fun o k r hr _ => ⟨rfl, hext k r hr⟩
  refine ⟨ρ', ⟨h.row, hext X _ h.rX, fun k r hr => ?_, hfam 0 mvI _ _ (fun e => (hm0 e.symm).symm) h.I, hfam 1 mvT _ _ (fun e => (hm1 e.symm).symm) h.T, h.f2.keep (Nat.le_refl _) (hk 2), h.f3.keep (Nat.le_refl _) (hk 3), h.f4.keep (Nat.le_refl _) (hk 4), h.f5.keep (Nat.le_refl _) (hk 5)⟩, ⟨hx.mono hb2, fun g hg => by rw [hρ, if_pos hg]⟩, fun k r hr => ?_⟩
  · rw [hρ] at hr
    split at hr
    · rename_i e
      exact ⟨Nat.le_trans hb2 (hx.ge k e), hx.lt k e⟩
    · exact h.lt k r hr
  · rw [hρ] at hr
    split at hr
    · rename_i e
      exact .inr e
    · exact .inl hr
theorem setX_block (w : World) (X o : Nat) (y : Value) {k : Nat} (hk : k ≠ X) : (w.setCell ⟨X, o, none⟩ y).heap[k]? = w.heap[k]? := Below.heap_setCell w _ y k hk
theorem setX_size (w : World) (X o : Nat) (y : Value) : (w.setCell ⟨X, o, none⟩ y).heap.size = w.heap.size := by simp [World.setCell]
theorem Fam.setX {w : World} {X f : Nat} {ρ : Rol} {mv : Nat → Value} {v : Value} {GS : List Value} (h : Fam w X ρ f mv v GS) (hX : ρ X = some .book) (o : Nat) (y : Value) : Fam (w.setCell ⟨X, o, none⟩ y) X ρ f mv v GS :=
  h.keep (by rw [setX_size]; exact Nat.le_refl _) (fun k r hr hf => ⟨setX_block w X o y fun e => by rw [e, hX] at hr; obtain rfl := Option.some.inj hr; exact hf, hr⟩) fun _ _ _ e => e
theorem Lst.setX {w : World} {X p lo : Nat} {ρ : Rol} {v : Value} {us : List Value} {Ls : List (List Value)} (h : Lst w X ρ p lo v us Ls) (hX : ρ X = some .book) (o : Nat) (y : Value) : Lst (w.setCell ⟨X, o, none⟩ y) X ρ p lo v us Ls :=
  h.keep (by rw [setX_size]; exact Nat.le_refl _) fun k r hr hf => ⟨setX_block w X o y fun e => by rw [e, hX] at hr; obtain rfl := Option.some.inj hr; exact hf, hr⟩
theorem Lt.setX {w : World} {X : Nat} {ρ : Rol} (h : Lt w X ρ) (o : Nat) (y : Value) : Lt (w.setCell ⟨X, o, none⟩ y) X ρ := fun k r hr => by rw [setX_size]; exact h k r hr
/-- a family has grown: the book's field is stored -/
theorem Bk.grownI {w w' : World} {X : Nat} {ρ ρ' : Rol} {S : BS} {v' : Value} {G' : List Value} (h : Bk w X ρ S) (F : Fam w' X ρ' 0 mvI v' G') (M : Mv 0 X w ρ w' ρ') : w'.heap[X]? = w.heap[X]? ∧ Bk (w'.setCell ⟨X, 0, none⟩ v') X ρ' { S with vI := v', GI := G' } := by
  obtain ⟨e1, e2⟩ := M.kept h.lt h.rX (fun e => e)
  exact ⟨e1, ⟨heap_setCell_same w' X 0 _ _ v' (e1.trans h.row), e2, (M.lt h.lt).setX _ _, F.setX e2 _ _, (h.T.mv M (by decide) h.lt).setX e2 _ _, (h.f2.mv M (by decide) h.lt).setX e2 _ _, (h.f3.mv M (by decide) h.lt).setX e2 _ _, (h.f4.mv M (by decide) h.lt).setX e2 _ _, (h.f5.mv M (by decide) h.lt).setX e2 _ _⟩⟩
theorem Bk.grownT {w w' : World} {X : Nat} {ρ ρ' : Rol} {S : BS} {v' : Value} {G' : List Value} (h : Bk w X ρ S) (F : Fam w' X ρ' 1 mvT v' G') (M : Mv 1 X w ρ w' ρ') : w'.heap[X]? = w.heap[X]? ∧ Bk (w'.setCell ⟨X, 1, none⟩ v') X ρ' { S with vT := v', GT := G' } := by
  obtain ⟨e1, e2⟩ := M.kept h.lt h.rX (fun e => e)
  exact ⟨e1, ⟨heap_setCell_same w' X 1 _ _ v' (e1.trans h.row), e2, (M.lt h.lt).setX _ _, (h.I.mv M (by decide) h.lt).setX e2 _ _, F.setX e2 _ _, (h.f2.mv M (by decide) h.lt).setX e2 _ _, (h.f3.mv M (by decide) h.lt).setX e2 _ _, (h.f4.mv M (by decide) h.lt).setX e2 _ _, (h.f5.mv M (by decide) h.lt).setX e2 _ _⟩⟩
end Go.Proofs.YtonmhimoglgbgaaDoor
