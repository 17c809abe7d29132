import Derived.Test.YtfddkmkibfmmgaaDoorCTL39
namespace Go.Proofs.YtfddkmkibfmmgaaDoor
namespace Wb
open Go.RowKit

/-- what a block is to the book: itself; a list of its; a list that is marked (of family f, the i-th, so many marks); an untouched one, a copy -/
inductive Ro where
  | book
  | fld (n : Nat)
  | mk (f i l : Nat)
  | ls (o k : Nat)
abbrev Rol := Nat → Option Ro
def Ro.fam (f : Nat) : Ro → Prop
  | .fld n => n = f
  | .mk g _ _ => g = f
  | _ => False
def Ro.lst (o : Nat) : Ro → Prop
  | .fld n => n = o
  | .ls p _ => p = o
  | _ => False
def Lt (w : World) (X : Nat) (ρ : Rol) : Prop := ∀ k r, ρ k = some r → X ≤ k ∧ k < w.heap.size
/-- family f's blocks alone were touched; what is new is hers -/
structure Mv (f X : Nat) (w : World) (ρ : Rol) (w' : World) (ρ' : Rol) : Prop where
  keep : Keep (fun k => ∃ r, ρ k = some r ∧ r.fam f) w w'
  old : ∀ k r, ρ k = some r → ¬ r.fam f → ρ' k = some r
  new : ∀ k r, ρ' k = some r → ρ k = some r ∨ (r.fam f ∧ X ≤ k ∧ k < w'.heap.size ∧ (w.heap.size ≤ k ∨ ∃ r0, ρ k = some r0 ∧ r0.fam f))
theorem Mv.refl (f X : Nat) (w : World) (ρ : Rol) : Mv f X w ρ w ρ := ⟨Keep.refl _ _, fun _ _ h _ => h, fun _ _ h => .inl h⟩
theorem Mv.trans {f X : Nat} {w w1 w2 : World} {ρ ρ1 ρ2 : Rol} (h : Mv f X w ρ w1 ρ1) (k : Mv f X w1 ρ1 w2 ρ2) : Mv f X w ρ w2 ρ2 := by
  refine ⟨h.keep.trans k.keep fun j hj ⟨r, hr, hf⟩ => ?_, fun j r hr hf => k.old j r (h.old j r hr hf) hf, fun j r hr => ?_⟩
  · rcases h.new j r hr with e | ⟨_, _, _, e⟩
    · exact ⟨r, e, hf⟩
    · rcases e with e | e
      · omega
      · exact e
  · have s1 := h.keep.size
    have s2 := k.keep.size
    rcases k.new j r hr with e | ⟨hf, hX, hl, e⟩
    · rcases h.new j r e with e' | ⟨hf, hX, hl, e'⟩
      · exact .inl e'
      · exact .inr ⟨hf, hX, by omega, e'⟩
    · refine .inr ⟨hf, hX, hl, ?_⟩
      rcases e with e | ⟨r0, e, hf0⟩
      · exact .inl (by omega)
      · rcases h.new j r0 e with e' | ⟨_, _, _, e'⟩
        · exact .inr ⟨r0, e', hf0⟩
        · exact e'
theorem Mv.lt {f X : Nat} {w w1 : World} {ρ ρ1 : Rol} (h : Mv f X w ρ w1 ρ1) (l : Lt w X ρ) : Lt w1 X ρ1 := fun k r hr => by
  rcases h.new k r hr with e | ⟨_, h1, h2, _⟩
  · exact ⟨(l k r e).1, Nat.lt_of_lt_of_le (l k r e).2 h.keep.size⟩
  · exact ⟨h1, h2⟩
/-- a list all of whose things are the i-th mark -/
def En (ρ : Rol) (f i : Nat) (s : Value) : Prop := s = .slice none 0 0 ∨ ∃ g n c l, s = .slice (some ⟨g, 0, none⟩) n c ∧ n ≤ l ∧ l ≤ 2000000 ∧ ρ g = some (.mk f i l)
/-- a family of marked lists -/
structure Fam (w : World) (X : Nat) (ρ : Rol) (f : Nat) (mv : Nat → Value) (v : Value) (GS : List Value) : Prop where
  own : Own w X v GS
  rl : ∀ k, v.ownBlock = some k → ρ k = some (.fld f)
  mkd : ∀ g i l, ρ g = some (.mk f i l) → ∀ j, j < l → w.cell? ⟨g, j, none⟩ = some (mv i)
  ent : ∀ (n : Nat) (s : Value), GS[n]? = some s → En ρ f (n / 6) s
/-- lists that stay untouched for now, in the book's list number o -/
structure Lst (w : World) (X : Nat) (ρ : Rol) (o lo : Nat) (v : Value) (us : List Value) (Ls : List (List Value)) : Prop where
  own : Own w X v us
  rl : ∀ k, v.ownBlock = some k → ρ k = some (.fld o)
  len : us.length = Ls.length
  each : ∀ (k : Nat) (u : Value) (L : List Value), lo ≤ k → us[k]? = some u → Ls[k]? = some L → Own w X u L ∧ L.length ≤ 1100000 ∧ ∀ g, u.ownBlock = some g → ρ g = some (.ls o k)
theorem Fam.keep {w w' : World} {X f : Nat} {ρ ρ' : Rol} {mv : Nat → Value} {v : Value} {GS : List Value} (h : Fam w X ρ f mv v GS) (hs : w.heap.size ≤ w'.heap.size)
    (hk : ∀ k r, ρ k = some r → r.fam f → w'.heap[k]? = w.heap[k]? ∧ ρ' k = some r) (hn : ∀ g i l, ρ' g = some (.mk f i l) → ρ g = some (.mk f i l)) : Fam w' X ρ' f mv v GS where
  own := h.own.kept hs fun k hv => (hk k _ (h.rl k hv) rfl).1
  rl := fun k hv => (hk k _ (h.rl k hv) rfl).2
  mkd := fun g i l hg j hj => by
    have e := hn g i l hg
    rw [← h.mkd g i l e j hj]
    exact World.cell?_of_block (w := w) (hk g _ e rfl).1
  ent := fun n s hs => by
    rcases h.ent n s hs with e | ⟨g, m, c, l, e1, e2, e3, e4⟩
    · exact .inl e
    · exact .inr ⟨g, m, c, l, e1, e2, e3, (hk g _ e4 rfl).2⟩
theorem Lst.keep {w w' : World} {X o lo : Nat} {ρ ρ' : Rol} {v : Value} {us : List Value} {Ls : List (List Value)} (h : Lst w X ρ o lo v us Ls) (hs : w.heap.size ≤ w'.heap.size)
    (hk : ∀ k r, ρ k = some r → r.lst o → w'.heap[k]? = w.heap[k]? ∧ ρ' k = some r) : Lst w' X ρ' o lo v us Ls where
  own := h.own.kept hs fun k hv => (hk k _ (h.rl k hv) rfl).1
  rl := fun k hv => (hk k _ (h.rl k hv) rfl).2
  len := h.len
  each := fun k u L h0 h1 h2 => ⟨(h.each k u L h0 h1 h2).1.kept hs fun g hv => (hk g _ ((h.each k u L h0 h1 h2).2.2 g hv) rfl).1, (h.each k u L h0 h1 h2).2.1, fun g hv => (hk g _ ((h.each k u L h0 h1 h2).2.2 g hv) rfl).2⟩
theorem Ro.fam_ne {f g : Nat} {r : Ro} (hne : f ≠ g) (h : r.fam f) : ¬ r.fam g := by
  cases r <;> simp_all [Ro.fam]
theorem Ro.lst_fam {o g : Nat} {r : Ro} (hg : o ≠ g) (h : r.lst o) : ¬ r.fam g := by
  cases r <;> simp_all [Ro.fam, Ro.lst]
theorem Ro.lst_ne {o p : Nat} {r : Ro} (hne : o ≠ p) (h : r.lst o) : ¬ r.lst p := by
  cases r <;> simp_all [Ro.lst]
theorem Ro.fam_lst {o g : Nat} {r : Ro} (hg : o ≠ g) (h : r.fam g) : ¬ r.lst o := fun e => Ro.lst_fam hg e h
theorem Mv.kept {f X : Nat} {w w' : World} {ρ ρ' : Rol} (hm : Mv f X w ρ w' ρ') (hlt : Lt w X ρ) {k : Nat} {r : Ro} (hr : ρ k = some r) (hf : ¬ r.fam f) : w'.heap[k]? = w.heap[k]? ∧ ρ' k = some r :=
  ⟨hm.keep.block k (hlt k r hr).2 fun ⟨r', hr', hf'⟩ => by rw [hr] at hr'; obtain rfl := Option.some.inj hr'; exact hf hf', hm.old k r hr hf⟩
theorem Fam.mv {w w' : World} {X f g : Nat} {ρ ρ' : Rol} {mv : Nat → Value} {v : Value} {GS : List Value} (h : Fam w X ρ f mv v GS) (hm : Mv g X w ρ w' ρ') (hne : f ≠ g) (hlt : Lt w X ρ) : Fam w' X ρ' f mv v GS :=
  h.keep hm.keep.size (fun _ r hr hf => hm.kept hlt hr (Ro.fam_ne hne hf)) fun k i l e => by
    rcases hm.new k _ e with e' | ⟨e', _⟩
    · exact e'
    · exact absurd e' hne
theorem Lst.mv {w w' : World} {X o lo g : Nat} {ρ ρ' : Rol} {v : Value} {us : List Value} {Ls : List (List Value)} (h : Lst w X ρ o lo v us Ls) (hm : Mv g X w ρ w' ρ') (hg : o ≠ g) (hlt : Lt w X ρ) : Lst w' X ρ' o lo v us Ls :=
  h.keep hm.keep.size fun _ _ hr hf => hm.kept hlt hr (Ro.lst_fam hg hf)
/-- the list that grows -/
structure Xs (w : World) (X : Nat) (ρ : Rol) (f : Nat) (mv : Nat → Value) (i l : Nat) (x : Value) : Prop where
  own : Own w X x (List.replicate l (mv i))
  rl : ∀ g, x.ownBlock = some g → ρ g = some (.mk f i l)
theorem own_cases {w : World} {base : Nat} {v : Value} {cs : List Value} (h : Own w base v cs) : (v = .slice none 0 0 ∧ cs = []) ∨ ∃ g c, v = .slice (some ⟨g, 0, none⟩) cs.length c ∧ v.ownBlock = some g := by
  rcases h with ⟨rfl, rfl⟩ | ⟨g, c, rfl, _⟩
  · exact .inl ⟨rfl, rfl⟩
  · exact .inr ⟨g, c, rfl, rfl⟩
theorem own_cell {w : World} {base : Nat} {v : Value} {cs : List Value} (h : Own w base v cs) {g : Nat} (hg : v.ownBlock = some g) {j : Nat} {x : Value} (hj : cs[j]? = some x) : w.cell? ⟨g, j, none⟩ = some x := by
  rcases h with ⟨rfl, rfl⟩ | ⟨g', c, rfl, _, _, _, h4, _, _⟩
  · simp at hj
  · cases hg
    have := h4 j x hj
    rwa [Nat.zero_add] at this
theorem Xs.en {w : World} {X f : Nat} {ρ : Rol} {mv : Nat → Value} {i l : Nat} {x : Value} (h : Xs w X ρ f mv i l x) (hl : l ≤ 2000000) : En ρ f i x := by
  rcases own_cases h.own with ⟨rfl, _⟩ | ⟨g, c, e1, e2⟩
  · exact .inl rfl
  · exact .inr ⟨g, _, c, l, e1, by simp, hl, h.rl g e2⟩
/-- one more list in the family -/
theorem Fam.push {w w' : World} {X f : Nat} {ρ : Rol} {mv : Nat → Value} {v v' s : Value} {GS : List Value} (h : Fam w X ρ f mv v GS) (hlt : Lt w X ρ) (hg : Grow w w' v v') (ho : Own w' X v' (GS ++ [s])) (he : En ρ f (GS.length / 6) s) :
    ∃ ρ', Fam w' X ρ' f mv v' (GS ++ [s]) ∧ Mv f X w ρ w' ρ' ∧ ∀ k r, ρ k = some r → ρ' k = some r := by
  have hnew : ∀ k, v'.ownBlock = some k → ρ k = some (.fld f) ∨ (ρ k = none ∧ w.heap.size ≤ k) := fun k hk => by
    rcases hg.alt with e | ⟨e, _⟩
    · exact .inl (h.rl k (e ▸ hk))
    · refine .inr ⟨?_, e k hk⟩
      cases hr : ρ k with
      | none => rfl
      | some r => have := (hlt k r hr).2; have := e k hk; omega
  obtain ⟨ρ', hρ⟩ : ∃ ρ' : Rol, ∀ k, ρ' k = if v'.ownBlock = some k then some (.fld f) else ρ k := ⟨fun k => if v'.ownBlock = some k then some (.fld f) else ρ k, fun k => rfl⟩
  have hext : ∀ k r, ρ k = some r → ρ' k = some r := fun k r hr => by
    rw [hρ]
    split
    · rename_i e
      rcases hnew k e with e' | ⟨e', _⟩
      · rw [← e']; exact hr
      · rw [e'] at hr; cases hr
    · exact hr
  refine ⟨ρ', ⟨ho, fun k hk => by rw [hρ, if_pos hk], fun g i l hm j hj => ?_, fun n t hn => ?_⟩, ⟨⟨hg.os, hg.tape, hg.output, hg.size, fun k hk hb => hg.old k hk fun e => hb ⟨_, h.rl k e, rfl⟩⟩, fun k r hr _ => hext k r hr, fun k r hr => ?_⟩, hext⟩
  · rw [hρ] at hm
    split at hm
    · cases hm
    · rw [← h.mkd g i l hm j hj]
      exact World.cell?_of_block (w := w) (hg.old g (hlt g _ hm).2 fun e => by rw [h.rl g e] at hm; cases hm)
  · have he' : En ρ f (n / 6) t := by
      by_cases hl : n < GS.length
      · rw [List.getElem?_append_left hl] at hn
        exact h.ent n t hn
      · have hl2 := (List.getElem?_eq_some_iff.1 hn).1
        simp at hl2
        have hm : n = GS.length := by omega
        subst hm
        rw [List.getElem?_append_right (Nat.le_refl _), Nat.sub_self] at hn
        obtain rfl := Option.some.inj hn
        exact he
    rcases he' with e | ⟨g, m, c, l, e1, e2, e3, e4⟩
    · exact .inl e
    · exact .inr ⟨g, m, c, l, e1, e2, e3, hext g _ e4⟩
  · rw [hρ] at hr
    split at hr
    · rename_i e
      obtain rfl := Option.some.inj hr
      refine .inr ⟨rfl, ho.ge k e, ho.lt k e, ?_⟩
      rcases hnew k e with e' | ⟨_, e'⟩
      · exact .inr ⟨_, e', rfl⟩
      · exact .inl e'
    · exact .inl hr
/-- a marked list is grown by one more mark -/
theorem Fam.growX {w w' : World} {X f i l : Nat} {ρ : Rol} {mv : Nat → Value} {v x x' : Value} {GS : List Value} (h : Fam w X ρ f mv v GS) (hlt : Lt w X ρ) (hx : Xs w X ρ f mv i l x) (hl : l + 1 ≤ 2000000) (hg : Grow w w' x x') (ho : Own w' X x' (List.replicate (l + 1) (mv i))) :
    ∃ ρ', Fam w' X ρ' f mv v GS ∧ Xs w' X ρ' f mv i (l + 1) x' ∧ Mv f X w ρ w' ρ' := by
  have hnew : ∀ k, x'.ownBlock = some k → ρ k = some (.mk f i l) ∨ (ρ k = none ∧ w.heap.size ≤ k) := fun k hk => by
    rcases hg.alt with e | ⟨e, _⟩
    · exact .inl (hx.rl k (e ▸ hk))
    · refine .inr ⟨?_, e k hk⟩
      cases hr : ρ k with
      | none => rfl
      | some r => have := (hlt k r hr).2; have := e k hk; omega
  have hkeep : ∀ k, k < w.heap.size → x'.ownBlock ≠ some k → w'.heap[k]? = w.heap[k]? := fun k hk hne => by
    rcases hg.alt with e | ⟨_, e⟩
    · exact hg.old k hk (e ▸ hne)
    · exact e k hk
  obtain ⟨ρ', hρ⟩ : ∃ ρ' : Rol, ∀ k, ρ' k = if x'.ownBlock = some k then some (.mk f i (l + 1)) else ρ k := ⟨fun k => if x'.ownBlock = some k then some (.mk f i (l + 1)) else ρ k, fun k => rfl⟩
  have hpos : ∀ k, x'.ownBlock = some k → ρ' k = some (.mk f i (l + 1)) := fun k hk => by rw [hρ, if_pos hk]
  have hneg : ∀ k, x'.ownBlock ≠ some k → ρ' k = ρ k := fun k hk => by rw [hρ, if_neg hk]
  have hvx : ∀ k, v.ownBlock = some k → x'.ownBlock ≠ some k := fun k hk e => by
    have h1 := h.rl k hk
    rcases hnew k e with e' | ⟨e', _⟩
    · rw [e'] at h1; cases h1
    · rw [e'] at h1; cases h1
  refine ⟨ρ', ⟨h.own.kept hg.size fun k hk => hkeep k (h.own.lt k hk) (hvx k hk), fun k hk => (hneg k (hvx k hk)).trans (h.rl k hk), fun g i2 l2 hm j hj => ?_, fun n t hn => ?_⟩, ⟨ho, hpos⟩, ⟨⟨hg.os, hg.tape, hg.output, hg.size, fun k hk hb => hg.old k hk fun e => hb ⟨_, hx.rl k e, rfl⟩⟩, fun k r hr hf => ?_, fun k r hr => ?_⟩⟩
  · by_cases e : x'.ownBlock = some g
    · rw [hpos g e] at hm
      injection hm with hm
      injection hm with _ e1 e2
      subst e1 e2
      exact own_cell ho e (by rw [List.getElem?_replicate, if_pos hj])
    · rw [hneg g e] at hm
      rw [← h.mkd g i2 l2 hm j hj]
      exact World.cell?_of_block (w := w) (hkeep g (hlt g _ hm).2 e)
  · rcases h.ent n t hn with e | ⟨g, m, c, l2, e1, e2, e3, e4⟩
    · exact .inl e
    · by_cases e : x'.ownBlock = some g
      · rcases hnew g e with e' | ⟨e', _⟩
        · rw [e4] at e'
          injection e' with e'
          injection e' with _ q1 q2
          exact .inr ⟨g, m, c, l + 1, e1, by omega, hl, by rw [q1]; exact hpos g e⟩
        · rw [e'] at e4; cases e4
      · exact .inr ⟨g, m, c, l2, e1, e2, e3, (hneg g e).trans e4⟩
  · refine (hneg k fun e => ?_).trans hr
    rcases hnew k e with e' | ⟨e', _⟩
    · rw [e'] at hr
      obtain rfl := Option.some.inj hr
      exact hf rfl
    · rw [e'] at hr; cases hr
  · by_cases e : x'.ownBlock = some k
    · rw [hpos k e] at hr
      obtain rfl := Option.some.inj hr
      refine .inr ⟨rfl, ho.ge k e, ho.lt k e, ?_⟩
      rcases hnew k e with e' | ⟨_, e'⟩
      · exact .inr ⟨_, e', rfl⟩
      · exact .inl e'
    · rw [hneg k e] at hr
      exact .inl hr
theorem Xs.ext {w w' : World} {X f i l : Nat} {ρ ρ' : Rol} {mv : Nat → Value} {x : Value} (h : Xs w X ρ f mv i l x) (hs : w.heap.size ≤ w'.heap.size) (hb : ∀ k, x.ownBlock = some k → w'.heap[k]? = w.heap[k]?) (he : ∀ k r, ρ k = some r → ρ' k = some r) : Xs w' X ρ' f mv i l x :=
  ⟨h.own.kept hs hb, fun g hg => he g _ (h.rl g hg)⟩
end Wb
end Go.Proofs.YtfddkmkibfmmgaaDoor
