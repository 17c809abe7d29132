import Derived.Test.YtonmhimoglgbgaaDoorBK6
namespace Go.Proofs.YtonmhimoglgbgaaDoor
open Go.RowKit
theorem setG_block (w : World) (g o : Nat) (y : Value) {k : Nat} (hk : k ≠ g) : (w.setCell ⟨g, o, none⟩ y).heap[k]? = w.heap[k]? := Below.heap_setCell w _ y k hk
theorem Fam.setG {w : World} {X f g : Nat} {ρ : Rol} {mv : Nat → Value} {v : Value} {GS : List Value} (h : Fam w X ρ f mv v GS) {p q : Nat} (hg : ρ g = some (.ls p q)) (o : Nat) (y : Value) : Fam (w.setCell ⟨g, o, none⟩ y) X ρ f mv v GS :=
  h.keep (by rw [setX_size]; exact Nat.le_refl _) (fun k r hr hf => ⟨setG_block w g o y fun e => by rw [e, hg] at hr; obtain rfl := Option.some.inj hr; exact hf, hr⟩) fun _ _ _ e => e
theorem Lst.setG {w : World} {X t lo g : Nat} {ρ : Rol} {v : Value} {us : List Value} {Ls : List (List Value)} (h : Lst w X ρ t lo v us Ls) {p q : Nat} (hg : ρ g = some (.ls p q)) (hne : p ≠ t) (o : Nat) (y : Value) : Lst (w.setCell ⟨g, o, none⟩ y) X ρ t lo v us Ls :=
  h.keep (by rw [setX_size]; exact Nat.le_refl _) fun k r hr hf => ⟨setG_block w g o y fun e => by rw [e, hg] at hr; obtain rfl := Option.some.inj hr; exact hne hf, hr⟩
theorem Lst.set {w : World} {X t lo g i n c k : Nat} {ρ : Rol} {v : Value} {us : List Value} {Ls : List (List Value)} {L : List Value} (h : Lst w X ρ t lo v us Ls) (hlo : lo ≤ i) (hu : us[i]? = some (.slice (some ⟨g, 0, none⟩) n c)) (hL : Ls[i]? = some L) (hk : k < L.length) (y : Value) :
    ρ g = some (.ls t i) ∧ Lst (w.setCell ⟨g, k, none⟩ y) X ρ t lo v us (Ls.set i (L.set k y)) := by
  obtain ⟨o1, o2, o3⟩ := h.each i _ L hlo hu hL
  have hg := o3 g rfl
  have hsz : w.heap.size ≤ (w.setCell ⟨g, k, none⟩ y).heap.size := by rw [setX_size]; exact Nat.le_refl _
  refine ⟨hg, ⟨h.own.kept hsz fun j hj => setG_block w g k y fun e => ?_, h.rl, by rw [List.length_set]; exact h.len, fun j u M h0 h1 h2 => ?_⟩⟩
  · have := h.rl j hj
    rw [e, hg] at this; cases this
  · by_cases e : j = i
    · subst e
      rw [hu] at h1
      obtain rfl := Option.some.inj h1
      have hj : j < Ls.length := (List.getElem?_eq_some_iff.1 hL).1
      rw [List.getElem?_set_self hj] at h2
      obtain rfl := Option.some.inj h2
      have hn : n = L.length := by
        rcases own_cases o1 with ⟨e, _⟩ | ⟨g', c', e, _⟩
        · cases e
        · injection e
      subst hn
      have h3 := Own.setT o1 k hk y
      rw [List.length_set] at h3
      exact ⟨h3, by rw [List.length_set]; exact o2, o3⟩
    · rw [List.getElem?_set_ne (Ne.symm e)] at h2
      obtain ⟨q1, q2, q3⟩ := h.each j u M h0 h1 h2
      refine ⟨q1.kept hsz fun b hb => setG_block w g k y fun e' => ?_, q2, q3⟩
      have := q3 b hb
      rw [e', hg] at this
      injection this with this
      injection this with _ this
      exact e this.symm
theorem Bk.set2 {w : World} {X g i n c k : Nat} {ρ : Rol} {S : BS} {L : List Value} (h : Bk w X ρ S) (hlo : S.o2 ≤ i) (hu : S.u2[i]? = some (.slice (some ⟨g, 0, none⟩) n c)) (hL : S.L2[i]? = some L) (hk : k < L.length) (y : Value) : Bk (w.setCell ⟨g, k, none⟩ y) X ρ { S with L2 := S.L2.set i (L.set k y) } := by
  obtain ⟨hg, F⟩ := h.f2.set hlo hu hL hk y
  have hgX : X ≠ g := fun e => by rw [← e, h.rX] at hg; cases hg
  exact ⟨(setG_block w g k y hgX).trans h.row, h.rX, fun j r hr => by rw [setX_size]; exact h.lt j r hr, h.I.setG hg _ _, h.T.setG hg _ _, F, h.f3.setG hg (by decide) _ _, h.f4.setG hg (by decide) _ _, h.f5.setG hg (by decide) _ _⟩
theorem Bk.set4 {w : World} {X g i n c k : Nat} {ρ : Rol} {S : BS} {L : List Value} (h : Bk w X ρ S) (hlo : S.o4 ≤ i) (hu : S.u4[i]? = some (.slice (some ⟨g, 0, none⟩) n c)) (hL : S.L4[i]? = some L) (hk : k < L.length) (y : Value) : Bk (w.setCell ⟨g, k, none⟩ y) X ρ { S with L4 := S.L4.set i (L.set k y) } := by
  obtain ⟨hg, F⟩ := h.f4.set hlo hu hL hk y
  have hgX : X ≠ g := fun e => by rw [← e, h.rX] at hg; cases hg
  exact ⟨(setG_block w g k y hgX).trans h.row, h.rX, fun j r hr => by rw [setX_size]; exact h.lt j r hr, h.I.setG hg _ _, h.T.setG hg _ _, h.f2.setG hg (by decide) _ _, h.f3.setG hg (by decide) _ _, F, h.f5.setG hg (by decide) _ _⟩
theorem Bk.adopt2 {w : World} {X i l m : Nat} {ρ : Rol} {S : BS} {u : Value} (h : Bk w X ρ S) (hlo : S.o2 = i) (hu : S.u2[i]? = some u) (hL : S.L2[i]? = some (List.replicate l (mvI m))) : ∃ ρ', Bk w X ρ' { S with o2 := i + 1 } ∧ Xs w X ρ' 0 mvI m l u := by
  obtain ⟨q1, q2, q3⟩ := h.f2.each i u _ (by omega) hu hL
  obtain ⟨ρ', hρ⟩ : ∃ ρ' : Rol, ∀ k, ρ' k = if u.ownBlock = some k then some (.mk 0 m l) else ρ k := ⟨fun k => if u.ownBlock = some k then some (.mk 0 m l) else ρ k, fun k => rfl⟩
  have hext : ∀ k r, ρ k = some r → r ≠ .ls 2 i → ρ' k = some r := fun k r hr hne => by
    rw [hρ, if_neg fun e => by rw [q3 k e] at hr; exact hne (Option.some.inj hr).symm]; exact hr
  have hfam : ∀ (g : Nat) (mv' : Nat → Value) (v : Value) (GS : List Value), (g = 0 → mv' = mvI) → Fam w X ρ g mv' v GS → Fam w X ρ' g mv' v GS := fun g mv' v GS hg hF => by
    refine ⟨hF.own, fun k hk => hext k _ (hF.rl k hk) (fun e => by cases e), fun k i2 l2 hm j hj => ?_, fun n s hs => ?_⟩
    · rw [hρ] at hm
      split at hm
      · rename_i e
        injection hm with hm
        injection hm with e0 e1 e2
        subst e1 e2
        rw [hg e0.symm]
        exact own_cell q1 e (by rw [List.getElem?_replicate, if_pos hj])
      · exact hF.mkd k i2 l2 hm j hj
    · rcases hF.ent n s hs with e | ⟨g', m', c, l', e1, e2, e3, e4⟩
      · exact .inl e
      · exact .inr ⟨g', m', c, l', e1, e2, e3, hext g' _ e4 (fun e => by cases e)⟩
  have hk : ∀ (p : Nat), p ≠ 2 → ∀ (k : Nat) (r : Ro), ρ k = some r → r.lst p → w.heap[k]? = w.heap[k]? ∧ ρ' k = some r := fun p hp k r hr hf => ⟨rfl, hext k r hr fun e => by subst e; exact hp (Eq.symm hf)⟩
  refine ⟨ρ', ⟨h.row, hext X _ h.rX (fun e => by cases e), fun k r hr => ?_, hfam 0 mvI _ _ (fun e => rfl) h.I, hfam 1 mvT _ _ (fun e => (by cases e)) h.T, ⟨h.f2.own, fun k hk => hext k _ (h.f2.rl k hk) (fun e => by cases e), h.f2.len, fun k u' M h0 h1 h2 => ?_⟩, h.f3.keep (Nat.le_refl _) (hk 3 (by decide)), h.f4.keep (Nat.le_refl _) (hk 4 (by decide)), h.f5.keep (Nat.le_refl _) (hk 5 (by decide))⟩, ⟨q1, fun g hg => by rw [hρ, if_pos hg]⟩⟩
  · rw [hρ] at hr
    split at hr
    · rename_i e
      exact ⟨q1.ge k e, q1.lt k e⟩
    · exact h.lt k r hr
  · have h0' : i + 1 ≤ k := h0
    obtain ⟨a1, a2, a3⟩ := h.f2.each k u' M (by omega) h1 h2
    exact ⟨a1, a2, fun g hg => hext g _ (a3 g hg) fun e => by injection e with _ e; omega⟩
theorem Bk.adopt4 {w : World} {X i l m : Nat} {ρ : Rol} {S : BS} {u : Value} (h : Bk w X ρ S) (hlo : S.o4 = i) (hu : S.u4[i]? = some u) (hL : S.L4[i]? = some (List.replicate l (mvT m))) : ∃ ρ', Bk w X ρ' { S with o4 := i + 1 } ∧ Xs w X ρ' 1 mvT m l u := by
  obtain ⟨q1, q2, q3⟩ := h.f4.each i u _ (by omega) hu hL
  obtain ⟨ρ', hρ⟩ : ∃ ρ' : Rol, ∀ k, ρ' k = if u.ownBlock = some k then some (.mk 1 m l) else ρ k := ⟨fun k => if u.ownBlock = some k then some (.mk 1 m l) else ρ k, fun k => rfl⟩
  have hext : ∀ k r, ρ k = some r → r ≠ .ls 4 i → ρ' k = some r := fun k r hr hne => by
    rw [hρ, if_neg fun e => by rw [q3 k e] at hr; exact hne (Option.some.inj hr).symm]; exact hr
  have hfam : ∀ (g : Nat) (mv' : Nat → Value) (v : Value) (GS : List Value), (g = 1 → mv' = mvT) → Fam w X ρ g mv' v GS → Fam w X ρ' g mv' v GS := fun g mv' v GS hg hF => by
    refine ⟨hF.own, fun k hk => hext k _ (hF.rl k hk) (fun e => by cases e), fun k i2 l2 hm j hj => ?_, fun n s hs => ?_⟩
    · rw [hρ] at hm
      split at hm
      · rename_i e
        injection hm with hm
        injection hm with e0 e1 e2
        subst e1 e2
        rw [hg e0.symm]
        exact own_cell q1 e (by rw [List.getElem?_replicate, if_pos hj])
      · exact hF.mkd k i2 l2 hm j hj
    · rcases hF.ent n s hs with e | ⟨g', m', c, l', e1, e2, e3, e4⟩
      · exact .inl e
      · exact .inr ⟨g', m', c, l', e1, e2, e3, hext g' _ e4 (fun e => by cases e)⟩
  have hk : ∀ (p : Nat), p ≠ 4 → ∀ (k : Nat) (r : Ro), ρ k = some r → r.lst p → w.heap[k]? = w.heap[k]? ∧ ρ' k = some r := fun p hp k r hr hf => ⟨rfl, hext k r hr fun e => by subst e; exact hp (Eq.symm hf)⟩
  refine ⟨ρ', ⟨h.row, hext X _ h.rX (fun e => by cases e), fun k r hr => ?_, hfam 0 mvI _ _ (fun e => (by cases e)) h.I, hfam 1 mvT _ _ (fun e => rfl) h.T, h.f2.keep (Nat.le_refl _) (hk 2 (by decide)), h.f3.keep (Nat.le_refl _) (hk 3 (by decide)), ⟨h.f4.own, fun k hk => hext k _ (h.f4.rl k hk) (fun e => by cases e), h.f4.len, fun k u' M h0 h1 h2 => ?_⟩, h.f5.keep (Nat.le_refl _) (hk 5 (by decide))⟩, ⟨q1, fun g hg => by rw [hρ, if_pos hg]⟩⟩
  · rw [hρ] at hr
    split at hr
    · rename_i e
      exact ⟨q1.ge k e, q1.lt k e⟩
    · exact h.lt k r hr
  · have h0' : i + 1 ≤ k := h0
    obtain ⟨a1, a2, a3⟩ := h.f4.each k u' M (by omega) h1 h2
    exact ⟨a1, a2, fun g hg => hext g _ (a3 g hg) fun e => by injection e with _ e; omega⟩
end Go.Proofs.YtonmhimoglgbgaaDoor
