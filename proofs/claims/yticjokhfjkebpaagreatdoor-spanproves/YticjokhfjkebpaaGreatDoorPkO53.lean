import Derived.Test.YticjokhfjkebpaaGreatDoorPkO52
namespace Go.Proofs.YticjokhfjkebpaaGreatDoor
open Go.RowKit

theorem Own.setT {w : World} {base g cap : Nat} {cs : List Value} (h : Own w base (.slice (some ⟨g, 0, none⟩) cs.length cap) cs) (k : Nat) (hk : k < cs.length) (x : Value) :
    Own (w.setCell ⟨g, k, none⟩ x) base (.slice (some ⟨g, 0, none⟩) (cs.set k x).length cap) (cs.set k x) := by
  rcases h with ⟨h, _⟩ | ⟨g', cap', h, h1, h2, h3, h4, h5, h6⟩
  · cases h
  · injection h with e1 e2 e3
    injection e1 with e1
    injection e1 with e1
    subst e1 e3
    refine .inr ⟨g, cap, rfl, h1, by rw [List.length_set]; exact h2, h3, fun j v hv => ?_, fun j hj => ?_, by simpa [World.setCell] using h6⟩
    · rw [Nat.zero_add]
      rw [List.getElem?_set] at hv
      split at hv
      · rename_i e
        subst e
        cases hv
        have := (h5 k (by omega)).1
        rw [Nat.zero_add] at this
        exact World.cell?_setCell_same' _ _ _ this
      · rename_i e
        have := h4 j v hv
        rw [Nat.zero_add] at this
        exact (World.cell?_setCell_other _ _ _ _ (by intro h; injection h; omega)).trans this
    · have := h5 j hj
      rw [Nat.zero_add] at this ⊢
      refine ⟨?_, by rw [World.frozen?_setCell]; exact this.2⟩
      by_cases e : j = k
      · subst e
        rw [World.cell?_setCell_same' _ _ _ this.1]; rfl
      · rw [World.cell?_setCell_other _ _ _ _ (by intro h; injection h; omega)]
        exact this.1
/-- append([][]string(nil), ls...) -/
theorem append_free (w : World) (base : Nat) (vf : Value) (us : List Value) (hown : Own w base vf us) (h1c : ∀ u ∈ us, u.oneCell' = true) (h0 : 0 < us.length) (hlen : us.length ≤ 1000000) :
    ∃ v' w', (Builtin.append_ #[53, 53] 53 #[.slice none 0 0, vf]).run Tryz.prog w = .ok v' w' ∧ Own w' w.heap.size v' us ∧ Below w.heap.size w w' := by
  obtain ⟨i0, hi, hz0, hz1, hz2⟩ := info_parts infoLS
  have hsrc : Src Tryz.prog 1 53 vf us.length us w := by
    rcases hown with ⟨rfl, h⟩ | ⟨g, cap, rfl, h1, h2, h3, h4, h5, h6⟩
    · subst h; simp at h0
    · exact Src.ofSlice w Tryz.underlying53 ⟨g, 0, none⟩ us.length cap us (by rw [Nat.mul_one]) (fun j u hj => by rw [Addr.add_mid]; exact h4 j u hj) h1c
  obtain ⟨v', w', h1, h2, h3, h4⟩ := run_append_O (P := Tryz.prog) w w.heap.size 53 53 53 24 i0 (.slice none 0 0) Tryz.underlying53 hi hz0 hz1 rfl (.slice none 0 0) [] (Own.nil _ _) vf us.length us hsrc
    (by rw [hz2]; simp; omega) (by rw [maxLen]; simp; omega) (Nat.le_refl _) (fun _ => h0)
  exact ⟨v', w', h1, by simpa using h2, Below.ofGrown h3 (Own.nil w w.heap.size).ge (Nat.le_refl _)⟩
/-- the book while its lists are marked -/
structure M2 (w : World) (X base : Nat) (vl : Value) (us : List Value) (Ls : List (List (List UInt8))) : Prop where
  row : w.heap[X]? = some (.cells #[.slice none 0 0, .slice none 0 0, vl, .slice none 0 0, .slice none 0 0] 55 (0, 0))
  lists : Own w base vl us
  len : Ls.length = us.length
  dX : ∀ k, vl.ownBlock = some k → k ≠ X
  own : ∀ (i : Nat) (u : Value) (L : List (List UInt8)), us[i]? = some u → Ls[i]? = some L → Own w base u (svs L) ∧ L.length ≤ 1000000
  ap : ∀ (i : Nat) (u : Value) (g : Nat), us[i]? = some u → u.ownBlock = some g → g ≠ X ∧ vl.ownBlock ≠ some g
  di : ∀ (i j : Nat) (u v : Value) (g : Nat), us[i]? = some u → us[j]? = some v → u.ownBlock = some g → v.ownBlock = some g → i = j
theorem M2.below {w w' : World} {X base : Nat} {vl : Value} {us : List Value} {Ls : List (List (List UInt8))} (h : M2 w X base vl us Ls) (hb : Below w.heap.size w w') : M2 w' X base vl us Ls where
  row := (hb.block X (lt_of_heap h.row)).trans h.row
  lists := h.lists.below hb (Nat.le_refl _)
  len := h.len
  dX := h.dX
  own := fun i u L h1 h2 => ⟨(h.own i u L h1 h2).1.below hb (Nat.le_refl _), (h.own i u L h1 h2).2⟩
  ap := h.ap
  di := h.di
theorem M2.set {w : World} {X base : Nat} {vl : Value} {us : List Value} {Ls : List (List (List UInt8))} (h : M2 w X base vl us Ls) {i g n c k : Nat} {L : List (List UInt8)} (hu : us[i]? = some (.slice (some ⟨g, 0, none⟩) n c)) (hL : Ls[i]? = some L) (hk : k < L.length) (m : List UInt8) :
    M2 (w.setCell ⟨g, k, none⟩ (sv m)) X base vl us (Ls.set i (L.set k m)) := by
  have hap := h.ap i _ g hu rfl
  have ho := (h.own i _ L hu hL).1
  have hset : ∀ b, b ≠ g → (w.setCell ⟨g, k, none⟩ (sv m)).heap[b]? = w.heap[b]? := fun b hb => Below.heap_setCell w _ _ b hb
  have hsz : (w.setCell ⟨g, k, none⟩ (sv m)).heap.size = w.heap.size := by simp [World.setCell]
  refine ⟨(hset X (Ne.symm hap.1)).trans h.row, h.lists.same (by rw [hsz]; exact Nat.le_refl _) fun b hb => hset b fun e => hap.2 (e ▸ hb), by rw [List.length_set]; exact h.len, h.dX, fun j u L' h1 h2 => ?_, h.ap, h.di⟩
  by_cases e : j = i
  · subst e
    rw [hu] at h1
    obtain rfl := Option.some.inj h1
    have hj : j < Ls.length := (List.getElem?_eq_some_iff.1 hL).1
    rw [List.getElem?_set_self hj] at h2
    obtain rfl := Option.some.inj h2
    have hn : n = (svs L).length := by
      rcases own_cases ho with ⟨e, _⟩ | ⟨g', c', e, _⟩
      · cases e
      · injection e
    have h3 := Own.setT (cs := svs L) (by rw [← hn]; exact ho) k (by rw [svs_length]; exact hk) (sv m)
    have e1 : (svs L).set k (sv m) = svs (L.set k m) := by simp [svs, List.map_set]
    rw [e1] at h3
    have e2 : (svs (L.set k m)).length = n := by rw [hn, svs_length, svs_length, List.length_set]
    rw [e2] at h3
    exact ⟨h3, by rw [List.length_set]; exact (h.own j _ L hu hL).2⟩
  · rw [List.getElem?_set_ne (Ne.symm e)] at h2
    refine ⟨(h.own j u L' h1 h2).1.same (by rw [hsz]; exact Nat.le_refl _) fun b hb => hset b fun e' => ?_, (h.own j u L' h1 h2).2⟩
    subst e'
    exact e (h.di j i u _ b h1 hu hb rfl)
/-- all are marked: now they may grow -/
theorem M2.start {w : World} {X base : Nat} {vl : Value} {us : List Value} {Ls : List (List (List UInt8))} (h : M2 w X base vl us Ls) (hm : ∀ (j : Nat) (L : List (List UInt8)), Ls[j]? = some L → L = List.replicate L.length (mrk j)) :
    ∃ μ, St w X base vl (.slice none 0 0) (.slice none 0 0) us [] [] μ ∧ ∀ (i : Nat) (u : Value), us[i]? = some u → ∃ n, n ≤ 1000000 ∧ Xs w base u i n μ := by
  classical
  obtain ⟨μ, h1, h2⟩ : ∃ μ : Mu, (∀ g i ℓ, μ g = some (i, ℓ) → ∃ u, us[i]? = some u ∧ u.ownBlock = some g ∧ ∃ L, Ls[i]? = some L ∧ L.length = ℓ) ∧ (∀ (g i : Nat) (u : Value) (L : List (List UInt8)), us[i]? = some u → u.ownBlock = some g → Ls[i]? = some L → μ g = some (i, L.length)) := by
    refine ⟨fun g => if hh : ∃ p : Nat × Nat, ∃ u, us[p.1]? = some u ∧ u.ownBlock = some g ∧ ∃ L, Ls[p.1]? = some L ∧ L.length = p.2 then some hh.choose else none, fun g i ℓ hμ => ?_, fun g i u L a b c => ?_⟩
    · simp only at hμ
      split at hμ
      · rename_i hh
        have := hh.choose_spec
        rw [Option.some.inj hμ] at this
        exact this
      · cases hμ
    · have hh : ∃ p : Nat × Nat, ∃ u, us[p.1]? = some u ∧ u.ownBlock = some g ∧ ∃ L, Ls[p.1]? = some L ∧ L.length = p.2 := ⟨(i, L.length), u, a, b, L, c, rfl⟩
      simp only
      rw [dif_pos hh]
      obtain ⟨u', a', b', L', c', d'⟩ := hh.choose_spec
      have e1 : hh.choose.1 = i := h.di _ _ u' u g a' a b' b
      rw [e1, c] at c'
      obtain rfl := Option.some.inj c'
      refine congrArg some (Prod.ext e1 d'.symm)
  have hcell : ∀ g i ℓ, μ g = some (i, ℓ) → base ≤ g ∧ g < w.heap.size ∧ ¬ Bs X vl (.slice none 0 0) (.slice none 0 0) g ∧ ∀ j, j < ℓ → w.cell? ⟨g, j, none⟩ = some (sv (mrk i)) := fun g i ℓ hμ => by
    obtain ⟨u, a, b, L, c, d⟩ := h1 g i ℓ hμ
    obtain ⟨o, _⟩ := h.own i u L a c
    refine ⟨o.ge g b, o.lt g b, fun hB => ?_, fun j hj => own_cell o b ?_⟩
    · have hap := h.ap i u g a b
      rcases hB with e | e | e | e
      · exact hap.1 e
      · exact hap.2 e
      · cases e
      · cases e
    · rw [hm i L c, svs, List.getElem?_map, List.getElem?_replicate, if_pos (by omega)]; rfl
  have hen : ∀ (i : Nat) (u : Value), us[i]? = some u → ∃ n, n ≤ 1000000 ∧ Xs w base u i n μ := fun i u hu => by
    have hi : i < us.length := (List.getElem?_eq_some_iff.1 hu).1
    have hL : Ls[i]? = some (Ls[i]'(by rw [h.len]; exact hi)) := List.getElem?_eq_getElem _
    generalize Ls[i]'(by rw [h.len]; exact hi) = L at hL
    obtain ⟨o, hl⟩ := h.own i u L hu hL
    refine ⟨L.length, hl, ⟨by rw [← hm i L hL]; exact o, fun g hg => h2 g i u L hu hg hL, ?_⟩⟩
    rcases own_cases o with ⟨rfl, _⟩ | ⟨g, c, e1, e2⟩
    · exact .inl rfl
    · exact .inr ⟨g, _, c, L.length, e1, by rw [svs_length]; exact Nat.le_refl _, by omega, h2 g i u L hu e2 hL⟩
  refine ⟨μ, ⟨h.row, h.lists, Own.nil _ _, Own.nil _ _, fun k hk => ?_, fun k _ => ⟨fun e => (by cases e), fun e => (by cases e)⟩, fun k hk => (by cases hk), hcell, fun i u hu => ?_, fun j s i h1 => (by simp at h1), fun i hi => (by cases hi)⟩, hen⟩
  · rcases hk with hk | hk | hk
    · exact h.dX k hk
    · cases hk
    · cases hk
  · obtain ⟨n, _, hx⟩ := hen i u hu
    exact hx.en
end Go.Proofs.YticjokhfjkebpaaGreatDoor
