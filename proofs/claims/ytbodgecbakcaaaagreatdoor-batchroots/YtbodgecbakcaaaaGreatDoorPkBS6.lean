import Derived.Test.YtbodgecbakcaaaaGreatDoorPkBL11
/- Layer 12, the law: still of many lists (written by genBS6.py) -/
namespace Go.Proofs.YtbodgecbakcaaaaGreatDoor
open Go.RowKit Go.Shelf
namespace Bat
namespace B16
structure St (w : World) (X base : Nat) (vl vg vh : Value) (us GS : List Value) (HS : List Nat) (μ : Mu) : Prop where
  row : w.heap[X]? = some (.cells #[.slice none 0 0, .slice none 0 0, vl, vg, vh] 51 (0, 0))
  lists : Own w base vl us
  grown : Own w base vg GS
  whose : Own w base vh (ins HS)
  dX : ∀ k, vl.ownBlock = some k ∨ vg.ownBlock = some k ∨ vh.ownBlock = some k → k ≠ X
  d1 : ∀ k, vl.ownBlock = some k → vg.ownBlock ≠ some k ∧ vh.ownBlock ≠ some k
  d2 : ∀ k, vg.ownBlock = some k → vh.ownBlock ≠ some k
  mkd : ∀ g i ℓ, μ g = some (i, ℓ) → base ≤ g ∧ g < w.heap.size ∧ ¬ Bs X vl vg vh g ∧ ∀ j, j < ℓ → w.cell? ⟨g, j, none⟩ = some (sv (mrk16 i))
  lst : ∀ (i : Nat) (u : Value), us[i]? = some u → En μ i u
  grn : ∀ (j : Nat) (s : Value) (i : Nat), GS[j]? = some s → HS[j]? = some i → En μ i s
  hs : ∀ i ∈ HS, i < us.length
theorem St.lt {w : World} {X base : Nat} {vl vg vh : Value} {us GS : List Value} {HS : List Nat} {μ : Mu} (h : St w X base vl vg vh us GS HS μ) {k : Nat} (hk : Bs X vl vg vh k) : k < w.heap.size := by
  rcases hk with rfl | hk | hk | hk
  · exact lt_of_heap h.row
  · exact h.lists.lt k hk
  · exact h.grown.lt k hk
  · exact h.whose.lt k hk
theorem St.world {w w' : World} {X base : Nat} {vl vg vh : Value} {us GS : List Value} {HS : List Nat} {μ : Mu} (h : St w X base vl vg vh us GS HS μ) (hs : w.heap.size ≤ w'.heap.size)
    (hb : ∀ k, k < w.heap.size → (Bs X vl vg vh k ∨ (μ k).isSome = true) → w'.heap[k]? = w.heap[k]?) : St w' X base vl vg vh us GS HS μ where
  row := (hb X (lt_of_heap h.row) (.inl (.inl rfl))).trans h.row
  lists := h.lists.same hs fun k hk => hb k (h.lists.lt k hk) (.inl (.inr (.inl hk)))
  grown := h.grown.same hs fun k hk => hb k (h.grown.lt k hk) (.inl (.inr (.inr (.inl hk))))
  whose := h.whose.same hs fun k hk => hb k (h.whose.lt k hk) (.inl (.inr (.inr (.inr hk))))
  dX := h.dX
  d1 := h.d1
  d2 := h.d2
  mkd := fun g i ℓ hm => by
    obtain ⟨h0, h1, h2, h3⟩ := h.mkd g i ℓ hm
    refine ⟨h0, Nat.lt_of_lt_of_le h1 hs, h2, fun j hj => ?_⟩
    rw [← h3 j hj]
    exact World.cell?_of_block (w := w) (hb g h1 (.inr (by rw [hm]; rfl)))
  lst := h.lst
  grn := h.grn
  hs := h.hs
theorem St.below {w w' : World} {X base : Nat} {vl vg vh : Value} {us GS : List Value} {HS : List Nat} {μ : Mu} (h : St w X base vl vg vh us GS HS μ) (hb : Below w.heap.size w w') : St w' X base vl vg vh us GS HS μ :=
  h.world hb.size fun k hk _ => hb.block k hk
structure Xs (w : World) (base : Nat) (x : Value) (i ℓ : Nat) (μ : Mu) : Prop where
  own : Own w base x (svs (List.replicate ℓ (mrk16 i)))
  mrkd : ∀ g, x.ownBlock = some g → μ g = some (i, ℓ)
  en : En μ i x
theorem St.growX {w w' : World} {X base : Nat} {vl vg vh : Value} {us GS : List Value} {HS : List Nat} {μ : Mu} (h : St w X base vl vg vh us GS HS μ) {x x' : Value} {i ℓ : Nat} (hx : Xs w base x i ℓ μ) (hℓ : ℓ + 1 ≤ 2000000)
    (hg : Grow w w' x x') (ho : Own w' base x' (svs (List.replicate (ℓ + 1) (mrk16 i)))) :
    ∃ μ', St w' X base vl vg vh us GS HS μ' ∧ Xs w' base x' i (ℓ + 1) μ' ∧ (∀ g j m, μ g = some (j, m) → j ≠ i → μ' g = some (j, m)) ∧ (∀ g j m, μ' g = some (j, m) → j ≠ i → μ g = some (j, m)) := by
  have hnew : ∀ k, x'.ownBlock = some k → x.ownBlock = some k ∨ w.heap.size ≤ k := fun k hk => by
    rcases hg.alt with e | ⟨e, _⟩
    · left; rw [← e]; exact hk
    · right; exact e k hk
  have hxB : ∀ k, x.ownBlock = some k → ¬ Bs X vl vg vh k := fun k hk => (h.mkd k i ℓ (hx.mrkd k hk)).2.2.1
  have hxB' : ∀ k, x'.ownBlock = some k → ¬ Bs X vl vg vh k := fun k hk hB => by
    rcases hnew k hk with e | e
    · exact hxB k e hB
    · have := h.lt hB; omega
  have hkeep : ∀ k, k < w.heap.size → x'.ownBlock ≠ some k → w'.heap[k]? = w.heap[k]? := fun k hk hne => by
    rcases hg.alt with e | ⟨_, e⟩
    · exact hg.old k hk (e ▸ hne)
    · exact e k hk
  have hBk : ∀ k, Bs X vl vg vh k → w'.heap[k]? = w.heap[k]? := fun k hB => hkeep k (h.lt hB) fun e => hxB' k e hB
  obtain ⟨μ', hμ⟩ : ∃ μ' : Mu, ∀ k, μ' k = if x'.ownBlock = some k then some (i, ℓ + 1) else μ k := ⟨fun k => if x'.ownBlock = some k then some (i, ℓ + 1) else μ k, fun k => rfl⟩
  have hup : ∀ g j m, μ g = some (j, m) → x'.ownBlock = some g → j = i ∧ m = ℓ := fun g j m hm hxg => by
    rcases hnew g hxg with e | e
    · have := hx.mrkd g e
      rw [hm] at this
      injection this with this
      exact ⟨congrArg Prod.fst this, congrArg Prod.snd this⟩
    · have := (h.mkd g j m hm).2.1; omega
  have hmono : ∀ g j m, m ≤ 2000000 → μ g = some (j, m) → ∃ m', m ≤ m' ∧ m' ≤ 2000000 ∧ μ' g = some (j, m') := fun g j m hm2 hm => by
    by_cases e : x'.ownBlock = some g
    · obtain ⟨rfl, rfl⟩ := hup g j m hm e
      exact ⟨m + 1, by omega, hℓ, by rw [hμ, if_pos e]⟩
    · exact ⟨m, Nat.le_refl _, hm2, by rw [hμ, if_neg e]; exact hm⟩
  have hen : ∀ j s, En μ j s → En μ' j s := fun j s he => by
    rcases he with rfl | ⟨g, n, c, m, rfl, h1, h2, h3⟩
    · exact .inl rfl
    · obtain ⟨m', a, b, c'⟩ := hmono g j m h2 h3
      exact .inr ⟨g, n, c, m', rfl, by omega, b, c'⟩
  refine ⟨μ', ⟨(hBk X (.inl rfl)).trans h.row, h.lists.same hg.size fun k hk => hBk k (.inr (.inl hk)), h.grown.same hg.size fun k hk => hBk k (.inr (.inr (.inl hk))), h.whose.same hg.size fun k hk => hBk k (.inr (.inr (.inr hk))), h.dX, h.d1, h.d2, fun g j m hm => ?_, fun j u hu => hen j u (h.lst j u hu), fun j s k h1 h2 => hen k s (h.grn j s k h1 h2), h.hs⟩, ⟨ho, fun g hxg => by rw [hμ, if_pos hxg], ?_⟩, fun g j m hm hne => ?_, fun g j m hm hne => ?_⟩
  · by_cases e : x'.ownBlock = some g
    · rw [hμ, if_pos e] at hm
      injection hm with hm
      obtain ⟨rfl, rfl⟩ : i = j ∧ ℓ + 1 = m := ⟨congrArg Prod.fst hm, congrArg Prod.snd hm⟩
      refine ⟨ho.ge g e, ho.lt g e, hxB' g e, fun t ht => own_cell ho e ?_⟩
      rw [svs, List.getElem?_map, List.getElem?_replicate, if_pos ht]; rfl
    · rw [hμ, if_neg e] at hm
      obtain ⟨a0, a1, a2, a3⟩ := h.mkd g j m hm
      refine ⟨a0, Nat.lt_of_lt_of_le a1 hg.size, a2, fun t ht => ?_⟩
      rw [← a3 t ht]
      exact World.cell?_of_block (w := w) (hkeep g a1 e)
  · rcases own_cases ho with ⟨rfl, _⟩ | ⟨g, c, e1, e2⟩
    · exact .inl rfl
    · exact .inr ⟨g, _, c, ℓ + 1, e1, by rw [svs_length, List.length_replicate]; exact Nat.le_refl _, hℓ, by rw [hμ, if_pos e2]⟩
  · rw [hμ, if_neg]
    · exact hm
    · intro e
      exact hne (hup g j m hm e).1
  · by_cases e : x'.ownBlock = some g
    · rw [hμ, if_pos e] at hm
      injection hm with hm
      exact absurd (congrArg Prod.fst hm).symm hne
    · rwa [hμ, if_neg e] at hm
theorem St.growG {w w' : World} {X base : Nat} {vl vg vh vg' : Value} {us GS : List Value} {HS : List Nat} {μ : Mu} (h : St w X base vl vg vh us GS HS μ) {s : Value} (hl : GS.length = HS.length) (hg : Grow w w' vg vg') (ho : Own w' base vg' (GS ++ [s])) :
    St (w'.setCell ⟨X, 3, none⟩ vg') X base vl vg' vh us (GS ++ [s]) HS μ := by
  have hnew : ∀ k, vg'.ownBlock = some k → vg.ownBlock = some k ∨ w.heap.size ≤ k := fun k hk => by
    rcases hg.alt with e | ⟨e, _⟩
    · left; rw [← e]; exact hk
    · right; exact e k hk
  have hX := lt_of_heap h.row
  have hgX : vg.ownBlock ≠ some X := fun e => h.dX X (.inr (.inl e)) rfl
  have hgX' : ∀ k, vg'.ownBlock = some k → k ≠ X := fun k hk => by
    rcases hnew k hk with e | e
    · exact h.dX k (.inr (.inl e))
    · omega
  have row1 := (hg.old X hX hgX).trans h.row
  have row2 : (w'.setCell ⟨X, 3, none⟩ vg').heap[X]? = some (.cells #[.slice none 0 0, .slice none 0 0, vl, vg', vh] 51 (0, 0)) := heap_setCell_same w' X 3 _ _ vg' row1
  have hset : ∀ k, k ≠ X → (w'.setCell ⟨X, 3, none⟩ vg').heap[k]? = w'.heap[k]? := fun k hk => Below.heap_setCell w' _ vg' k hk
  have hsz : (w'.setCell ⟨X, 3, none⟩ vg').heap.size = w'.heap.size := by simp [World.setCell]
  have hk2 : ∀ k, k < w.heap.size → k ≠ X → vg.ownBlock ≠ some k → (w'.setCell ⟨X, 3, none⟩ vg').heap[k]? = w.heap[k]? := fun k h1 h2 h3 => (hset k h2).trans (hg.old k h1 h3)
  refine ⟨row2, h.lists.same (by rw [hsz]; exact hg.size) fun k hk => hk2 k (h.lists.lt k hk) (h.dX k (.inl hk)) (h.d1 k hk).1, ho.same (by rw [hsz]; exact Nat.le_refl _) fun k hk => hset k (hgX' k hk), h.whose.same (by rw [hsz]; exact hg.size) fun k hk => hk2 k (h.whose.lt k hk) (h.dX k (.inr (.inr hk))) (fun e => h.d2 k e hk), fun k hk => ?_, fun k hk => ⟨fun e => ?_, (h.d1 k hk).2⟩, fun k hk e => ?_, fun g i ℓ hm => ?_, h.lst, fun j t i h1 h2 => ?_, h.hs⟩
  · rcases hk with hk | hk | hk
    · exact h.dX k (.inl hk)
    · exact hgX' k hk
    · exact h.dX k (.inr (.inr hk))
  · rcases hnew k e with e' | e'
    · exact (h.d1 k hk).1 e'
    · have := h.lists.lt k hk; omega
  · rcases hnew k hk with e' | e'
    · exact h.d2 k e' e
    · have := h.whose.lt k e; omega
  · obtain ⟨a0, a1, a2, a3⟩ := h.mkd g i ℓ hm
    refine ⟨a0, by rw [hsz]; exact Nat.lt_of_lt_of_le a1 hg.size, fun hB => ?_, fun t ht => ?_⟩
    · rcases hB with e | e | e | e
      · exact a2 (.inl e)
      · exact a2 (.inr (.inl e))
      · rcases hnew g e with e' | e'
        · exact a2 (.inr (.inr (.inl e')))
        · omega
      · exact a2 (.inr (.inr (.inr e)))
    · rw [← a3 t ht]
      exact World.cell?_of_block (w := w) (hk2 g a1 (fun e => a2 (.inl e)) fun e => a2 (.inr (.inr (.inl e))))
  · have hj : j < HS.length := (List.getElem?_eq_some_iff.1 h2).1
    rw [List.getElem?_append_left (by omega)] at h1
    exact h.grn j t i h1 h2
theorem St.growH {w w' : World} {X base : Nat} {vl vg vh vh' : Value} {us GS : List Value} {HS : List Nat} {μ : Mu} {s : Value} {i : Nat} (h : St w X base vl vg vh us (GS ++ [s]) HS μ) (hl : GS.length = HS.length) (hi : i < us.length) (he : En μ i s) (hg : Grow w w' vh vh') (ho : Own w' base vh' (ins HS ++ [.int .i64 (i : Int)])) :
    St (w'.setCell ⟨X, 4, none⟩ vh') X base vl vg vh' us (GS ++ [s]) (HS ++ [i]) μ := by
  have hnew : ∀ k, vh'.ownBlock = some k → vh.ownBlock = some k ∨ w.heap.size ≤ k := fun k hk => by
    rcases hg.alt with e | ⟨e, _⟩
    · left; rw [← e]; exact hk
    · right; exact e k hk
  have hX := lt_of_heap h.row
  have hgX : vh.ownBlock ≠ some X := fun e => h.dX X (.inr (.inr e)) rfl
  have hgX' : ∀ k, vh'.ownBlock = some k → k ≠ X := fun k hk => by
    rcases hnew k hk with e | e
    · exact h.dX k (.inr (.inr e))
    · omega
  have row1 := (hg.old X hX hgX).trans h.row
  have row2 : (w'.setCell ⟨X, 4, none⟩ vh').heap[X]? = some (.cells #[.slice none 0 0, .slice none 0 0, vl, vg, vh'] 51 (0, 0)) := heap_setCell_same w' X 4 _ _ vh' row1
  have hset : ∀ k, k ≠ X → (w'.setCell ⟨X, 4, none⟩ vh').heap[k]? = w'.heap[k]? := fun k hk => Below.heap_setCell w' _ vh' k hk
  have hsz : (w'.setCell ⟨X, 4, none⟩ vh').heap.size = w'.heap.size := by simp [World.setCell]
  have hk2 : ∀ k, k < w.heap.size → k ≠ X → vh.ownBlock ≠ some k → (w'.setCell ⟨X, 4, none⟩ vh').heap[k]? = w.heap[k]? := fun k h1 h2 h3 => (hset k h2).trans (hg.old k h1 h3)
  refine ⟨row2, h.lists.same (by rw [hsz]; exact hg.size) fun k hk => hk2 k (h.lists.lt k hk) (h.dX k (.inl hk)) (h.d1 k hk).2, h.grown.same (by rw [hsz]; exact hg.size) fun k hk => hk2 k (h.grown.lt k hk) (h.dX k (.inr (.inl hk))) (h.d2 k hk), ?_, fun k hk => ?_, fun k hk => ⟨(h.d1 k hk).1, fun e => ?_⟩, fun k hk e => ?_, fun g j ℓ hm => ?_, h.lst, fun j t k h1 h2 => ?_, fun k hk => ?_⟩
  · have := ho.same (w' := w'.setCell ⟨X, 4, none⟩ vh') (by rw [hsz]; exact Nat.le_refl _) fun k hk => hset k (hgX' k hk)
    rwa [show ins (HS ++ [i]) = ins HS ++ [.int .i64 (i : Int)] by simp [ins]]
  · rcases hk with hk | hk | hk
    · exact h.dX k (.inl hk)
    · exact h.dX k (.inr (.inl hk))
    · exact hgX' k hk
  · rcases hnew k e with e' | e'
    · exact (h.d1 k hk).2 e'
    · have := h.lists.lt k hk; omega
  · rcases hnew k e with e' | e'
    · exact h.d2 k hk e'
    · have := h.grown.lt k hk; omega
  · obtain ⟨a0, a1, a2, a3⟩ := h.mkd g j ℓ hm
    refine ⟨a0, by rw [hsz]; exact Nat.lt_of_lt_of_le a1 hg.size, fun hB => ?_, fun t ht => ?_⟩
    · rcases hB with e | e | e | e
      · exact a2 (.inl e)
      · exact a2 (.inr (.inl e))
      · exact a2 (.inr (.inr (.inl e)))
      · rcases hnew g e with e' | e'
        · exact a2 (.inr (.inr (.inr e')))
        · omega
    · rw [← a3 t ht]
      exact World.cell?_of_block (w := w) (hk2 g a1 (fun e => a2 (.inl e)) fun e => a2 (.inr (.inr (.inr e))))
  · by_cases hj : j < HS.length
    · rw [List.getElem?_append_left hj] at h2
      exact h.grn j t k h1 h2
    · rw [List.getElem?_append_right (by omega)] at h2
      have hj0 : j - HS.length = 0 := by
        rcases Nat.eq_zero_or_pos (j - HS.length) with e | e
        · exact e
        · rw [List.getElem?_eq_none (by simp; omega)] at h2; cases h2
      rw [hj0] at h2
      obtain rfl := Option.some.inj h2
      rw [show j = GS.length from by omega, List.getElem?_append_right (Nat.le_refl _), Nat.sub_self] at h1
      obtain rfl := Option.some.inj h1
      exact he
  · rcases List.mem_append.1 hk with hk | hk
    · exact h.hs k hk
    · rw [List.mem_singleton] at hk; omega
theorem St.reads {w : World} {X base : Nat} {vl vg vh : Value} {us GS : List Value} {HS : List Nat} {μ : Mu} (h : St w X base vl vg vh us GS HS μ) {i : Nat} {s : Value} (he : En μ i s) : ∃ a n c, s = .slice a n c ∧ n ≤ 2000000 ∧ At w a (List.replicate n (mrk16 i)) := by
  rcases he with rfl | ⟨g, n, c, ℓ, rfl, h1, h2, h3⟩
  · exact ⟨none, 0, 0, rfl, by omega, At.nil _ _⟩
  · obtain ⟨a0, a1, a2, a3⟩ := h.mkd g i ℓ h3
    refine ⟨_, n, c, rfl, by omega, fun j p hp => ⟨_, rfl, a1, ?_⟩⟩
    rw [List.getElem?_replicate] at hp
    split at hp
    · obtain rfl := Option.some.inj hp
      rw [Addr.add_mid, Nat.zero_add]
      exact a3 j (by omega)
    · cases hp
theorem m2_start {w : World} {X base : Nat} {vl : Value} {us : List Value} {Ls : List (List (List UInt8))} (h : M2 w X base vl us Ls) (hm : ∀ (j : Nat) (L : List (List UInt8)), Ls[j]? = some L → L = List.replicate L.length (mrk16 j)) :
    ∃ μ, St w X base vl (.slice none 0 0) (.slice none 0 0) us [] [] μ ∧ ∀ (i : Nat) (u : Value), us[i]? = some u → ∃ n, n ≤ 1000000 ∧ Xs w base u i n μ := by
  classical
  obtain ⟨μ, h1, h2⟩ : ∃ μ : Mu, (∀ g i ℓ, μ g = some (i, ℓ) → ∃ u, us[i]? = some u ∧ u.ownBlock = some g ∧ ∃ L, Ls[i]? = some L ∧ L.length = ℓ) ∧ (∀ (g i : Nat) (u : Value) (L : List (List UInt8)), us[i]? = some u → u.ownBlock = some g → Ls[i]? = some L → μ g = some (i, L.length)) := by
    refine ⟨fun g => if hh : ∃ p : Nat × Nat, ∃ u, us[p.1]? = some u ∧ u.ownBlock = some g ∧ ∃ L, Ls[p.1]? = some L ∧ L.length = p.2 then some hh.choose else none, fun g i ℓ hμ => ?_, fun g i u L a b c => ?_⟩
    · simp only at hμ
      split at hμ
      · rename_i hh
        have := hh.choose_spec
        rw [Option.some.inj hμ] at this
        exact this
      · cases hμ
    · have hh : ∃ p : Nat × Nat, ∃ u, us[p.1]? = some u ∧ u.ownBlock = some g ∧ ∃ L, Ls[p.1]? = some L ∧ L.length = p.2 := ⟨(i, L.length), u, a, b, L, c, rfl⟩
      simp only
      rw [dif_pos hh]
      obtain ⟨u', a', b', L', c', d'⟩ := hh.choose_spec
      have e1 : hh.choose.1 = i := h.di _ _ u' u g a' a b' b
      rw [e1, c] at c'
      obtain rfl := Option.some.inj c'
      refine congrArg some (Prod.ext e1 d'.symm)
  have hcell : ∀ g i ℓ, μ g = some (i, ℓ) → base ≤ g ∧ g < w.heap.size ∧ ¬ Bs X vl (.slice none 0 0) (.slice none 0 0) g ∧ ∀ j, j < ℓ → w.cell? ⟨g, j, none⟩ = some (sv (mrk16 i)) := fun g i ℓ hμ => by
    obtain ⟨u, a, b, L, c, d⟩ := h1 g i ℓ hμ
    obtain ⟨o, _⟩ := h.own i u L a c
    refine ⟨o.ge g b, o.lt g b, fun hB => ?_, fun j hj => own_cell o b ?_⟩
    · have hap := h.ap i u g a b
      rcases hB with e | e | e | e
      · exact hap.1 e
      · exact hap.2 e
      · cases e
      · cases e
    · rw [hm i L c, svs, List.getElem?_map, List.getElem?_replicate, if_pos (by omega)]; rfl
  have hen : ∀ (i : Nat) (u : Value), us[i]? = some u → ∃ n, n ≤ 1000000 ∧ Xs w base u i n μ := fun i u hu => by
    have hi : i < us.length := (List.getElem?_eq_some_iff.1 hu).1
    have hL : Ls[i]? = some (Ls[i]'(by rw [h.len]; exact hi)) := List.getElem?_eq_getElem _
    generalize Ls[i]'(by rw [h.len]; exact hi) = L at hL
    obtain ⟨o, hl⟩ := h.own i u L hu hL
    refine ⟨L.length, hl, ⟨by rw [← hm i L hL]; exact o, fun g hg => h2 g i u L hu hg hL, ?_⟩⟩
    rcases own_cases o with ⟨rfl, _⟩ | ⟨g, c, e1, e2⟩
    · exact .inl rfl
    · exact .inr ⟨g, _, c, L.length, e1, by rw [svs_length]; exact Nat.le_refl _, by omega, h2 g i u L hu e2 hL⟩
  refine ⟨μ, ⟨h.row, h.lists, Own.nil _ _, Own.nil _ _, fun k hk => ?_, fun k _ => ⟨fun e => (by cases e), fun e => (by cases e)⟩, fun k hk => (by cases hk), hcell, fun i u hu => ?_, fun j s i h1 => (by simp at h1), fun i hi => (by cases hi)⟩, hen⟩
  · rcases hk with hk | hk | hk
    · exact h.dX k hk
    · cases hk
    · cases hk
  · obtain ⟨n, _, hx⟩ := hen i u hu
    exact hx.en
theorem Xs.below {w w' : World} {base : Nat} {x : Value} {i ℓ : Nat} {μ : Mu} (h : Xs w base x i ℓ μ) (hb : Below w.heap.size w w') : Xs w' base x i ℓ μ := ⟨h.own.below hb (Nat.le_refl _), h.mrkd, h.en⟩
theorem Xs.other {w w' : World} {base : Nat} {x x' u : Value} {i j ℓ n : Nat} {μ μ' : Mu} (hu : Xs w base u j n μ) (hx : Xs w base x i ℓ μ) (hne : j ≠ i) (hg : Grow w w' x x') (hm : ∀ g k m, μ g = some (k, m) → k ≠ i → μ' g = some (k, m)) : Xs w' base u j n μ' := by
  refine ⟨hu.own.same hg.size fun g hgu => hg.old g (hu.own.lt g hgu) fun e => ?_, fun g hgu => hm g j n (hu.mrkd g hgu) hne, hu.en.of fun g m h => hm g j m h hne⟩
  have h1 := hx.mrkd g e
  rw [hu.mrkd g hgu] at h1
  injection h1 with h1
  exact hne (congrArg Prod.fst h1)
theorem Xs.book {w w' : World} {X base : Nat} {vl vg vh : Value} {us GS : List Value} {HS : List Nat} {μ : Mu} (hs : St w X base vl vg vh us GS HS μ) {x : Value} {i ℓ : Nat} (hx : Xs w base x i ℓ μ) {v v' : Value} (hv : v = vg ∨ v = vh) (hg : Grow w w' v v') (o : Nat) (y : Value) : Xs (w'.setCell ⟨X, o, none⟩ y) base x i ℓ μ := by
  refine ⟨hx.own.same (by simp [World.setCell]; exact hg.size) fun g hgx => ?_, hx.mrkd, hx.en⟩
  have hB := (hs.mkd g i ℓ (hx.mrkd g hgx)).2.2.1
  rw [Below.heap_setCell w' _ y g (fun e => hB (.inl e))]
  refine hg.old g (hx.own.lt g hgx) fun e => ?_
  rcases hv with rfl | rfl
  · exact hB (.inr (.inr (.inl e)))
  · exact hB (.inr (.inr (.inr e)))
theorem St.c2 {w : World} {X base : Nat} {vl vg vh : Value} {us GS : List Value} {HS : List Nat} {μ : Mu} (h : St w X base vl vg vh us GS HS μ) : w.cell? ⟨X, 2, none⟩ = some vl := by rw [cell_of_row _ _ _ _ _ _ h.row]; rfl
theorem St.c3 {w : World} {X base : Nat} {vl vg vh : Value} {us GS : List Value} {HS : List Nat} {μ : Mu} (h : St w X base vl vg vh us GS HS μ) : w.cell? ⟨X, 3, none⟩ = some vg := by rw [cell_of_row _ _ _ _ _ _ h.row]; rfl
theorem St.c4 {w : World} {X base : Nat} {vl vg vh : Value} {us GS : List Value} {HS : List Nat} {μ : Mu} (h : St w X base vl vg vh us GS HS μ) : w.cell? ⟨X, 4, none⟩ = some vh := by rw [cell_of_row _ _ _ _ _ _ h.row]; rfl
theorem St.field {w w' : World} {X base : Nat} {vl vg vh : Value} {us GS : List Value} {HS : List Nat} {μ : Mu} (h : St w X base vl vg vh us GS HS μ) {v v' : Value} (hv : v = vg ∨ v = vh) (hg : Grow w w' v v') : w'.cell? ⟨X, 3, none⟩ = some vg ∧ w'.frozen? ⟨X, 3, none⟩ = false ∧ w'.cell? ⟨X, 4, none⟩ = some vh ∧ w'.frozen? ⟨X, 4, none⟩ = false := by
  have hne : v.ownBlock ≠ some X := fun e => by
    rcases hv with rfl | rfl
    · exact h.dX X (.inr (.inl e)) rfl
    · exact h.dX X (.inr (.inr e)) rfl
  have r := (hg.old X (lt_of_heap h.row) hne).trans h.row
  exact ⟨by rw [cell_of_row _ _ _ _ _ _ r]; rfl, frozen_of_row _ _ _ _ _ r, by rw [cell_of_row _ _ _ _ _ _ r]; rfl, frozen_of_row _ _ _ _ _ r⟩
set_option maxRecDepth 100000 in
set_option maxHeartbeats 4000000 in
theorem still16_any (X base N : Nat) (vf vw : Value) (us cs : List Value) (Ls : List (List (List UInt8))) (w : World)
    (hX : w.heap[X]? = some (.cells #[vf, vw, .slice none 0 0, .slice none 0 0, .slice none 0 0] 51 (0, 0))) (hf : Own w base vf us) (hw : Own w base vw cs) (n1 : us.length = N) (n2 : cs.length = N) (n3 : Ls.length = N) (n4 : 0 < N) (n5 : N ≤ 1000)
    (hus : ∀ (i : Nat) (u : Value) (L : List (List UInt8)), us[i]? = some u → Ls[i]? = some L → Own w base u (svs L) ∧ L.length ≤ 1000000) (hcs : ∀ (i : Nat) (c : Value) (L : List (List UInt8)), cs[i]? = some c → Ls[i]? = some L → Own w base c (svs L))
    (hap : ∀ (i : Nat) (u : Value) (g : Nat), us[i]? = some u → u.ownBlock = some g → g ≠ X) (hdi : ∀ (i j : Nat) (u v : Value) (g : Nat), us[i]? = some u → us[j]? = some v → u.ownBlock = some g → v.ownBlock = some g → i = j) (hbase : base ≤ w.heap.size) :
    Calls Tryz.prog 29 #[.pointer (some ⟨X, 0, none⟩)] w fun e w' => e = .returned (.bool true) ∧ Keep (Sd X us) w w' := by
  have hXl := lt_of_heap hX
  have c0 : w.cell? ⟨X, 0, none⟩ = some vf := by rw [cell_of_row _ _ _ _ _ _ hX]; rfl
  have c1 : w.cell? ⟨X, 1, none⟩ = some vw := by rw [cell_of_row _ _ _ _ _ _ hX]; rfl
  have c2 : w.cell? ⟨X, 2, none⟩ = some (.slice none 0 0) := by rw [cell_of_row _ _ _ _ _ _ hX]; rfl
  have Hf := hid hf
  have Hw := hid hw
  have HX := hid hX
  have Hus := hid hus
  have Hcs := hid hcs
  have Hap := hid hap
  have Hdi := hid hdi
  obtain ⟨fb, fc, rfl, fb1, fb2⟩ := ownSome hf (by omega)
  obtain ⟨wb, wc, rfl, wb1, wb2⟩ := ownSome hw (by omega)
  rw [n1] at c0
  rw [n2] at c1
  clear hX hf hw hus hcs hap hdi
  go_enter Tryz.func29, Tryz.ntmps29
  go_wp2
  go_loopw [3] (fun i w' => ∃ k : Nat, k ≤ N ∧ i = .int .i64 (k : Int) ∧ Hid (Below w.heap.size w w' ∧ w'.heap = w.heap)) (fun i _ => N - (intOf i).toNat)
  case atStart => exact ⟨0, by omega, rfl, hid ⟨Below.refl _ _, rfl⟩⟩
  case round =>
    obtain ⟨k, hk, rfl, hw'⟩ := hrel
    rw [← heapCell hw'.out.2 ⟨X, 0, none⟩] at c0
    rw [← heapCell hw'.out.2 ⟨X, 1, none⟩] at c1
    rw [← heapCell hw'.out.2 ⟨X, 2, none⟩] at c2
    by_cases hkN : k < N
    · have b0 : (k : Int) < (N : Int) := by omega
      obtain ⟨u, hu⟩ : ∃ u, us[k]? = some u := ⟨_, List.getElem?_eq_getElem (by omega)⟩
      obtain ⟨c, hc⟩ : ∃ c, cs[k]? = some c := ⟨_, List.getElem?_eq_getElem (by omega)⟩
      obtain ⟨L, hL⟩ : ∃ L, Ls[k]? = some L := ⟨_, List.getElem?_eq_getElem (by omega)⟩
      obtain ⟨o1, hL1⟩ := Hus.out k u L hu hL
      have o2 := Hcs.out k c L hc hL
      have d0 := (heapCell hw'.out.2 ⟨fb, k, none⟩).trans (own_cell Hf.out rfl hu)
      have d1 := (heapCell hw'.out.2 ⟨wb, k, none⟩).trans (own_cell Hw.out rfl hc)
      obtain ⟨ua, uc, rfl⟩ := ownShape o1
      obtain ⟨ca, cc, rfl⟩ := ownShape o2
      rw [svs_length] at d0 d1
      have A1 := (ownAt o1).heap hw'.out.2
      have A2 := (ownAt o2).heap hw'.out.2
      have hs := fun w'' (e : w''.heap = wr.heap) => same_yes L ua ca uc cc w'' (A1.heap e) (A2.heap e) (by omega)
      obtain ⟨n, hn⟩ : ∃ n, L.length = n := ⟨_, rfl⟩
      rw [hn] at d0 d1 hs
      clear o1 o2 A1 A2 hu hc hL Hf Hw Hus Hcs
      go_wp2
      go_region_held3 (fun w' => w'.cell? ⟨X, 0, none⟩ = some (.slice (some ⟨fb, 0, none⟩) N fc) ∧ w'.cell? ⟨X, 1, none⟩ = some (.slice (some ⟨wb, 0, none⟩) N wc) ∧ w'.cell? ⟨fb, k, none⟩ = some (.slice ua n uc) ∧ w'.cell? ⟨wb, k, none⟩ = some (.slice ca n cc)) (first | exact e4 | exact ⟨c0, c1, d0, d1⟩)
        (first | (go_at_call 24; (with_reducible refine (hs wr.drew rfl).mono ?_); rintro e w2 ⟨rfl, hw2, hh2'⟩; have hh2 : w2.heap = wr.heap := hh2'; have e4 := And.intro ((heapCell hh2 ⟨X, 0, none⟩).trans c0) (And.intro ((heapCell hh2 ⟨X, 1, none⟩).trans c1) (And.intro ((heapCell hh2 ⟨fb, k, none⟩).trans d0) ((heapCell hh2 ⟨wb, k, none⟩).trans d1)))))
      go_wp2
      exact ⟨⟨k + 1, by omega, by go_num, hid ⟨hw'.out.1.trans (((Below.refl wr.heap.size wr).drew.trans hw2).mono hw'.out.1.size), hh2.trans hw'.out.2⟩⟩, by simp [intOf]; omega⟩
    · obtain rfl : N = k := by omega
      have b0 : ¬ (N : Int) < (N : Int) := by omega
      have Hfd : Own wr.drew base (.slice (some ⟨fb, 0, none⟩) us.length fc) us := (Hf.out.same (w' := wr) (by rw [hw'.out.2]; exact Nat.le_refl _) (fun g _ => by rw [hw'.out.2])).drew
      have h1c : ∀ u ∈ us, u.oneCell' = true := fun u hu => by
        obtain ⟨i, hi⟩ := List.mem_iff_getElem?.1 hu
        obtain ⟨L, hL⟩ : ∃ L, Ls[i]? = some L := ⟨_, List.getElem?_eq_getElem (by have := (List.getElem?_eq_some_iff.1 hi).1; omega)⟩
        obtain ⟨a', c', e⟩ := ownShape (Hus.out i u L hi hL).1
        rw [e]; rfl
      obtain ⟨vl, w3, hap3, hO3, hb3⟩ := append_free wr.drew base _ us Hfd h1c (by omega) (by omega)
      rw [n1] at hap3
      obtain ⟨lb, lc, hvl, lb1, lb2⟩ := ownSome hO3 (by omega)
      have hrX : wr.heap[X]? = some (.cells #[.slice (some ⟨fb, 0, none⟩) us.length fc, .slice (some ⟨wb, 0, none⟩) cs.length wc, .slice none 0 0, .slice none 0 0, .slice none 0 0] 51 (0, 0)) := by rw [hw'.out.2]; exact HX.out
      have hXr : X < wr.heap.size := lt_of_heap hrX
      have r3 : w3.heap[X]? = some (.cells #[.slice (some ⟨fb, 0, none⟩) us.length fc, .slice (some ⟨wb, 0, none⟩) cs.length wc, .slice none 0 0, .slice none 0 0, .slice none 0 0] 51 (0, 0)) := (hb3.block X hXr).trans hrX
      have e2 : w3.cell? ⟨X, 2, none⟩ = some (.slice none 0 0) := by rw [cell_of_row _ _ _ _ _ _ r3]; rfl
      have f2 : w3.frozen? ⟨X, 2, none⟩ = false := frozen_of_row _ _ _ _ _ r3
      have r4 := heap_setCell_same w3 X 2 _ _ vl r3
      have r5 := heap_setCell_same _ X 0 _ _ (.slice none 0 0) r4
      have r6 := heap_setCell_same _ X 1 _ _ (.slice none 0 0) r5
      have g4 : (w3.setCell ⟨X, 2, none⟩ vl).cell? ⟨X, 0, none⟩ = some (.slice (some ⟨fb, 0, none⟩) us.length fc) := by rw [cell_of_row _ _ _ _ _ _ r4]; rfl
      have f4 : (w3.setCell ⟨X, 2, none⟩ vl).frozen? ⟨X, 0, none⟩ = false := frozen_of_row _ _ _ _ _ r4
      have g5 : ((w3.setCell ⟨X, 2, none⟩ vl).setCell ⟨X, 0, none⟩ (.slice none 0 0)).cell? ⟨X, 1, none⟩ = some (.slice (some ⟨wb, 0, none⟩) cs.length wc) := by rw [cell_of_row _ _ _ _ _ _ r5]; rfl
      have f5 : ((w3.setCell ⟨X, 2, none⟩ vl).setCell ⟨X, 0, none⟩ (.slice none 0 0)).frozen? ⟨X, 1, none⟩ = false := frozen_of_row _ _ _ _ _ r5
      have hset : ∀ (w' : World) (o : Nat) (v : Value) (b : Nat), b ≠ X → (w'.setCell ⟨X, o, none⟩ v).heap[b]? = w'.heap[b]? := fun w' o v b hb => Below.heap_setCell w' _ v b hb
      have hss : ∀ (w' : World) (o : Nat) (v : Value), (w'.setCell ⟨X, o, none⟩ v).heap.size = w'.heap.size := fun w' o v => by simp [World.setCell]
      obtain ⟨W, hW⟩ : ∃ W, ((w3.setCell ⟨X, 2, none⟩ vl).setCell ⟨X, 0, none⟩ (.slice none 0 0)).setCell ⟨X, 1, none⟩ (.slice none 0 0) = W := ⟨_, rfl⟩
      have hWs : W.heap.size = w3.heap.size := by rw [← hW, hss, hss, hss]
      have hWb : ∀ b, b ≠ X → W.heap[b]? = w3.heap[b]? := fun b hb => by rw [← hW, hset _ _ _ _ hb, hset _ _ _ _ hb, hset _ _ _ _ hb]
      have hww : w3.heap.size ≥ w.heap.size := by have := hb3.size; rw [show wr.drew.heap = wr.heap from rfl, hw'.out.2] at this; exact this
      have hwb : ∀ b, b < w.heap.size → b ≠ X → W.heap[b]? = w.heap[b]? := fun b h1 h2 => by
        rw [hWb b h2, hb3.block b (by show b < wr.heap.size; rw [hw'.out.2]; exact h1)]
        show wr.heap[b]? = _
        rw [hw'.out.2]
      have m2 : Hid (M2 W X base vl us Ls) := by
        rw [hW] at r6
        refine ⟨r6, (hO3.mono (by show base ≤ wr.heap.size; rw [hw'.out.2]; exact hbase)).same (by rw [hWs]; exact Nat.le_refl _) fun b hb => hWb b fun e => ?_, by omega, fun b hb e => ?_, fun i u L h1 h2 => ?_, fun i u g h1 h2 => ⟨Hap.out i u g h1 h2, fun e => ?_⟩, Hdi.out⟩
        · have := hO3.ge b hb
          have : wr.heap.size ≤ b := this
          omega
        · have : wr.heap.size ≤ b := hO3.ge b hb
          omega
        · obtain ⟨o1, o2⟩ := Hus.out i u L h1 h2
          exact ⟨o1.same (by rw [hWs]; exact hww) fun b hb => hwb b (o1.lt b hb) (Hap.out i u b h1 hb), o2⟩
        · have : wr.heap.size ≤ g := hO3.ge g e
          obtain ⟨L, hL⟩ : ∃ L, Ls[i]? = some L := ⟨_, List.getElem?_eq_getElem (by have := (List.getElem?_eq_some_iff.1 h1).1; omega)⟩
          have := (Hus.out i u L h1 hL).1.lt g h2
          rw [hw'.out.2] at *
          omega
      have hBW : Hid (Keep (Sd X us) w W) := by
        have b1 : Keep (Sd X us) w w3 := (Keep.ofBelow (S := Sd X us) hw'.out.1).trans (Keep.ofBelow (S := Sd X us) ((Below.refl wr.heap.size wr).drew.trans hb3)) (fun _ _ h => h)
        rw [← hW]
        exact ((b1.trans (Keep.ofSet (S := Sd X us) _ X 2 _ (Or.inl rfl)) (fun _ _ h => h)).trans (Keep.ofSet (S := Sd X us) _ X 0 _ (Or.inl rfl)) (fun _ _ h => h)).trans (Keep.ofSet (S := Sd X us) _ X 1 _ (Or.inl rfl)) (fun _ _ h => h)
      rw [n1] at g4
      rw [n2] at g5
      subst hvl
      rw [n1] at *
      clear Hfd h1c hO3 hb3 r3 r4 r5 r6 hset hss hWs hWb hww hwb Hf Hw HX Hus Hcs Hap Hdi hrX hXr hw' lb1 lb2
      go_wp2
      go_cut [5] (fun v w' => v = .int .i64 0 ∧ w' = w3.setCell ⟨X, 2, none⟩ (.slice (some ⟨lb, 0, none⟩) N lc))
      case first =>
        go_region_law (refine step_append_run rfl _ _ 41 rfl (.slice none 0 0) _ _ w3 rfl rfl hap3 ?_)
        all_goals
          go_wp2_with fail
          go_meet
          exact ⟨rfl, rfl⟩
      case rest =>
        obtain ⟨rfl, rfl⟩ := hcut
        go_wp2
        try rw [hW]
        clear hW g4 g5 f4 f5 e2 f2 hap3 c0 c1 c2 b0
        obtain ⟨vl, hvl⟩ : ∃ vl : Value, vl = .slice (some ⟨lb, 0, none⟩) N lc := ⟨_, rfl⟩
        rw [← hvl] at m2
        go_loopw [6] (fun i w' => ∃ (k : Nat) (Ls' : List (List (List UInt8))), k ≤ N ∧ i = .int .i64 (k : Int) ∧ Hid (M2 w' X base vl us Ls') ∧ Hid (∀ (j : Nat) (L : List (List UInt8)), j < k → Ls'[j]? = some L → L = List.replicate L.length (mrk16 j)) ∧ Hid (Keep (Sd X us) w w')) (fun i _ => N - (intOf i).toNat)
        case atStart => exact ⟨0, Ls, by omega, rfl, m2, (fun j L hj => by omega), hBW⟩
        case round =>
          clear m2 hBW
          obtain ⟨k, Ls', hk, rfl, m2, hmk, hB⟩ := hrel
          have hul : us.length = N := by
            have := m2.out.lists
            rcases own_cases this with ⟨e, _⟩ | ⟨g, c, e, _⟩
            · rw [hvl] at e; cases e
            · rw [hvl] at e; injection e with _ e2; exact e2.symm
          have c2 : wr.cell? ⟨X, 2, none⟩ = some (.slice (some ⟨lb, 0, none⟩) N lc) := by rw [cell_of_row _ _ _ _ _ _ m2.out.row, hvl]; rfl
          by_cases hkN : k < N
          · have b0 : (k : Int) < (N : Int) := by omega
            obtain ⟨u, hu⟩ : ∃ u, us[k]? = some u := ⟨_, List.getElem?_eq_getElem (by omega)⟩
            obtain ⟨L0, hL0⟩ : ∃ L, Ls'[k]? = some L := ⟨_, List.getElem?_eq_getElem (by have := m2.out.len; omega)⟩
            have d2 := own_cell m2.out.lists (g := lb) (by rw [hvl]; rfl) hu
            obtain ⟨ua, uc, hue⟩ := ownShape (m2.out.own k u L0 hu hL0).1
            rw [svs_length] at hue
            obtain ⟨n, hn⟩ : ∃ n, L0.length = n := ⟨_, rfl⟩
            rw [hn] at hue
            have hn1 := (m2.out.own k u L0 hu hL0).2
            rw [hue] at d2
            obtain ⟨MB, hMB⟩ : ∃ MB : ByteArray, Hid (sv (mrk16 k) = .string MB) := ⟨⟨(mrk16 k).toArray⟩, rfl⟩
            have hmark := fun w' => mark16_at k (by omega) w'
            rw [hMB.out] at hmark
            have HU := hid hu
            have HUE := hid hue
            go_wp2
            obtain ⟨wo, rfl⟩ : ∃ wo : World, wo = wr := ⟨_, rfl⟩
            go_loopw [7] (fun i w' => ∃ (kk : Nat) (Ls2 : List (List (List UInt8))) (L' : List (List UInt8)), kk ≤ n ∧ i = .int .i64 (kk : Int) ∧ Hid (M2 w' X base vl us Ls2) ∧ Hid (∀ (j : Nat) (L : List (List UInt8)), j < k → Ls2[j]? = some L → L = List.replicate L.length (mrk16 j)) ∧ Hid (Ls2[k]? = some L') ∧ Hid (L'.length = n) ∧ Hid (L'.take kk = List.replicate kk (mrk16 k)) ∧ Hid (Keep (Sd X us) w w')) (fun i _ => n - (intOf i).toNat)
            case atStart => exact ⟨0, Ls', L0, by omega, rfl, m2, hmk, hL0, hn, rfl, hB⟩
            case round =>
              clear m2 hmk hB c2 d2 hL0
              obtain ⟨kk, Ls2, L', hkk, rfl, m2, hmk, hL', hLn, htk, hB⟩ := hrel
              have c2 : wr.cell? ⟨X, 2, none⟩ = some (.slice (some ⟨lb, 0, none⟩) N lc) := by rw [cell_of_row _ _ _ _ _ _ m2.out.row, hvl]; rfl
              have d2 := own_cell m2.out.lists (g := lb) (by rw [hvl]; rfl) HU.out
              rw [HUE.out] at d2
              by_cases hkn : kk < n
              · have b1 : (kk : Int) < (n : Int) := by omega
                have ho := (m2.out.own k u L' HU.out hL'.out).1
                obtain ⟨g, gc, hg, g1, g2⟩ := ownSome ho (by rw [svs_length, hLn.out]; omega)
                rw [svs_length, hLn.out] at hg
                have hg' := HUE.out.symm.trans hg
                injection hg' with e1 e2 e3
                subst e1
                obtain ⟨xo, hxo⟩ : ∃ xo, (svs L')[kk]? = some xo := ⟨_, List.getElem?_eq_getElem (by rw [svs_length, hLn.out]; exact hkn)⟩
                have hout := hid hg
                have hdr : M2 wr.drew X base vl us Ls2 := m2.out.below (Below.refl wr.heap.size wr).drew
                have HD := hid hdr
                clear hdr ho e2 e3
                go_wp2
                go_region_with ((go_at_call 46; refine (hmark _).mono ?_; rintro e w2 ⟨rfl, hw2⟩; have M3 := HD.out.below hw2; have c3 : w2.cell? ⟨X, 2, none⟩ = some (.slice (some ⟨lb, 0, none⟩) N lc) := (by rw [cell_of_row _ _ _ _ _ _ M3.row, hvl]; rfl); have d3 := own_cell M3.lists (g := lb) (by rw [hvl]; rfl) HU.out; rw [HUE.out] at d3; have o3 := (M3.own k u L' HU.out hL'.out).1; have x3 := own_cell o3 (g := g) (by rw [HUE.out]; rfl) hxo; have z3 := ownFree o3 (g := g) (by rw [HUE.out]; rfl) hxo))
                all_goals go_wp2
                all_goals
                  have M4 := M3.set (i := k) (g := g) (n := n) (c := uc) (k := kk) (by rw [HU.out, HUE.out]) hL'.out (by rw [hLn.out]; exact hkn) (mrk16 k)
                  rw [hMB.out] at M4
                  have hB4 := (hB.out.trans (Keep.ofBelow (S := Sd X us) ((Below.refl wr.heap.size wr).drew.trans hw2)) (fun _ _ h => h)).trans (Keep.ofSet (S := Sd X us) _ g kk (.string MB) (Or.inr ⟨k, u, HU.out, by rw [HUE.out]; rfl⟩)) (fun _ _ h => h)
                  exact ⟨⟨kk + 1, Ls2.set k (L'.set kk (mrk16 k)), L'.set kk (mrk16 k), by omega, by go_num, hid M4, hid (fun j L hj h => hmk.out j L hj (by rw [List.getElem?_set_ne (by omega)] at h; exact h)), hid (List.getElem?_set_self (List.getElem?_eq_some_iff.1 hL'.out).1), hid (by rw [List.length_set]; exact hLn.out), hid (take_set L' kk (by rw [hLn.out]; exact hkn) _ htk.out), hid hB4⟩, by simp [intOf]; omega⟩
              · have b1 : ¬ (kk : Int) < (n : Int) := by omega
                go_wp2
                refine ⟨⟨k + 1, Ls2, by omega, by go_num, m2, hid (fun j L hj h => ?_), hB⟩, by simp [intOf]; omega⟩
                by_cases e : j < k
                · exact hmk.out j L e h
                · obtain rfl : k = j := by omega
                  rw [hL'.out] at h
                  obtain rfl := Option.some.inj h
                  have := htk.out
                  rw [List.take_of_length_le (by rw [hLn.out]; omega)] at this
                  rw [this, List.length_replicate]
          · obtain rfl : N = k := by omega
            have b0 : ¬ (N : Int) < (N : Int) := by omega
            obtain ⟨μ, hSt, hXs⟩ := m2_start m2.out (fun j L h => hmk.out j L (by have := (List.getElem?_eq_some_iff.1 h).1; have := m2.out.len; omega) h)
            have S0 := hid hSt
            have XS0 := hid hXs
            clear hSt hXs m2 hmk
            go_wp2
            go_loopw [8] (fun i w' => ∃ (k : Nat) (vg vh : Value) (GS : List Value) (HS : List Nat) (μ : Mu), k ≤ N ∧ i = .int .i64 (k : Int) ∧ Hid (St w' X base vl vg vh us GS HS μ) ∧ Hid (GS.length = HS.length ∧ HS.length = 20 * k) ∧ Hid (∀ (j : Nat) (u : Value), k ≤ j → us[j]? = some u → ∃ n, n ≤ 1000000 ∧ Xs w' base u j n μ) ∧ Hid (Kq (Sd X us) w w' vg vh (.slice none 0 0))) (fun i _ => N - (intOf i).toNat)
            case atStart => exact ⟨0, _, _, [], [], μ, by omega, rfl, S0, ⟨rfl, rfl⟩, (fun j u _ h => XS0.out j u h), hid ⟨hB.out, fun k e => (by cases e), fun k e => (by cases e), fun k e => (by cases e)⟩⟩
            case round =>
              clear S0 XS0 hB c2
              obtain ⟨k, vg, vh, GS, HS, μ, hk, rfl, S, hlen, hXs, hB⟩ := hrel
              have c2 := S.out.c2
              rw [hvl] at c2
              by_cases hkN : k < N
              · have b0 : (k : Int) < (N : Int) := by omega
                obtain ⟨u, hu⟩ : ∃ u, us[k]? = some u := ⟨_, List.getElem?_eq_getElem (by omega)⟩
                have d2 := own_cell S.out.lists (g := lb) (by rw [hvl]; rfl) hu
                obtain ⟨n, hn, hx0⟩ := hXs.out k u (Nat.le_refl _) hu
                obtain ⟨ua, un, uc, hue⟩ := own_sl hx0.own
                rw [hue] at d2
                have XS := hid hx0
                obtain ⟨MB, hMB⟩ : ∃ MB : ByteArray, Hid (sv (mrk16 k) = .string MB) := ⟨⟨(mrk16 k).toArray⟩, rfl⟩
                have hmark := fun w' => mark16_at k (by omega) w'
                rw [hMB.out] at hmark
                have XO : Hid (∀ (j : Nat) (u : Value), k < j → us[j]? = some u → ∃ n, n ≤ 1000000 ∧ Xs wr base u j n μ) := fun j u h1 h2 => hXs.out j u (by omega) h2
                have KX : Hid (Kq (Sd X us) w wr vg vh (.slice ua un uc)) := ⟨hB.out.keep, hB.out.g, hB.out.h, fun e he => .inl (.inr ⟨k, u, hu, by rw [hue]; exact he⟩)⟩
                clear hx0 hXs
                rw [hue] at XS
                go_wp2
                obtain ⟨wo, rfl⟩ : ∃ wo : World, wo = wr := ⟨_, rfl⟩
                go_loopw [9, 10] (fun x kk w' => ∃ (t : Nat) (vg vh : Value) (GS : List Value) (HS : List Nat) (μ : Mu), t ≤ 20 ∧ kk = .int .i64 (t : Int) ∧ Hid (St w' X base vl vg vh us GS HS μ) ∧ Hid (GS.length = HS.length ∧ HS.length = 20 * k + t) ∧ Hid (Xs w' base x k (n + t) μ) ∧ Hid (∀ (j : Nat) (u : Value), k < j → us[j]? = some u → ∃ n, n ≤ 1000000 ∧ Xs w' base u j n μ) ∧ Hid (Kq (Sd X us) w w' vg vh x)) (fun _ kk _ => 20 - (intOf kk).toNat)
                case atStart => exact ⟨0, vg, vh, GS, HS, μ, by omega, rfl, S, hlen, XS, XO, KX⟩
                case round =>
                  clear S hlen XS XO hB KX c2 d2
                  obtain ⟨t, vg, vh, GS, HS, μ, ht, rfl, S, hlen, XS, XO, hB⟩ := hrel
                  by_cases ht2 : t < 20
                  · have b1 : (t : Int) < 20 := by omega
                    obtain ⟨xa0, xn0, xc0, rfl⟩ := own_sl XS.out.own
                    obtain ⟨ga0, gn0, gc0, rfl⟩ := own_sl S.out.grown
                    obtain ⟨ha0, hn0, hc0, rfl⟩ := own_sl S.out.whose
                    go_wp2_with (go_at_call 46; fail)
                    refine (hmark _).mono ?_
                    rintro e w2 ⟨rfl, hw2⟩
                    have B2 := hB.out.below hw2
                    have S2 := S.out.below hw2
                    have X2 := XS.out.below hw2
                    have XO2 : ∀ (j : Nat) (u : Value), k < j → us[j]? = some u → ∃ n, n ≤ 1000000 ∧ Xs w2 base u j n μ := fun j u h1 h2 => by
                      obtain ⟨n', a1, a2⟩ := XO.out j u h1 h2
                      exact ⟨n', a1, a2.below hw2⟩
                    obtain ⟨x', w3, hap3, hO3, hG3⟩ := append_one 23 9 (.string ⟨#[]⟩) 16 (by decide) Tryz.underlying23 infoS rfl w2 base _ _ (.string MB) rfl X2.own (by rw [svs_length, List.length_replicate]; omega) (Nat.le_trans hbase B2.size)
                    rw [← hMB.out, svs_more] at hO3
                    obtain ⟨μ', S3, X3, hμ1, _⟩ := S2.growX X2 (by omega) hG3 hO3
                    have XO3 : ∀ (j : Nat) (u : Value), k < j → us[j]? = some u → ∃ n, n ≤ 1000000 ∧ Xs w3 base u j n μ' := fun j u h1 h2 => by
                      obtain ⟨n', a1, a2⟩ := XO2 j u h1 h2
                      exact ⟨n', a1, a2.other X2 (by omega) hG3 hμ1⟩
                    have B3 := B2.growX hG3
                    obtain ⟨xa', xn', xc', rfl⟩ := own_sl X3.own
                    obtain ⟨vg', w4, hap4, hO4, hG4⟩ := append_one 41 23 (.slice none 0 0) 24 (by decide) Tryz.underlying41 infoLS rfl w3 base (.slice ga0 gn0 gc0) GS (.slice xa' xn' xc') rfl S3.grown (by have := hlen.out; omega) (Nat.le_trans hbase B3.size)
                    obtain ⟨ga, gn, gc, rfl⟩ := own_sl hO4
                    obtain ⟨q1, q2, q5, q6⟩ := S3.field (.inl rfl) hG4
                    have S5 := S3.growG hlen.out.1 hG4 hO4
                    have X5 := Xs.book S3 X3 (.inl rfl) hG4 3 (.slice ga gn gc)
                    have XO5 : ∀ (j : Nat) (u : Value), k < j → us[j]? = some u → ∃ n, n ≤ 1000000 ∧ Xs (w4.setCell ⟨X, 3, none⟩ (.slice ga gn gc)) base u j n μ' := fun j u h1 h2 => by
                      obtain ⟨n', a1, a2⟩ := XO3 j u h1 h2
                      exact ⟨n', a1, Xs.book S3 a2 (.inl rfl) hG4 3 (.slice ga gn gc)⟩
                    have B5 := B3.growG hG4 (Or.inl rfl) 3 (.slice ga gn gc)
                    obtain ⟨vh', w6, hap6, hO6, hG6⟩ := append_one 22 3 (.int .i64 0) 8 (by decide) Tryz.underlying22 infoI3 rfl _ base (.slice ha0 hn0 hc0) (ins HS) (.int .i64 (k : Int)) rfl S5.whose (by rw [ins_length]; have := hlen.out; omega) (Nat.le_trans hbase B5.size)
                    rw [show (w4.setCell ⟨X, 3, none⟩ (.slice ga gn gc)).heap.size = w4.heap.size from by simp [World.setCell]] at hap6
                    obtain ⟨ha, hn', hc', rfl⟩ := own_sl hO6
                    obtain ⟨_, _, q3, q4⟩ := S5.field (.inr rfl) hG6
                    have S7 := hid (S5.growH hlen.out.1 (by omega) X5.en hG6 hO6)
                    have X7 := hid (Xs.book S5 X5 (.inr rfl) hG6 4 (.slice ha hn' hc'))
                    have XO7 : Hid (∀ (j : Nat) (u : Value), k < j → us[j]? = some u → ∃ n, n ≤ 1000000 ∧ Xs (w6.setCell ⟨X, 4, none⟩ (.slice ha hn' hc')) base u j n μ') := fun j u h1 h2 => by
                      obtain ⟨n', a1, a2⟩ := XO5 j u h1 h2
                      exact ⟨n', a1, Xs.book S5 a2 (.inr rfl) hG6 4 (.slice ha hn' hc')⟩
                    have B7 := hid (B5.growH hG6 (Or.inl rfl) 4 (.slice ha hn' hc'))
                    have c3 := S3.c3
                    have c5 := S5.c4
                    have hXw3 : X < w3.heap.size := lt_of_heap S3.row
                    have c3a := (alloc_cell hXw3 3 (.cells #[.slice xa' xn' xc'] 23)).trans c3
                    clear S2 X2 XO2 B2 S3 X3 XO3 B3 S5 X5 XO5 B5 hO3 hO4 hO6 hG3 hG4 hG6 S XS XO hB hw2 hμ1
                    go_wp2_with (first
                      | ((with_reducible show wpList _ _ _ (Oper.mk _ (Op.call { callee := Callee.builtin Builtin.append, args := _, argTypes := #[23, 23] }) _ _ _ _ :: _) _ _); go_must (refine Lib.wpList_append_run _ rfl _ _ 23 23 rfl _ _ rfl rfl _ _ hap3 ?_))
                      | ((with_reducible show wpList _ _ _ (Oper.mk _ (Op.call { callee := Callee.builtin Builtin.append, args := _, argTypes := #[41, 41] }) _ _ _ _ :: _) _ _); go_must (refine Lib.wpList_append_run _ rfl _ _ 41 41 rfl _ _ rfl rfl _ _ hap4 ?_))
                      | ((with_reducible show wpList _ _ _ (Oper.mk _ (Op.call { callee := Callee.builtin Builtin.append, args := _, argTypes := #[22, 22] }) _ _ _ _ :: _) _ _); go_must (refine Lib.wpList_append_run _ rfl _ _ 22 22 rfl _ _ rfl rfl _ _ hap6 ?_)))
                    have fl : Hid ((GS ++ [Value.slice xa' xn' xc']).length = (HS ++ [k]).length ∧ (HS ++ [k]).length = 20 * k + (t + 1)) := by
                      have := hlen.out
                      refine ⟨?_, ?_⟩ <;> simp <;> omega
                    refine ⟨?_, by simp [intOf]; omega⟩
                    first
                      | exact ⟨t + 1, (.slice ga gn gc), (.slice ha hn' hc'), _, _, μ', by omega, by go_num, S7, fl, X7, XO7, B7⟩
                      | (repeat apply Exists.intro
                         exact ⟨⟨t + 1, (.slice ga gn gc), (.slice ha hn' hc'), _, _, μ', by omega, by go_num, S7, fl, X7, XO7, B7⟩, rfl⟩)
                  · have b1 : ¬ (t : Int) < 20 := by omega
                    have fl : Hid (GS.length = HS.length ∧ HS.length = 20 * (k + 1)) := by
                      have := hlen.out
                      refine ⟨?_, ?_⟩ <;> omega
                    go_wp2
                    refine ⟨?_, by simp [intOf]; omega⟩
                    first
                      | exact ⟨k + 1, vg, vh, GS, HS, μ, by omega, by go_num, S, fl, (fun j u h1 h2 => XO.out j u (by omega) h2), hid hB.out.none⟩
                      | (repeat apply Exists.intro
                         exact ⟨⟨k + 1, vg, vh, GS, HS, μ, by omega, by go_num, S, fl, (fun j u h1 h2 => XO.out j u (by omega) h2), hid hB.out.none⟩, rfl⟩)
              · obtain rfl : N = k := by omega
                have b0 : ¬ (N : Int) < (N : Int) := by omega
                have hGl : GS.length = 20 * N := by have := hlen.out; omega
                have hHl : HS.length = 20 * N := by have := hlen.out; omega
                clear hXs hlen
                go_wp2
                go_loopw [11] (fun i w' => ∃ k : Nat, k ≤ N ∧ i = .int .i64 (k : Int) ∧ Hid (St w' X base vl vg vh us GS HS μ) ∧ Hid (Kq (Sd X us) w w' vg vh (.slice none 0 0))) (fun i _ => N - (intOf i).toNat)
                case atStart => exact ⟨0, by omega, rfl, S, hB⟩
                case round =>
                  clear S hB c2
                  obtain ⟨k, hk, rfl, S, hB⟩ := hrel
                  have c2 := S.out.c2
                  rw [hvl] at c2
                  by_cases hkN : k < N
                  · have b1 : (k : Int) < (N : Int) := by omega
                    obtain ⟨u, hu⟩ : ∃ u, us[k]? = some u := ⟨_, List.getElem?_eq_getElem (by omega)⟩
                    obtain ⟨ua, n, uc, hue, hn2, hA⟩ := S.out.reads (S.out.lst k u hu)
                    have d2 := own_cell S.out.lists (g := lb) (by rw [hvl]; rfl) hu
                    rw [hue] at d2
                    obtain ⟨MB, hMB, hMl⟩ : ∃ MB : ByteArray, Hid (sv (mrk16 k) = .string MB) ∧ Hid (mrk16 k = MB.data.toList) := ⟨⟨(mrk16 k).toArray⟩, rfl, rfl⟩
                    have hmark := fun w' => mark16_at k (by omega) w'
                    rw [hMB.out] at hmark
                    rw [hMl.out] at hA
                    have HA := hid hA
                    have xb1 := hid (lt_of_heap S.out.row)
                    have lb1 := hid (S.out.lists.lt lb (by rw [hvl]; rfl))
                    clear hA hu hue
                    go_wp2
                    go_region_held3 (fun w' => w'.cell? ⟨X, 2, none⟩ = some (.slice (some ⟨lb, 0, none⟩) N lc) ∧ w'.cell? ⟨lb, k, none⟩ = some (.slice ua n uc)) (first | exact ⟨c4, d4⟩ | exact ⟨c3, d3⟩ | exact ⟨c2, d2⟩) (first
                      | (go_at_call 46; (with_reducible refine (hmark _).mono ?_); rintro e w2 ⟨rfl, hw2'⟩; have hw2 := (Below.refl wr.heap.size wr).drew.trans hw2'; have c3 := (hw2.cell (p := ⟨X, 2, none⟩) xb1.out).trans c2; have d3 := (hw2.cell (p := ⟨lb, k, none⟩) lb1.out).trans d2; have A2 := hid (HA.out.below hw2 (Nat.le_refl _)))
                      | (go_at_call 47; (with_reducible refine (reads_yes n MB ua uc _ A2.out (by omega)).mono ?_); rintro e w3 ⟨rfl, hw3, hh3⟩; have c4 := (heapCell hh3 ⟨X, 2, none⟩).trans c3; have d4 := (heapCell hh3 ⟨lb, k, none⟩).trans d3))
                    go_wp2
                    have W3 := hw2.trans (hw3.mono hw2.size)
                    exact ⟨⟨k + 1, by omega, by go_num, hid (S.out.below W3), hid (hB.out.below W3)⟩, by simp [intOf]; omega⟩
                  · obtain rfl : N = k := by omega
                    have b1 : ¬ (N : Int) < (N : Int) := by omega
                    obtain ⟨gb, gc, hvg, _, gb1⟩ := ownSome S.out.grown (by omega)
                    obtain ⟨hb, hc, hvh, _, hb1⟩ := ownSome S.out.whose (by rw [ins_length]; omega)
                    rw [hGl] at hvg
                    rw [ins_length, hHl] at hvh
                    have c3 := S.out.c3
                    rw [hvg] at c3
                    clear gb1 hb1
                    obtain ⟨M, hM⟩ : ∃ M, 20 * N = M := ⟨_, rfl⟩
                    rw [hM] at c3 hvg hvh hGl hHl
                    go_wp2
                    go_loopw [13] (fun i w' => ∃ k : Nat, k ≤ M ∧ i = .int .i64 (k : Int) ∧ Hid (St w' X base vl vg vh us GS HS μ) ∧ Hid (Kq (Sd X us) w w' vg vh (.slice none 0 0))) (fun i _ => M - (intOf i).toNat)
                    case atStart => exact ⟨0, by omega, rfl, S, hB⟩
                    case round =>
                      clear S hB c2 c3
                      obtain ⟨k, hk, rfl, S, hB⟩ := hrel
                      have c3 := S.out.c3
                      rw [hvg] at c3
                      have c4 := S.out.c4
                      rw [hvh] at c4
                      by_cases hkM : k < M
                      · have b2 : (k : Int) < (M : Int) := by omega
                        obtain ⟨u, hu⟩ : ∃ u, GS[k]? = some u := ⟨_, List.getElem?_eq_getElem (by omega)⟩
                        obtain ⟨o, ho⟩ : ∃ o, HS[k]? = some o := ⟨_, List.getElem?_eq_getElem (by omega)⟩
                        have hoN : o < N := by
                          have := S.out.hs o (List.mem_of_getElem? ho)
                          omega
                        obtain ⟨ua, n, uc, hue, hn2, hA⟩ := S.out.reads (S.out.grn k u o hu ho)
                        have d3 := own_cell S.out.grown (g := gb) (by rw [hvg]; rfl) hu
                        rw [hue] at d3
                        have d4 := own_cell S.out.whose (g := hb) (by rw [hvh]; rfl) (show (ins HS)[k]? = some (.int .i64 (o : Int)) by rw [ins, List.getElem?_map, ho]; rfl)
                        obtain ⟨MB, hMB, hMl⟩ : ∃ MB : ByteArray, Hid (sv (mrk16 o) = .string MB) ∧ Hid (mrk16 o = MB.data.toList) := ⟨⟨(mrk16 o).toArray⟩, rfl, rfl⟩
                        have hmark := fun w' => mark16_at o (by omega) w'
                        rw [hMB.out] at hmark
                        rw [hMl.out] at hA
                        have HA := hid hA
                        have xb1 := hid (lt_of_heap S.out.row)
                        have gb1 := hid (S.out.grown.lt gb (by rw [hvg]; rfl))
                        have hb1 := hid (S.out.whose.lt hb (by rw [hvh]; rfl))
                        clear hA hu ho hue
                        go_wp2
                        go_region_held3 (fun w' => w'.cell? ⟨X, 3, none⟩ = some (.slice (some ⟨gb, 0, none⟩) M gc) ∧ w'.cell? ⟨X, 4, none⟩ = some (.slice (some ⟨hb, 0, none⟩) M hc) ∧ w'.cell? ⟨gb, k, none⟩ = some (.slice ua n uc) ∧ w'.cell? ⟨hb, k, none⟩ = some (.int .i64 (o : Int))) (first | exact e3 | exact e2 | exact ⟨c3, c4, d3, d4⟩) (first
                          | (go_at_call 46; (with_reducible refine (hmark _).mono ?_); rintro e w2 ⟨rfl, hw2'⟩; have hw2 := (Below.refl wr.heap.size wr).drew.trans hw2'; have e2 := And.intro ((hw2.cell (p := ⟨X, 3, none⟩) xb1.out).trans c3) (And.intro ((hw2.cell (p := ⟨X, 4, none⟩) xb1.out).trans c4) (And.intro ((hw2.cell (p := ⟨gb, k, none⟩) gb1.out).trans d3) ((hw2.cell (p := ⟨hb, k, none⟩) hb1.out).trans d4))); have A2 := hid (HA.out.below hw2 (Nat.le_refl _)))
                          | (go_at_call 47; (with_reducible refine (reads_yes n MB ua uc _ A2.out (by omega)).mono ?_); rintro e w3 ⟨rfl, hw3, hh3⟩; have e3 := And.intro ((heapCell hh3 ⟨X, 3, none⟩).trans e2.1) (And.intro ((heapCell hh3 ⟨X, 4, none⟩).trans e2.2.1) (And.intro ((heapCell hh3 ⟨gb, k, none⟩).trans e2.2.2.1) ((heapCell hh3 ⟨hb, k, none⟩).trans e2.2.2.2)))))
                        go_wp2
                        have W3 := hw2.trans (hw3.mono hw2.size)
                        exact ⟨⟨k + 1, by omega, by go_num, hid (S.out.below W3), hid (hB.out.below W3)⟩, by simp [intOf]; omega⟩
                      · have b2 : ¬ (k : Int) < (M : Int) := by omega
                        go_wp2
                        go_ret
                        exact ⟨rfl, hB.out.keep⟩
end B16
end Bat
end Go.Proofs.YtbodgecbakcaaaaGreatDoor
