import Derived.Test.YtblmaokonhdjaaaGreatDoorPkSP5
namespace Go.Proofs.YtblmaokonhdjaaaGreatDoor
open Go.RowKit

/-- which blocks hold marks: whose, and how many -/
abbrev Mu := Nat → Option (Nat × Nat)
def nilS : Value := .slice none 0 0
/-- a list all of whose texts are the i-th mark -/
def En (μ : Mu) (i : Nat) (s : Value) : Prop := s = .slice none 0 0 ∨ ∃ g n c ℓ, s = .slice (some ⟨g, 0, none⟩) n c ∧ n ≤ ℓ ∧ ℓ ≤ 2000000 ∧ μ g = some (i, ℓ)
def Bs (X : Nat) (vl vg vh : Value) (k : Nat) : Prop := k = X ∨ vl.ownBlock = some k ∨ vg.ownBlock = some k ∨ vh.ownBlock = some k
def ins (l : List Nat) : List Value := l.map fun (n : Nat) => Value.int .i64 (n : Int)
/-- the book while its lists grow -/
structure St (w : World) (X base : Nat) (vl vg vh : Value) (us GS : List Value) (HS : List Nat) (μ : Mu) : Prop where
  row : w.heap[X]? = some (.cells #[.slice none 0 0, .slice none 0 0, vl, vg, vh] 90 (0, 0))
  lists : Own w base vl us
  grown : Own w base vg GS
  whose : Own w base vh (ins HS)
  dX : ∀ k, vl.ownBlock = some k ∨ vg.ownBlock = some k ∨ vh.ownBlock = some k → k ≠ X
  d1 : ∀ k, vl.ownBlock = some k → vg.ownBlock ≠ some k ∧ vh.ownBlock ≠ some k
  d2 : ∀ k, vg.ownBlock = some k → vh.ownBlock ≠ some k
  mkd : ∀ g i ℓ, μ g = some (i, ℓ) → base ≤ g ∧ g < w.heap.size ∧ ¬ Bs X vl vg vh g ∧ ∀ j, j < ℓ → w.cell? ⟨g, j, none⟩ = some (sv (mrk i))
  lst : ∀ (i : Nat) (u : Value), us[i]? = some u → En μ i u
  grn : ∀ (j : Nat) (s : Value) (i : Nat), GS[j]? = some s → HS[j]? = some i → En μ i s
  hs : ∀ i ∈ HS, i < us.length
theorem St.lt {w : World} {X base : Nat} {vl vg vh : Value} {us GS : List Value} {HS : List Nat} {μ : Mu} (h : St w X base vl vg vh us GS HS μ) {k : Nat} (hk : Bs X vl vg vh k) : k < w.heap.size := by
  rcases hk with rfl | hk | hk | hk
  · exact lt_of_heap h.row
  · exact h.lists.lt k hk
  · exact h.grown.lt k hk
  · exact h.whose.lt k hk
theorem Own.same {w w' : World} {base : Nat} {v : Value} {cs : List Value} (h : Own w base v cs) (hs : w.heap.size ≤ w'.heap.size) (hb : ∀ k, v.ownBlock = some k → w'.heap[k]? = w.heap[k]?) : Own w' base v cs := h.kept hs hb
/-- nothing of the book was touched -/
theorem St.world {w w' : World} {X base : Nat} {vl vg vh : Value} {us GS : List Value} {HS : List Nat} {μ : Mu} (h : St w X base vl vg vh us GS HS μ) (hs : w.heap.size ≤ w'.heap.size)
    (hb : ∀ k, k < w.heap.size → (Bs X vl vg vh k ∨ (μ k).isSome = true) → w'.heap[k]? = w.heap[k]?) : St w' X base vl vg vh us GS HS μ where
  row := (hb X (lt_of_heap h.row) (.inl (.inl rfl))).trans h.row
  lists := h.lists.same hs fun k hk => hb k (h.lists.lt k hk) (.inl (.inr (.inl hk)))
  grown := h.grown.same hs fun k hk => hb k (h.grown.lt k hk) (.inl (.inr (.inr (.inl hk))))
  whose := h.whose.same hs fun k hk => hb k (h.whose.lt k hk) (.inl (.inr (.inr (.inr hk))))
  dX := h.dX
  d1 := h.d1
  d2 := h.d2
  mkd := fun g i ℓ hm => by
    obtain ⟨h0, h1, h2, h3⟩ := h.mkd g i ℓ hm
    refine ⟨h0, Nat.lt_of_lt_of_le h1 hs, h2, fun j hj => ?_⟩
    rw [← h3 j hj]
    exact World.cell?_of_block (w := w) (hb g h1 (.inr (by rw [hm]; rfl)))
  lst := h.lst
  grn := h.grn
  hs := h.hs
theorem St.below {w w' : World} {X base : Nat} {vl vg vh : Value} {us GS : List Value} {HS : List Nat} {μ : Mu} (h : St w X base vl vg vh us GS HS μ) (hb : Below w.heap.size w w') : St w' X base vl vg vh us GS HS μ :=
  h.world hb.size fun k hk _ => hb.block k hk
theorem En.mono {μ μ' : Mu} (h : ∀ g i ℓ, μ g = some (i, ℓ) → ∃ ℓ', ℓ ≤ ℓ' ∧ ℓ' ≤ 2000000 ∧ μ' g = some (i, ℓ')) {i : Nat} {s : Value} (e : En μ i s) : En μ' i s := by
  rcases e with rfl | ⟨g, n, c, ℓ, rfl, h1, h2, h3⟩
  · exact .inl rfl
  · obtain ⟨ℓ', a, b, c'⟩ := h g i ℓ h3
    exact .inr ⟨g, n, c, ℓ', rfl, by omega, b, c'⟩
/-- the list that grows -/
structure Xs (w : World) (base : Nat) (x : Value) (i ℓ : Nat) (μ : Mu) : Prop where
  own : Own w base x (svs (List.replicate ℓ (mrk i)))
  mrkd : ∀ g, x.ownBlock = some g → μ g = some (i, ℓ)
  en : En μ i x
theorem own_cases {w : World} {base : Nat} {v : Value} {cs : List Value} (h : Own w base v cs) : (v = .slice none 0 0 ∧ cs = []) ∨ ∃ g c, v = .slice (some ⟨g, 0, none⟩) cs.length c ∧ v.ownBlock = some g := by
  rcases h with ⟨rfl, rfl⟩ | ⟨g, c, rfl, _⟩
  · exact .inl ⟨rfl, rfl⟩
  · exact .inr ⟨g, c, rfl, rfl⟩
theorem own_cell {w : World} {base : Nat} {v : Value} {cs : List Value} (h : Own w base v cs) {g : Nat} (hg : v.ownBlock = some g) {j : Nat} {x : Value} (hj : cs[j]? = some x) : w.cell? ⟨g, j, none⟩ = some x := by
  rcases h with ⟨rfl, rfl⟩ | ⟨g', c, rfl, _, _, _, h4, _, _⟩
  · simp at hj
  · cases hg
    have := h4 j x hj
    rwa [Nat.zero_add] at this
theorem St.growX {w w' : World} {X base : Nat} {vl vg vh : Value} {us GS : List Value} {HS : List Nat} {μ : Mu} (h : St w X base vl vg vh us GS HS μ) {x x' : Value} {i ℓ : Nat} (hx : Xs w base x i ℓ μ) (hℓ : ℓ + 1 ≤ 2000000)
    (hg : Grow w w' x x') (ho : Own w' base x' (svs (List.replicate (ℓ + 1) (mrk i)))) :
    ∃ μ', St w' X base vl vg vh us GS HS μ' ∧ Xs w' base x' i (ℓ + 1) μ' ∧ (∀ g j m, μ g = some (j, m) → j ≠ i → μ' g = some (j, m)) ∧ (∀ g j m, μ' g = some (j, m) → j ≠ i → μ g = some (j, m)) := by
  have hnew : ∀ k, x'.ownBlock = some k → x.ownBlock = some k ∨ w.heap.size ≤ k := fun k hk => by
    rcases hg.alt with e | ⟨e, _⟩
    · left; rw [← e]; exact hk
    · right; exact e k hk
  have hxB : ∀ k, x.ownBlock = some k → ¬ Bs X vl vg vh k := fun k hk => (h.mkd k i ℓ (hx.mrkd k hk)).2.2.1
  have hxB' : ∀ k, x'.ownBlock = some k → ¬ Bs X vl vg vh k := fun k hk hB => by
    rcases hnew k hk with e | e
    · exact hxB k e hB
    · have := h.lt hB; omega
  have hkeep : ∀ k, k < w.heap.size → x'.ownBlock ≠ some k → w'.heap[k]? = w.heap[k]? := fun k hk hne => by
    rcases hg.alt with e | ⟨_, e⟩
    · exact hg.old k hk (e ▸ hne)
    · exact e k hk
  have hBk : ∀ k, Bs X vl vg vh k → w'.heap[k]? = w.heap[k]? := fun k hB => hkeep k (h.lt hB) fun e => hxB' k e hB
  obtain ⟨μ', hμ⟩ : ∃ μ' : Mu, ∀ k, μ' k = if x'.ownBlock = some k then some (i, ℓ + 1) else μ k := ⟨fun k => if x'.ownBlock = some k then some (i, ℓ + 1) else μ k, fun k => rfl⟩
  have hup : ∀ g j m, μ g = some (j, m) → x'.ownBlock = some g → j = i ∧ m = ℓ := fun g j m hm hxg => by
    rcases hnew g hxg with e | e
    · have := hx.mrkd g e
      rw [hm] at this
      injection this with this
      exact ⟨congrArg Prod.fst this, congrArg Prod.snd this⟩
    · have := (h.mkd g j m hm).2.1; omega
  have hmono : ∀ g j m, m ≤ 2000000 → μ g = some (j, m) → ∃ m', m ≤ m' ∧ m' ≤ 2000000 ∧ μ' g = some (j, m') := fun g j m hm2 hm => by
    by_cases e : x'.ownBlock = some g
    · obtain ⟨rfl, rfl⟩ := hup g j m hm e
      exact ⟨m + 1, by omega, hℓ, by rw [hμ, if_pos e]⟩
    · exact ⟨m, Nat.le_refl _, hm2, by rw [hμ, if_neg e]; exact hm⟩
  have hen : ∀ j s, En μ j s → En μ' j s := fun j s he => by
    rcases he with rfl | ⟨g, n, c, m, rfl, h1, h2, h3⟩
    · exact .inl rfl
    · obtain ⟨m', a, b, c'⟩ := hmono g j m h2 h3
      exact .inr ⟨g, n, c, m', rfl, by omega, b, c'⟩
  refine ⟨μ', ⟨(hBk X (.inl rfl)).trans h.row, h.lists.same hg.size fun k hk => hBk k (.inr (.inl hk)), h.grown.same hg.size fun k hk => hBk k (.inr (.inr (.inl hk))), h.whose.same hg.size fun k hk => hBk k (.inr (.inr (.inr hk))), h.dX, h.d1, h.d2, fun g j m hm => ?_, fun j u hu => hen j u (h.lst j u hu), fun j s k h1 h2 => hen k s (h.grn j s k h1 h2), h.hs⟩, ⟨ho, fun g hxg => by rw [hμ, if_pos hxg], ?_⟩, fun g j m hm hne => ?_, fun g j m hm hne => ?_⟩
  · by_cases e : x'.ownBlock = some g
    · rw [hμ, if_pos e] at hm
      injection hm with hm
      obtain ⟨rfl, rfl⟩ : i = j ∧ ℓ + 1 = m := ⟨congrArg Prod.fst hm, congrArg Prod.snd hm⟩
      refine ⟨ho.ge g e, ho.lt g e, hxB' g e, fun t ht => own_cell ho e ?_⟩
      rw [svs, List.getElem?_map, List.getElem?_replicate, if_pos ht]; rfl
    · rw [hμ, if_neg e] at hm
      obtain ⟨a0, a1, a2, a3⟩ := h.mkd g j m hm
      refine ⟨a0, Nat.lt_of_lt_of_le a1 hg.size, a2, fun t ht => ?_⟩
      rw [← a3 t ht]
      exact World.cell?_of_block (w := w) (hkeep g a1 e)
  · rcases own_cases ho with ⟨rfl, _⟩ | ⟨g, c, e1, e2⟩
    · exact .inl rfl
    · exact .inr ⟨g, _, c, ℓ + 1, e1, by rw [svs_length, List.length_replicate]; exact Nat.le_refl _, hℓ, by rw [hμ, if_pos e2]⟩
  · rw [hμ, if_neg]
    · exact hm
    · intro e
      exact hne (hup g j m hm e).1
  · by_cases e : x'.ownBlock = some g
    · rw [hμ, if_pos e] at hm
      injection hm with hm
      exact absurd (congrArg Prod.fst hm).symm hne
    · rwa [hμ, if_neg e] at hm
/-- one more list is noted -/
theorem St.growG {w w' : World} {X base : Nat} {vl vg vh vg' : Value} {us GS : List Value} {HS : List Nat} {μ : Mu} (h : St w X base vl vg vh us GS HS μ) {s : Value} (hl : GS.length = HS.length) (hg : Grow w w' vg vg') (ho : Own w' base vg' (GS ++ [s])) :
    St (w'.setCell ⟨X, 3, none⟩ vg') X base vl vg' vh us (GS ++ [s]) HS μ := by
  have hnew : ∀ k, vg'.ownBlock = some k → vg.ownBlock = some k ∨ w.heap.size ≤ k := fun k hk => by
    rcases hg.alt with e | ⟨e, _⟩
    · left; rw [← e]; exact hk
    · right; exact e k hk
  have hX := lt_of_heap h.row
  have hgX : vg.ownBlock ≠ some X := fun e => h.dX X (.inr (.inl e)) rfl
  have hgX' : ∀ k, vg'.ownBlock = some k → k ≠ X := fun k hk => by
    rcases hnew k hk with e | e
    · exact h.dX k (.inr (.inl e))
    · omega
  have row1 := (hg.old X hX hgX).trans h.row
  have row2 : (w'.setCell ⟨X, 3, none⟩ vg').heap[X]? = some (.cells #[.slice none 0 0, .slice none 0 0, vl, vg', vh] 90 (0, 0)) := heap_setCell_same w' X 3 _ _ vg' row1
  have hset : ∀ k, k ≠ X → (w'.setCell ⟨X, 3, none⟩ vg').heap[k]? = w'.heap[k]? := fun k hk => Below.heap_setCell w' _ vg' k hk
  have hsz : (w'.setCell ⟨X, 3, none⟩ vg').heap.size = w'.heap.size := by simp [World.setCell]
  have hk2 : ∀ k, k < w.heap.size → k ≠ X → vg.ownBlock ≠ some k → (w'.setCell ⟨X, 3, none⟩ vg').heap[k]? = w.heap[k]? := fun k h1 h2 h3 => (hset k h2).trans (hg.old k h1 h3)
  refine ⟨row2, h.lists.same (by rw [hsz]; exact hg.size) fun k hk => hk2 k (h.lists.lt k hk) (h.dX k (.inl hk)) (h.d1 k hk).1, ho.same (by rw [hsz]; exact Nat.le_refl _) fun k hk => hset k (hgX' k hk), h.whose.same (by rw [hsz]; exact hg.size) fun k hk => hk2 k (h.whose.lt k hk) (h.dX k (.inr (.inr hk))) (fun e => h.d2 k e hk), fun k hk => ?_, fun k hk => ⟨fun e => ?_, (h.d1 k hk).2⟩, fun k hk e => ?_, fun g i ℓ hm => ?_, h.lst, fun j t i h1 h2 => ?_, h.hs⟩
  · rcases hk with hk | hk | hk
    · exact h.dX k (.inl hk)
    · exact hgX' k hk
    · exact h.dX k (.inr (.inr hk))
  · rcases hnew k e with e' | e'
    · exact (h.d1 k hk).1 e'
    · have := h.lists.lt k hk; omega
  · rcases hnew k hk with e' | e'
    · exact h.d2 k e' e
    · have := h.whose.lt k e; omega
  · obtain ⟨a0, a1, a2, a3⟩ := h.mkd g i ℓ hm
    refine ⟨a0, by rw [hsz]; exact Nat.lt_of_lt_of_le a1 hg.size, fun hB => ?_, fun t ht => ?_⟩
    · rcases hB with e | e | e | e
      · exact a2 (.inl e)
      · exact a2 (.inr (.inl e))
      · rcases hnew g e with e' | e'
        · exact a2 (.inr (.inr (.inl e')))
        · omega
      · exact a2 (.inr (.inr (.inr e)))
    · rw [← a3 t ht]
      exact World.cell?_of_block (w := w) (hk2 g a1 (fun e => a2 (.inl e)) fun e => a2 (.inr (.inr (.inl e))))
  · have hj : j < HS.length := (List.getElem?_eq_some_iff.1 h2).1
    rw [List.getElem?_append_left (by omega)] at h1
    exact h.grn j t i h1 h2
/-- and whose it is -/
theorem St.growH {w w' : World} {X base : Nat} {vl vg vh vh' : Value} {us GS : List Value} {HS : List Nat} {μ : Mu} {s : Value} {i : Nat} (h : St w X base vl vg vh us (GS ++ [s]) HS μ) (hl : GS.length = HS.length) (hi : i < us.length) (he : En μ i s) (hg : Grow w w' vh vh') (ho : Own w' base vh' (ins HS ++ [.int .i64 (i : Int)])) :
    St (w'.setCell ⟨X, 4, none⟩ vh') X base vl vg vh' us (GS ++ [s]) (HS ++ [i]) μ := by
  have hnew : ∀ k, vh'.ownBlock = some k → vh.ownBlock = some k ∨ w.heap.size ≤ k := fun k hk => by
    rcases hg.alt with e | ⟨e, _⟩
    · left; rw [← e]; exact hk
    · right; exact e k hk
  have hX := lt_of_heap h.row
  have hgX : vh.ownBlock ≠ some X := fun e => h.dX X (.inr (.inr e)) rfl
  have hgX' : ∀ k, vh'.ownBlock = some k → k ≠ X := fun k hk => by
    rcases hnew k hk with e | e
    · exact h.dX k (.inr (.inr e))
    · omega
  have row1 := (hg.old X hX hgX).trans h.row
  have row2 : (w'.setCell ⟨X, 4, none⟩ vh').heap[X]? = some (.cells #[.slice none 0 0, .slice none 0 0, vl, vg, vh'] 90 (0, 0)) := heap_setCell_same w' X 4 _ _ vh' row1
  have hset : ∀ k, k ≠ X → (w'.setCell ⟨X, 4, none⟩ vh').heap[k]? = w'.heap[k]? := fun k hk => Below.heap_setCell w' _ vh' k hk
  have hsz : (w'.setCell ⟨X, 4, none⟩ vh').heap.size = w'.heap.size := by simp [World.setCell]
  have hk2 : ∀ k, k < w.heap.size → k ≠ X → vh.ownBlock ≠ some k → (w'.setCell ⟨X, 4, none⟩ vh').heap[k]? = w.heap[k]? := fun k h1 h2 h3 => (hset k h2).trans (hg.old k h1 h3)
  refine ⟨row2, h.lists.same (by rw [hsz]; exact hg.size) fun k hk => hk2 k (h.lists.lt k hk) (h.dX k (.inl hk)) (h.d1 k hk).2, h.grown.same (by rw [hsz]; exact hg.size) fun k hk => hk2 k (h.grown.lt k hk) (h.dX k (.inr (.inl hk))) (h.d2 k hk), ?_, fun k hk => ?_, fun k hk => ⟨(h.d1 k hk).1, fun e => ?_⟩, fun k hk e => ?_, fun g j ℓ hm => ?_, h.lst, fun j t k h1 h2 => ?_, fun k hk => ?_⟩
  · have := ho.same (w' := w'.setCell ⟨X, 4, none⟩ vh') (by rw [hsz]; exact Nat.le_refl _) fun k hk => hset k (hgX' k hk)
    rwa [show ins (HS ++ [i]) = ins HS ++ [.int .i64 (i : Int)] by simp [ins]]
  · rcases hk with hk | hk | hk
    · exact h.dX k (.inl hk)
    · exact h.dX k (.inr (.inl hk))
    · exact hgX' k hk
  · rcases hnew k e with e' | e'
    · exact (h.d1 k hk).2 e'
    · have := h.lists.lt k hk; omega
  · rcases hnew k e with e' | e'
    · exact h.d2 k hk e'
    · have := h.grown.lt k hk; omega
  · obtain ⟨a0, a1, a2, a3⟩ := h.mkd g j ℓ hm
    refine ⟨a0, by rw [hsz]; exact Nat.lt_of_lt_of_le a1 hg.size, fun hB => ?_, fun t ht => ?_⟩
    · rcases hB with e | e | e | e
      · exact a2 (.inl e)
      · exact a2 (.inr (.inl e))
      · exact a2 (.inr (.inr (.inl e)))
      · rcases hnew g e with e' | e'
        · exact a2 (.inr (.inr (.inr e')))
        · omega
    · rw [← a3 t ht]
      exact World.cell?_of_block (w := w) (hk2 g a1 (fun e => a2 (.inl e)) fun e => a2 (.inr (.inr (.inr e))))
  · by_cases hj : j < HS.length
    · rw [List.getElem?_append_left hj] at h2
      exact h.grn j t k h1 h2
    · rw [List.getElem?_append_right (by omega)] at h2
      have hj0 : j - HS.length = 0 := by
        rcases Nat.eq_zero_or_pos (j - HS.length) with e | e
        · exact e
        · rw [List.getElem?_eq_none (by simp; omega)] at h2; cases h2
      rw [hj0] at h2
      obtain rfl := Option.some.inj h2
      rw [show j = GS.length from by omega, List.getElem?_append_right (Nat.le_refl _), Nat.sub_self] at h1
      obtain rfl := Option.some.inj h1
      exact he
  · rcases List.mem_append.1 hk with hk | hk
    · exact h.hs k hk
    · rw [List.mem_singleton] at hk; omega
/-- what such a list reads as -/
theorem St.reads {w : World} {X base : Nat} {vl vg vh : Value} {us GS : List Value} {HS : List Nat} {μ : Mu} (h : St w X base vl vg vh us GS HS μ) {i : Nat} {s : Value} (he : En μ i s) : ∃ a n c, s = .slice a n c ∧ n ≤ 2000000 ∧ At w a (List.replicate n (mrk i)) := by
  rcases he with rfl | ⟨g, n, c, ℓ, rfl, h1, h2, h3⟩
  · exact ⟨none, 0, 0, rfl, by omega, At.nil _ _⟩
  · obtain ⟨a0, a1, a2, a3⟩ := h.mkd g i ℓ h3
    refine ⟨_, n, c, rfl, by omega, fun j p hp => ⟨_, rfl, a1, ?_⟩⟩
    rw [List.getElem?_replicate] at hp
    split at hp
    · obtain rfl := Option.some.inj hp
      rw [Addr.add_mid, Nat.zero_add]
      exact a3 j (by omega)
    · cases hp
end Go.Proofs.YtblmaokonhdjaaaGreatDoor
