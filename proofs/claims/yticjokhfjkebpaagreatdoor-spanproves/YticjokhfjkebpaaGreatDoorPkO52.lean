import Derived.Test.YticjokhfjkebpaaGreatDoorPkSP4
import Derived.Test.YticjokhfjkebpaaGreatDoorPkRX1
import Derived.Deep.RegionHeld3
namespace Go.Proofs.YticjokhfjkebpaaGreatDoor
open Go.RowKit

/-- which blocks hold marks: whose, and how many -/
abbrev Mu := Nat → Option (Nat × Nat)
def nilS : Value := .slice none 0 0
/-- a list all of whose texts are the i-th mark -/
def En (μ : Mu) (i : Nat) (s : Value) : Prop := s = .slice none 0 0 ∨ ∃ g n c ℓ, s = .slice (some ⟨g, 0, none⟩) n c ∧ n ≤ ℓ ∧ ℓ ≤ 2000000 ∧ μ g = some (i, ℓ)
def Bs (X : Nat) (vl vg vh : Value) (k : Nat) : Prop := k = X ∨ vl.ownBlock = some k ∨ vg.ownBlock = some k ∨ vh.ownBlock = some k
def ins (l : List Nat) : List Value := l.map fun (n : Nat) => Value.int .i64 (n : Int)
/-- the book while its lists grow -/
structure St (w : World) (X base : Nat) (vl vg vh : Value) (us GS : List Value) (HS : List Nat) (μ : Mu) : Prop where
  row : w.heap[X]? = some (.cells #[.slice none 0 0, .slice none 0 0, vl, vg, vh] 55 (0, 0))
  lists : Own w base vl us
  grown : Own w base vg GS
  whose : Own w base vh (ins HS)
  dX : ∀ k, vl.ownBlock = some k ∨ vg.ownBlock = some k ∨ vh.ownBlock = some k → k ≠ X
  d1 : ∀ k, vl.ownBlock = some k → vg.ownBlock ≠ some k ∧ vh.ownBlock ≠ some k
  d2 : ∀ k, vg.ownBlock = some k → vh.ownBlock ≠ some k
  mkd : ∀ g i ℓ, μ g = some (i, ℓ) → base ≤ g ∧ g < w.heap.size ∧ ¬ Bs X vl vg vh g ∧ ∀ j, j < ℓ → w.cell? ⟨g, j, none⟩ = some (sv (mrk i))
  lst : ∀ (i : Nat) (u : Value), us[i]? = some u → En μ i u
  grn : ∀ (j : Nat) (s : Value) (i : Nat), GS[j]? = some s → HS[j]? = some i → En μ i s
  hs : ∀ i ∈ HS, i < us.length
theorem St.lt {w : World} {X base : Nat} {vl vg vh : Value} {us GS : List Value} {HS : List Nat} {μ : Mu} (h : St w X base vl vg vh us GS HS μ) {k : Nat} (hk : Bs X vl vg vh k) : k < w.heap.size := by
  rcases hk with rfl | hk | hk | hk
  · exact lt_of_heap h.row
  · exact h.lists.lt k hk
  · exact h.grown.lt k hk
  · exact h.whose.lt k hk
theorem Own.same {w w' : World} {base : Nat} {v : Value} {cs : List Value} (h : Own w base v cs) (hs : w.heap.size ≤ w'.heap.size) (hb : ∀ k, v.ownBlock = some k → w'.heap[k]? = w.heap[k]?) : Own w' base v cs := h.kept hs hb
/-- nothing of the book was touched -/
theorem St.world {w w' : World} {X base : Nat} {vl vg vh : Value} {us GS : List Value} {HS : List Nat} {μ : Mu} (h : St w X base vl vg vh us GS HS μ) (hs : w.heap.size ≤ w'.heap.size)
    (hb : ∀ k, k < w.heap.size → (Bs X vl vg vh k ∨ (μ k).isSome = true) → w'.heap[k]? = w.heap[k]?) : St w' X base vl vg vh us GS HS μ where
  row := (hb X (lt_of_heap h.row) (.inl (.inl rfl))).trans h.row
  lists := h.lists.same hs fun k hk => hb k (h.lists.lt k hk) (.inl (.inr (.inl hk)))
  grown := h.grown.same hs fun k hk => hb k (h.grown.lt k hk) (.inl (.inr (.inr (.inl hk))))
  whose := h.whose.same hs fun k hk => hb k (h.whose.lt k hk) (.inl (.inr (.inr (.inr hk))))
  dX := h.dX
  d1 := h.d1
  d2 := h.d2
  mkd := fun g i ℓ hm => by
    obtain ⟨h0, h1, h2, h3⟩ := h.mkd g i ℓ hm
    refine ⟨h0, Nat.lt_of_lt_of_le h1 hs, h2, fun j hj => ?_⟩
    rw [← h3 j hj]
    exact World.cell?_of_block (w := w) (hb g h1 (.inr (by rw [hm]; rfl)))
  lst := h.lst
  grn := h.grn
  hs := h.hs
theorem St.below {w w' : World} {X base : Nat} {vl vg vh : Value} {us GS : List Value} {HS : List Nat} {μ : Mu} (h : St w X base vl vg vh us GS HS μ) (hb : Below w.heap.size w w') : St w' X base vl vg vh us GS HS μ :=
  h.world hb.size fun k hk _ => hb.block k hk
theorem En.mono {μ μ' : Mu} (h : ∀ g i ℓ, μ g = some (i, ℓ) → ∃ ℓ', ℓ ≤ ℓ' ∧ ℓ' ≤ 2000000 ∧ μ' g = some (i, ℓ')) {i : Nat} {s : Value} (e : En μ i s) : En μ' i s := by
  rcases e with rfl | ⟨g, n, c, ℓ, rfl, h1, h2, h3⟩
  · exact .inl rfl
  · obtain ⟨ℓ', a, b, c'⟩ := h g i ℓ h3
    exact .inr ⟨g, n, c, ℓ', rfl, by omega, b, c'⟩
/-- the list that grows -/
structure Xs (w : World) (base : Nat) (x : Value) (i ℓ : Nat) (μ : Mu) : Prop where
  own : Own w base x (svs (List.replicate ℓ (mrk i)))
  mrkd : ∀ g, x.ownBlock = some g → μ g = some (i, ℓ)
  en : En μ i x
theorem own_cases {w : World} {base : Nat} {v : Value} {cs : List Value} (h : Own w base v cs) : (v = .slice none 0 0 ∧ cs = []) ∨ ∃ g c, v = .slice (some ⟨g, 0, none⟩) cs.length c ∧ v.ownBlock = some g := by
  rcases h with ⟨rfl, rfl⟩ | ⟨g, c, rfl, _⟩
  · exact .inl ⟨rfl, rfl⟩
  · exact .inr ⟨g, c, rfl, rfl⟩
theorem own_cell {w : World} {base : Nat} {v : Value} {cs : List Value} (h : Own w base v cs) {g : Nat} (hg : v.ownBlock = some g) {j : Nat} {x : Value} (hj : cs[j]? = some x) : w.cell? ⟨g, j, none⟩ = some x := by
  rcases h with ⟨rfl, rfl⟩ | ⟨g', c, rfl, _, _, _, h4, _, _⟩
  · simp at hj
  · cases hg
    have := h4 j x hj
    rwa [Nat.zero_add] at this
theorem St.growX {w w' : World} {X base : Nat} {vl vg vh : Value} {us GS : List Value} {HS : List Nat} {μ : Mu} (h : St w X base vl vg vh us GS HS μ) {x x' : Value} {i ℓ : Nat} (hx : Xs w base x i ℓ μ) (hℓ : ℓ + 1 ≤ 2000000)
    (hg : Grow w w' x x') (ho : Own w' base x' (svs (List.replicate (ℓ + 1) (mrk i)))) :
    ∃ μ', St w' X base vl vg vh us GS HS μ' ∧ Xs w' base x' i (ℓ + 1) μ' ∧ (∀ g j m, μ g = some (j, m) → j ≠ i → μ' g = some (j, m)) ∧ (∀ g j m, μ' g = some (j, m) → j ≠ i → μ g = some (j, m)) := by
  have hnew : ∀ k, x'.ownBlock = some k → x.ownBlock = some k ∨ w.heap.size ≤ k := fun k hk => by
    rcases hg.alt with e | ⟨e, _⟩
    · left; rw [← e]; exact hk
    · right; exact e k hk
  have hxB : ∀ k, x.ownBlock = some k → ¬ Bs X vl vg vh k := fun k hk => (h.mkd k i ℓ (hx.mrkd k hk)).2.2.1
  have hxB' : ∀ k, x'.ownBlock = some k → ¬ Bs X vl vg vh k := fun k hk hB => by
    rcases hnew k hk with e | e
    · exact hxB k e hB
    · have := h.lt hB; omega
  have hkeep : ∀ k, k < w.heap.size → x'.ownBlock ≠ some k → w'.heap[k]? = w.heap[k]? := fun k hk hne => by
    rcases hg.alt with e | ⟨_, e⟩
    · exact hg.old k hk (e ▸ hne)
    · exact e k hk
  have hBk : ∀ k, Bs X vl vg vh k → w'.heap[k]? = w.heap[k]? := fun k hB => hkeep k (h.lt hB) fun e => hxB' k e hB
  obtain ⟨μ', hμ⟩ : ∃ μ' : Mu, ∀ k, μ' k = if x'.ownBlock = some k then some (i, ℓ + 1) else μ k := ⟨fun k => if x'.ownBlock = some k then some (i, ℓ + 1) else μ k, fun k => rfl⟩
  have hup : ∀ g j m, μ g = some (j, m) → x'.ownBlock = some g → j = i ∧ m = ℓ := fun g j m hm hxg => by
    rcases hnew g hxg with e | e
    · have := hx.mrkd g e
      rw [hm] at this
      injection this with this
      exact ⟨congrArg Prod.fst this, congrArg Prod.snd this⟩
    · have := (h.mkd g j m hm).2.1; omega
  have hmono : ∀ g j m, m ≤ 2000000 → μ g = some (j, m) → ∃ m', m ≤ m' ∧ m' ≤ 2000000 ∧ μ' g = some (j, m') := fun g j m hm2 hm => by
    by_cases e : x'.ownBlock = some g
    · obtain ⟨rfl, rfl⟩ := hup g j m hm e
      exact ⟨m + 1, by omega, hℓ, by rw [hμ, if_pos e]⟩
    · exact ⟨m, Nat.le_refl _, hm2, by rw [hμ, if_neg e]; exact hm⟩
  have hen : ∀ j s, En μ j s → En μ' j s := fun j s he => by
    rcases he with rfl | ⟨g, n, c, m, rfl, h1, h2, h3⟩
    · exact .inl rfl
    · obtain ⟨m', a, b, c'⟩ := hmono g j m h2 h3
      exact .inr ⟨g, n, c, m', rfl, by omega, b, c'⟩
  refine ⟨μ', ⟨(hBk X (.inl rfl)).trans h.row, h.lists.same hg.size fun k hk => hBk k (.inr (.inl hk)), h.grown.same hg.size fun k hk => hBk k (.inr (.inr (.inl hk))), h.whose.same hg.size fun k hk => hBk k (.inr (.inr (.inr hk))), h.dX, h.d1, h.d2, fun g j m hm => ?_, fun j u hu => hen j u (h.lst j u hu), fun j s k h1 h2 => hen k s (h.grn j s k h1 h2), h.hs⟩, ⟨ho, fun g hxg => by rw [hμ, if_pos hxg], ?_⟩, fun g j m hm hne => ?_, fun g j m hm hne => ?_⟩
  · by_cases e : x'.ownBlock = some g
    · rw [hμ, if_pos e] at hm
      injection hm with hm
      obtain ⟨rfl, rfl⟩ : i = j ∧ ℓ + 1 = m := ⟨congrArg Prod.fst hm, congrArg Prod.snd hm⟩
      refine ⟨ho.ge g e, ho.lt g e, hxB' g e, fun t ht => own_cell ho e ?_⟩
      rw [svs, List.getElem?_map, List.getElem?_replicate, if_pos ht]; rfl
    · rw [hμ, if_neg e] at hm
      obtain ⟨a0, a1, a2, a3⟩ := h.mkd g j m hm
      refine ⟨a0, Nat.lt_of_lt_of_le a1 hg.size, a2, fun t ht => ?_⟩
      rw [← a3 t ht]
      exact World.cell?_of_block (w := w) (hkeep g a1 e)
  · rcases own_cases ho with ⟨rfl, _⟩ | ⟨g, c, e1, e2⟩
    · exact .inl rfl
    · exact .inr ⟨g, _, c, ℓ + 1, e1, by rw [svs_length, List.length_replicate]; exact Nat.le_refl _, hℓ, by rw [hμ, if_pos e2]⟩
  · rw [hμ, if_neg]
    · exact hm
    · intro e
      exact hne (hup g j m hm e).1
  · by_cases e : x'.ownBlock = some g
    · rw [hμ, if_pos e] at hm
      injection hm with hm
      exact absurd (congrArg Prod.fst hm).symm hne
    · rwa [hμ, if_neg e] at hm
/-- one more list is noted -/
theorem St.growG {w w' : World} {X base : Nat} {vl vg vh vg' : Value} {us GS : List Value} {HS : List Nat} {μ : Mu} (h : St w X base vl vg vh us GS HS μ) {s : Value} (hl : GS.length = HS.length) (hg : Grow w w' vg vg') (ho : Own w' base vg' (GS ++ [s])) :
    St (w'.setCell ⟨X, 3, none⟩ vg') X base vl vg' vh us (GS ++ [s]) HS μ := by
  have hnew : ∀ k, vg'.ownBlock = some k → vg.ownBlock = some k ∨ w.heap.size ≤ k := fun k hk => by
    rcases hg.alt with e | ⟨e, _⟩
    · left; rw [← e]; exact hk
    · right; exact e k hk
  have hX := lt_of_heap h.row
  have hgX : vg.ownBlock ≠ some X := fun e => h.dX X (.inr (.inl e)) rfl
  have hgX' : ∀ k, vg'.ownBlock = some k → k ≠ X := fun k hk => by
    rcases hnew k hk with e | e
    · exact h.dX k (.inr (.inl e))
    · omega
  have row1 := (hg.old X hX hgX).trans h.row
  have row2 : (w'.setCell ⟨X, 3, none⟩ vg').heap[X]? = some (.cells #[.slice none 0 0, .slice none 0 0, vl, vg', vh] 55 (0, 0)) := heap_setCell_same w' X 3 _ _ vg' row1
  have hset : ∀ k, k ≠ X → (w'.setCell ⟨X, 3, none⟩ vg').heap[k]? = w'.heap[k]? := fun k hk => Below.heap_setCell w' _ vg' k hk
  have hsz : (w'.setCell ⟨X, 3, none⟩ vg').heap.size = w'.heap.size := by simp [World.setCell]
  have hk2 : ∀ k, k < w.heap.size → k ≠ X → vg.ownBlock ≠ some k → (w'.setCell ⟨X, 3, none⟩ vg').heap[k]? = w.heap[k]? := fun k h1 h2 h3 => (hset k h2).trans (hg.old k h1 h3)
  refine ⟨row2, h.lists.same (by rw [hsz]; exact hg.size) fun k hk => hk2 k (h.lists.lt k hk) (h.dX k (.inl hk)) (h.d1 k hk).1, ho.same (by rw [hsz]; exact Nat.le_refl _) fun k hk => hset k (hgX' k hk), h.whose.same (by rw [hsz]; exact hg.size) fun k hk => hk2 k (h.whose.lt k hk) (h.dX k (.inr (.inr hk))) (fun e => h.d2 k e hk), fun k hk => ?_, fun k hk => ⟨fun e => ?_, (h.d1 k hk).2⟩, fun k hk e => ?_, fun g i ℓ hm => ?_, h.lst, fun j t i h1 h2 => ?_, h.hs⟩
  · rcases hk with hk | hk | hk
    · exact h.dX k (.inl hk)
    · exact hgX' k hk
    · exact h.dX k (.inr (.inr hk))
  · rcases hnew k e with e' | e'
    · exact (h.d1 k hk).1 e'
    · have := h.lists.lt k hk; omega
  · rcases hnew k hk with e' | e'
    · exact h.d2 k e' e
    · have := h.whose.lt k e; omega
  · obtain ⟨a0, a1, a2, a3⟩ := h.mkd g i ℓ hm
    refine ⟨a0, by rw [hsz]; exact Nat.lt_of_lt_of_le a1 hg.size, fun hB => ?_, fun t ht => ?_⟩
    · rcases hB with e | e | e | e
      · exact a2 (.inl e)
      · exact a2 (.inr (.inl e))
      · rcases hnew g e with e' | e'
        · exact a2 (.inr (.inr (.inl e')))
        · omega
      · exact a2 (.inr (.inr (.inr e)))
    · rw [← a3 t ht]
      exact World.cell?_of_block (w := w) (hk2 g a1 (fun e => a2 (.inl e)) fun e => a2 (.inr (.inr (.inl e))))
  · have hj : j < HS.length := (List.getElem?_eq_some_iff.1 h2).1
    rw [List.getElem?_append_left (by omega)] at h1
    exact h.grn j t i h1 h2
/-- and whose it is -/
theorem St.growH {w w' : World} {X base : Nat} {vl vg vh vh' : Value} {us GS : List Value} {HS : List Nat} {μ : Mu} {s : Value} {i : Nat} (h : St w X base vl vg vh us (GS ++ [s]) HS μ) (hl : GS.length = HS.length) (hi : i < us.length) (he : En μ i s) (hg : Grow w w' vh vh') (ho : Own w' base vh' (ins HS ++ [.int .i64 (i : Int)])) :
    St (w'.setCell ⟨X, 4, none⟩ vh') X base vl vg vh' us (GS ++ [s]) (HS ++ [i]) μ := by
  have hnew : ∀ k, vh'.ownBlock = some k → vh.ownBlock = some k ∨ w.heap.size ≤ k := fun k hk => by
    rcases hg.alt with e | ⟨e, _⟩
    · left; rw [← e]; exact hk
    · right; exact e k hk
  have hX := lt_of_heap h.row
  have hgX : vh.ownBlock ≠ some X := fun e => h.dX X (.inr (.inr e)) rfl
  have hgX' : ∀ k, vh'.ownBlock = some k → k ≠ X := fun k hk => by
    rcases hnew k hk with e | e
    · exact h.dX k (.inr (.inr e))
    · omega
  have row1 := (hg.old X hX hgX).trans h.row
  have row2 : (w'.setCell ⟨X, 4, none⟩ vh').heap[X]? = some (.cells #[.slice none 0 0, .slice none 0 0, vl, vg, vh'] 55 (0, 0)) := heap_setCell_same w' X 4 _ _ vh' row1
  have hset : ∀ k, k ≠ X → (w'.setCell ⟨X, 4, none⟩ vh').heap[k]? = w'.heap[k]? := fun k hk => Below.heap_setCell w' _ vh' k hk
  have hsz : (w'.setCell ⟨X, 4, none⟩ vh').heap.size = w'.heap.size := by simp [World.setCell]
  have hk2 : ∀ k, k < w.heap.size → k ≠ X → vh.ownBlock ≠ some k → (w'.setCell ⟨X, 4, none⟩ vh').heap[k]? = w.heap[k]? := fun k h1 h2 h3 => (hset k h2).trans (hg.old k h1 h3)
  refine ⟨row2, h.lists.same (by rw [hsz]; exact hg.size) fun k hk => hk2 k (h.lists.lt k hk) (h.dX k (.inl hk)) (h.d1 k hk).2, h.grown.same (by rw [hsz]; exact hg.size) fun k hk => hk2 k (h.grown.lt k hk) (h.dX k (.inr (.inl hk))) (h.d2 k hk), ?_, fun k hk => ?_, fun k hk => ⟨(h.d1 k hk).1, fun e => ?_⟩, fun k hk e => ?_, fun g j ℓ hm => ?_, h.lst, fun j t k h1 h2 => ?_, fun k hk => ?_⟩
  · have := ho.same (w' := w'.setCell ⟨X, 4, none⟩ vh') (by rw [hsz]; exact Nat.le_refl _) fun k hk => hset k (hgX' k hk)
    rwa [show ins (HS ++ [i]) = ins HS ++ [.int .i64 (i : Int)] by simp [ins]]
  · rcases hk with hk | hk | hk
    · exact h.dX k (.inl hk)
    · exact h.dX k (.inr (.inl hk))
    · exact hgX' k hk
  · rcases hnew k e with e' | e'
    · exact (h.d1 k hk).2 e'
    · have := h.lists.lt k hk; omega
  · rcases hnew k e with e' | e'
    · exact h.d2 k hk e'
    · have := h.grown.lt k hk; omega
  · obtain ⟨a0, a1, a2, a3⟩ := h.mkd g j ℓ hm
    refine ⟨a0, by rw [hsz]; exact Nat.lt_of_lt_of_le a1 hg.size, fun hB => ?_, fun t ht => ?_⟩
    · rcases hB with e | e | e | e
      · exact a2 (.inl e)
      · exact a2 (.inr (.inl e))
      · exact a2 (.inr (.inr (.inl e)))
      · rcases hnew g e with e' | e'
        · exact a2 (.inr (.inr (.inr e')))
        · omega
    · rw [← a3 t ht]
      exact World.cell?_of_block (w := w) (hk2 g a1 (fun e => a2 (.inl e)) fun e => a2 (.inr (.inr (.inr e))))
  · by_cases hj : j < HS.length
    · rw [List.getElem?_append_left hj] at h2
      exact h.grn j t k h1 h2
    · rw [List.getElem?_append_right (by omega)] at h2
      have hj0 : j - HS.length = 0 := by
        rcases Nat.eq_zero_or_pos (j - HS.length) with e | e
        · exact e
        · rw [List.getElem?_eq_none (by simp; omega)] at h2; cases h2
      rw [hj0] at h2
      obtain rfl := Option.some.inj h2
      rw [show j = GS.length from by omega, List.getElem?_append_right (Nat.le_refl _), Nat.sub_self] at h1
      obtain rfl := Option.some.inj h1
      exact he
  · rcases List.mem_append.1 hk with hk | hk
    · exact h.hs k hk
    · rw [List.mem_singleton] at hk; omega
/-- what such a list reads as -/
theorem St.reads {w : World} {X base : Nat} {vl vg vh : Value} {us GS : List Value} {HS : List Nat} {μ : Mu} (h : St w X base vl vg vh us GS HS μ) {i : Nat} {s : Value} (he : En μ i s) : ∃ a n c, s = .slice a n c ∧ n ≤ 2000000 ∧ At w a (List.replicate n (mrk i)) := by
  rcases he with rfl | ⟨g, n, c, ℓ, rfl, h1, h2, h3⟩
  · exact ⟨none, 0, 0, rfl, by omega, At.nil _ _⟩
  · obtain ⟨a0, a1, a2, a3⟩ := h.mkd g i ℓ h3
    refine ⟨_, n, c, rfl, by omega, fun j p hp => ⟨_, rfl, a1, ?_⟩⟩
    rw [List.getElem?_replicate] at hp
    split at hp
    · obtain rfl := Option.some.inj hp
      rw [Addr.add_mid, Nat.zero_add]
      exact a3 j (by omega)
    · cases hp
end Go.Proofs.YticjokhfjkebpaaGreatDoor

namespace Go.Proofs.YticjokhfjkebpaaGreatDoor
open Go.RowKit
/-- the slice v of n elements of m cells each owns the cells cs in a row of its own -/
def OwnM (m : Nat) (w : World) (v : Value) (n : Nat) (cs : List Value) : Prop :=
  (v = .slice none 0 0 ∧ n = 0 ∧ cs = []) ∨
  ∃ g cap, v = .slice (some ⟨g, 0, none⟩) n cap ∧ n ≤ cap ∧ cap ≤ maxLen ∧ cs.length = n * m ∧ w.rangeAt g 0 cs ∧ w.there g 0 (cap * m) ∧ g < w.heap.size
theorem OwnM.nil (m : Nat) (w : World) : OwnM m w (.slice none 0 0) 0 [] := .inl ⟨rfl, rfl, rfl⟩
theorem OwnM.len {m : Nat} {w : World} {v : Value} {n : Nat} {cs : List Value} (h : OwnM m w v n cs) : cs.length = n * m := by
  rcases h with ⟨_, rfl, rfl⟩ | ⟨_, _, _, _, _, h, _⟩
  · simp
  · exact h
theorem OwnM.lt {m : Nat} {w : World} {v : Value} {n : Nat} {cs : List Value} (h : OwnM m w v n cs) : ∀ k, v.ownBlock = some k → k < w.heap.size := by
  rcases h with ⟨rfl, _⟩ | ⟨g, _, rfl, _, _, _, _, _, h⟩
  · intro k hk; cases hk
  · intro k hk; cases hk; exact h
theorem OwnM.kept {m : Nat} {w w' : World} {v : Value} {n : Nat} {cs : List Value} (h : OwnM m w v n cs) (hs : w.heap.size ≤ w'.heap.size) (hb : ∀ g, v.ownBlock = some g → w'.heap[g]? = w.heap[g]?) : OwnM m w' v n cs := by
  rcases h with h | ⟨g, cap, rfl, h2, h3, h0, h4, h5, h6⟩
  · exact .inl h
  · exact .inr ⟨g, cap, rfl, h2, h3, h0, rangeAt_heap h4 (hb g rfl), there_heap h5 (hb g rfl), by omega⟩
theorem OwnM.below {m : Nat} {w w' : World} {v : Value} {n : Nat} {cs : List Value} (h : OwnM m w v n cs) (hb : Below w.heap.size w w') : OwnM m w' v n cs :=
  h.kept hb.size fun g hg => hb.block g (h.lt g hg)
theorem OwnM.drew {m : Nat} {w : World} {v : Value} {n : Nat} {cs : List Value} (h : OwnM m w v n cs) : OwnM m w.drew v n cs := h
theorem OwnM.drewN {m : Nat} {w : World} {v : Value} {n : Nat} {cs : List Value} (h : OwnM m w v n cs) (k : Nat) : OwnM m (w.drewN k) v n cs := h
theorem OwnM.alloc {m : Nat} {w : World} {v : Value} {n : Nat} {cs : List Value} (h : OwnM m w v n cs) (o : Obj) : OwnM m (w.alloc o) v n cs := h.below ((Below.refl _ _).alloc (Nat.le_refl _) _)
theorem OwnM.keep {m : Nat} {S : Nat → Prop} {w w' : World} {v : Value} {n : Nat} {cs : List Value} (h : OwnM m w v n cs) (hb : Keep S w w') (hne : ∀ k, v.ownBlock = some k → ¬ S k) : OwnM m w' v n cs :=
  h.kept hb.size fun g hg => hb.block g (h.lt g hg) (hne g hg)
theorem OwnM.shape {m : Nat} {w : World} {v : Value} {n : Nat} {cs : List Value} (h : OwnM m w v n cs) : ∃ a cap, v = .slice a n cap ∧ n ≤ cap ∧ cap ≤ 9223372036854775807 := by
  rcases h with ⟨rfl, rfl, _⟩ | ⟨g, cap, rfl, h2, h3, _⟩
  · exact ⟨none, 0, rfl, Nat.le_refl _, by omega⟩
  · exact ⟨_, cap, rfl, h2, by simp only [maxLen] at h3; omega⟩
/-- a cell of it -/
theorem OwnM.cell {m : Nat} {w : World} {v : Value} {n : Nat} {cs : List Value} (h : OwnM m w v n cs) {j : Nat} {u : Value} (hu : cs[j]? = some u) : ∃ g cap, v = .slice (some ⟨g, 0, none⟩) n cap ∧ w.cell? ⟨g, j, none⟩ = some u ∧ g < w.heap.size := by
  rcases h with ⟨_, _, rfl⟩ | ⟨g, cap, rfl, _, _, _, h4, _, h6⟩
  · simp at hu
  · refine ⟨g, cap, rfl, ?_, h6⟩
    have := h4 j u hu
    rwa [Nat.zero_add] at this
/-- a beginning of it -/
theorem OwnM.cut {m : Nat} {w : World} {g n c : Nat} {cs : List Value} (h : OwnM m w (.slice (some ⟨g, 0, none⟩) n c) n cs) {k : Nat} (hk : k ≤ n) : OwnM m w (.slice (some ⟨g, 0, none⟩) k c) k (cs.take (k * m)) := by
  rcases h with ⟨h, _⟩ | ⟨g', cap', h, h2, h3, h0, h4, h5, h6⟩
  · cases h
  · injection h with e1 e2 e3
    injection e1 with e1
    injection e1 with e1
    subst e1 e3
    refine .inr ⟨g, c, rfl, by omega, h3, ?_, fun j v hv => h4 j v ?_, h5, h6⟩
    · rw [List.length_take, h0]
      exact Nat.min_eq_left (Nat.mul_le_mul_right _ hk)
    · rw [List.getElem?_take] at hv
      split at hv
      · exact hv
      · cases hv
/-- APPEND onto it, from whatever source -/
theorem run_append_M {P : Program} {m : Nat} (w : World) (t tx ty e : TypeId) (i : TypeInfo) (z : Value) (ht : P.underlying t = some (.slice e)) (hi : P.info? e = some i) (hz : i.zero = some z)
    (hsize : i.size = m) (hzs : z.cells.size = m) (v : Value) (n0 : Nat) (cs : List Value) (hown : OwnM m w v n0 cs) (x : Value) (n : Nat) (news : List Value) (hs : Src P m tx x n news w)
    (hbytes : (n0 + n) * i.bytes ≤ 140737488355328) (h63 : n0 + n ≤ maxLen) (hpos : v = .slice none 0 0 → 0 < n) :
    ∃ v' w', (Builtin.append_ #[t, tx] ty #[v, x]).run P w = .ok v' w' ∧ OwnM m w' v' (n0 + n) (cs ++ news) ∧ Grow w w' v v' := by
  have hn : news.length = n * m := hs.newsLen
  have hcl := hown.len
  have h63' : n0 + n ≤ 9223372036854775807 := by simp only [maxLen] at h63; omega
  have grow : ∀ (b : Option Addr) (old : Nat), old < n0 + n → v = .slice b n0 old → (Builtin.firstCells m n0 (.slice b n0 old)).run P w.drew = .ok cs.toArray w.drew →
      ∃ v' w', (Builtin.append_ #[t, tx] ty #[v, x]).run P w = .ok v' w' ∧ OwnM m w' v' (n0 + n) (cs ++ news) ∧ Grow w w' v v' := by
    intro b old ho hv hold
    have hr := run_append_grow_src (P := P) w t tx ty e i z ht hi hz b n0 old cs (by rw [hsize]; exact hold) x n news (by rw [hsize]; exact hs) ho (by omega) (growslice_fits ho hbytes)
    have hge := grownCap_ge w (n0 + n) old e
    have hcm : grownCap w (n0 + n) old e ≤ maxLen := grownCap_le_maxLen w (n0 + n) old e h63
    have hnew : (w.drew.alloc (.cells ((cs ++ news).toArray ++ Builtin.zeroCells z.cells (grownCap w (n0 + n) old e - (n0 + n))) e)).heap[w.heap.size]? = some (.cells ((cs ++ news).toArray ++ Builtin.zeroCells z.cells (grownCap w (n0 + n) old e - (n0 + n))) e (0, 0)) := heap_alloc_new w.drew _
    refine ⟨.slice (some ⟨w.heap.size, 0, none⟩) (n0 + n) (grownCap w (n0 + n) old e), w.drew.alloc (.cells ((cs ++ news).toArray ++ Builtin.zeroCells z.cells (grownCap w (n0 + n) old e - (n0 + n))) e), by rw [hv]; exact hr, .inr ⟨w.heap.size, grownCap w (n0 + n) old e, rfl, hge, hcm, ?_, ?_, ?_, ?_⟩, ⟨rfl, rfl, rfl, by rw [size_alloc]; exact Nat.le_succ w.heap.size, fun k hk _ => Below.heap_alloc w.drew _ k hk, .inr ⟨fun k hk => ?_, fun k hk => Below.heap_alloc w.drew _ k hk⟩⟩⟩
    · rw [List.length_append, hn, hcl, Nat.add_mul]
    · intro j u hj
      rw [cell_of_row _ _ _ _ _ _ hnew, Nat.zero_add]
      have hj' : j < (cs ++ news).length := (List.getElem?_eq_some_iff.1 hj).1
      rw [Array.getElem?_append_left (by simpa using hj')]
      simpa using hj
    · refine there_of_row hnew 0 _ ?_
      simp only [Array.size_append, List.size_toArray, size_zeroCells, hzs, List.length_append, hn, hcl]
      rw [← Nat.add_mul, ← Nat.add_mul]
      exact Nat.le_of_eq (by rw [Nat.zero_add]; congr 1; omega)
    · rw [size_alloc]; exact Nat.lt_succ_self _
    · have hk : some w.heap.size = some k := hk
      injection hk with hk
      omega
  rcases hown with ⟨rfl, rfl, rfl⟩ | ⟨g, cap, rfl, h2, h3, h0, h4, h5, h6⟩
  · exact grow none 0 (by have := hpos rfl; omega) rfl (run_firstCells_none w.drew m 0 0 0)
  · by_cases hroom : n0 + n ≤ cap
    · have hle : n0 * m + n * m ≤ cap * m := by rw [← Nat.add_mul]; exact Nat.mul_le_mul_right _ hroom
      have hr := run_append_room_src (P := P) w t tx ty e i ht hi g 0 n0 cap x n news (by rw [hsize]; exact hs) hroom
        (fun j hj => by rw [hsize]; exact by have := (h5 (n0 * m + j) (by omega)).1; simpa [Nat.add_assoc] using this)
        (fun j hj => by rw [hsize]; exact by have := (h5 (n0 * m + j) (by omega)).2; simpa [Nat.add_assoc] using this)
      rw [hsize, Nat.zero_add] at hr
      have ht' : w.there g (n0 * m) news.length := fun j hj => by have := h5 (n0 * m + j) (by omega); simpa using this
      refine ⟨_, _, hr, .inr ⟨g, cap, rfl, hroom, h3, ?_, ?_, World.there_setCells h5 _ _ _, ?_⟩, ?_⟩
      · rw [List.length_append, hn, h0, Nat.add_mul]
      · intro j u hj
        by_cases hjl : j < cs.length
        · rw [List.getElem?_append_left hjl] at hj
          exact World.rangeAt_setCells_apart h4 g (n0 * m) news (.inr (.inl (by omega))) j u hj
        · rw [List.getElem?_append_right (by omega)] at hj
          have := World.rangeAt_setCells_same w g (n0 * m) news ht' (j - cs.length) u hj
          rwa [show n0 * m + (j - cs.length) = 0 + j from by omega] at this
      · have := (But.setCells news (n0 * m) (But.refl g w)).size; omega
      · have hb := But.setCells news (n0 * m) (But.refl g w)
        exact ⟨hb.os, hb.tape, hb.output, hb.size, fun k hk hne => hb.block k hk (fun e => hne (by rw [e]; rfl)), .inl rfl⟩
    · refine grow (some ⟨g, 0, none⟩) cap (by omega) rfl ?_
      exact run_firstCells_some w.drew m n0 ⟨g, 0, none⟩ n0 cap cs h0 (fun j u hj => by rw [Addr.add_mid]; exact h4 j u hj)
/-- append of one element that lies in a row of its own -/
theorem append_oneM {m : Nat} (t e : TypeId) (z : Value) (by_ : Nat) (hb64 : by_ ≤ 64) (hu : Tryz.prog.underlying t = some (.slice e)) (hinfo : (Tryz.prog.info? e).map (fun i => (i.zero, i.size, i.bytes)) = some (some z, m, by_)) (hzs : z.cells.size = m)
    (w : World) (v : Value) (n0 : Nat) (cs : List Value) (xs : List Value) (hm : xs.length = m) (h1 : ∀ u ∈ xs, u.oneCell' = true) (hown : OwnM m w v n0 cs) (hlen : n0 ≤ 2000000) :
    ∃ v' w', (Builtin.append_ #[t, t] t #[v, .slice (some ⟨w.heap.size, 0, none⟩) 1 1]).run Tryz.prog (w.alloc (.cells xs.toArray e)) = .ok v' w' ∧ OwnM m w' v' (n0 + 1) (cs ++ xs) ∧ Grow w w' v v' := by
  obtain ⟨i0, hi, hz0, hz1, hz2⟩ := info_parts hinfo
  have hsrc : Src Tryz.prog m t (.slice (some ⟨w.heap.size, 0, none⟩) 1 1) 1 xs (w.alloc (.cells xs.toArray e)) :=
    Src.ofSlice _ hu ⟨w.heap.size, 0, none⟩ 1 1 xs (by rw [hm, Nat.one_mul]) (fun j u hj => by
      rw [Addr.add_mid, cell_of_row _ _ _ _ _ _ (heap_alloc_new w _), Nat.zero_add]; simpa using hj) h1
  obtain ⟨v', w', a1, a2, a3⟩ := run_append_M (P := Tryz.prog) (w.alloc (.cells xs.toArray e)) t t t e i0 z hu hi hz0 hz1 hzs v n0 cs (hown.alloc _) _ 1 xs hsrc
    (by rw [hz2]; exact Nat.le_trans (Nat.mul_le_mul (show n0 + 1 ≤ 2000001 by omega) hb64) (by decide)) (by rw [maxLen]; omega) (fun _ => by omega)
  have hs := a3.size
  rw [size_alloc] at hs
  refine ⟨v', w', a1, a2, ⟨a3.os, a3.tape, a3.output, by omega, fun k hk hne => (a3.old k (by rw [size_alloc]; omega) hne).trans (Below.heap_alloc w _ k hk), ?_⟩⟩
  rcases a3.alt with h4 | ⟨h4, h5⟩
  · exact .inl h4
  · refine .inr ⟨fun k hk => ?_, fun k hk => (h5 k (by rw [size_alloc]; omega)).trans (Below.heap_alloc w _ k hk)⟩
    have := h4 k hk
    rw [size_alloc] at this
    omega
end Go.Proofs.YticjokhfjkebpaaGreatDoor

namespace Go.Proofs.YticjokhfjkebpaaGreatDoor
open Go.RowKit Go.Shelf
/-- append of one element that lies in a row of its own, to a list of whatever length -/
theorem append_oneL {m : Nat} (t e : TypeId) (z : Value) (by_ : Nat) (hu : Tryz.prog.underlying t = some (.slice e)) (hinfo : (Tryz.prog.info? e).map (fun i => (i.zero, i.size, i.bytes)) = some (some z, m, by_)) (hzs : z.cells.size = m)
    (w : World) (v : Value) (n0 : Nat) (cs : List Value) (xs : List Value) (hm : xs.length = m) (h1 : ∀ u ∈ xs, u.oneCell' = true) (hown : OwnM m w v n0 cs) (hb : (n0 + 1) * by_ ≤ 140737488355328) (hlen : n0 + 1 ≤ maxLen) :
    ∃ v' w', (Builtin.append_ #[t, t] t #[v, .slice (some ⟨w.heap.size, 0, none⟩) 1 1]).run Tryz.prog (w.alloc (.cells xs.toArray e)) = .ok v' w' ∧ OwnM m w' v' (n0 + 1) (cs ++ xs) ∧ Grow w w' v v' := by
  obtain ⟨i0, hi, hz0, hz1, hz2⟩ := info_parts hinfo
  have hsrc : Src Tryz.prog m t (.slice (some ⟨w.heap.size, 0, none⟩) 1 1) 1 xs (w.alloc (.cells xs.toArray e)) :=
    Src.ofSlice _ hu ⟨w.heap.size, 0, none⟩ 1 1 xs (by rw [hm, Nat.one_mul]) (fun j u hj => by
      rw [Addr.add_mid, cell_of_row _ _ _ _ _ _ (heap_alloc_new w _), Nat.zero_add]; simpa using hj) h1
  obtain ⟨v', w', a1, a2, a3⟩ := run_append_M (P := Tryz.prog) (w.alloc (.cells xs.toArray e)) t t t e i0 z hu hi hz0 hz1 hzs v n0 cs (hown.alloc _) _ 1 xs hsrc
    (by rw [hz2]; exact hb) hlen (fun _ => by omega)
  have hs := a3.size
  rw [size_alloc] at hs
  refine ⟨v', w', a1, a2, ⟨a3.os, a3.tape, a3.output, by omega, fun k hk hne => (a3.old k (by rw [size_alloc]; omega) hne).trans (Below.heap_alloc w _ k hk), ?_⟩⟩
  rcases a3.alt with h4 | ⟨h4, h5⟩
  · exact .inl h4
  · refine .inr ⟨fun k hk => ?_, fun k hk => (h5 k (by rw [size_alloc]; omega)).trans (Below.heap_alloc w _ k hk)⟩
    have := h4 k hk
    rw [size_alloc] at this
    omega
/-- pairs of numbers, as cells -/
def prs (l : List (Nat × Nat)) : List Value := l.flatMap fun q => [.int .i64 (q.1 : Int), .int .i64 (q.2 : Int)]
theorem prs_len (l : List (Nat × Nat)) : (prs l).length = l.length * 2 := by
  induction l with
  | nil => rfl
  | cons q l ih => rw [prs, List.flatMap_cons, List.length_append, ← prs, ih]; simp; omega
theorem prs_append (l m : List (Nat × Nat)) : prs (l ++ m) = prs l ++ prs m := List.flatMap_append
theorem prs_get : ∀ {l : List (Nat × Nat)} {j : Nat} {q : Nat × Nat}, l[j]? = some q → (prs l)[j * 2]? = some (.int .i64 (q.1 : Int)) ∧ (prs l)[j * 2 + 1]? = some (.int .i64 (q.2 : Int))
  | [], j, q, h => by simp at h
  | a :: l, 0, q, h => by
    obtain rfl : a = q := by simpa using h
    exact ⟨rfl, rfl⟩
  | a :: l, j + 1, q, h => by
    have := prs_get (l := l) (j := j) (by simpa using h)
    rw [show (j + 1) * 2 = j * 2 + 2 from by omega]
    exact this
/-- a list of pairs that is one's own -/
abbrev OwnP (w : World) (v : Value) (l : List (Nat × Nat)) : Prop := OwnM 2 w v l.length (prs l)
theorem infoSp8 : (Tryz.prog.info? 35).map (fun i => (i.zero, i.size, i.bytes)) = some (some (.agg #[.int .i64 0, .int .i64 0]), 2, 16) := by kernel_rfl
theorem append_pair (w : World) (v : Value) (l : List (Nat × Nat)) (x y : Nat) (h : OwnP w v l) (hl : l.length ≤ 1099511627776) :
    ∃ v' w', (Builtin.append_ #[88, 88] 88 #[v, .slice (some ⟨w.heap.size, 0, none⟩) 1 1]).run Tryz.prog (w.alloc (.cells #[.int .i64 (x : Int), .int .i64 (y : Int)] 35)) = .ok v' w' ∧ OwnP w' v' (l ++ [(x, y)]) ∧ Grow w w' v v' := by
  obtain ⟨v', w', h1, h2, h3⟩ := append_oneL 88 35 (.agg #[.int .i64 0, .int .i64 0]) 16 Tryz.underlying88 infoSp8 rfl w v l.length (prs l) [.int .i64 (x : Int), .int .i64 (y : Int)] rfl (fun u hu => by
    simp only [List.mem_cons, List.not_mem_nil, or_false] at hu
    rcases hu with rfl | rfl <;> rfl) h (by omega) (by rw [maxLen]; omega)
  refine ⟨v', w', h1, ?_, h3⟩
  unfold OwnP
  rw [prs_append, List.length_append]; exact h2
/-- a variable that holds a list of pairs of its own, t the list's type -/
structure Col (W : World) (gb : Nat) (t : TypeId) (v : Value) (L : List (Nat × Nat)) : Prop where
  box : Boxed W gb t v
  own : OwnP W v L
  ne : v.ownBlock ≠ some gb
/-- its blocks -/
def Col.F (gb : Nat) (v : Value) : Nat → Prop := fun k => k = gb ∨ v.ownBlock = some k
theorem Col.keep {W W' : World} {gb : Nat} {t : TypeId} {v : Value} {L : List (Nat × Nat)} {S : Nat → Prop} (h : Col W gb t v L) (hk : Keep S W W') (hs : ∀ k, Col.F gb v k → ¬ S k) : Col W' gb t v L :=
  ⟨h.box.keepF hk (hs _ (.inl rfl)), h.own.keep hk fun k e => hs k (.inr e), h.ne⟩
theorem Col.lt {W : World} {gb : Nat} {t : TypeId} {v : Value} {L : List (Nat × Nat)} (h : Col W gb t v L) : ∀ k, Col.F gb v k → k < W.heap.size := by
  rintro k (rfl | e)
  · exact h.box.lt
  · exact h.own.lt k e
theorem Col.below {W W' : World} {gb : Nat} {t : TypeId} {v : Value} {L : List (Nat × Nat)} (h : Col W gb t v L) (hk : Below W.heap.size W W') : Col W' gb t v L := h.keep (Keep.ofBelow (S := fun _ => False) hk) fun _ _ e => e
/-- the list is longer by one: what the store leaves -/
theorem Col.push {W w' : World} {gb : Nat} {t : TypeId} {v v' : Value} {L L' : List (Nat × Nat)} (h : Col W gb t v L) (h1 : OwnP w' v' L') (g : Grow W w' v v') :
    Boxed w' gb t v ∧ Col (w'.setCell ⟨gb, 0, none⟩ v') gb t v' L' ∧ Mvs (Col.F gb v) W (w'.setCell ⟨gb, 0, none⟩ v') (Col.F gb v') := by
  have b1 := h.box.keepF g.keep h.ne
  have hne : v'.ownBlock ≠ some gb := fun e => by
    rcases g.alt with q | ⟨q, _⟩
    · exact h.ne (by rw [← q]; exact e)
    · have := q gb e; have := h.box.lt; omega
  refine ⟨b1, ⟨b1.set v', ?_, hne⟩, ?_, ?_⟩
  · exact h1.keep (Keep.ofSet (S := fun k => k = gb) w' gb 0 v' rfl) fun k hk e => hne (e ▸ hk)
  · exact (g.keep.mono (T := Col.F gb v) fun k _ e => .inr e).trans (Keep.ofSet (S := fun k => k = gb) w' gb 0 v' rfl) fun k _ e => .inl e
  · rintro k (e | e)
    · exact .inl (.inl e)
    · rcases g.alt with q | ⟨q, _⟩
      · exact .inl (.inr (by rw [← q]; exact e))
      · exact .inr (q k e)
end Go.Proofs.YticjokhfjkebpaaGreatDoor

namespace Go.Proofs.YticjokhfjkebpaaGreatDoor
open Go.RowKit Go.Shelf
/-- so far turned round: k from each end -/
def Tnd (L M : List (Nat × Nat)) (i : Nat) : Prop := M.length = L.length ∧ ∀ k, k < L.length → M[k]? = if k < i ∨ L.length ≤ k + i then L[L.length - 1 - k]? else L[k]?
theorem Tnd.start (L : List (Nat × Nat)) : Tnd L L 0 := ⟨rfl, fun k hk => by rw [if_neg (by omega)]⟩
theorem Tnd.done {L M : List (Nat × Nat)} {i : Nat} (h : Tnd L M i) (hi : L.length ≤ 2 * i + 1) : M = L.reverse := by
  refine List.ext_getElem? fun k => ?_
  by_cases hk : k < L.length
  · rw [h.2 k hk, List.getElem?_reverse hk]
    by_cases h2 : k < i ∨ L.length ≤ k + i
    · rw [if_pos h2]
    · rw [if_neg h2, show L.length - 1 - k = k by omega]
  · rw [List.getElem?_eq_none (by rw [h.1]; omega), List.getElem?_eq_none (by rw [List.length_reverse]; omega)]
theorem Tnd.step {L M : List (Nat × Nat)} {i : Nat} (h : Tnd L M i) (hi : 2 * i + 1 < L.length) {p q : Nat × Nat} (hp : M[i]? = some p) (hq : M[L.length - 1 - i]? = some q) : Tnd L ((M.set i q).set (L.length - 1 - i) p) (i + 1) := by
  have h1 := h.2 i (by omega)
  have h2 := h.2 (L.length - 1 - i) (by omega)
  rw [if_neg (by omega), hp] at h1
  rw [if_neg (by omega), hq] at h2
  refine ⟨by rw [List.length_set, List.length_set, h.1], fun k hk => ?_⟩
  by_cases e1 : k = L.length - 1 - i
  · rw [if_pos (by omega), e1, List.getElem?_set_self (by rw [List.length_set, h.1]; omega), h1, show L.length - 1 - (L.length - 1 - i) = i by omega]
  · rw [List.getElem?_set_ne (by omega)]
    by_cases e2 : k = i
    · rw [if_pos (by omega), e2, List.getElem?_set_self (by rw [h.1]; omega), h2]
    · rw [List.getElem?_set_ne (by omega), h.2 k hk]
      by_cases e3 : k < i ∨ L.length ≤ k + i
      · rw [if_pos e3, if_pos (by omega)]
      · rw [if_neg e3, if_neg (by omega)]
/-- a pair is written over -/
theorem prs_set : ∀ (l : List (Nat × Nat)) (j : Nat) (x y : Nat), prs (l.set j (x, y)) = ((prs l).set (j * 2) (.int .i64 (x : Int))).set (j * 2 + 1) (.int .i64 (y : Int))
  | [], j, x, y => by simp [prs]
  | a :: l, 0, x, y => rfl
  | a :: l, j + 1, x, y => by
    have ih := prs_set l j x y
    rw [show (j + 1) * 2 = j * 2 + 1 + 1 from by omega]
    show _ :: _ :: prs (l.set j (x, y)) = _
    rw [ih]; rfl
theorem OwnM.setC {w : World} {g n c m : Nat} {cs : List Value} (h : OwnM m w (.slice (some ⟨g, 0, none⟩) n c) n cs) (j : Nat) (v : Value) (hj : j < cs.length) : OwnM m (w.setCell ⟨g, j, none⟩ v) (.slice (some ⟨g, 0, none⟩) n c) n (cs.set j v) := by
  rcases h with ⟨h, _⟩ | ⟨g', cap', h, h2, h3, h0, h4, h5, h6⟩
  · cases h
  · injection h with e1 e2 e3
    injection e1 with e1
    injection e1 with e1
    subst e1 e3
    refine .inr ⟨g, c, rfl, h2, h3, by rw [List.length_set]; exact h0, fun k u hk => ?_, fun k hk => ?_, by rw [show (w.setCell ⟨g, j, none⟩ v).heap.size = w.heap.size from by simp [World.setCell]]; exact h6⟩
    · rw [Nat.zero_add]
      by_cases e : k = j
      · subst e
        rw [List.getElem?_set_self hj] at hk
        injection hk with hk
        subst hk
        have := h4 k (cs[k]'hj) (by simp)
        rw [Nat.zero_add] at this
        exact World.cell?_setCell_same' _ _ _ (by rw [this]; rfl)
      · rw [List.getElem?_set_ne (by omega)] at hk
        have := h4 k u hk
        rw [Nat.zero_add] at this
        rw [World.cell?_setCell_other w _ _ _ (fun q => e (by injection q with _ q; exact q.symm))]
        exact this
    · have := h5 k hk
      refine ⟨?_, ?_⟩
      · by_cases e : 0 + k = j
        · rw [e] at this ⊢
          rw [World.cell?_setCell_same' w ⟨g, j, none⟩ v this.1]; rfl
        · rw [World.cell?_setCell_other w _ _ _ (fun q => e (by injection q with _ q; exact q.symm))]
          exact this.1
      · rw [World.frozen?_setCell]; exact this.2
end Go.Proofs.YticjokhfjkebpaaGreatDoor

namespace Go.Proofs.YticjokhfjkebpaaGreatDoor
open Go.RowKit Go.Shelf
theorem getD_of {l : List (Nat × Nat)} {k : Nat} (h : k < l.length) : ∃ x y, l[k]? = some (x, y) := ⟨(l[k]'h).1, (l[k]'h).2, by rw [List.getElem?_eq_getElem h]⟩
end Go.Proofs.YticjokhfjkebpaaGreatDoor

namespace Go.Proofs.YticjokhfjkebpaaGreatDoor
open Go.RowKit
/-- a region in a round is left at its end alone -/
def OnlyN (Q : Exit → Act → World → Prop) : Exit → Act → World → Prop
  | .normal, a, w => Q .normal a w
  | _, _, _ => False
theorem OnlyN.out {Q : Exit → Act → World → Prop} : ¬ LetsOut (OnlyN Q) := fun ⟨_, _, h⟩ => h
theorem oper_in {l n : Nat} {P : Program} {o : Oper} {a : Act} {w : World} {K : Act → World → Prop} {Q : Exit → Act → World → Prop} (hd : ∀ c, o.op ≠ .defer c)
    (h : o.wp P a w K (OnlyN Q)) : o.wpIn (Fence.wide.inRound l) n P a w K Q := by
  refine ⟨fun _ _ => trivial, ?_⟩
  have e : o.semAt (Fence.wide.inRound l).round a.eval = execOp a.eval o := Oper.semAt_eq _ _ _ hd
  rw [e]
  unfold Oper.wp at h
  generalize (execOp a.eval o).run P w = r at *
  cases r with
  | ok x w' =>
    cases x <;> simp only [Oper.upon, Oper.uponIn] at h ⊢
    case value v => exact h
    case skip => exact h
    case defer d => exact h
    case enter f args =>
      refine ⟨fun h => (by cases h), CallsIn.inRound l ((callsIn_wide.2 h).mono fun e w'' he => ?_)⟩
      cases e with
      | returned v => exact he
      | panicked c => exact he.elim
      | outgrown => exact (OnlyN.out he).elim
    case row row args =>
      refine ⟨fun h => (by cases h), fun c cs _ => ?_⟩
      obtain ⟨v, w'', hv, hs⟩ := h c cs
      exact ⟨v, w'', hv, stepsIn_wide.2 hs⟩
  | halt x w' =>
    cases x <;> simp only [Oper.upon, Oper.uponIn] at h ⊢
    exact h.elim
theorem wpOp_in {l n : Nat} {P : Program} {ops : Array Oper} {i : Nat} {a : Act} {w : World} {K : Act → World → Prop} {Q : Exit → Act → World → Prop} (hd : ∀ (j : Nat) (o : Oper) c, ops[j]? = some o → o.op ≠ .defer c)
    (h : wpOp P ops (OnlyN Q) i K a w) : wpOpIn (Fence.wide.inRound l) n P ops Q i K a w := by
  unfold wpOp at h
  unfold wpOpIn
  cases ho : ops[i]? with
  | none => rw [ho] at h; exact h
  | some o =>
    simp only [ho] at h ⊢
    split
    · rename_i hw
      simp only [hw, if_true] at h
      rcases h with h | ⟨_, h⟩
      · exact oper_in (fun c => hd i o c ho) h
      · exact (OnlyN.out h).elim
    · rename_i hw
      simp only [hw] at h
      exact ⟨fun _ _ => trivial, h⟩
theorem wpAny_in {l n : Nat} {P : Program} {ops : Array Oper} {md : Region.Mode} {Q : Exit → Act → World → Prop} (hd : ∀ (j : Nat) (o : Oper) c, ops[j]? = some o → o.op ≠ .defer c) :
    ∀ (fuel : Nat) (listed : Array Bool) (a : Act) (w : World), wpAny P md ops (OnlyN Q) fuel listed a w → wpAnyIn (Fence.wide.inRound l) n P md ops Q fuel listed a w
  | 0, _, _, _, h => h
  | fuel + 1, _, _, _, h => ⟨h.1, fun i hi => wpOp_in hd (wpOp_mono (fun a w h => wpAny_in hd fuel _ a w h) (h.2 i hi))⟩
/-- a region that draws, in a round -/
theorem round_held {l n id : Nat} {P : Program} {ops : Array Oper} {Q : Exit → Act → World → Prop} {S : World → Prop} {a : Act} {w : World} (hm : P.follows .mixedOrders = true)
    (hd : ∀ (j : Nat) (o : Oper) c, ops[j]? = some o → o.op ≠ .defer c) (hS : S w.drew)
    (h : S w.drew → wpAnyH P .any ops (OnlyN Q) S ops.size (Array.replicate ops.size false) a w.drew) : (Code.region id ops true).wpIn (Fence.wide.inRound l) n P Q a w :=
  wpIn_region_any hm (wpAny_in hd _ _ _ _ (wpAny_of_held _ _ _ _ (h hS)))
theorem noDefer {ops : Array Oper} (h : (ops.toList.all fun o => match o.op with | .defer _ => false | _ => true) = true) : ∀ (j : Nat) (o : Oper) c, ops[j]? = some o → o.op ≠ .defer c := fun j o c hj he => by
  have hm : o ∈ ops.toList := by
    rw [Array.mem_toList_iff]
    exact Array.mem_of_getElem? hj
  have := List.all_eq_true.1 h o hm
  rw [he] at this
  cases this
theorem wpListIn_append_run {F : Fence} {n : Nat} {P : Program} {ops : Array Oper} {rest : List Oper} {o : Oper} {a : Act} {w : World} {Q : Exit → Act → World → Prop}
    (hg : o.guard = none) (s x : Operand) (t : TypeId) (hop : o.op = Op.call { callee := Callee.builtin Builtin.append, args := #[s, x], argTypes := #[t, t] })
    (v1 v2 v' : Value) (w' : World) (hs : a.eval s = v1) (hx : a.eval x = v2) (hrun : (Builtin.append_ #[t, t] o.type #[v1, v2]).run P w = .ok v' w') (hK : wpListIn F n P ops Q rest (a.put o.dst v') w') :
    wpListIn F n P ops Q (o :: rest) a w := by
  refine wpListIn_plain hg fun K hK' => ?_
  unfold Oper.wpIn
  refine ⟨?_, ?_⟩
  · simp [Oper.about, hop, resolve, Target.leads, Sem.run_pure]
  · rw [Oper.semAt_plain F _ _ (by rw [hop]; intro c hc'; cases hc')]
    simp [execOp, hop, resolve, invoke, builtin, hs, hx, hrun, Result.andThen]
    exact hK' _ _ hK
end Go.Proofs.YticjokhfjkebpaaGreatDoor
