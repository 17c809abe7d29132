import Derived.Test.YticjokhfjkebpaaGreatDoorPkO53
namespace Go.Proofs.YticjokhfjkebpaaGreatDoor
open Go.RowKit

/-- the book while lists are taken into it -/
structure Bk (w : World) (X : Nat) (vf vw : Value) (us cs : List Value) (Ls : List (List (List UInt8))) : Prop where
  row : w.heap[X]? = some (.cells #[vf, vw, .slice none 0 0, .slice none 0 0, .slice none 0 0] 55 (0, 0))
  free : Own w X vf us
  was : Own w X vw cs
  l1 : us.length = Ls.length
  l2 : cs.length = Ls.length
  dX : vf.ownBlock ≠ some X ∧ vw.ownBlock ≠ some X
  dFW : ∀ k, vf.ownBlock = some k → vw.ownBlock ≠ some k
  own : ∀ (i : Nat) (u : Value) (L : List (List UInt8)), us[i]? = some u → Ls[i]? = some L → Own w X u (svs L) ∧ L.length ≤ 1000000
  cpy : ∀ (i : Nat) (c : Value) (L : List (List UInt8)), cs[i]? = some c → Ls[i]? = some L → Own w X c (svs L)
  apU : ∀ (i : Nat) (u : Value) (g : Nat), us[i]? = some u → u.ownBlock = some g → g ≠ X ∧ vf.ownBlock ≠ some g ∧ vw.ownBlock ≠ some g
  apC : ∀ (i : Nat) (c : Value) (g : Nat), cs[i]? = some c → c.ownBlock = some g → g ≠ X ∧ vf.ownBlock ≠ some g ∧ vw.ownBlock ≠ some g
  di : ∀ (i j : Nat) (u v : Value) (g : Nat), us[i]? = some u → us[j]? = some v → u.ownBlock = some g → v.ownBlock = some g → i = j
theorem Bk.nil {w : World} {X : Nat} (h : w.heap[X]? = some (.cells #[.slice none 0 0, .slice none 0 0, .slice none 0 0, .slice none 0 0, .slice none 0 0] 55 (0, 0))) : Bk w X (.slice none 0 0) (.slice none 0 0) [] [] [] :=
  ⟨h, Own.nil _ _, Own.nil _ _, rfl, rfl, ⟨fun e => (by cases e), fun e => (by cases e)⟩, fun k e => (by cases e), fun i u L e => by simp at e, fun i u L e => by simp at e, fun i u g e => by simp at e, fun i u g e => by simp at e, fun i j u v g e => by simp at e⟩
/-- nothing from the book on was touched -/
theorem Bk.same {w w' : World} {X : Nat} {vf vw : Value} {us cs : List Value} {Ls : List (List (List UInt8))} (h : Bk w X vf vw us cs Ls) (hs : w.heap.size ≤ w'.heap.size) (hb : ∀ k, X ≤ k → k < w.heap.size → w'.heap[k]? = w.heap[k]?) : Bk w' X vf vw us cs Ls where
  row := (hb X (Nat.le_refl _) (lt_of_heap h.row)).trans h.row
  free := h.free.same hs fun k hk => hb k (h.free.ge k hk) (h.free.lt k hk)
  was := h.was.same hs fun k hk => hb k (h.was.ge k hk) (h.was.lt k hk)
  l1 := h.l1
  l2 := h.l2
  dX := h.dX
  dFW := h.dFW
  own := fun i u L h1 h2 => ⟨(h.own i u L h1 h2).1.same hs fun k hk => hb k ((h.own i u L h1 h2).1.ge k hk) ((h.own i u L h1 h2).1.lt k hk), (h.own i u L h1 h2).2⟩
  cpy := fun i c L h1 h2 => (h.cpy i c L h1 h2).same hs fun k hk => hb k ((h.cpy i c L h1 h2).ge k hk) ((h.cpy i c L h1 h2).lt k hk)
  apU := h.apU
  apC := h.apC
  di := h.di
theorem Bk.below {w w' : World} {X : Nat} {vf vw : Value} {us cs : List Value} {Ls : List (List (List UInt8))} (h : Bk w X vf vw us cs Ls) (hb : Below w.heap.size w w') : Bk w' X vf vw us cs Ls := h.same hb.size fun k _ hk => hb.block k hk
theorem Bk.but {w w' : World} {X H : Nat} {vf vw : Value} {us cs : List Value} {Ls : List (List (List UInt8))} (h : Bk w X vf vw us cs Ls) (hb : But H w w') (hH : H < X) : Bk w' X vf vw us cs Ls := h.same hb.size fun k h1 hk => hb.block k hk (by omega)
theorem Bk.blocks {w : World} {X : Nat} {vf vw : Value} {us cs : List Value} {Ls : List (List (List UInt8))} (h : Bk w X vf vw us cs Ls) {i : Nat} {u : Value} (hu : us[i]? = some u) {k : Nat} (hk : u.ownBlock = some k) : k < w.heap.size := by
  have hi := (List.getElem?_eq_some_iff.1 hu).1
  exact (h.own i u (Ls[i]'(by rw [← h.l1]; exact hi)) hu (List.getElem?_eq_getElem _)).1.lt k hk
/-- a list that the book has not -/
def Fr (X : Nat) (vf vw : Value) (us : List Value) (u : Value) : Prop := ∀ k, u.ownBlock = some k → k ≠ X ∧ vf.ownBlock ≠ some k ∧ vw.ownBlock ≠ some k ∧ ∀ (i : Nat) (v : Value), us[i]? = some v → v.ownBlock ≠ some k
theorem Bk.fresh {w w' : World} {X b2 : Nat} {vf vw : Value} {us cs cu : List Value} {Ls : List (List (List UInt8))} (h : Bk w X vf vw us cs Ls) {u : Value} (hu : Own w' b2 u cu) (hb : w.heap.size ≤ b2) : Fr X vf vw us u := fun k hk => by
  have hge := hu.ge k hk
  refine ⟨fun e => ?_, fun e => ?_, fun e => ?_, fun i v hv e => ?_⟩
  · have := lt_of_heap h.row; omega
  · have := h.free.lt k e; omega
  · have := h.was.lt k e; omega
  · have := h.blocks hv e; omega
theorem Fr.next {w w' : World} {X base : Nat} {vf vw vl vg vh u : Value} {FS WS : List Value} {L : List (List UInt8)} {vf' vw' c : Value} (T : Took w w' X base vf vw vl vg vh u FS WS L vf' vw' c) {us : List Value} {x : Value} {cx : List Value} {b2 : Nat} (hx : Fr X vf vw us x) (ox : Own w b2 x cx) (hne : ∀ k, u.ownBlock = some k → x.ownBlock ≠ some k) : Fr X vf' vw' (us ++ [u]) x := fun k hk => by
  obtain ⟨h1, h2, h3, h4⟩ := hx k hk
  have hlt := ox.lt k hk
  refine ⟨h1, fun e => ?_, fun e => ?_, fun i v hv e => ?_⟩
  · rcases T.srcF k e with e' | e'
    · exact h2 e'
    · omega
  · rcases T.srcW k e with e' | e'
    · exact h3 e'
    · omega
  · by_cases hi : i < us.length
    · rw [List.getElem?_append_left hi] at hv
      exact h4 i v hv e
    · rw [List.getElem?_append_right (by omega)] at hv
      have : v = u := by
        have hm := List.mem_of_getElem? hv
        simpa using hm
      subst this
      exact hne k e hk
theorem getSnoc {α : Type} {l : List α} {x y : α} {i : Nat} (h : (l ++ [x])[i]? = some y) : (i < l.length ∧ l[i]? = some y) ∨ (i = l.length ∧ y = x) := by
  by_cases hi : i < l.length
  · rw [List.getElem?_append_left hi] at h
    exact .inl ⟨hi, h⟩
  · have hl := (List.getElem?_eq_some_iff.1 h).1
    simp at hl
    have hm : i = l.length := by omega
    subst hm
    rw [List.getElem?_append_right (Nat.le_refl _), Nat.sub_self] at h
    exact .inr ⟨rfl, (Option.some.inj h).symm⟩
/-- a list was taken -/
theorem Bk.take {w w' : World} {X b2 : Nat} {vf vw u : Value} {us cs : List Value} {Ls : List (List (List UInt8))} {L : List (List UInt8)} {vf' vw' c : Value} (h : Bk w X vf vw us cs Ls) (T : Took w w' X X vf vw (.slice none 0 0) (.slice none 0 0) (.slice none 0 0) u us cs L vf' vw' c)
    (hu : Own w b2 u (svs L)) (hb2 : X ≤ b2) (hL : L.length ≤ 1000000) (hF : Fr X vf vw us u) : Bk w' X vf' vw' (us ++ [u]) (cs ++ [c]) (Ls ++ [L]) := by
  have hXl := lt_of_heap h.row
  have hX : ∀ k, vf'.ownBlock = some k ∨ vw'.ownBlock = some k → k ≠ X := fun k hk e => by
    subst e
    rcases hk with hk | hk
    · rcases T.srcF k hk with e | e
      · exact h.dX.1 e
      · omega
    · rcases T.srcW k hk with e | e
      · exact h.dX.2 e
      · omega
  have hold : ∀ k, k < w.heap.size → k ≠ X ∧ vf.ownBlock ≠ some k ∧ vw.ownBlock ≠ some k → k ≠ X ∧ vf'.ownBlock ≠ some k ∧ vw'.ownBlock ≠ some k := fun k hk ⟨a1, a2, a3⟩ => by
    refine ⟨a1, fun e => ?_, fun e => ?_⟩
    · rcases T.srcF k e with e | e
      · exact a2 e
      · omega
    · rcases T.srcW k e with e | e
      · exact a3 e
      · omega
  have hkeep : ∀ k, k < w.heap.size → k ≠ X ∧ vf.ownBlock ≠ some k ∧ vw.ownBlock ≠ some k → w'.heap[k]? = w.heap[k]? := fun k hk ⟨a1, a2, a3⟩ => T.keep.block k hk fun e => by
    rcases e with e | e | e
    · exact a1 e
    · exact a2 e
    · exact a3 e
  have hFu : ∀ k, u.ownBlock = some k → k ≠ X ∧ vf.ownBlock ≠ some k ∧ vw.ownBlock ≠ some k := fun k hk => ⟨(hF k hk).1, (hF k hk).2.1, (hF k hk).2.2.1⟩
  refine ⟨T.row, T.free, T.was, by simp [h.l1], by simp [h.l2], ⟨fun e => hX X (.inl e) rfl, fun e => hX X (.inr e) rfl⟩, T.apart, fun i v M h1 h2 => ?_, fun i v M h1 h2 => ?_, fun i v g h1 h2 => ?_, fun i v g h1 h2 => ?_, fun i j v v' g h1 h2 h3 h4 => ?_⟩
  · rcases getSnoc h1 with ⟨hi, h1⟩ | ⟨hi, rfl⟩
    · rw [List.getElem?_append_left (by rw [← h.l1]; exact hi)] at h2
      obtain ⟨o, ol⟩ := h.own i v M h1 h2
      exact ⟨o.same T.keep.size fun k hk => hkeep k (o.lt k hk) (h.apU i v k h1 hk), ol⟩
    · rw [hi, h.l1, List.getElem?_append_right (Nat.le_refl _), Nat.sub_self] at h2
      obtain rfl := Option.some.inj h2
      exact ⟨(hu.mono hb2).same T.keep.size fun k hk => hkeep k (hu.lt k hk) (hFu k hk), hL⟩
  · rcases getSnoc h1 with ⟨hi, h1⟩ | ⟨hi, rfl⟩
    · rw [List.getElem?_append_left (by rw [← h.l2]; exact hi)] at h2
      have o := h.cpy i v M h1 h2
      exact o.same T.keep.size fun k hk => hkeep k (o.lt k hk) (h.apC i v k h1 hk)
    · rw [hi, h.l2, List.getElem?_append_right (Nat.le_refl _), Nat.sub_self] at h2
      obtain rfl := Option.some.inj h2
      exact T.copy.mono (by omega)
  · rcases getSnoc h1 with ⟨hi, h1⟩ | ⟨hi, rfl⟩
    · exact hold g (h.blocks h1 h2) (h.apU i v g h1 h2)
    · exact hold g (hu.lt g h2) (hFu g h2)
  · rcases getSnoc h1 with ⟨hi, h1⟩ | ⟨hi, rfl⟩
    · have o := h.cpy i v (Ls[i]'(by rw [← h.l2]; exact hi)) h1 (List.getElem?_eq_getElem _)
      exact hold g (o.lt g h2) (h.apC i v g h1 h2)
    · exact T.fresh g h2
  · rcases getSnoc h1 with ⟨hi, k1⟩ | ⟨hi, k1⟩
    · rcases getSnoc h2 with ⟨hj, k2⟩ | ⟨hj, k2⟩
      · exact h.di i j v v' g k1 k2 h3 h4
      · exact absurd h3 ((hF g (k2 ▸ h4)).2.2.2 i v k1)
    · rcases getSnoc h2 with ⟨hj, k2⟩ | ⟨hj, k2⟩
      · exact absurd h4 ((hF g (k1 ▸ h3)).2.2.2 j v' k2)
      · omega
theorem apart_of {w w' : World} {b1 b2 : Nat} {u x : Value} {cu cx : List Value} (o1 : Own w b1 u cu) (o2 : Own w' b2 x cx) (h : w.heap.size ≤ b2) : ∀ k, u.ownBlock = some k → x.ownBlock ≠ some k := fun k h1 h2 => by
  have := o1.lt k h1
  have := o2.ge k h2
  omega
/-- an untouched list stays while another one is taken -/
theorem Own.took {w w' : World} {X base b2 : Nat} {vf vw vl vg vh u : Value} {FS WS : List Value} {L : List (List UInt8)} {vf' vw' c : Value} (T : Took w w' X base vf vw vl vg vh u FS WS L vf' vw' c) {us : List Value} {x : Value} {cx : List Value} (hx : Fr X vf vw us x) (ox : Own w b2 x cx) : Own w' b2 x cx :=
  ox.keep T.keep fun k hk e => by
    obtain ⟨h1, h2, h3, _⟩ := hx k hk
    rcases e with e | e | e
    · exact h1 e
    · exact h2 e
    · exact h3 e
end Go.Proofs.YticjokhfjkebpaaGreatDoor
