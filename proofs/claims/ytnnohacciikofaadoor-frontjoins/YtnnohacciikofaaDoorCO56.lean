import Derived.Test.YtnnohacciikofaaDoorCRF6
import Derived.Test.YtnnohacciikofaaDoorCO54
namespace Go.Proofs.YtnnohacciikofaaDoor
open Go.RowKit

/-- the book while lists are taken into it -/
structure Bk (w : World) (X : Nat) (vf vw : Value) (us cs : List Value) (Ls : List (List (List UInt8))) : Prop where
  row : w.heap[X]? = some (.cells #[vf, vw, .slice none 0 0, .slice none 0 0, .slice none 0 0] 52 (0, 0))
  free : Own w X vf us
  was : Own w X vw cs
  l1 : us.length = Ls.length
  l2 : cs.length = Ls.length
  dX : vf.ownBlock ≠ some X ∧ vw.ownBlock ≠ some X
  dFW : ∀ k, vf.ownBlock = some k → vw.ownBlock ≠ some k
  own : ∀ (i : Nat) (u : Value) (L : List (List UInt8)), us[i]? = some u → Ls[i]? = some L → Own w X u (svs L) ∧ L.length ≤ 1000000
  cpy : ∀ (i : Nat) (c : Value) (L : List (List UInt8)), cs[i]? = some c → Ls[i]? = some L → Own w X c (svs L)
  apU : ∀ (i : Nat) (u : Value) (g : Nat), us[i]? = some u → u.ownBlock = some g → g ≠ X ∧ vf.ownBlock ≠ some g ∧ vw.ownBlock ≠ some g
  apC : ∀ (i : Nat) (c : Value) (g : Nat), cs[i]? = some c → c.ownBlock = some g → g ≠ X ∧ vf.ownBlock ≠ some g ∧ vw.ownBlock ≠ some g
  di : ∀ (i j : Nat) (u v : Value) (g : Nat), us[i]? = some u → us[j]? = some v → u.ownBlock = some g → v.ownBlock = some g → i = j
theorem Bk.nil {w : World} {X : Nat} (h : w.heap[X]? = some (.cells #[.slice none 0 0, .slice none 0 0, .slice none 0 0, .slice none 0 0, .slice none 0 0] 52 (0, 0))) : Bk w X (.slice none 0 0) (.slice none 0 0) [] [] [] :=
  ⟨h, Own.nil _ _, Own.nil _ _, rfl, rfl, ⟨fun e => (by cases e), fun e => (by cases e)⟩, fun k e => (by cases e), fun i u L e => by simp at e, fun i u L e => by simp at e, fun i u g e => by simp at e, fun i u g e => by simp at e, fun i j u v g e => by simp at e⟩
/-- nothing from the book on was touched -/
theorem Bk.same {w w' : World} {X : Nat} {vf vw : Value} {us cs : List Value} {Ls : List (List (List UInt8))} (h : Bk w X vf vw us cs Ls) (hs : w.heap.size ≤ w'.heap.size) (hb : ∀ k, X ≤ k → k < w.heap.size → w'.heap[k]? = w.heap[k]?) : Bk w' X vf vw us cs Ls where
  row := (hb X (Nat.le_refl _) (lt_of_heap h.row)).trans h.row
  free := h.free.same hs fun k hk => hb k (h.free.ge k hk) (h.free.lt k hk)
  was := h.was.same hs fun k hk => hb k (h.was.ge k hk) (h.was.lt k hk)
  l1 := h.l1
  l2 := h.l2
  dX := h.dX
  dFW := h.dFW
  own := fun i u L h1 h2 => ⟨(h.own i u L h1 h2).1.same hs fun k hk => hb k ((h.own i u L h1 h2).1.ge k hk) ((h.own i u L h1 h2).1.lt k hk), (h.own i u L h1 h2).2⟩
  cpy := fun i c L h1 h2 => (h.cpy i c L h1 h2).same hs fun k hk => hb k ((h.cpy i c L h1 h2).ge k hk) ((h.cpy i c L h1 h2).lt k hk)
  apU := h.apU
  apC := h.apC
  di := h.di
theorem Bk.below {w w' : World} {X : Nat} {vf vw : Value} {us cs : List Value} {Ls : List (List (List UInt8))} (h : Bk w X vf vw us cs Ls) (hb : Below w.heap.size w w') : Bk w' X vf vw us cs Ls := h.same hb.size fun k _ hk => hb.block k hk
theorem Bk.but {w w' : World} {X H : Nat} {vf vw : Value} {us cs : List Value} {Ls : List (List (List UInt8))} (h : Bk w X vf vw us cs Ls) (hb : But H w w') (hH : H < X) : Bk w' X vf vw us cs Ls := h.same hb.size fun k h1 hk => hb.block k hk (by omega)
theorem Bk.blocks {w : World} {X : Nat} {vf vw : Value} {us cs : List Value} {Ls : List (List (List UInt8))} (h : Bk w X vf vw us cs Ls) {i : Nat} {u : Value} (hu : us[i]? = some u) {k : Nat} (hk : u.ownBlock = some k) : k < w.heap.size := by
  have hi := (List.getElem?_eq_some_iff.1 hu).1
  exact (h.own i u (Ls[i]'(by rw [← h.l1]; exact hi)) hu (List.getElem?_eq_getElem _)).1.lt k hk
/-- a list that the book has not -/
def Fr (X : Nat) (vf vw : Value) (us : List Value) (u : Value) : Prop := ∀ k, u.ownBlock = some k → k ≠ X ∧ vf.ownBlock ≠ some k ∧ vw.ownBlock ≠ some k ∧ ∀ (i : Nat) (v : Value), us[i]? = some v → v.ownBlock ≠ some k
theorem Bk.fresh {w w' : World} {X b2 : Nat} {vf vw : Value} {us cs cu : List Value} {Ls : List (List (List UInt8))} (h : Bk w X vf vw us cs Ls) {u : Value} (hu : Own w' b2 u cu) (hb : w.heap.size ≤ b2) : Fr X vf vw us u := fun k hk => by
  have hge := hu.ge k hk
  refine ⟨fun e => ?_, fun e => ?_, fun e => ?_, fun i v hv e => ?_⟩
  · have := lt_of_heap h.row; omega
  · have := h.free.lt k e; omega
  · have := h.was.lt k e; omega
  · have := h.blocks hv e; omega
theorem Fr.next {w w' : World} {X base : Nat} {vf vw vl vg vh u : Value} {FS WS : List Value} {L : List (List UInt8)} {vf' vw' c : Value} (T : Took w w' X base vf vw vl vg vh u FS WS L vf' vw' c) {us : List Value} {x : Value} {cx : List Value} {b2 : Nat} (hx : Fr X vf vw us x) (ox : Own w b2 x cx) (hne : ∀ k, u.ownBlock = some k → x.ownBlock ≠ some k) : Fr X vf' vw' (us ++ [u]) x := fun k hk => by
  obtain ⟨h1, h2, h3, h4⟩ := hx k hk
  have hlt := ox.lt k hk
  refine ⟨h1, fun e => ?_, fun e => ?_, fun i v hv e => ?_⟩
  · rcases T.srcF k e with e' | e'
    · exact h2 e'
    · omega
  · rcases T.srcW k e with e' | e'
    · exact h3 e'
    · omega
  · by_cases hi : i < us.length
    · rw [List.getElem?_append_left hi] at hv
      exact h4 i v hv e
    · rw [List.getElem?_append_right (by omega)] at hv
      have : v = u := by
        have hm := List.mem_of_getElem? hv
        simpa using hm
      subst this
      exact hne k e hk
theorem getSnoc {α : Type} {l : List α} {x y : α} {i : Nat} (h : (l ++ [x])[i]? = some y) : (i < l.length ∧ l[i]? = some y) ∨ (i = l.length ∧ y = x) := by
  by_cases hi : i < l.length
  · rw [List.getElem?_append_left hi] at h
    exact .inl ⟨hi, h⟩
  · have hl := (List.getElem?_eq_some_iff.1 h).1
    simp at hl
    have hm : i = l.length := by omega
    subst hm
    rw [List.getElem?_append_right (Nat.le_refl _), Nat.sub_self] at h
    exact .inr ⟨rfl, (Option.some.inj h).symm⟩
/-- a list was taken -/
theorem Bk.take {w w' : World} {X b2 : Nat} {vf vw u : Value} {us cs : List Value} {Ls : List (List (List UInt8))} {L : List (List UInt8)} {vf' vw' c : Value} (h : Bk w X vf vw us cs Ls) (T : Took w w' X X vf vw (.slice none 0 0) (.slice none 0 0) (.slice none 0 0) u us cs L vf' vw' c)
    (hu : Own w b2 u (svs L)) (hb2 : X ≤ b2) (hL : L.length ≤ 1000000) (hF : Fr X vf vw us u) : Bk w' X vf' vw' (us ++ [u]) (cs ++ [c]) (Ls ++ [L]) := by
  have hXl := lt_of_heap h.row
  have hX : ∀ k, vf'.ownBlock = some k ∨ vw'.ownBlock = some k → k ≠ X := fun k hk e => by
    subst e
    rcases hk with hk | hk
    · rcases T.srcF k hk with e | e
      · exact h.dX.1 e
      · omega
    · rcases T.srcW k hk with e | e
      · exact h.dX.2 e
      · omega
  have hold : ∀ k, k < w.heap.size → k ≠ X ∧ vf.ownBlock ≠ some k ∧ vw.ownBlock ≠ some k → k ≠ X ∧ vf'.ownBlock ≠ some k ∧ vw'.ownBlock ≠ some k := fun k hk ⟨a1, a2, a3⟩ => by
    refine ⟨a1, fun e => ?_, fun e => ?_⟩
    · rcases T.srcF k e with e | e
      · exact a2 e
      · omega
    · rcases T.srcW k e with e | e
      · exact a3 e
      · omega
  have hkeep : ∀ k, k < w.heap.size → k ≠ X ∧ vf.ownBlock ≠ some k ∧ vw.ownBlock ≠ some k → w'.heap[k]? = w.heap[k]? := fun k hk ⟨a1, a2, a3⟩ => T.keep.block k hk fun e => by
    rcases e with e | e | e
    · exact a1 e
    · exact a2 e
    · exact a3 e
  have hFu : ∀ k, u.ownBlock = some k → k ≠ X ∧ vf.ownBlock ≠ some k ∧ vw.ownBlock ≠ some k := fun k hk => ⟨(hF k hk).1, (hF k hk).2.1, (hF k hk).2.2.1⟩
  refine ⟨T.row, T.free, T.was, by simp [h.l1], by simp [h.l2], ⟨fun e => hX X (.inl e) rfl, fun e => hX X (.inr e) rfl⟩, T.apart, fun i v M h1 h2 => ?_, fun i v M h1 h2 => ?_, fun i v g h1 h2 => ?_, fun i v g h1 h2 => ?_, fun i j v v' g h1 h2 h3 h4 => ?_⟩
  · rcases getSnoc h1 with ⟨hi, h1⟩ | ⟨hi, rfl⟩
    · rw [List.getElem?_append_left (by rw [← h.l1]; exact hi)] at h2
      obtain ⟨o, ol⟩ := h.own i v M h1 h2
      exact ⟨o.same T.keep.size fun k hk => hkeep k (o.lt k hk) (h.apU i v k h1 hk), ol⟩
    · rw [hi, h.l1, List.getElem?_append_right (Nat.le_refl _), Nat.sub_self] at h2
      obtain rfl := Option.some.inj h2
      exact ⟨(hu.mono hb2).same T.keep.size fun k hk => hkeep k (hu.lt k hk) (hFu k hk), hL⟩
  · rcases getSnoc h1 with ⟨hi, h1⟩ | ⟨hi, rfl⟩
    · rw [List.getElem?_append_left (by rw [← h.l2]; exact hi)] at h2
      have o := h.cpy i v M h1 h2
      exact o.same T.keep.size fun k hk => hkeep k (o.lt k hk) (h.apC i v k h1 hk)
    · rw [hi, h.l2, List.getElem?_append_right (Nat.le_refl _), Nat.sub_self] at h2
      obtain rfl := Option.some.inj h2
      exact T.copy.mono (by omega)
  · rcases getSnoc h1 with ⟨hi, h1⟩ | ⟨hi, rfl⟩
    · exact hold g (h.blocks h1 h2) (h.apU i v g h1 h2)
    · exact hold g (hu.lt g h2) (hFu g h2)
  · rcases getSnoc h1 with ⟨hi, h1⟩ | ⟨hi, rfl⟩
    · have o := h.cpy i v (Ls[i]'(by rw [← h.l2]; exact hi)) h1 (List.getElem?_eq_getElem _)
      exact hold g (o.lt g h2) (h.apC i v g h1 h2)
    · exact T.fresh g h2
  · rcases getSnoc h1 with ⟨hi, k1⟩ | ⟨hi, k1⟩
    · rcases getSnoc h2 with ⟨hj, k2⟩ | ⟨hj, k2⟩
      · exact h.di i j v v' g k1 k2 h3 h4
      · exact absurd h3 ((hF g (k2 ▸ h4)).2.2.2 i v k1)
    · rcases getSnoc h2 with ⟨hj, k2⟩ | ⟨hj, k2⟩
      · exact absurd h4 ((hF g (k1 ▸ h3)).2.2.2 j v' k2)
      · omega
theorem apart_of {w w' : World} {b1 b2 : Nat} {u x : Value} {cu cx : List Value} (o1 : Own w b1 u cu) (o2 : Own w' b2 x cx) (h : w.heap.size ≤ b2) : ∀ k, u.ownBlock = some k → x.ownBlock ≠ some k := fun k h1 h2 => by
  have := o1.lt k h1
  have := o2.ge k h2
  omega
/-- an untouched list stays while another one is taken -/
theorem Own.took {w w' : World} {X base b2 : Nat} {vf vw vl vg vh u : Value} {FS WS : List Value} {L : List (List UInt8)} {vf' vw' c : Value} (T : Took w w' X base vf vw vl vg vh u FS WS L vf' vw' c) {us : List Value} {x : Value} {cx : List Value} (hx : Fr X vf vw us x) (ox : Own w b2 x cx) : Own w' b2 x cx :=
  ox.keep T.keep fun k hk e => by
    obtain ⟨h1, h2, h3, _⟩ := hx k hk
    rcases e with e | e | e
    · exact h1 e
    · exact h2 e
    · exact h3 e
end Go.Proofs.YtnnohacciikofaaDoor

namespace Go.Proofs.YtnnohacciikofaaDoor
open Go.RowKit
/-- the blocks of what FrontRanges lends -/
structure Fo (B gl gx vx gy vy : Nat) : Prop where
  l : B + 2 ≤ gl
  x : gl < gx
  mx : gx < vx
  y : vx < gy
  my : gy < vy
/-- what FrontRanges lends, and the ranges that it was handed -/
structure Fz (w0 w' : World) (B gl gx vx gy vy : Nat) (xb xe yb ye : Int) (nx ny ka kb : Nat) (aa ab : Option Addr) (L X Y : List (List UInt8)) : Prop where
  bel : Below B w0 w'
  ra : Rg w' B xb xe (.slice aa nx ka)
  rb : Rg w' (B + 1) yb ye (.slice ab ny kb)
  rl : Row w' gl (L ++ behind 8)
  rx : Row w' gx (X ++ behind 8)
  ry : Row w' gy (Y ++ behind 8)
  fx : Rg w' vx xb xe (.slice (some ⟨gx, 0, none⟩) nx (nx + 8))
  fy : Rg w' vy yb ye (.slice (some ⟨gy, 0, none⟩) ny (ny + 8))
theorem Fz.low {w0 w1 w2 : World} {B gl gx vx gy vy O : Nat} {xb xe yb ye : Int} {nx ny ka kb : Nat} {aa ab : Option Addr} {L X Y : List (List UInt8)} (h : Fz w0 w1 B gl gx vx gy vy xb xe yb ye nx ny ka kb aa ab L X Y) (o : Fo B gl gx vx gy vy) (hO : vy < O) (hb : Below O w1 w2) : Fz w0 w2 B gl gx vx gy vy xb xe yb ye nx ny ka kb aa ab L X Y := by
  have h1 := o.l
  have h2 := o.x
  have h3 := o.mx
  have h4 := o.y
  have h5 := o.my
  exact ⟨h.bel.trans (hb.mono (by omega)), (hb.block _ (by omega)).trans h.ra, (hb.block _ (by omega)).trans h.rb, (hb.block _ (by omega)).trans h.rl, (hb.block _ (by omega)).trans h.rx, (hb.block _ (by omega)).trans h.ry, (hb.block _ (by omega)).trans h.fx, (hb.block _ (by omega)).trans h.fy⟩
theorem Fz.world {w0 w1 w2 : World} {B gl gx vx gy vy : Nat} {xb xe yb ye : Int} {nx ny ka kb : Nat} {aa ab : Option Addr} {L X Y : List (List UInt8)} (h : Fz w0 w1 B gl gx vx gy vy xb xe yb ye nx ny ka kb aa ab L X Y) (o : Fo B gl gx vx gy vy) (hb : Below w1.heap.size w1 w2) : Fz w0 w2 B gl gx vx gy vy xb xe yb ye nx ny ka kb aa ab L X Y := h.low o (lt_of_heap h.fy) hb
/-- a list that was lent is turned -/
theorem Fz.turn {w0 w1 w2 : World} {B gl gx vx gy vy : Nat} {xb xe yb ye : Int} {nx ny ka kb : Nat} {aa ab : Option Addr} {L X Y L' X' Y' : List (List UInt8)} (h : Fz w0 w1 B gl gx vx gy vy xb xe yb ye nx ny ka kb aa ab L X Y) (o : Fo B gl gx vx gy vy) {k : Nat} (hk : k = gl ∨ k = gx ∨ k = gy) (b : But k w1 w2) (r1 : Row w2 gl (L' ++ behind 8)) (r2 : Row w2 gx (X' ++ behind 8)) (r3 : Row w2 gy (Y' ++ behind 8)) :
    Fz w0 w2 B gl gx vx gy vy xb xe yb ye nx ny ka kb aa ab L' X' Y' := by
  have h1 := o.l
  have h2 := o.x
  have h3 := o.mx
  have h4 := o.y
  have h5 := o.my
  refine ⟨h.bel.trans ⟨b.os, b.tape, b.output, b.size, fun j hj => b.block j (Nat.lt_of_lt_of_le hj ?_) (by omega)⟩, h.ra.but5 b (by omega), h.rb.but5 b (by omega), r1, r2, r3, h.fx.but5 b (by omega), h.fy.but5 b (by omega)⟩
  have := lt_of_heap h.ra
  omega
theorem Rg.took {w w' : World} {X g : Nat} {vf vw vl vg vh u : Value} {FS WS : List Value} {L : List (List UInt8)} {vf' vw' c v : Value} {b e : Int} (T : Took w w' X X vf vw vl vg vh u FS WS L vf' vw' c) (h : Rg w g b e v) (h0 : g ≠ X) (h1 : vf.ownBlock ≠ some g) (h2 : vw.ownBlock ≠ some g) : Rg w' g b e v :=
  (T.keep.block g (lt_of_heap h) (fun h3 => h3.elim h0 fun h4 => h4.elim h1 h2)).trans h
theorem Took.low {w w' : World} {X : Nat} {vf vw vl vg vh u : Value} {FS WS : List Value} {L : List (List UInt8)} {vf' vw' c : Value} (T : Took w w' X X vf vw vl vg vh u FS WS L vf' vw' c) (hX : X ≤ w.heap.size) (h1 : Own w X vf FS) (h2 : Own w X vw WS) : Below X w w' :=
  T.keep.toBelow hX fun k hk => by
    rcases hk with e | e | e
    · omega
    · exact h1.ge k e
    · exact h2.ge k e
theorem below_alloc1 {w w1 : World} (b : Below w.heap.size w w1) (blk : Obj) : Below w.heap.size w (w1.alloc blk) := b.trans (((Below.refl w1.heap.size w1).alloc (Nat.le_refl _) blk).mono b.size)
end Go.Proofs.YtnnohacciikofaaDoor

namespace Go.Proofs.YtnnohacciikofaaDoor
open Go.RowKit
/-- leaves s up to u -/
def sgm (l : List (List UInt8)) (s u : Nat) : List (List UInt8) := (l.take u).drop s
theorem sgm_len {l : List (List UInt8)} {s u : Nat} (h : u ≤ l.length) : (sgm l s u).length = u - s := by unfold sgm; rw [List.length_drop, List.length_take]; omega
theorem sgm_join {l : List (List UInt8)} {s u t : Nat} (h1 : s ≤ u) (h2 : u ≤ t) (h3 : t ≤ l.length) : sgm l s u ++ sgm l u t = sgm l s t := by
  apply List.ext_getElem?
  intro i
  unfold sgm
  by_cases hi : i < u - s
  · rw [List.getElem?_append_left (by rw [List.length_drop, List.length_take]; omega), List.getElem?_drop, List.getElem?_drop, List.getElem?_take, List.getElem?_take, if_pos (by omega), if_pos (by omega)]
  · rw [List.getElem?_append_right (by rw [List.length_drop, List.length_take]; omega), List.getElem?_drop, List.getElem?_drop, List.length_drop, List.length_take, Nat.min_eq_left (by omega)]
    congr 1
    omega
theorem sgm_all (l : List (List UInt8)) : sgm l 0 l.length = l := by unfold sgm; rw [List.take_length, List.drop_zero]
theorem sgm_hs {l : List (List UInt8)} (h : Tree.Hs l) (s u : Nat) : Tree.Hs (sgm l s u) := (h.take u).drop s
/-- a range of some leaves: begin, end, hashes -/
abbrev Prt := Nat × Nat × List (List UInt8)
/-- ranges one behind the other -/
def Ch (at0 : Nat) (l : List (List UInt8)) : List Prt → Nat → Nat → Prop
  | [], s, t => s = t
  | p :: ps, s, t => ∃ u, s ≤ u ∧ u ≤ l.length ∧ p = (at0 + s, at0 + u, Cut.cmp (sgm l s u) (at0 + s)) ∧ Ch at0 l ps u t
theorem Ch.snoc {at0 : Nat} {l : List (List UInt8)} : ∀ {ps : List Prt} {s u t : Nat}, Ch at0 l ps s u → u ≤ t → t ≤ l.length → Ch at0 l (ps ++ [(at0 + u, at0 + t, Cut.cmp (sgm l u t) (at0 + u))]) s t
  | [], s, u, t, h, h1, h2 => by
    obtain rfl : s = u := h
    exact ⟨t, h1, h2, rfl, rfl⟩
  | p :: ps, s, u, t, h, h1, h2 => by
    obtain ⟨x, a1, a2, a3, a4⟩ := h
    exact ⟨x, a1, a2, a3, a4.snoc h1 h2⟩
/-- what two neighbours are -/
theorem Ch.at {at0 : Nat} {l : List (List UInt8)} : ∀ {ps : List Prt} {s t i : Nat} {p q : Prt}, Ch at0 l ps s t → ps[i]? = some p → ps[i + 1]? = some q → ∃ x y z, x ≤ y ∧ y ≤ z ∧ z ≤ l.length ∧ p = (at0 + x, at0 + y, Cut.cmp (sgm l x y) (at0 + x)) ∧ q = (at0 + y, at0 + z, Cut.cmp (sgm l y z) (at0 + y)) ∧
    Ch at0 l (ps.take i ++ (at0 + x, at0 + z, Cut.cmp (sgm l x z) (at0 + x)) :: ps.drop (i + 2)) s t
  | [], _, _, i, _, _, _, h1, _ => by simp at h1
  | [a], _, _, 0, _, _, _, _, h2 => by simp at h2
  | a :: b :: ps, s, t, 0, p, q, h, h1, h2 => by
    obtain ⟨x, a1, a2, a3, y, b1, b2, b3, b4⟩ := h
    simp at h1 h2
    subst h1 h2
    exact ⟨s, x, y, a1, b1, b2, a3, b3, ⟨y, by omega, b2, rfl, by simpa using b4⟩⟩
  | a :: ps, s, t, i + 1, p, q, h, h1, h2 => by
    obtain ⟨x, a1, a2, a3, a4⟩ := h
    obtain ⟨x', y, z, c1, c2, c3, c4, c5, c6⟩ := Ch.at a4 (by simpa using h1) (by simpa using h2)
    exact ⟨x', y, z, c1, c2, c3, c4, c5, ⟨x, a1, a2, a3, by simpa using c6⟩⟩
/-- two neighbours may be joined, and what comes of it -/
theorem ch_join {at0 x y z : Nat} {l : List (List UInt8)} (hl : Tree.Hs l) (h0 : at0 + l.length ≤ 1099511627776) (h1 : x ≤ y) (h2 : y ≤ z) (h3 : z ≤ l.length) :
    joinE ((at0 + x : Nat) : Int) ((at0 + y : Nat) : Int) ((at0 + y : Nat) : Int) ((at0 + z : Nat) : Int) (Cut.cmp (sgm l x y) (at0 + x)) (Cut.cmp (sgm l y z) (at0 + y)) = 0 ∧ Cut.joinH (at0 + x) (at0 + y) (at0 + z) (Cut.cmp (sgm l x y) (at0 + x)) (Cut.cmp (sgm l y z) (at0 + y)) = Cut.cmp (sgm l x z) (at0 + x) := by
  have l1 := sgm_len (l := l) (s := x) (u := y) (by omega)
  have l2 := sgm_len (l := l) (s := y) (u := z) h3
  have e1 : at0 + x + (sgm l x y).length = at0 + y := by omega
  have e2 : at0 + y + (sgm l y z).length = at0 + z := by omega
  have r1 : rgt ((at0 + x : Nat) : Int) ((at0 + y : Nat) : Int) (Cut.cmp (sgm l x y) (at0 + x)).length = true := by
    unfold rgt
    rw [decide_eq_true_iff, Cut.cmp_length, e1, Int.toNat_natCast, Int.toNat_natCast]
    exact ⟨by omega, by omega, by omega, by omega, by omega, rfl⟩
  have r2 : rgt ((at0 + y : Nat) : Int) ((at0 + z : Nat) : Int) (Cut.cmp (sgm l y z) (at0 + y)).length = true := by
    unfold rgt
    rw [decide_eq_true_iff, Cut.cmp_length, e2, Int.toNat_natCast, Int.toNat_natCast]
    exact ⟨by omega, by omega, by omega, by omega, by omega, rfl⟩
  constructor
  · unfold joinE
    rw [if_pos ⟨r1, r2⟩, if_pos ⟨hsB_of (Cut.cmp_hs (sgm_hs hl x y)), hsB_of (Cut.cmp_hs (sgm_hs hl y z))⟩, if_pos rfl]
  · have := Cut.cmp_join (L := sgm l x y) (M := sgm l y z) (a := at0 + x) (by omega)
    rw [e1, e2, sgm_join h1 h2 h3] at this
    exact this
theorem Ch.one {at0 : Nat} {l : List (List UInt8)} {p : Prt} (h : Ch at0 l [p] 0 l.length) : p = (at0, at0 + l.length, Cut.cmp l at0) := by
  obtain ⟨u, _, _, h1, h2⟩ := h
  obtain rfl : u = l.length := h2
  rw [h1, Nat.add_zero, sgm_all]
end Go.Proofs.YtnnohacciikofaaDoor
