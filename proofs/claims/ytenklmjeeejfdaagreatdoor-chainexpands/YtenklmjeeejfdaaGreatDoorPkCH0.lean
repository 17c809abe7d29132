import Derived.Test.YtenklmjeeejfdaaGreatDoorPkTL12
import Derived.Test.YtenklmjeeejfdaaGreatDoorPkSP24
import Derived.Test.YtenklmjeeejfdaaGreatDoorPkI10
/- Layer 13, the law: the book while it holds lists of texts and lists of numbers -/
namespace Go.Proofs.YtenklmjeeejfdaaGreatDoor
open Go.RowKit Go.Shelf
namespace Chn
namespace Gb
structure Hf (m w : World) (ρ : Nat → Nat) (v u : Value) (hv wv : List Value) (Ws : List (List Value)) (rv ru rb : Nat) : Prop where
  oh : OwnM 1 w v hv.length hv
  rh : ∀ k, v.ownBlock = some k → ρ k = rv
  ow : OwnM 1 w u wv.length wv
  rw_ : ∀ k, u.ownBlock = some k → ρ k = ru
  lh : hv.length = Ws.length
  lw : wv.length = Ws.length
  le : Ws.length ≤ 900
  own : ∀ (j : Nat) (W : List Value), Ws[j]? = some W → ∃ x, hv[j]? = some x ∧ OwnM 1 w x W.length W ∧ ∀ k, x.ownBlock = some k → ρ k = rb + j
  want : ∀ (j : Nat) (W : List Value), Ws[j]? = some W → ∃ x, wv[j]? = some x ∧ OwnM 1 w x W.length W ∧ ∀ k, x.ownBlock = some k → ρ k = 0
  nh : ∀ k, v.ownBlock = some k → m.heap.size ≤ k
  nw : ∀ k, u.ownBlock = some k → m.heap.size ≤ k
def Rl (rv ru rb r : Nat) : Prop := r = 0 ∨ r = rv ∨ r = ru ∨ ∃ j, j < 900 ∧ r = rb + j
section
variable {m w w' : World} {ρ ρ' : Nat → Nat} {v u : Value} {hv wv : List Value} {Ws : List (List Value)} {rv ru rb : Nat}
theorem Hf.nil (m w : World) (ρ : Nat → Nat) (rv ru rb : Nat) : Hf m w ρ (.slice none 0 0) (.slice none 0 0) [] [] [] rv ru rb :=
  ⟨OwnM.nil 1 w, fun k e => (by cases e), OwnM.nil 1 w, fun k e => (by cases e), rfl, rfl, by simp, fun j W e => (by simp at e), fun j W e => (by simp at e), fun k e => (by cases e), fun k e => (by cases e)⟩
theorem Hf.kept (h : Hf m w ρ v u hv wv Ws rv ru rb) (hs : w.heap.size ≤ w'.heap.size) (hρ : ∀ k, k < w.heap.size → ρ' k = ρ k) (hb : ∀ k, k < w.heap.size → Rl rv ru rb (ρ k) → w'.heap[k]? = w.heap[k]?) : Hf m w' ρ' v u hv wv Ws rv ru rb where
  oh := h.oh.kept hs fun k hk => hb k (h.oh.lt k hk) (.inr (.inl (h.rh k hk)))
  rh := fun k hk => by rw [hρ k (h.oh.lt k hk)]; exact h.rh k hk
  ow := h.ow.kept hs fun k hk => hb k (h.ow.lt k hk) (.inr (.inr (.inl (h.rw_ k hk))))
  rw_ := fun k hk => by rw [hρ k (h.ow.lt k hk)]; exact h.rw_ k hk
  lh := h.lh
  lw := h.lw
  le := h.le
  own := fun j W e => by
    obtain ⟨x, e1, e2, e3⟩ := h.own j W e
    have hj := (List.getElem?_eq_some_iff.1 e).1
    have := h.le
    exact ⟨x, e1, e2.kept hs fun k hk => hb k (e2.lt k hk) (.inr (.inr (.inr ⟨j, by omega, e3 k hk⟩))), fun k hk => by rw [hρ k (e2.lt k hk)]; exact e3 k hk⟩
  want := fun j W e => by
    obtain ⟨x, e1, e2, e3⟩ := h.want j W e
    exact ⟨x, e1, e2.kept hs fun k hk => hb k (e2.lt k hk) (.inl (e3 k hk)), fun k hk => by rw [hρ k (e2.lt k hk)]; exact e3 k hk⟩
  nh := h.nh
  nw := h.nw
theorem Hf.hold (h : Hf m w ρ v u hv wv Ws rv ru rb) (hms : m.heap.size ≤ w.heap.size) {X ix iy : Nat} (lX : X < w.heap.size) (rX : ρ X = 1) (q1 : 1 < rv) (q2 : 1 < ru) (q3 : rv ≠ ru) (q4 : ∀ j, j < 900 → rb + j ≠ 1 ∧ rb + j ≠ rv ∧ rb + j ≠ ru) {x y v' u' : Value} {W : List Value} {w1 w3 : World} (hc : Ws.length < 900)
    (ox : OwnM 1 w x W.length W) (rx_ : ∀ k, x.ownBlock = some k → ρ k = rb + Ws.length) (oy : OwnM 1 w y W.length W) (ry : ∀ k, y.ownBlock = some k → ρ k = 0)
    (g1 : Grow w w1 v v') (o1 : OwnM 1 w1 v' (hv.length + 1) (hv ++ [x])) (g2 : Grow (w1.setCell ⟨X, ix, none⟩ v') w3 u u') (o2 : OwnM 1 w3 u' (wv.length + 1) (wv ++ [y])) :
    Hf m (w3.setCell ⟨X, iy, none⟩ u') (rx (rx ρ w rv) w1 ru) v' u' (hv ++ [x]) (wv ++ [y]) (Ws ++ [W]) rv ru rb ∧ (∀ k, k < w.heap.size → rx (rx ρ w rv) w1 ru k = ρ k) ∧ w.heap.size ≤ (w3.setCell ⟨X, iy, none⟩ u').heap.size ∧ (∀ k, k < w.heap.size → ρ k ≠ 1 → ρ k ≠ rv → ρ k ≠ ru → (w3.setCell ⟨X, iy, none⟩ u').heap[k]? = w.heap[k]?) ∧ (∀ k, k < m.heap.size → k ≠ X → (w3.setCell ⟨X, iy, none⟩ u').heap[k]? = w.heap[k]?) := by
  have hw1 : Wr ρ rv w w1 := Wr.grow g1 h.rh
  have hs1 := hw1.size
  have hsz2 : (w1.setCell ⟨X, ix, none⟩ v').heap.size = w1.heap.size := by simp [World.setCell]
  have ρ1 : ∀ k, k < w.heap.size → rx (rx ρ w rv) w1 ru k = ρ k := fun k hk => by rw [rx_old (by omega), rx_old hk]
  have hs3 : w1.heap.size ≤ w3.heap.size := by have := g2.size; rw [hsz2] at this; exact this
  have hsz4 : (w3.setCell ⟨X, iy, none⟩ u').heap.size = w3.heap.size := by simp [World.setCell]
  have keep : ∀ k, k < w.heap.size → ρ k ≠ 1 → ρ k ≠ rv → ρ k ≠ ru → (w3.setCell ⟨X, iy, none⟩ u').heap[k]? = w.heap[k]? := fun k hk n1 n2 n3 => by
    have hkX : k ≠ X := fun e => n1 (by rw [e]; exact rX)
    rw [heap_setCell_other w3 ⟨X, iy, none⟩ k u' hkX, g2.old k (by rw [hsz2]; omega) (fun e => n3 (h.rw_ k e)), heap_setCell_other w1 ⟨X, ix, none⟩ k v' hkX, hw1.block k hk n2]
  have hs4 : w.heap.size ≤ (w3.setCell ⟨X, iy, none⟩ u').heap.size := by rw [hsz4]; omega
  have rX' : rx (rx ρ w rv) w1 ru X = 1 := by rw [ρ1 X lX]; exact rX
  have vh_lt : ∀ k, v'.ownBlock = some k → k < w1.heap.size := fun k hk => o1.lt k hk
  have vh_r : ∀ k, v'.ownBlock = some k → rx (rx ρ w rv) w1 ru k = rv := fun k hk => by rw [rx_old (vh_lt k hk)]; exact Wr.own g1 h.rh h.oh.lt k hk
  have hvw' : ∀ k, u'.ownBlock = some k → rx (rx ρ w rv) w1 ru k = ru := fun k hk => by
    rcases g2.alt with e | ⟨e, _⟩
    · rw [e] at hk; rw [ρ1 k (h.ow.lt k hk)]; exact h.rw_ k hk
    · exact rx_new (by have := e k hk; rw [hsz2] at this; exact this)
  have q5 : ∀ j, j < 900 → rb + j ≠ 1 ∧ rb + j ≠ rv ∧ rb + j ≠ ru := q4
  refine ⟨?_, ρ1, hs4, keep, fun k hk hkX => ?_⟩
  rotate_left
  · rw [heap_setCell_other w3 ⟨X, iy, none⟩ k u' hkX, g2.old k (by rw [hsz2]; omega) (fun e => by have := h.nw k e; omega), heap_setCell_other w1 ⟨X, ix, none⟩ k v' hkX, g1.old k (by omega) (fun e => by have := h.nh k e; omega)]
  constructor
  case nh =>
    intro k hk
    rcases g1.alt with e | ⟨e, _⟩
    · exact h.nh k (e ▸ hk)
    · have := e k hk; omega
  case nw =>
    intro k hk
    rcases g2.alt with e | ⟨e, _⟩
    · exact h.nw k (e ▸ hk)
    · have := e k hk; rw [hsz2] at this; omega
  case oh =>
    rw [List.length_append]
    refine OwnM.kept o1 (by rw [hsz4]; exact hs3) (fun k hk => ?_)
    have hkX : k ≠ X := fun e => by have := vh_r k hk; rw [e, rX'] at this; omega
    have hkw : u.ownBlock ≠ some k := fun e => by have h1 := h.rw_ k e; have h2 := vh_r k hk; rw [ρ1 k (h.ow.lt k e), h1] at h2; omega
    rw [heap_setCell_other w3 ⟨X, iy, none⟩ k u' hkX, g2.old k (by rw [hsz2]; exact vh_lt k hk) hkw, heap_setCell_other w1 ⟨X, ix, none⟩ k v' hkX]
  case rh => exact vh_r
  case ow =>
    rw [List.length_append]
    refine OwnM.kept o2 (Nat.le_of_eq hsz4.symm) (fun k hk => heap_setCell_other w3 ⟨X, iy, none⟩ k u' (fun e => ?_))
    have := hvw' k hk
    rw [e, rX'] at this
    omega
  case rw_ => exact hvw'
  case lh => rw [List.length_append, List.length_append, h.lh]; rfl
  case lw => rw [List.length_append, List.length_append, h.lw]; rfl
  case le => rw [List.length_append]; simp; omega
  case own =>
    intro j W' e
    rw [List.getElem?_append] at e
    split at e
    · next hj =>
      obtain ⟨v0, f1, f2, f3⟩ := h.own j W' e
      have q6 := q5 j (by omega)
      exact ⟨v0, by rw [List.getElem?_append_left (by rw [h.lh]; exact hj)]; exact f1, f2.kept hs4 (fun k hk => keep k (f2.lt k hk) (by rw [f3 k hk]; exact q6.1) (by rw [f3 k hk]; exact q6.2.1) (by rw [f3 k hk]; exact q6.2.2)), fun k hk => by rw [ρ1 k (f2.lt k hk)]; exact f3 k hk⟩
    · next hj =>
      have hj2 := (List.getElem?_eq_some_iff.1 e).1
      simp at hj2
      obtain rfl : j = Ws.length := by omega
      rw [Nat.sub_self] at e
      obtain rfl : W = W' := Option.some.inj e
      have q6 := q5 Ws.length hc
      exact ⟨x, by rw [List.getElem?_append_right (by rw [h.lh]; exact Nat.le_refl _), h.lh, Nat.sub_self]; rfl, ox.kept hs4 (fun k hk => keep k (ox.lt k hk) (by rw [rx_ k hk]; exact q6.1) (by rw [rx_ k hk]; exact q6.2.1) (by rw [rx_ k hk]; exact q6.2.2)), fun k hk => by rw [ρ1 k (ox.lt k hk)]; exact rx_ k hk⟩
  case want =>
    intro j W' e
    rw [List.getElem?_append] at e
    split at e
    · next hj =>
      obtain ⟨v0, f1, f2, f3⟩ := h.want j W' e
      exact ⟨v0, by rw [List.getElem?_append_left (by rw [h.lw]; exact hj)]; exact f1, f2.kept hs4 (fun k hk => keep k (f2.lt k hk) (by rw [f3 k hk]; omega) (by rw [f3 k hk]; omega) (by rw [f3 k hk]; omega)), fun k hk => by rw [ρ1 k (f2.lt k hk)]; exact f3 k hk⟩
    · next hj =>
      have hj2 := (List.getElem?_eq_some_iff.1 e).1
      simp at hj2
      obtain rfl : j = Ws.length := by omega
      rw [Nat.sub_self] at e
      obtain rfl : W = W' := Option.some.inj e
      exact ⟨y, by rw [List.getElem?_append_right (by rw [h.lw]; exact Nat.le_refl _), h.lw, Nat.sub_self]; rfl, oy.kept hs4 (fun k hk => keep k (oy.lt k hk) (by rw [ry k hk]; omega) (by rw [ry k hk]; omega) (by rw [ry k hk]; omega)), fun k hk => by rw [ρ1 k (oy.lt k hk)]; exact ry k hk⟩
end
structure Bd (B0 X : Nat) (m : World) (ρ : Nat → Nat) (w : World) (vh vw vi vj : Value) (hT wT hI wI : List Value) (WT WI : List (List Value)) : Prop where
  bel : Below B0 m w
  lB : B0 ≤ m.heap.size
  low : ∀ k, k < B0 → ρ k = 0
  row : w.heap[X]? = some (.cells #[vh, vw, .slice none 0 0, .slice none 0 0, .slice none 0 0, .slice none 0 0, vi, vj, .slice none 0 0] 32 (0, 0))
  rX : ρ X = 1
  t : Hf m w ρ vh vw hT wT WT 2 2000 3
  i : Hf m w ρ vi vj hI wI WI 2001 2002 3000
section
variable {B0 X : Nat} {m w w' : World} {ρ ρ' : Nat → Nat} {vh vw vi vj : Value} {hT wT hI wI : List Value} {WT WI : List (List Value)}
theorem Bd.B0X (h : Bd B0 X m ρ w vh vw vi vj hT wT hI wI WT WI) : B0 ≤ X := by
  rcases Nat.lt_or_ge X B0 with e | e
  · have := h.low X e; rw [h.rX] at this; omega
  · exact e
theorem Bd.below (h : Bd B0 X m ρ w vh vw vi vj hT wT hI wI WT WI) (hb : Below w.heap.size w w') (ρ' : Nat → Nat) (hρ : ∀ k, k < w.heap.size → ρ' k = ρ k) : Bd B0 X m ρ' w' vh vw vi vj hT wT hI wI WT WI where
  bel := h.bel.trans (hb.mono (Nat.le_trans h.lB h.bel.size))
  lB := h.lB
  low := fun k hk => by rw [hρ k (by have := h.bel.size; have := h.lB; omega)]; exact h.low k hk
  row := (hb.block X (lt_of_heap h.row)).trans h.row
  rX := by rw [hρ X (lt_of_heap h.row)]; exact h.rX
  t := h.t.kept hb.size hρ fun k hk _ => hb.block k hk
  i := h.i.kept hb.size hρ fun k hk _ => hb.block k hk
def Stays (w w' : World) (ρ ρ' : Nat → Nat) : Prop := (∀ k, k < w.heap.size → ρ' k = ρ k) ∧ w.heap.size ≤ w'.heap.size ∧ ∀ k, k < w.heap.size → ρ k = 0 ∨ (3 ≤ ρ k ∧ ρ k < 1000) ∨ 3000 ≤ ρ k → w'.heap[k]? = w.heap[k]?
end
set_option maxRecDepth 100000 in
set_option maxHeartbeats 2000000 in
theorem texts13_book {B0 X : Nat} {m w : World} {ρ : Nat → Nat} {vh vw vi vj : Value} {hT wT hI wI : List Value} {WT WI : List (List Value)} (h : Bd B0 X m ρ w vh vw vi vj hT wT hI wI WT WI) (hc : WT.length < 900) (W : List Value) (v u : Value)
    (ov : OwnM 1 w v W.length W) (rv : ∀ k, v.ownBlock = some k → ρ k = 3 + WT.length) (ou : OwnM 1 w u W.length W) (ru : ∀ k, u.ownBlock = some k → ρ k = 0) :
    Calls Tryz.prog 52 #[.pointer (some ⟨X, 0, none⟩), v, u] w fun r w' => r = .returned (.tuple #[]) ∧ ∃ ρ' vh' vw', Bd B0 X m ρ' w' vh' vw' vi vj (hT ++ [v]) (wT ++ [u]) hI wI (WT ++ [W]) WI ∧ Stays w w' ρ ρ' := by
  obtain ⟨a1, c1, e1, _, _⟩ := ov.shape
  obtain ⟨a2, c2, e2, _, _⟩ := ou.shape
  subst e1
  subst e2
  have x0 : w.cell? ⟨X, 0, none⟩ = some vh := by rw [cell_of_row _ _ _ _ _ _ h.row]; rfl
  have hXl := lt_of_heap h.row
  obtain ⟨vh', w1, hap1, o1, g1⟩ := append_lsT w vh hT a1 W.length c1 h.t.oh (by rw [h.t.lh]; omega)
  have hw1 : Wr ρ 2 w w1 := Wr.grow g1 h.t.rh
  have row1 := (hw1.block X hXl (by rw [h.rX]; omega)).trans h.row
  have y0 : w1.cell? ⟨X, 0, none⟩ = some vh := by rw [cell_of_row _ _ _ _ _ _ row1]; rfl
  have f0 : w1.frozen? ⟨X, 0, none⟩ = false := frozen_of_row _ _ _ _ _ row1
  have row2 := heap_setCell_same w1 X 0 _ _ vh' row1
  have y1 : (w1.setCell ⟨X, 0, none⟩ vh').cell? ⟨X, 1, none⟩ = some vw := by rw [cell_of_row _ _ _ _ _ _ row2]; rfl
  have ow2 : OwnM 1 (w1.setCell ⟨X, 0, none⟩ vh') vw wT.length wT := h.t.ow.kept (by simp [World.setCell]; exact hw1.size) (fun k hk => by
    rw [heap_setCell_other w1 ⟨X, 0, none⟩ k vh' (fun e => by have := h.t.rw_ k hk; rw [show k = X from e, h.rX] at this; omega), hw1.block k (h.t.ow.lt k hk) (by rw [h.t.rw_ k hk]; omega)])
  obtain ⟨vw', w3, hap3, o3, g3⟩ := append_lsT (w1.setCell ⟨X, 0, none⟩ vh') vw wT a2 W.length c2 ow2 (by rw [h.t.lw]; omega)
  have row3 := (g3.old X (lt_of_heap row2) (fun e => by have := h.t.rw_ X e; rw [h.rX] at this; omega)).trans row2
  have y3 : w3.cell? ⟨X, 1, none⟩ = some vw := by rw [cell_of_row _ _ _ _ _ _ row3]; rfl
  have f3 : w3.frozen? ⟨X, 1, none⟩ = false := frozen_of_row _ _ _ _ _ row3
  have row4 := heap_setCell_same w3 X 1 _ _ vw' row3
  obtain ⟨t1, t2, t3, t4, t5⟩ := h.t.hold h.bel.size (X := X) (ix := 0) (iy := 1) hXl h.rX (by omega) (by omega) (by omega) (fun j hj => by omega) hc ov rv ou ru g1 o1 g3 o3
  have hBX := h.B0X
  have fin : Hid (Bd B0 X m (rx (rx ρ w 2) w1 2000) (w3.setCell ⟨X, 1, none⟩ vw') vh' vw' vi vj (hT ++ [.slice a1 W.length c1]) (wT ++ [.slice a2 W.length c2]) hI wI (WT ++ [W]) WI ∧ Stays w (w3.setCell ⟨X, 1, none⟩ vw') ρ (rx (rx ρ w 2) w1 2000)) := by
    refine ⟨⟨?_, h.lB, fun k hk => ?_, row4, ?_, t1, h.i.kept t3 t2 fun k hk hr => t4 k hk ?_ ?_ ?_⟩, t2, t3, fun k hk hr => t4 k hk (by omega) (by omega) (by omega)⟩
    · refine ⟨g3.os.trans (g1.os.trans h.bel.os), g3.tape.trans (g1.tape.trans h.bel.tape), g3.output.trans (g1.output.trans h.bel.output), Nat.le_trans h.bel.size t3, fun k hk => ?_⟩
      exact (t5 k (by have := h.lB; omega) (by omega)).trans (h.bel.block k hk)
    · rw [t2 k (by have := h.bel.size; have := h.lB; omega)]; exact h.low k hk
    · rw [t2 X hXl]; exact h.rX
    · rcases hr with e | e | e | ⟨j, hj, e⟩ <;> omega
    · rcases hr with e | e | e | ⟨j, hj, e⟩ <;> omega
    · rcases hr with e | e | e | ⟨j, hj, e⟩ <;> omega
  obtain ⟨b1, d1, e3, _, _⟩ := o1.shape
  obtain ⟨b2, d2, e4, _, _⟩ := o3.shape
  subst e3
  subst e4
  obtain ⟨n, hn⟩ : ∃ n, W.length = n := ⟨_, rfl⟩
  rw [hn] at hap1 hap3 ⊢ fin
  generalize hw4 : w1.setCell ⟨X, 0, none⟩ (.slice b1 (hT.length + 1) d1) = w4 at *
  clear h ov rv ou ru g1 o1 g3 o3 ow2 row1 row2 row3 row4 hw1 hn t1 t2 t3 t4 t5
  go_enter Tryz.func52, Tryz.ntmps52
  go_wp2_with (first
    | (at_builtin; refine Lib.wpList_append_run _ rfl _ _ 28 28 rfl _ _ rfl rfl _ _ hap1 ?_)
    | (at_builtin; refine Lib.wpList_append_run _ rfl _ _ 28 28 rfl _ _ rfl rfl _ _ hap3 ?_))
  go_end0
  exact ⟨rfl, _, _, _, fin.out⟩
end Gb
end Chn
end Go.Proofs.YtenklmjeeejfdaaGreatDoor

namespace Go.Proofs.YtenklmjeeejfdaaGreatDoor
open Go.RowKit Go.Shelf
def ksp (K : List Sub) : List (Int × Int) := K.map (·.1)
theorem ksp_get {K : List Sub} {j : Nat} : (ksp K)[j]? = (K[j]?).map (·.1) := by unfold ksp; rw [List.getElem?_map]
theorem first_at {α : Type} (p : α → Bool) : ∀ (l : List α), (∃ x ∈ l, p x = true) → ∃ (i : Nat) (x : α), l[i]? = some x ∧ p x = true ∧ ∀ (j : Nat) (y : α), j < i → l[j]? = some y → p y = false
  | [], h => by obtain ⟨x, hx, _⟩ := h; cases hx
  | a :: l, h => by
    cases ha : p a with
    | true => exact ⟨0, a, rfl, ha, fun j y hj => by omega⟩
    | false =>
      obtain ⟨x, hx, hp⟩ := h
      have hx' : x ∈ l := by
        rcases List.mem_cons.1 hx with rfl | hx
        · rw [ha] at hp; cases hp
        · exact hx
      obtain ⟨i, y, h1, h2, h3⟩ := first_at p l ⟨x, hx', hp⟩
      refine ⟨i + 1, y, h1, h2, fun j z hj hz => ?_⟩
      cases j with
      | zero => obtain rfl : a = z := Option.some.inj hz; exact ha
      | succ j => exact h3 j z (by omega) hz
theorem fdF_no {K : List Sub} {b e : Int} (h : fdF K b e = none) (j : Nat) : (ksp K)[j]? ≠ some (b, e) := fun he => by
  rw [ksp_get] at he
  cases hj : K[j]? with
  | none => rw [hj] at he; cases he
  | some q =>
    rw [hj] at he
    unfold fdF at h
    rw [List.find?_eq_none] at h
    exact h q (List.mem_of_getElem? hj) (decide_eq_true (Option.some.inj he))
theorem find_first {α : Type} (p : α → Bool) : ∀ (l : List α) (i : Nat) (x : α), l[i]? = some x → p x = true → (∀ (j : Nat) (y : α), j < i → l[j]? = some y → p y = false) → l.find? p = some x
  | [], i, x, h, _, _ => by cases h
  | a :: l, 0, x, h, hp, _ => by
    obtain rfl : a = x := Option.some.inj h
    rw [List.find?_cons, hp]
  | a :: l, i + 1, x, h, hp, hl => by
    rw [List.find?_cons, hl 0 a (by omega) rfl]
    exact find_first p l i x h hp (fun j y hj hy => hl (j + 1) y (by omega) hy)
theorem fdF_at {K : List Sub} {b e : Int} {q : Sub} (h : fdF K b e = some q) : ∃ i : Nat, (ksp K)[i]? = some (b, e) ∧ K[i]? = some q ∧ ∀ j : Nat, j < i → (ksp K)[j]? ≠ some (b, e) := by
  have hq := List.find?_some h
  have hm := List.mem_of_find?_eq_some h
  obtain ⟨i, x, h1, h2, h3⟩ := first_at (fun q : Sub => decide (q.1 = (b, e))) K ⟨q, hm, hq⟩
  have hx : x = q := by
    have := find_first (fun q : Sub => decide (q.1 = (b, e))) K i x h1 h2 h3
    unfold fdF at h
    rw [h] at this
    exact (Option.some.inj this).symm
  subst hx
  refine ⟨i, by rw [ksp_get, h1]; exact congrArg some (of_decide_eq_true h2), h1, fun j hj he => ?_⟩
  rw [ksp_get] at he
  cases hk : K[j]? with
  | none => rw [hk] at he; cases he
  | some y =>
    rw [hk] at he
    have := h3 j y hj hk
    rw [decide_eq_true (Option.some.inj he : y.1 = (b, e))] at this
    cases this
theorem wit_no {K : List Sub} {b e : Int} (h : (witS b e K).length = 0) (j : Nat) (x y : Int) (hj : (ksp K)[j]? = some (x, y)) : hasI b e x y = false := by
  rw [ksp_get] at hj
  cases hk : K[j]? with
  | none => rw [hk] at hj; cases hj
  | some q =>
    rw [hk] at hj
    have e1 : q.1 = (x, y) := Option.some.inj hj
    cases hc : hasI b e x y with
    | false => rfl
    | true =>
      have : q ∈ witS b e K := by
        unfold witS
        rw [List.mem_filter]
        exact ⟨List.mem_of_getElem? hk, by rw [e1]; exact hc⟩
      rw [List.length_eq_zero_iff.1 h] at this
      cases this
theorem wit_at {K : List Sub} {b e : Int} (h : (witS b e K).length ≠ 0) : ∃ (i : Nat) (x y : Int), (ksp K)[i]? = some (x, y) ∧ hasI b e x y = true ∧ ∀ (j : Nat) (x' y' : Int), j < i → (ksp K)[j]? = some (x', y') → hasI b e x' y' = false := by
  obtain ⟨q, hq⟩ := List.exists_mem_of_length_pos (Nat.pos_of_ne_zero h)
  unfold witS at hq
  rw [List.mem_filter] at hq
  obtain ⟨i, x, h1, h2, h3⟩ := first_at (fun q : Sub => hasI b e q.1.1 q.1.2) K ⟨q, hq.1, hq.2⟩
  refine ⟨i, x.1.1, x.1.2, by rw [ksp_get, h1]; rfl, h2, fun j x' y' hj he => ?_⟩
  rw [ksp_get] at he
  cases hk : K[j]? with
  | none => rw [hk] at he; cases he
  | some z =>
    rw [hk] at he
    have e1 : z.1 = (x', y') := Option.some.inj he
    have := h3 j z hj hk
    rw [e1] at this
    exact this
end Go.Proofs.YtenklmjeeejfdaaGreatDoor

namespace Go.Proofs.YtenklmjeeejfdaaGreatDoor
open Go.RowKit Go.Shelf
theorem add_one8 (x : Addr) (a : Nat) : (x.add a).add 1 = x.add (a + 1) := by
  by_cases h : a = 0
  · subst h; simp [Addr.add]
  · simp [Addr.add, h, Nat.add_assoc]
def AtQ (w : World) (a : Option Addr) (l : List (Int × Int)) : Prop := ∀ j q, l[j]? = some q → ∃ x : Addr, a = some x ∧ x.block < w.heap.size ∧ w.cell? (x.add (j * 2)) = some (.int .i64 q.1) ∧ w.cell? (x.add (j * 2 + 1)) = some (.int .i64 q.2)
theorem AtQ.below {w w' : World} {a : Option Addr} {l : List (Int × Int)} {B : Nat} (h : AtQ w a l) (hb : Below B w w') (hB : w.heap.size ≤ B) : AtQ w' a l := fun j q hq => by
  obtain ⟨x, e, h1, h2, h3⟩ := h j q hq
  exact ⟨x, e, by have := hb.size; omega, (hb.cell (by rw [addr_block]; omega)).trans h2, (hb.cell (by rw [addr_block]; omega)).trans h3⟩
theorem AtP.q {w : World} {a : Option Addr} {l : List (Int × Int)} (h : AtP w a l) : AtQ w a l := fun j q hq => by
  obtain ⟨g, e, h1, h2, h3⟩ := h j q hq
  have ea : ∀ n, (⟨g, 0, none⟩ : Addr).add n = ⟨g, n, none⟩ := fun n => by rw [Addr.add_mid, Nat.zero_add]
  exact ⟨⟨g, 0, none⟩, e, h1, by rw [ea]; exact h2, by rw [ea]; exact h3⟩
end Go.Proofs.YtenklmjeeejfdaaGreatDoor

namespace Go.Proofs.YtenklmjeeejfdaaGreatDoor
open Go.RowKit Go.Shelf
set_option maxRecDepth 100000 in
set_option maxHeartbeats 1000000 in
theorem stands8_no (K : List (Int × Int)) (b e : Int) (a : Option Addr) (c : Nat) (w : World) (hl : K.length ≤ 9223372036854775800) (hK : AtQ w a K) (hno : ∀ j, j < K.length → K[j]? ≠ some (b, e)) :
    Calls Tryz.prog 73 #[.slice a K.length c, sg b e] w fun r w' => r = .returned (.int .i64 (-1)) ∧ Below w.heap.size w w' := by
  obtain ⟨n, hn⟩ : ∃ n, Hid (K.length = n) := ⟨_, rfl⟩
  rw [hn.out] at hl ⊢
  have H1 := hid hK
  have S0 := hid (SpI.new w b e)
  have B0 := hid ((Below.refl _ w).alloc (Nat.le_refl _) (.cells #[.int .i64 b, .int .i64 e] 56))
  unfold sg
  clear hK
  go_enter Tryz.func73, Tryz.ntmps73
  go_wp2
  generalize w.alloc (.cells #[.int .i64 b, .int .i64 e] 56) = wA at *
  go_loopw [5] (fun iv wr => ∃ k : Nat, iv = .int .i64 (k : Int) ∧ k ≤ n ∧ Hid (SpI wr w.heap.size b e) ∧ Hid (Below w.heap.size w wr)) (fun iv _ => n + 1 - (intOf iv).toNat)
  case atStart => exact ⟨0, rfl, Nat.zero_le _, S0, B0⟩
  case round =>
    clear S0 B0
    obtain ⟨k, rfl, hk, hS, hB⟩ := hrel
    have s0 := hS.out.c0
    have s1 := hS.out.c1
    by_cases hkn : k < n
    · have b0 : (k : Int) < (n : Int) := by omega
      have b1 : (0 : Int) ≤ (k : Int) := by omega
      obtain ⟨x, y, hq⟩ : ∃ x y, K[k]? = some (x, y) := ⟨_, _, List.getElem?_eq_getElem (by have := hn.out; omega)⟩
      obtain ⟨g1, rfl, _, p0, p1⟩ := (H1.out.below hB.out (Nat.le_refl _)) k (x, y) hq
      have p0 : wr.cell? (g1.add (k * 2)) = some (.int .i64 x) := p0
      have p1 : wr.cell? ⟨(g1.add (k * 2)).block, (g1.add (k * 2)).off + 1, none⟩ = some (.int .i64 y) := by
        show wr.cell? ((g1.add (k * 2)).add 1) = _
        rw [add_one8]; exact p1
      have hxy : ¬ (x = b ∧ y = e) := fun h => hno k (by rw [hn.out]; exact hkn) (by rw [hq, h.1, h.2])
      have hcase : (¬ x = b) ∨ ((x = b) = True ∧ ¬ y = e) := by
        by_cases e1 : x = b
        · exact .inr ⟨eq_true e1, fun e2 => hxy ⟨e1, e2⟩⟩
        · exact .inl e1
      clear H1 hq hxy
      rcases hcase with hne | ⟨hne, hne2⟩
      all_goals
        go_wp2
        go_quiet (fail)
        go_wp2
        exact ⟨⟨k + 1, by go_num, by omega, by first | exact hS | exact hid hS.out.drew1 | exact hid (hS.out.drewK _), by first | exact hB | exact hid hB.out.drew | exact hid (below_drewN hB.out _)⟩, by simp [intOf]; omega⟩
    · obtain rfl : k = n := by omega
      have b0 : ¬ (k : Int) < (k : Int) := by omega
      go_wp2
      go_ret
      exact ⟨rfl, hB.out⟩
set_option maxRecDepth 100000 in
set_option maxHeartbeats 1000000 in
theorem stands8_at (K : List (Int × Int)) (b e : Int) (a : Option Addr) (c : Nat) (w : World) (hl : K.length ≤ 9223372036854775800) (hK : AtQ w a K) (i : Nat) (hi : K[i]? = some (b, e)) (hno : ∀ j, j < i → K[j]? ≠ some (b, e)) :
    Calls Tryz.prog 73 #[.slice a K.length c, sg b e] w fun r w' => r = .returned (.int .i64 (i : Int)) ∧ Below w.heap.size w w' := by
  obtain ⟨n, hn⟩ : ∃ n, Hid (K.length = n) := ⟨_, rfl⟩
  rw [hn.out] at hl ⊢
  have H1 := hid hK
  have S0 := hid (SpI.new w b e)
  have B0 := hid ((Below.refl _ w).alloc (Nat.le_refl _) (.cells #[.int .i64 b, .int .i64 e] 56))
  unfold sg
  clear hK
  go_enter Tryz.func73, Tryz.ntmps73
  go_wp2
  generalize w.alloc (.cells #[.int .i64 b, .int .i64 e] 56) = wA at *
  go_loopw [5] (fun iv wr => ∃ k : Nat, iv = .int .i64 (k : Int) ∧ k ≤ i ∧ Hid (SpI wr w.heap.size b e) ∧ Hid (Below w.heap.size w wr)) (fun iv _ => i + 1 - (intOf iv).toNat)
  case atStart => exact ⟨0, rfl, Nat.zero_le _, S0, B0⟩
  case round =>
    clear S0 B0
    obtain ⟨k, rfl, hk, hS, hB⟩ := hrel
    have s0 := hS.out.c0
    have s1 := hS.out.c1
    have hin : i < n := by have := (List.getElem?_eq_some_iff.1 hi).1; rw [hn.out] at this; exact this
    have b0 : (k : Int) < (n : Int) := by omega
    have b1 : (0 : Int) ≤ (k : Int) := by omega
    by_cases hkn : k < i
    · obtain ⟨x, y, hq⟩ : ∃ x y, K[k]? = some (x, y) := ⟨_, _, List.getElem?_eq_getElem (by have := hn.out; omega)⟩
      obtain ⟨g1, rfl, _, p0, p1⟩ := (H1.out.below hB.out (Nat.le_refl _)) k (x, y) hq
      have p0 : wr.cell? (g1.add (k * 2)) = some (.int .i64 x) := p0
      have p1 : wr.cell? ⟨(g1.add (k * 2)).block, (g1.add (k * 2)).off + 1, none⟩ = some (.int .i64 y) := by
        show wr.cell? ((g1.add (k * 2)).add 1) = _
        rw [add_one8]; exact p1
      have hxy : ¬ (x = b ∧ y = e) := fun h => hno k hkn (by rw [hq, h.1, h.2])
      have hcase : (¬ x = b) ∨ ((x = b) = True ∧ ¬ y = e) := by
        by_cases e1 : x = b
        · exact .inr ⟨eq_true e1, fun e2 => hxy ⟨e1, e2⟩⟩
        · exact .inl e1
      clear H1 hq hxy
      rcases hcase with hne | ⟨hne, hne2⟩
      all_goals
        go_wp2
        go_quiet (fail)
        go_wp2
        exact ⟨⟨k + 1, by go_num, by omega, by first | exact hS | exact hid hS.out.drew1 | exact hid (hS.out.drewK _), by first | exact hB | exact hid hB.out.drew | exact hid (below_drewN hB.out _)⟩, by simp [intOf]; omega⟩
    · obtain rfl : k = i := by omega
      obtain ⟨g1, rfl, _, p0, p1⟩ := (H1.out.below hB.out (Nat.le_refl _)) k (b, e) hi
      have p0 : wr.cell? (g1.add (k * 2)) = some (.int .i64 b) := p0
      have p1 : wr.cell? ⟨(g1.add (k * 2)).block, (g1.add (k * 2)).off + 1, none⟩ = some (.int .i64 e) := by
        show wr.cell? ((g1.add (k * 2)).add 1) = _
        rw [add_one8]; exact p1
      clear H1 hi hno
      go_wp2
      go_quiet (fail)
      go_wp2
      go_ret
      exact ⟨rfl, by first | exact hB.out | exact hB.out.drew | exact below_drewN hB.out _⟩
set_option maxRecDepth 100000 in
set_option maxHeartbeats 1000000 in
theorem within8_no (K : List (Int × Int)) (b e : Int) (a : Option Addr) (c : Nat) (w : World) (hl : K.length ≤ 9223372036854775800) (hK : AtQ w a K) (hno : ∀ (j : Nat) (x y : Int), j < K.length → K[j]? = some (x, y) → hasI b e x y = false) :
    Calls Tryz.prog 74 #[.slice a K.length c, sg b e] w fun r w' => r = .returned (.bool false) ∧ Below w.heap.size w w' := by
  obtain ⟨n, hn⟩ : ∃ n, Hid (K.length = n) := ⟨_, rfl⟩
  rw [hn.out] at hl ⊢
  have H1 := hid hK
  have S0 := hid (SpI.new w b e)
  have B0 := hid ((Below.refl _ w).alloc (Nat.le_refl _) (.cells #[.int .i64 b, .int .i64 e] 56))
  unfold sg
  clear hK
  go_enter Tryz.func74, Tryz.ntmps74
  go_wp2
  generalize w.alloc (.cells #[.int .i64 b, .int .i64 e] 56) = wA at *
  go_loopw [5] (fun iv wr => ∃ k : Nat, iv = .int .i64 (k : Int) ∧ k ≤ n ∧ Hid (SpI wr w.heap.size b e) ∧ Hid (Below w.heap.size w wr)) (fun iv _ => n + 1 - (intOf iv).toNat)
  case atStart => exact ⟨0, rfl, Nat.zero_le _, S0, B0⟩
  case round =>
    clear S0 B0
    obtain ⟨k, rfl, hk, hS, hB⟩ := hrel
    have s0 := hS.out.c0
    have s1 := hS.out.c1
    by_cases hkn : k < n
    · have b0 : (k : Int) < (n : Int) := by omega
      have b1 : (0 : Int) ≤ (k : Int) := by omega
      obtain ⟨x, y, hq⟩ : ∃ x y, K[k]? = some (x, y) := ⟨_, _, List.getElem?_eq_getElem (by have := hn.out; omega)⟩
      obtain ⟨g1, rfl, _, p0, p1⟩ := (H1.out.below hB.out (Nat.le_refl _)) k (x, y) hq
      have p0 : wr.cell? (g1.add (k * 2)) = some (.int .i64 x) := p0
      have p1 : wr.cell? ⟨(g1.add (k * 2)).block, (g1.add (k * 2)).off + 1, none⟩ = some (.int .i64 y) := by
        show wr.cell? ((g1.add (k * 2)).add 1) = _
        rw [add_one8]; exact p1
      have hh := hno k x y (by rw [hn.out]; exact hkn) hq
      unfold hasI at hh
      have hh := of_decide_eq_false hh
      clear H1 hq
      by_cases d1 : b ≤ x
      · have f1 : decide (b ≤ x) = true := decide_eq_true d1
        by_cases d2 : y ≤ e
        · have f2 : decide (y ≤ e) = true := decide_eq_true d2
          have d3 : ¬ x < y := fun h => hh ⟨d1, h, d2⟩
          have f3 : decide (x < y) = false := decide_eq_false d3
          go_wp2
          go_quiet (fail)
          go_wp2
          exact ⟨⟨k + 1, by go_num, by omega, by first | exact hS | exact hid hS.out.drew1 | exact hid (hS.out.drewK _), by first | exact hB | exact hid hB.out.drew | exact hid (below_drewN hB.out _)⟩, by simp [intOf]; omega⟩
        · have f2 : decide (y ≤ e) = false := decide_eq_false d2
          go_wp2
          go_quiet (fail)
          go_wp2
          exact ⟨⟨k + 1, by go_num, by omega, by first | exact hS | exact hid hS.out.drew1 | exact hid (hS.out.drewK _), by first | exact hB | exact hid hB.out.drew | exact hid (below_drewN hB.out _)⟩, by simp [intOf]; omega⟩
      · have f1 : decide (b ≤ x) = false := decide_eq_false d1
        go_wp2
        go_quiet (fail)
        go_wp2
        exact ⟨⟨k + 1, by go_num, by omega, by first | exact hS | exact hid hS.out.drew1 | exact hid (hS.out.drewK _), by first | exact hB | exact hid hB.out.drew | exact hid (below_drewN hB.out _)⟩, by simp [intOf]; omega⟩
    · obtain rfl : k = n := by omega
      have b0 : ¬ (k : Int) < (k : Int) := by omega
      go_wp2
      go_ret
      exact ⟨rfl, hB.out⟩
set_option maxRecDepth 100000 in
set_option maxHeartbeats 1000000 in
theorem within8_at (K : List (Int × Int)) (b e : Int) (a : Option Addr) (c : Nat) (w : World) (hl : K.length ≤ 9223372036854775800) (hK : AtQ w a K) (i : Nat) (u v : Int) (hi : K[i]? = some (u, v)) (hu : hasI b e u v = true) (hno : ∀ (j : Nat) (x y : Int), j < i → K[j]? = some (x, y) → hasI b e x y = false) :
    Calls Tryz.prog 74 #[.slice a K.length c, sg b e] w fun r w' => r = .returned (.bool true) ∧ Below w.heap.size w w' := by
  obtain ⟨n, hn⟩ : ∃ n, Hid (K.length = n) := ⟨_, rfl⟩
  rw [hn.out] at hl ⊢
  have H1 := hid hK
  have S0 := hid (SpI.new w b e)
  have B0 := hid ((Below.refl _ w).alloc (Nat.le_refl _) (.cells #[.int .i64 b, .int .i64 e] 56))
  unfold sg
  clear hK
  go_enter Tryz.func74, Tryz.ntmps74
  go_wp2
  generalize w.alloc (.cells #[.int .i64 b, .int .i64 e] 56) = wA at *
  go_loopw [5] (fun iv wr => ∃ k : Nat, iv = .int .i64 (k : Int) ∧ k ≤ i ∧ Hid (SpI wr w.heap.size b e) ∧ Hid (Below w.heap.size w wr)) (fun iv _ => i + 1 - (intOf iv).toNat)
  case atStart => exact ⟨0, rfl, Nat.zero_le _, S0, B0⟩
  case round =>
    clear S0 B0
    obtain ⟨k, rfl, hk, hS, hB⟩ := hrel
    have s0 := hS.out.c0
    have s1 := hS.out.c1
    have hin : i < n := by have := (List.getElem?_eq_some_iff.1 hi).1; rw [hn.out] at this; exact this
    have b0 : (k : Int) < (n : Int) := by omega
    have b1 : (0 : Int) ≤ (k : Int) := by omega
    by_cases hkn : k < i
    · obtain ⟨x, y, hq⟩ : ∃ x y, K[k]? = some (x, y) := ⟨_, _, List.getElem?_eq_getElem (by have := hn.out; omega)⟩
      obtain ⟨g1, rfl, _, p0, p1⟩ := (H1.out.below hB.out (Nat.le_refl _)) k (x, y) hq
      have p0 : wr.cell? (g1.add (k * 2)) = some (.int .i64 x) := p0
      have p1 : wr.cell? ⟨(g1.add (k * 2)).block, (g1.add (k * 2)).off + 1, none⟩ = some (.int .i64 y) := by
        show wr.cell? ((g1.add (k * 2)).add 1) = _
        rw [add_one8]; exact p1
      have hh := hno k x y hkn hq
      unfold hasI at hh
      have hh := of_decide_eq_false hh
      clear H1 hq
      by_cases d1 : b ≤ x
      · have f1 : decide (b ≤ x) = true := decide_eq_true d1
        by_cases d2 : y ≤ e
        · have f2 : decide (y ≤ e) = true := decide_eq_true d2
          have d3 : ¬ x < y := fun h => hh ⟨d1, h, d2⟩
          have f3 : decide (x < y) = false := decide_eq_false d3
          go_wp2
          go_quiet (fail)
          go_wp2
          exact ⟨⟨k + 1, by go_num, by omega, by first | exact hS | exact hid hS.out.drew1 | exact hid (hS.out.drewK _), by first | exact hB | exact hid hB.out.drew | exact hid (below_drewN hB.out _)⟩, by simp [intOf]; omega⟩
        · have f2 : decide (y ≤ e) = false := decide_eq_false d2
          go_wp2
          go_quiet (fail)
          go_wp2
          exact ⟨⟨k + 1, by go_num, by omega, by first | exact hS | exact hid hS.out.drew1 | exact hid (hS.out.drewK _), by first | exact hB | exact hid hB.out.drew | exact hid (below_drewN hB.out _)⟩, by simp [intOf]; omega⟩
      · have f1 : decide (b ≤ x) = false := decide_eq_false d1
        go_wp2
        go_quiet (fail)
        go_wp2
        exact ⟨⟨k + 1, by go_num, by omega, by first | exact hS | exact hid hS.out.drew1 | exact hid (hS.out.drewK _), by first | exact hB | exact hid hB.out.drew | exact hid (below_drewN hB.out _)⟩, by simp [intOf]; omega⟩
    · obtain rfl : k = i := by omega
      obtain ⟨g1, rfl, _, p0, p1⟩ := (H1.out.below hB.out (Nat.le_refl _)) k (u, v) hi
      have p0 : wr.cell? (g1.add (k * 2)) = some (.int .i64 u) := p0
      have p1 : wr.cell? ⟨(g1.add (k * 2)).block, (g1.add (k * 2)).off + 1, none⟩ = some (.int .i64 v) := by
        show wr.cell? ((g1.add (k * 2)).add 1) = _
        rw [add_one8]; exact p1
      unfold hasI at hu
      obtain ⟨d1, d2, d3⟩ := of_decide_eq_true hu
      have f1 : decide (b ≤ u) = true := decide_eq_true d1
      have f2 : decide (v ≤ e) = true := decide_eq_true d3
      have f3 : decide (u < v) = true := decide_eq_true d2
      clear H1 hi hno hu
      go_wp2
      go_quiet (fail)
      go_wp2
      go_ret
      exact ⟨rfl, by first | exact hB.out | exact hB.out.drew | exact below_drewN hB.out _⟩
end Go.Proofs.YtenklmjeeejfdaaGreatDoor
