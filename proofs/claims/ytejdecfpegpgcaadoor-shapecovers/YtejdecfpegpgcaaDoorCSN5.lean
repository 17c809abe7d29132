import Derived.Test.YtejdecfpegpgcaaDoorCSN4
namespace Go.Proofs.YtejdecfpegpgcaaDoor.Nb
open Go.RowKit Go.Shelf

/-- the book while lists are held -/
structure Bh (B0 X : Nat) (w0 : World) (ρ : Nat → Nat) (w : World) (vh vw : Value) (hv wv : List Value) (Ws : List (List (Nat × Nat))) : Prop where
  bel : Below B0 w0 w
  low : ∀ k, k < B0 → ρ k = 0
  row : w.heap[X]? = some (.cells #[.slice none 0 0, .slice none 0 0, .slice none 0 0, vh, vw, .slice none 0 0] 33 (0, 0))
  rX : ρ X = 1
  oh : OwnM 1 w vh hv.length hv
  rh : ∀ k, vh.ownBlock = some k → ρ k = 2
  ow : OwnM 1 w vw wv.length wv
  rw_ : ∀ k, vw.ownBlock = some k → ρ k = 2000
  lh : hv.length = Ws.length
  lw : wv.length = Ws.length
  le : Ws.length ≤ 1000
  own : ∀ (j : Nat) (W : List (Nat × Nat)), Ws[j]? = some W → ∃ v, hv[j]? = some v ∧ OwnP w v W ∧ ∀ k, v.ownBlock = some k → ρ k = 3 + j
  want : ∀ (j : Nat) (W : List (Nat × Nat)), Ws[j]? = some W → ∃ v, wv[j]? = some v ∧ OwnP w v W ∧ ∀ k, v.ownBlock = some k → ρ k = 0
  fr : ∀ k, k < w0.heap.size → k ≠ X → w.heap[k]? = w0.heap[k]?
  nh : ∀ k, vh.ownBlock = some k → w0.heap.size ≤ k
  nw : ∀ k, vw.ownBlock = some k → w0.heap.size ≤ k
theorem Bh.below {B0 X : Nat} {w0 w w' : World} {ρ : Nat → Nat} {vh vw : Value} {hv wv : List Value} {Ws : List (List (Nat × Nat))} (h : Bh B0 X w0 ρ w vh vw hv wv Ws) (hB : B0 ≤ w0.heap.size) (hb : Below w.heap.size w w') (ρ' : Nat → Nat) (hρ : ∀ k, k < w.heap.size → ρ' k = ρ k) : Bh B0 X w0 ρ' w' vh vw hv wv Ws where
  bel := h.bel.trans (hb.mono (Nat.le_trans hB h.bel.size))
  low := fun k hk => by rw [hρ k (by have := h.bel.size; omega)]; exact h.low k hk
  row := (hb.block X (lt_of_heap h.row)).trans h.row
  rX := by rw [hρ X (lt_of_heap h.row)]; exact h.rX
  oh := h.oh.below hb
  rh := fun k hk => by rw [hρ k (h.oh.lt k hk)]; exact h.rh k hk
  ow := h.ow.below hb
  rw_ := fun k hk => by rw [hρ k (h.ow.lt k hk)]; exact h.rw_ k hk
  lh := h.lh
  lw := h.lw
  le := h.le
  own := fun j W e => by
    obtain ⟨v, e1, e2, e3⟩ := h.own j W e
    exact ⟨v, e1, e2.below hb, fun k hk => by rw [hρ k (e2.lt k hk)]; exact e3 k hk⟩
  want := fun j W e => by
    obtain ⟨v, e1, e2, e3⟩ := h.want j W e
    exact ⟨v, e1, e2.below hb, fun k hk => by rw [hρ k (e2.lt k hk)]; exact e3 k hk⟩
  fr := fun k hk hX => (hb.block k (Nat.lt_of_lt_of_le hk h.bel.size)).trans (h.fr k hk hX)
  nh := h.nh
  nw := h.nw
/-- both lists of lists grow by one -/
theorem Bh.hold {B0 X : Nat} {w0 w w1 w3 : World} {ρ : Nat → Nat} {vh vw vh' vw' v u : Value} {hv wv : List Value} {Ws : List (List (Nat × Nat))} {W : List (Nat × Nat)} (h : Bh B0 X w0 ρ w vh vw hv wv Ws) (hB : B0 ≤ w0.heap.size) (hc : Ws.length < 1000)
    (ov : OwnP w v W) (rv : ∀ k, v.ownBlock = some k → ρ k = 3 + Ws.length) (ou : OwnP w u W) (ru : ∀ k, u.ownBlock = some k → ρ k = 0)
    (g1 : Grow w w1 vh vh') (o1 : OwnM 1 w1 vh' (hv.length + 1) (hv ++ [v])) (g2 : Grow (w1.setCell ⟨X, 3, none⟩ vh') w3 vw vw') (o2 : OwnM 1 w3 vw' (wv.length + 1) (wv ++ [u])) :
    Bh B0 X w0 (rx (rx ρ w 2) w1 2000) (w3.setCell ⟨X, 4, none⟩ vw') vh' vw' (hv ++ [v]) (wv ++ [u]) (Ws ++ [W]) ∧ (∀ k, k < w.heap.size → rx (rx ρ w 2) w1 2000 k = ρ k) ∧ w.heap.size ≤ (w3.setCell ⟨X, 4, none⟩ vw').heap.size ∧ (∀ k, k < w.heap.size → ρ k ≠ 1 → ρ k ≠ 2 → ρ k ≠ 2000 → (w3.setCell ⟨X, 4, none⟩ vw').heap[k]? = w.heap[k]?) := by
  have hXl := lt_of_heap h.row
  have hw1 : Wr ρ 2 w w1 := Wr.grow g1 h.rh
  have hs1 := hw1.size
  have row1 := (hw1.block X hXl (by rw [h.rX]; omega)).trans h.row
  have e1 := setCell_eq_setRow w1 X 3 _ 33 (0, 0) vh' row1
  have hsz2 : (w1.setCell ⟨X, 3, none⟩ vh').heap.size = w1.heap.size := by simp [World.setCell]
  have row2 : (w1.setCell ⟨X, 3, none⟩ vh').heap[X]? = some (.cells #[.slice none 0 0, .slice none 0 0, .slice none 0 0, vh', vw, .slice none 0 0] 33 (0, 0)) := by
    rw [e1, setRow_heap _ _ _ _ _ _ row1]; rfl
  have ρ1 : ∀ k, k < w.heap.size → rx (rx ρ w 2) w1 2000 k = ρ k := fun k hk => by rw [rx_old (by omega), rx_old hk]
  have ne_vw : ∀ k, vw.ownBlock = some k → k ≠ X := fun k hk e => by have := h.rw_ k hk; rw [e, h.rX] at this; omega
  have row3 := (g2.old X (by rw [hsz2]; omega) (fun e => ne_vw X e rfl)).trans row2
  have e3 := setCell_eq_setRow w3 X 4 _ 33 (0, 0) vw' row3
  have hs3 : w1.heap.size ≤ w3.heap.size := by have := g2.size; rw [hsz2] at this; exact this
  have hsz4 : (w3.setCell ⟨X, 4, none⟩ vw').heap.size = w3.heap.size := by simp [World.setCell]
  -- blocks of other roles
  have keep : ∀ k, k < w.heap.size → ρ k ≠ 1 → ρ k ≠ 2 → ρ k ≠ 2000 → (w3.setCell ⟨X, 4, none⟩ vw').heap[k]? = w.heap[k]? := fun k hk n1 n2 n3 => by
    have hkX : k ≠ X := fun e => n1 (by rw [e]; exact h.rX)
    rw [heap_setCell_other w3 ⟨X, 4, none⟩ k vw' hkX, g2.old k (by rw [hsz2]; omega) (fun e => n3 (h.rw_ k e)), heap_setCell_other w1 ⟨X, 3, none⟩ k vh' hkX, hw1.block k hk n2]
  have hs4 : w.heap.size ≤ (w3.setCell ⟨X, 4, none⟩ vw').heap.size := by rw [hsz4]; omega
  have vh_lt : ∀ k, vh'.ownBlock = some k → k < w1.heap.size := fun k hk => o1.lt k hk
  have vh_r : ∀ k, vh'.ownBlock = some k → rx (rx ρ w 2) w1 2000 k = 2 := fun k hk => by rw [rx_old (vh_lt k hk)]; exact Wr.own g1 h.rh h.oh.lt k hk
  have rX' : rx (rx ρ w 2) w1 2000 X = 1 := by rw [ρ1 X hXl]; exact h.rX
  have B0X : B0 ≤ X := by
    rcases Nat.lt_or_ge X B0 with e | e
    · have := h.low X e; rw [h.rX] at this; omega
    · exact e
  have vw_lt : ∀ k, vw.ownBlock = some k → k < w.heap.size := h.ow.lt
  have hvw' : ∀ k, vw'.ownBlock = some k → rx (rx ρ w 2) w1 2000 k = 2000 := fun k hk => by
    rcases g2.alt with e | ⟨e, _⟩
    · rw [e] at hk; rw [ρ1 k (vw_lt k hk)]; exact h.rw_ k hk
    · exact rx_new (by have := e k hk; rw [hsz2] at this; exact this)
  refine ⟨?_, ρ1, hs4, keep⟩
  constructor
  case fr =>
    intro k hk hkX
    have hks := h.bel.size
    rw [heap_setCell_other w3 ⟨X, 4, none⟩ k vw' hkX, g2.old k (by rw [hsz2]; omega) (fun e => by have := h.nw k e; omega), heap_setCell_other w1 ⟨X, 3, none⟩ k vh' hkX, g1.old k (by omega) (fun e => by have := h.nh k e; omega)]
    exact h.fr k hk hkX
  case nh =>
    intro k hk
    have := h.bel.size
    rcases g1.alt with e | ⟨e, _⟩
    · exact h.nh k (e ▸ hk)
    · have := e k hk; omega
  case nw =>
    intro k hk
    have := h.bel.size
    rcases g2.alt with e | ⟨e, _⟩
    · exact h.nw k (e ▸ hk)
    · have := e k hk; rw [hsz2] at this; omega
  case bel =>
    refine Below.setCell (p := ⟨X, 4, none⟩) ?_ B0X _
    refine Below.trans (Below.setCell (p := ⟨X, 3, none⟩) (hw1.bel h.bel hB h.low (by omega)) B0X vh') ⟨g2.os, g2.tape, g2.output, g2.size, fun k hk => g2.old k (by rw [hsz2]; have := h.bel.size; omega) (fun e => ?_)⟩
    have := h.rw_ k e
    rw [h.low k hk] at this
    omega
  case low => exact fun k hk => by rw [ρ1 k (by have := h.bel.size; omega)]; exact h.low k hk
  case row => rw [e3, setRow_heap _ _ _ _ _ _ row3]; rfl
  case rX => exact rX'
  case oh =>
    rw [List.length_append]
    refine OwnM.kept o1 (by rw [hsz4]; exact hs3) (fun k hk => ?_)
    have hkX : k ≠ X := fun e => by have := vh_r k hk; rw [e, rX'] at this; omega
    have hkw : vw.ownBlock ≠ some k := fun e => by have h1 := h.rw_ k e; have h2 := vh_r k hk; rw [ρ1 k (vw_lt k e), h1] at h2; omega
    rw [heap_setCell_other w3 ⟨X, 4, none⟩ k vw' hkX, g2.old k (by rw [hsz2]; exact vh_lt k hk) hkw, heap_setCell_other w1 ⟨X, 3, none⟩ k vh' hkX]
  case rh => exact vh_r
  case ow =>
    rw [List.length_append]
    refine OwnM.kept o2 (Nat.le_of_eq hsz4.symm) (fun k hk => heap_setCell_other w3 ⟨X, 4, none⟩ k vw' (fun e => ?_))
    have := hvw' k hk
    rw [e, rX'] at this
    omega
  case rw_ => exact hvw'
  case lh => rw [List.length_append, List.length_append, h.lh]; rfl
  case lw => rw [List.length_append, List.length_append, h.lw]; rfl
  case le => rw [List.length_append]; simp; omega
  case own =>
    intro j W' e
    rw [List.getElem?_append] at e
    split at e
    · next hj =>
      obtain ⟨v0, f1, f2, f3⟩ := h.own j W' e
      exact ⟨v0, by rw [List.getElem?_append_left (by rw [h.lh]; exact hj)]; exact f1, f2.kept hs4 (fun k hk => keep k (f2.lt k hk) (by rw [f3 k hk]; omega) (by rw [f3 k hk]; omega) (by rw [f3 k hk]; omega)), fun k hk => by rw [ρ1 k (f2.lt k hk)]; exact f3 k hk⟩
    · next hj =>
      have hj2 := (List.getElem?_eq_some_iff.1 e).1
      simp at hj2
      obtain rfl : j = Ws.length := by omega
      rw [Nat.sub_self] at e
      obtain rfl : W = W' := Option.some.inj e
      exact ⟨v, by rw [List.getElem?_append_right (by rw [h.lh]; exact Nat.le_refl _), h.lh, Nat.sub_self]; rfl, ov.kept hs4 (fun k hk => keep k (ov.lt k hk) (by rw [rv k hk]; omega) (by rw [rv k hk]; omega) (by rw [rv k hk]; omega)), fun k hk => by rw [ρ1 k (ov.lt k hk)]; exact rv k hk⟩
  case want =>
    intro j W' e
    rw [List.getElem?_append] at e
    split at e
    · next hj =>
      obtain ⟨v0, f1, f2, f3⟩ := h.want j W' e
      exact ⟨v0, by rw [List.getElem?_append_left (by rw [h.lw]; exact hj)]; exact f1, f2.kept hs4 (fun k hk => keep k (f2.lt k hk) (by rw [f3 k hk]; omega) (by rw [f3 k hk]; omega) (by rw [f3 k hk]; omega)), fun k hk => by rw [ρ1 k (f2.lt k hk)]; exact f3 k hk⟩
    · next hj =>
      have hj2 := (List.getElem?_eq_some_iff.1 e).1
      simp at hj2
      obtain rfl : j = Ws.length := by omega
      rw [Nat.sub_self] at e
      obtain rfl : W = W' := Option.some.inj e
      exact ⟨u, by rw [List.getElem?_append_right (by rw [h.lw]; exact Nat.le_refl _), h.lw, Nat.sub_self]; rfl, ou.kept hs4 (fun k hk => keep k (ou.lt k hk) (by rw [ru k hk]; omega) (by rw [ru k hk]; omega) (by rw [ru k hk]; omega)), fun k hk => by rw [ρ1 k (ou.lt k hk)]; exact ru k hk⟩
end Go.Proofs.YtejdecfpegpgcaaDoor.Nb
