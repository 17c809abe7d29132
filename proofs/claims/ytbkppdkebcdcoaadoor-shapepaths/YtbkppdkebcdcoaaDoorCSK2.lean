import Derived.Test.YtbkppdkebcdcoaaDoorCSK1
namespace Go.Proofs.YtbkppdkebcdcoaaDoor
open Go.RowKit Go.Shelf

/-- the book while still looks at it: p lists were marked; ls is what it has marked, vl the list of these -/
structure Cb (B0 X gh gw : Nat) (F : Value → Array Value) (hv wv : List Value) (Ws : List (List (Nat × Nat))) (w0 : World) (ρ : Nat → Nat) (w : World) (p : Nat) (vl : Value) (ls : List Value) : Prop where
  bel : Below B0 w0 w
  low : ∀ k, k < B0 → ρ k = 0
  row : w.heap[X]? = some (.cells (F vl) 33 (0, 0))
  rX : ρ X = 1
  hr : w.rangeAt gh 0 hv
  rh : ρ gh = 0
  lh : gh < w.heap.size
  wr : w.rangeAt gw 0 wv
  rw_ : ρ gw = 0
  lw : gw < w.heap.size
  want : ∀ (j : Nat) (W : List (Nat × Nat)), Ws[j]? = some W → ∃ a c, wv[j]? = some (.slice a W.length c) ∧ AtP w a (pm W) ∧ ∀ x : Addr, a = some x → x.block < w.heap.size ∧ ρ x.block = 0
  own : ∀ (j : Nat) (W : List (Nat × Nat)), p ≤ j → Ws[j]? = some W → ∃ v, hv[j]? = some v ∧ OwnP w v W ∧ ∀ k, v.ownBlock = some k → ρ k = 3 + j
  ol : OwnM 1 w vl ls.length ls
  rl : ∀ k, vl.ownBlock = some k → ρ k = 2
  mrk : ∀ (t : Nat) (v : Value), ls[t]? = some v → Mk w v (-5 - ((40 * (t / 40) : Nat) : Int)) ∧ ∀ k, v.ownBlock = some k → k < w.heap.size ∧ ρ k = 3 + t / 40
theorem AtP.kept {w w' : World} {a : Option Addr} {l : List (Int × Int)} (h : AtP w a l) (hs : w.heap.size ≤ w'.heap.size) (hb : ∀ x : Addr, a = some x → x.block < w.heap.size → w'.heap[x.block]? = w.heap[x.block]?) : AtP w' a l := fun j q hq => by
  obtain ⟨g, e, h1, h2, h3⟩ := h j q hq
  have e2 := hb _ e h1
  exact ⟨g, e, by omega, (World.cell?_of_block (a := ⟨g, j * 2, none⟩) e2).trans h2, (World.cell?_of_block (a := ⟨g, j * 2 + 1, none⟩) e2).trans h3⟩
theorem Wr.bel {ρ : Nat → Nat} {r B0 : Nat} {w0 w w' : World} (h : Wr ρ r w w') (hb : Below B0 w0 w) (hB : B0 ≤ w0.heap.size) (hl : ∀ k, k < B0 → ρ k = 0) (hr : r ≠ 0) : Below B0 w0 w' :=
  hb.trans ⟨h.os, h.tape, h.output, h.size, fun k hk => h.block k (by have := hb.size; omega) (by rw [hl k hk]; exact fun e => hr e.symm)⟩
/-- one role is written; what is new has whatever role -/
theorem Cb.step {B0 X gh gw : Nat} {F : Value → Array Value} {hv wv : List Value} {Ws : List (List (Nat × Nat))} {w0 w w' : World} {ρ : Nat → Nat} {p p' r : Nat} {vl : Value} {ls : List Value} (h : Cb B0 X gh gw F hv wv Ws w0 ρ w p vl ls) (hB : B0 ≤ w0.heap.size) (hw : Wr ρ r w w') (h3 : 3 ≤ r) (hp : p ≤ p') (ρ' : Nat → Nat) (hρ : ∀ k, k < w.heap.size → ρ' k = ρ k)
    (hj : ∀ (j : Nat) (v : Value) (W : List (Nat × Nat)), p' ≤ j → r = 3 + j → OwnP w v W → OwnP w' v W)
    (hm : ∀ (t : Nat) (v : Value), ls[t]? = some v → r = 3 + t / 40 → Mk w v (-5 - ((40 * (t / 40) : Nat) : Int)) → Mk w' v (-5 - ((40 * (t / 40) : Nat) : Int))) : Cb B0 X gh gw F hv wv Ws w0 ρ' w' p' vl ls where
  bel := hw.bel h.bel hB h.low (by omega)
  low := fun k hk => by rw [hρ k (by have := h.bel.size; omega)]; exact h.low k hk
  row := (hw.block X (lt_of_heap h.row) (by rw [h.rX]; omega)).trans h.row
  rX := by rw [hρ X (lt_of_heap h.row)]; exact h.rX
  hr := rangeAt_heap h.hr (hw.block gh h.lh (by rw [h.rh]; omega))
  rh := by rw [hρ _ h.lh]; exact h.rh
  lh := Nat.lt_of_lt_of_le h.lh hw.size
  wr := rangeAt_heap h.wr (hw.block gw h.lw (by rw [h.rw_]; omega))
  rw_ := by rw [hρ _ h.lw]; exact h.rw_
  lw := Nat.lt_of_lt_of_le h.lw hw.size
  want := fun j W e => by
    obtain ⟨a, c, e1, e2, e3⟩ := h.want j W e
    exact ⟨a, c, e1, e2.kept hw.size (fun x hx hlt => hw.block _ hlt (by rw [(e3 x hx).2]; omega)), fun x hx => ⟨Nat.lt_of_lt_of_le (e3 x hx).1 hw.size, by rw [hρ _ (e3 x hx).1]; exact (e3 x hx).2⟩⟩
  own := fun j W hpj e => by
    obtain ⟨v, e1, e2, e3⟩ := h.own j W (by omega) e
    refine ⟨v, e1, ?_, fun k hk => by rw [hρ _ (e2.lt k hk)]; exact e3 k hk⟩
    by_cases hr : r = 3 + j
    · exact hj j v W hpj hr e2
    · exact e2.kept hw.size (fun g hg => hw.block g (e2.lt g hg) (by rw [e3 g hg]; exact fun e => hr e.symm))
  ol := h.ol.kept hw.size (fun g hg => hw.block g (h.ol.lt g hg) (by rw [h.rl g hg]; omega))
  rl := fun k hk => by rw [hρ _ (h.ol.lt k hk)]; exact h.rl k hk
  mrk := fun t v e => by
    obtain ⟨e1, e2⟩ := h.mrk t v e
    refine ⟨?_, fun k hk => ⟨Nat.lt_of_lt_of_le (e2 k hk).1 hw.size, by rw [hρ _ (e2 k hk).1]; exact (e2 k hk).2⟩⟩
    by_cases hr : r = 3 + t / 40
    · exact hm t v e hr e1
    · exact e1.kept hw.size (fun k hk hlt => hw.block k hlt (by rw [(e2 k hk).2]; exact fun e => hr e.symm))
theorem Cb.below {B0 X gh gw : Nat} {F : Value → Array Value} {hv wv : List Value} {Ws : List (List (Nat × Nat))} {w0 w w' : World} {ρ : Nat → Nat} {p : Nat} {vl : Value} {ls : List Value} (h : Cb B0 X gh gw F hv wv Ws w0 ρ w p vl ls) (hB : B0 ≤ w0.heap.size) (hb : Below w.heap.size w w') : Cb B0 X gh gw F hv wv Ws w0 (rx ρ w 0) w' p vl ls :=
  h.step hB (Wr.below (r := 3) hb) (Nat.le_refl _) (Nat.le_refl _) _ (fun _ hk => rx_old hk) (fun _ _ _ _ _ e => e.below hb) (fun _ _ _ _ e => e.kept hb.size (fun k _ hlt => hb.block k hlt))
/-- a list of lists grows by one -/
theorem Cb.push {B0 X gh gw : Nat} {F : Value → Array Value} {hv wv : List Value} {Ws : List (List (Nat × Nat))} {w0 w w' : World} {ρ : Nat → Nat} {p ix : Nat} {vl vl' : Value} {ls : List Value} (h : Cb B0 X gh gw F hv wv Ws w0 ρ w p vl ls) (hB : B0 ≤ w0.heap.size) (hF : ∀ v v', (F v).setIfInBounds ix v' = F v')
    (hg : Grow w w' vl vl') {u : Value} (ho : OwnM 1 w' vl' (ls.length + 1) (ls ++ [u])) (hu : Mk w u (-5 - ((40 * (ls.length / 40) : Nat) : Int))) (hur : ∀ k, u.ownBlock = some k → k < w.heap.size ∧ ρ k = 3 + ls.length / 40) :
    Cb B0 X gh gw F hv wv Ws w0 (rx ρ w 2) (w'.setCell ⟨X, ix, none⟩ vl') p vl' (ls ++ [u]) := by
  have hw : Wr ρ 2 w w' := Wr.grow hg h.rl
  have hXl := lt_of_heap h.row
  have hrX : rx ρ w 2 X = 1 := by rw [rx_old hXl]; exact h.rX
  have row1 := (hw.block X hXl (by rw [h.rX]; omega)).trans h.row
  have e0 := setCell_eq_setRow w' X ix (F vl) 33 (0, 0) vl' row1
  have hset : ∀ k, k ≠ X → (w'.setCell ⟨X, ix, none⟩ vl').heap[k]? = w'.heap[k]? := fun k hk => heap_setCell_other w' ⟨X, ix, none⟩ k vl' hk
  have hsz : (w'.setCell ⟨X, ix, none⟩ vl').heap.size = w'.heap.size := by simp [World.setCell]
  have both : ∀ k, k < w.heap.size → ρ k ≠ 2 → ρ k ≠ 1 → (w'.setCell ⟨X, ix, none⟩ vl').heap[k]? = w.heap[k]? := fun k hk h2 h1 => (hset k (fun e => h1 (by rw [e]; exact h.rX))).trans (hw.block k hk h2)
  have hs2 : w.heap.size ≤ (w'.setCell ⟨X, ix, none⟩ vl').heap.size := by rw [hsz]; exact hw.size
  constructor
  case bel => exact (hw.bel h.bel hB h.low (by omega)).setCell (p := ⟨X, ix, none⟩) (by
      show B0 ≤ X
      rcases Nat.lt_or_ge X B0 with e | e
      · have := h.low X e; rw [h.rX] at this; omega
      · exact e) _
  case low => exact fun k hk => by rw [rx_old (by have := h.bel.size; omega)]; exact h.low k hk
  case row =>
    rw [e0, setRow_heap _ _ _ _ _ _ row1]
    exact congrArg (fun A => some (Obj.cells A 33 (0, 0))) (hF _ _)
  case rX => exact hrX
  case hr => exact rangeAt_heap h.hr (both gh h.lh (by rw [h.rh]; omega) (by rw [h.rh]; omega))
  case rh => rw [rx_old h.lh]; exact h.rh
  case lh => exact Nat.lt_of_lt_of_le h.lh hs2
  case wr => exact rangeAt_heap h.wr (both gw h.lw (by rw [h.rw_]; omega) (by rw [h.rw_]; omega))
  case rw_ => rw [rx_old h.lw]; exact h.rw_
  case lw => exact Nat.lt_of_lt_of_le h.lw hs2
  case want =>
    intro j W e
    obtain ⟨a, c, e1, e2, e3⟩ := h.want j W e
    exact ⟨a, c, e1, e2.kept hs2 (fun x hx hlt => both _ hlt (by rw [(e3 x hx).2]; omega) (by rw [(e3 x hx).2]; omega)), fun x hx => ⟨Nat.lt_of_lt_of_le (e3 x hx).1 hs2, by rw [rx_old (e3 x hx).1]; exact (e3 x hx).2⟩⟩
  case own =>
    intro j W hpj e
    obtain ⟨v, e1, e2, e3⟩ := h.own j W hpj e
    exact ⟨v, e1, e2.kept hs2 (fun g hg => both g (e2.lt g hg) (by rw [e3 g hg]; omega) (by rw [e3 g hg]; omega)), fun k hk => by rw [rx_old (e2.lt k hk)]; exact e3 k hk⟩
  case ol =>
    rw [List.length_append]
    refine OwnM.kept ho (Nat.le_of_eq hsz.symm) (fun g hg' => hset g (fun e => ?_))
    have := Wr.own hg h.rl h.ol.lt g hg'
    rw [e, hrX] at this
    omega
  case rl => exact Wr.own hg h.rl h.ol.lt
  case mrk =>
    intro t v e
    rw [List.getElem?_append] at e
    split at e
    · obtain ⟨e1, e2⟩ := h.mrk t v e
      exact ⟨e1.kept hs2 (fun k hk hlt => both k hlt (by rw [(e2 k hk).2]; omega) (by rw [(e2 k hk).2]; omega)), fun k hk => ⟨Nat.lt_of_lt_of_le (e2 k hk).1 hs2, by rw [rx_old (e2 k hk).1]; exact (e2 k hk).2⟩⟩
    · next hlt =>
      obtain rfl : t = ls.length := by
        have := (List.getElem?_eq_some_iff.1 e).1
        simp at this
        omega
      rw [Nat.sub_self] at e
      obtain rfl : u = v := Option.some.inj e
      exact ⟨hu.kept hs2 (fun k hk hlt => both k hlt (by rw [(hur k hk).2]; omega) (by rw [(hur k hk).2]; omega)), fun k hk => ⟨Nat.lt_of_lt_of_le (hur k hk).1 hs2, by rw [rx_old (hur k hk).1]; exact (hur k hk).2⟩⟩
end Go.Proofs.YtbkppdkebcdcoaaDoor
