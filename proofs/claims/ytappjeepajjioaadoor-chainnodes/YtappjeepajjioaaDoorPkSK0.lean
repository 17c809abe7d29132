import Derived.Test.YtappjeepajjioaaDoorPkO51
import Derived.Test.YtappjeepajjioaaDoorPkSP28
namespace Go.Proofs.YtappjeepajjioaaDoor
open Go.RowKit Go.Shelf

theorem OwnM.set {m : Nat} {w : World} {g n c : Nat} {cs : List Value} (h : OwnM m w (.slice (some ⟨g, 0, none⟩) n c) n cs) {j : Nat} (hj : j < cs.length) (u : Value) :
    OwnM m (w.setCell ⟨g, j, none⟩ u) (.slice (some ⟨g, 0, none⟩) n c) n (cs.set j u) ∧ (∃ y, w.cell? ⟨g, j, none⟩ = some y) ∧ w.frozen? ⟨g, j, none⟩ = false := by
  rcases h with ⟨h, _⟩ | ⟨g', cap', h, h2, h3, h0, h4, h5, h6⟩
  · cases h
  injection h with e1 e2 e3
  injection e1 with e1
  injection e1 with e1
  subst e1 e3
  have ht := h5 j (by have := Nat.mul_le_mul_right m h2; omega)
  rw [Nat.zero_add] at ht
  obtain ⟨y, hy⟩ := Option.isSome_iff_exists.1 ht.1
  refine ⟨.inr ⟨g, c, rfl, h2, h3, by rw [List.length_set]; exact h0, ?_, ?_, by simpa [World.setCell] using h6⟩, ⟨y, hy⟩, ht.2⟩
  · intro k u' hk
    rw [List.getElem?_set] at hk
    rw [Nat.zero_add]
    split at hk
    · next e =>
      subst e
      (try split at hk) <;> first | (rw [World.cell?_setCell_same _ _ _ (by rw [hy]; try rfl)]; exact hk) | cases hk
    · next e =>
      rw [World.cell?_setCell_other _ _ _ _ (by simp; try exact fun e' => e e'.symm)]
      have := h4 k u' hk
      rwa [Nat.zero_add] at this
  · intro k hk
    have := h5 k hk
    rw [World.frozen?_setCell]
    refine ⟨?_, this.2⟩
    by_cases e : j = 0 + k
    · rw [← e, World.cell?_setCell_same _ _ _ (by rw [hy]; try rfl)]; rfl
    · rw [World.cell?_setCell_other _ _ _ _ (by simp; try exact fun e' => e (by omega))]; exact this.1
/-- blocks by their roles: only those of role r are written -/
structure Wr (ρ : Nat → Nat) (r : Nat) (w w' : World) : Prop where
  os : w'.os = w.os
  tape : w'.tape = w.tape
  output : w'.output = w.output
  size : w.heap.size ≤ w'.heap.size
  block : ∀ k, k < w.heap.size → ρ k ≠ r → w'.heap[k]? = w.heap[k]?
/-- what is new has this role -/
def rx (ρ : Nat → Nat) (w : World) (r : Nat) : Nat → Nat := fun k => if k < w.heap.size then ρ k else r
theorem rx_old {ρ : Nat → Nat} {w : World} {r k : Nat} (h : k < w.heap.size) : rx ρ w r k = ρ k := if_pos h
theorem rx_new {ρ : Nat → Nat} {w : World} {r k : Nat} (h : w.heap.size ≤ k) : rx ρ w r k = r := if_neg (by omega)
theorem Wr.grow {ρ : Nat → Nat} {r : Nat} {w w' : World} {v v' : Value} (hg : Grow w w' v v') (hr : ∀ k, v.ownBlock = some k → ρ k = r) : Wr ρ r w w' :=
  ⟨hg.os, hg.tape, hg.output, hg.size, fun k hk hne => hg.old k hk (fun e => hne (hr k e))⟩
theorem Wr.setCell {ρ : Nat → Nat} {r : Nat} {w w' : World} (h : Wr ρ r w w') {g : Nat} (hg : g < w.heap.size → ρ g = r) (o : Nat) (u : Value) : Wr ρ r w (w'.setCell ⟨g, o, none⟩ u) :=
  ⟨h.os, h.tape, h.output, by simpa [World.setCell] using h.size, fun k hk hne => (heap_setCell_other w' ⟨g, o, none⟩ k u (fun e => hne (by subst e; exact hg hk))).trans (h.block k hk hne)⟩
theorem Wr.refl (ρ : Nat → Nat) (r : Nat) (w : World) : Wr ρ r w w := ⟨rfl, rfl, rfl, Nat.le_refl _, fun _ _ _ => rfl⟩
theorem Wr.below {ρ : Nat → Nat} {r : Nat} {w w' : World} (h : Below w.heap.size w w') : Wr ρ r w w' := ⟨h.os, h.tape, h.output, h.size, fun k hk _ => h.block k hk⟩
theorem Wr.own {ρ : Nat → Nat} {r : Nat} {w w' : World} {v v' : Value} (hg : Grow w w' v v') (hr : ∀ k, v.ownBlock = some k → ρ k = r) (hl : ∀ k, v.ownBlock = some k → k < w.heap.size) : ∀ k, v'.ownBlock = some k → rx ρ w r k = r := fun k e => by
  rcases hg.alt with e1 | ⟨e1, _⟩
  · rw [e1] at e; rw [rx_old (hl k e)]; exact hr k e
  · exact rx_new (e1 k e)
end Go.Proofs.YtappjeepajjioaaDoor

namespace Go.Proofs.YtappjeepajjioaaDoor
open Go.RowKit Go.Shelf

/-- marks: pairs of a number and nought -/
def mks : Nat → Int → List Value
  | 0, _ => []
  | n + 1, m => mks n m ++ [.int .i64 m, .int .i64 0]
theorem mks_len (m : Int) : ∀ n, (mks n m).length = n * 2
  | 0 => rfl
  | n + 1 => by rw [mks, List.length_append, mks_len m n]; simp; omega
theorem mks_at (m : Int) : ∀ n j, j < n → (mks n m)[j * 2]? = some (.int .i64 m) ∧ (mks n m)[j * 2 + 1]? = some (.int .i64 0)
  | 0, j, h => by omega
  | n + 1, j, h => by
    have hl := mks_len m n
    rw [mks]
    by_cases e : j < n
    · have := mks_at m n j e
      rw [List.getElem?_append_left (by omega), List.getElem?_append_left (by omega)]
      exact this
    · obtain rfl : j = n := by omega
      rw [List.getElem?_append_right (by omega), List.getElem?_append_right (by omega), hl, Nat.sub_self, show j * 2 + 1 - j * 2 = 1 by omega]
      exact ⟨rfl, rfl⟩
/-- the cells while the marks are written -/
theorem mks_set {cs : List Value} {k n : Nat} (hl : cs.length = n * 2) (hk : k < n) (m : Int) : ((mks k m ++ cs.drop (k * 2)).set (k * 2) (.int .i64 m)).set (k * 2 + 1) (.int .i64 0) = mks (k + 1) m ++ cs.drop ((k + 1) * 2) := by
  have h := mks_len m k
  rw [List.set_append_right _ _ (by omega), h, Nat.sub_self, List.set_append_right _ _ (by omega), h, show k * 2 + 1 - k * 2 = 1 by omega, List.drop_eq_getElem_cons (show k * 2 < cs.length by omega), List.drop_eq_getElem_cons (show k * 2 + 1 < cs.length by omega), mks, show (k + 1) * 2 = k * 2 + 1 + 1 by omega, List.append_assoc]
  rfl
/-- a list that reads as marks -/
def Mk (w : World) (v : Value) (m : Int) : Prop := ∃ a n c, v = .slice a n c ∧ n ≤ 9223372036854775807 ∧ ∀ j, j < n → ∃ g, a = some ⟨g, 0, none⟩ ∧ g < w.heap.size ∧ w.cell? ⟨g, j * 2, none⟩ = some (.int .i64 m) ∧ w.cell? ⟨g, j * 2 + 1, none⟩ = some (.int .i64 0)
theorem Mk.kept {w w' : World} {v : Value} {m : Int} (h : Mk w v m) (hs : w.heap.size ≤ w'.heap.size) (hb : ∀ k, v.ownBlock = some k → k < w.heap.size → w'.heap[k]? = w.heap[k]?) : Mk w' v m := by
  obtain ⟨a, n, c, rfl, h1, h2⟩ := h
  refine ⟨a, n, c, rfl, h1, fun j hj => ?_⟩
  obtain ⟨g, rfl, h3, h4, h5⟩ := h2 j hj
  have e := hb g rfl h3
  exact ⟨g, rfl, by omega, (World.cell?_of_block (a := ⟨g, j * 2, none⟩) e).trans h4, (World.cell?_of_block (a := ⟨g, j * 2 + 1, none⟩) e).trans h5⟩
theorem OwnM.mk {w : World} {v : Value} {n : Nat} {m : Int} (h : OwnM 2 w v n (mks n m)) : Mk w v m := by
  obtain ⟨a, c, e, h1, h2⟩ := h.shape
  refine ⟨a, n, c, e, by omega, fun j hj => ?_⟩
  obtain ⟨g, c', e1, h3, h4⟩ := h.cell (mks_at m n j hj).1
  obtain ⟨g', c'', e2, h5, _⟩ := h.cell (mks_at m n j hj).2
  rw [e1] at e e2
  injection e with e3
  injection e2 with e4
  injection e4 with e4
  injection e4 with e4
  subst e4
  exact ⟨g, e3.symm, h4, h3, h5⟩
end Go.Proofs.YtappjeepajjioaaDoor

namespace Go.Proofs.YtappjeepajjioaaDoor
open Go.RowKit Go.Shelf

/-- the book while still looks at it: p lists were marked; ls is what it has marked, vl the list of these -/
structure Cb (B0 X gh gw : Nat) (F : Value → Array Value) (hv wv : List Value) (Ws : List (List (Nat × Nat))) (w0 : World) (ρ : Nat → Nat) (w : World) (p : Nat) (vl : Value) (ls : List Value) : Prop where
  bel : Below B0 w0 w
  low : ∀ k, k < B0 → ρ k = 0
  row : w.heap[X]? = some (.cells (F vl) 29 (0, 0))
  rX : ρ X = 1
  hr : w.rangeAt gh 0 hv
  rh : ρ gh = 0
  lh : gh < w.heap.size
  wr : w.rangeAt gw 0 wv
  rw_ : ρ gw = 0
  lw : gw < w.heap.size
  want : ∀ (j : Nat) (W : List (Nat × Nat)), Ws[j]? = some W → ∃ a c, wv[j]? = some (.slice a W.length c) ∧ AtP w a (pm W) ∧ ∀ x : Addr, a = some x → x.block < w.heap.size ∧ ρ x.block = 0
  own : ∀ (j : Nat) (W : List (Nat × Nat)), p ≤ j → Ws[j]? = some W → ∃ v, hv[j]? = some v ∧ OwnP w v W ∧ ∀ k, v.ownBlock = some k → ρ k = 3 + j
  ol : OwnM 1 w vl ls.length ls
  rl : ∀ k, vl.ownBlock = some k → ρ k = 2
  mrk : ∀ (t : Nat) (v : Value), ls[t]? = some v → Mk w v (-5 - ((40 * (t / 40) : Nat) : Int)) ∧ ∀ k, v.ownBlock = some k → k < w.heap.size ∧ ρ k = 3 + t / 40
theorem AtP.kept {w w' : World} {a : Option Addr} {l : List (Int × Int)} (h : AtP w a l) (hs : w.heap.size ≤ w'.heap.size) (hb : ∀ x : Addr, a = some x → x.block < w.heap.size → w'.heap[x.block]? = w.heap[x.block]?) : AtP w' a l := fun j q hq => by
  obtain ⟨g, e, h1, h2, h3⟩ := h j q hq
  have e2 := hb _ e h1
  exact ⟨g, e, by omega, (World.cell?_of_block (a := ⟨g, j * 2, none⟩) e2).trans h2, (World.cell?_of_block (a := ⟨g, j * 2 + 1, none⟩) e2).trans h3⟩
theorem Wr.bel {ρ : Nat → Nat} {r B0 : Nat} {w0 w w' : World} (h : Wr ρ r w w') (hb : Below B0 w0 w) (hB : B0 ≤ w0.heap.size) (hl : ∀ k, k < B0 → ρ k = 0) (hr : r ≠ 0) : Below B0 w0 w' :=
  hb.trans ⟨h.os, h.tape, h.output, h.size, fun k hk => h.block k (by have := hb.size; omega) (by rw [hl k hk]; exact fun e => hr e.symm)⟩
/-- one role is written; what is new has whatever role -/
theorem Cb.step {B0 X gh gw : Nat} {F : Value → Array Value} {hv wv : List Value} {Ws : List (List (Nat × Nat))} {w0 w w' : World} {ρ : Nat → Nat} {p p' r : Nat} {vl : Value} {ls : List Value} (h : Cb B0 X gh gw F hv wv Ws w0 ρ w p vl ls) (hB : B0 ≤ w0.heap.size) (hw : Wr ρ r w w') (h3 : 3 ≤ r) (hp : p ≤ p') (ρ' : Nat → Nat) (hρ : ∀ k, k < w.heap.size → ρ' k = ρ k)
    (hj : ∀ (j : Nat) (v : Value) (W : List (Nat × Nat)), p' ≤ j → r = 3 + j → OwnP w v W → OwnP w' v W)
    (hm : ∀ (t : Nat) (v : Value), ls[t]? = some v → r = 3 + t / 40 → Mk w v (-5 - ((40 * (t / 40) : Nat) : Int)) → Mk w' v (-5 - ((40 * (t / 40) : Nat) : Int))) : Cb B0 X gh gw F hv wv Ws w0 ρ' w' p' vl ls where
  bel := hw.bel h.bel hB h.low (by omega)
  low := fun k hk => by rw [hρ k (by have := h.bel.size; omega)]; exact h.low k hk
  row := (hw.block X (lt_of_heap h.row) (by rw [h.rX]; omega)).trans h.row
  rX := by rw [hρ X (lt_of_heap h.row)]; exact h.rX
  hr := rangeAt_heap h.hr (hw.block gh h.lh (by rw [h.rh]; omega))
  rh := by rw [hρ _ h.lh]; exact h.rh
  lh := Nat.lt_of_lt_of_le h.lh hw.size
  wr := rangeAt_heap h.wr (hw.block gw h.lw (by rw [h.rw_]; omega))
  rw_ := by rw [hρ _ h.lw]; exact h.rw_
  lw := Nat.lt_of_lt_of_le h.lw hw.size
  want := fun j W e => by
    obtain ⟨a, c, e1, e2, e3⟩ := h.want j W e
    exact ⟨a, c, e1, e2.kept hw.size (fun x hx hlt => hw.block _ hlt (by rw [(e3 x hx).2]; omega)), fun x hx => ⟨Nat.lt_of_lt_of_le (e3 x hx).1 hw.size, by rw [hρ _ (e3 x hx).1]; exact (e3 x hx).2⟩⟩
  own := fun j W hpj e => by
    obtain ⟨v, e1, e2, e3⟩ := h.own j W (by omega) e
    refine ⟨v, e1, ?_, fun k hk => by rw [hρ _ (e2.lt k hk)]; exact e3 k hk⟩
    by_cases hr : r = 3 + j
    · exact hj j v W hpj hr e2
    · exact e2.kept hw.size (fun g hg => hw.block g (e2.lt g hg) (by rw [e3 g hg]; exact fun e => hr e.symm))
  ol := h.ol.kept hw.size (fun g hg => hw.block g (h.ol.lt g hg) (by rw [h.rl g hg]; omega))
  rl := fun k hk => by rw [hρ _ (h.ol.lt k hk)]; exact h.rl k hk
  mrk := fun t v e => by
    obtain ⟨e1, e2⟩ := h.mrk t v e
    refine ⟨?_, fun k hk => ⟨Nat.lt_of_lt_of_le (e2 k hk).1 hw.size, by rw [hρ _ (e2 k hk).1]; exact (e2 k hk).2⟩⟩
    by_cases hr : r = 3 + t / 40
    · exact hm t v e hr e1
    · exact e1.kept hw.size (fun k hk hlt => hw.block k hlt (by rw [(e2 k hk).2]; exact fun e => hr e.symm))
theorem Cb.below {B0 X gh gw : Nat} {F : Value → Array Value} {hv wv : List Value} {Ws : List (List (Nat × Nat))} {w0 w w' : World} {ρ : Nat → Nat} {p : Nat} {vl : Value} {ls : List Value} (h : Cb B0 X gh gw F hv wv Ws w0 ρ w p vl ls) (hB : B0 ≤ w0.heap.size) (hb : Below w.heap.size w w') : Cb B0 X gh gw F hv wv Ws w0 (rx ρ w 0) w' p vl ls :=
  h.step hB (Wr.below (r := 3) hb) (Nat.le_refl _) (Nat.le_refl _) _ (fun _ hk => rx_old hk) (fun _ _ _ _ _ e => e.below hb) (fun _ _ _ _ e => e.kept hb.size (fun k _ hlt => hb.block k hlt))
/-- a list of lists grows by one -/
theorem Cb.push {B0 X gh gw : Nat} {F : Value → Array Value} {hv wv : List Value} {Ws : List (List (Nat × Nat))} {w0 w w' : World} {ρ : Nat → Nat} {p ix : Nat} {vl vl' : Value} {ls : List Value} (h : Cb B0 X gh gw F hv wv Ws w0 ρ w p vl ls) (hB : B0 ≤ w0.heap.size) (hF : ∀ v v', (F v).setIfInBounds ix v' = F v')
    (hg : Grow w w' vl vl') {u : Value} (ho : OwnM 1 w' vl' (ls.length + 1) (ls ++ [u])) (hu : Mk w u (-5 - ((40 * (ls.length / 40) : Nat) : Int))) (hur : ∀ k, u.ownBlock = some k → k < w.heap.size ∧ ρ k = 3 + ls.length / 40) :
    Cb B0 X gh gw F hv wv Ws w0 (rx ρ w 2) (w'.setCell ⟨X, ix, none⟩ vl') p vl' (ls ++ [u]) := by
  have hw : Wr ρ 2 w w' := Wr.grow hg h.rl
  have hXl := lt_of_heap h.row
  have hrX : rx ρ w 2 X = 1 := by rw [rx_old hXl]; exact h.rX
  have row1 := (hw.block X hXl (by rw [h.rX]; omega)).trans h.row
  have e0 := setCell_eq_setRow w' X ix (F vl) 29 (0, 0) vl' row1
  have hset : ∀ k, k ≠ X → (w'.setCell ⟨X, ix, none⟩ vl').heap[k]? = w'.heap[k]? := fun k hk => heap_setCell_other w' ⟨X, ix, none⟩ k vl' hk
  have hsz : (w'.setCell ⟨X, ix, none⟩ vl').heap.size = w'.heap.size := by simp [World.setCell]
  have both : ∀ k, k < w.heap.size → ρ k ≠ 2 → ρ k ≠ 1 → (w'.setCell ⟨X, ix, none⟩ vl').heap[k]? = w.heap[k]? := fun k hk h2 h1 => (hset k (fun e => h1 (by rw [e]; exact h.rX))).trans (hw.block k hk h2)
  have hs2 : w.heap.size ≤ (w'.setCell ⟨X, ix, none⟩ vl').heap.size := by rw [hsz]; exact hw.size
  constructor
  case bel => exact (hw.bel h.bel hB h.low (by omega)).setCell (p := ⟨X, ix, none⟩) (by
      show B0 ≤ X
      rcases Nat.lt_or_ge X B0 with e | e
      · have := h.low X e; rw [h.rX] at this; omega
      · exact e) _
  case low => exact fun k hk => by rw [rx_old (by have := h.bel.size; omega)]; exact h.low k hk
  case row =>
    rw [e0, setRow_heap _ _ _ _ _ _ row1]
    exact congrArg (fun A => some (Obj.cells A 29 (0, 0))) (hF _ _)
  case rX => exact hrX
  case hr => exact rangeAt_heap h.hr (both gh h.lh (by rw [h.rh]; omega) (by rw [h.rh]; omega))
  case rh => rw [rx_old h.lh]; exact h.rh
  case lh => exact Nat.lt_of_lt_of_le h.lh hs2
  case wr => exact rangeAt_heap h.wr (both gw h.lw (by rw [h.rw_]; omega) (by rw [h.rw_]; omega))
  case rw_ => rw [rx_old h.lw]; exact h.rw_
  case lw => exact Nat.lt_of_lt_of_le h.lw hs2
  case want =>
    intro j W e
    obtain ⟨a, c, e1, e2, e3⟩ := h.want j W e
    exact ⟨a, c, e1, e2.kept hs2 (fun x hx hlt => both _ hlt (by rw [(e3 x hx).2]; omega) (by rw [(e3 x hx).2]; omega)), fun x hx => ⟨Nat.lt_of_lt_of_le (e3 x hx).1 hs2, by rw [rx_old (e3 x hx).1]; exact (e3 x hx).2⟩⟩
  case own =>
    intro j W hpj e
    obtain ⟨v, e1, e2, e3⟩ := h.own j W hpj e
    exact ⟨v, e1, e2.kept hs2 (fun g hg => both g (e2.lt g hg) (by rw [e3 g hg]; omega) (by rw [e3 g hg]; omega)), fun k hk => by rw [rx_old (e2.lt k hk)]; exact e3 k hk⟩
  case ol =>
    rw [List.length_append]
    refine OwnM.kept ho (Nat.le_of_eq hsz.symm) (fun g hg' => hset g (fun e => ?_))
    have := Wr.own hg h.rl h.ol.lt g hg'
    rw [e, hrX] at this
    omega
  case rl => exact Wr.own hg h.rl h.ol.lt
  case mrk =>
    intro t v e
    rw [List.getElem?_append] at e
    split at e
    · obtain ⟨e1, e2⟩ := h.mrk t v e
      exact ⟨e1.kept hs2 (fun k hk hlt => both k hlt (by rw [(e2 k hk).2]; omega) (by rw [(e2 k hk).2]; omega)), fun k hk => ⟨Nat.lt_of_lt_of_le (e2 k hk).1 hs2, by rw [rx_old (e2 k hk).1]; exact (e2 k hk).2⟩⟩
    · next hlt =>
      obtain rfl : t = ls.length := by
        have := (List.getElem?_eq_some_iff.1 e).1
        simp at this
        omega
      rw [Nat.sub_self] at e
      obtain rfl : u = v := Option.some.inj e
      exact ⟨hu.kept hs2 (fun k hk hlt => both k hlt (by rw [(hur k hk).2]; omega) (by rw [(hur k hk).2]; omega)), fun k hk => ⟨Nat.lt_of_lt_of_le (hur k hk).1 hs2, by rw [rx_old (hur k hk).1]; exact (hur k hk).2⟩⟩
end Go.Proofs.YtappjeepajjioaaDoor

namespace Go.Proofs.YtappjeepajjioaaDoor
open Go.RowKit Go.Shelf
namespace Chn

/-- the book while still looks at it: p lists were marked; ls is what it has marked, vl the list of these -/
structure Cb (B0 X gh gw : Nat) (F : Value → Array Value) (hv wv : List Value) (Ws : List (List (Nat × Nat))) (w0 : World) (ρ : Nat → Nat) (w : World) (p : Nat) (vl : Value) (ls : List Value) : Prop where
  bel : Below B0 w0 w
  low : ∀ k, k < B0 → ρ k = 0
  row : w.heap[X]? = some (.cells (F vl) 29 (0, 0))
  rX : ρ X = 1
  hr : w.rangeAt gh 0 hv
  rh : ρ gh = 0
  lh : gh < w.heap.size
  wr : w.rangeAt gw 0 wv
  rw_ : ρ gw = 0
  lw : gw < w.heap.size
  want : ∀ (j : Nat) (W : List (Nat × Nat)), Ws[j]? = some W → ∃ a c, wv[j]? = some (.slice a W.length c) ∧ AtP w a (pm W) ∧ ∀ x : Addr, a = some x → x.block < w.heap.size ∧ ρ x.block = 0
  own : ∀ (j : Nat) (W : List (Nat × Nat)), p ≤ j → Ws[j]? = some W → ∃ v, hv[j]? = some v ∧ OwnP w v W ∧ ∀ k, v.ownBlock = some k → ρ k = 3 + j
  ol : OwnM 1 w vl ls.length ls
  rl : ∀ k, vl.ownBlock = some k → ρ k = 2
  mrk : ∀ (t : Nat) (v : Value), ls[t]? = some v → Mk w v (-5 - (((t / 40) : Nat) : Int)) ∧ ∀ k, v.ownBlock = some k → k < w.heap.size ∧ ρ k = 3 + t / 40
/-- one role is written; what is new has whatever role -/
theorem Cb.step {B0 X gh gw : Nat} {F : Value → Array Value} {hv wv : List Value} {Ws : List (List (Nat × Nat))} {w0 w w' : World} {ρ : Nat → Nat} {p p' r : Nat} {vl : Value} {ls : List Value} (h : Cb B0 X gh gw F hv wv Ws w0 ρ w p vl ls) (hB : B0 ≤ w0.heap.size) (hw : Wr ρ r w w') (h3 : 3 ≤ r) (hp : p ≤ p') (ρ' : Nat → Nat) (hρ : ∀ k, k < w.heap.size → ρ' k = ρ k)
    (hj : ∀ (j : Nat) (v : Value) (W : List (Nat × Nat)), p' ≤ j → r = 3 + j → OwnP w v W → OwnP w' v W)
    (hm : ∀ (t : Nat) (v : Value), ls[t]? = some v → r = 3 + t / 40 → Mk w v (-5 - (((t / 40) : Nat) : Int)) → Mk w' v (-5 - (((t / 40) : Nat) : Int))) : Cb B0 X gh gw F hv wv Ws w0 ρ' w' p' vl ls where
  bel := hw.bel h.bel hB h.low (by omega)
  low := fun k hk => by rw [hρ k (by have := h.bel.size; omega)]; exact h.low k hk
  row := (hw.block X (lt_of_heap h.row) (by rw [h.rX]; omega)).trans h.row
  rX := by rw [hρ X (lt_of_heap h.row)]; exact h.rX
  hr := rangeAt_heap h.hr (hw.block gh h.lh (by rw [h.rh]; omega))
  rh := by rw [hρ _ h.lh]; exact h.rh
  lh := Nat.lt_of_lt_of_le h.lh hw.size
  wr := rangeAt_heap h.wr (hw.block gw h.lw (by rw [h.rw_]; omega))
  rw_ := by rw [hρ _ h.lw]; exact h.rw_
  lw := Nat.lt_of_lt_of_le h.lw hw.size
  want := fun j W e => by
    obtain ⟨a, c, e1, e2, e3⟩ := h.want j W e
    exact ⟨a, c, e1, e2.kept hw.size (fun x hx hlt => hw.block _ hlt (by rw [(e3 x hx).2]; omega)), fun x hx => ⟨Nat.lt_of_lt_of_le (e3 x hx).1 hw.size, by rw [hρ _ (e3 x hx).1]; exact (e3 x hx).2⟩⟩
  own := fun j W hpj e => by
    obtain ⟨v, e1, e2, e3⟩ := h.own j W (by omega) e
    refine ⟨v, e1, ?_, fun k hk => by rw [hρ _ (e2.lt k hk)]; exact e3 k hk⟩
    by_cases hr : r = 3 + j
    · exact hj j v W hpj hr e2
    · exact e2.kept hw.size (fun g hg => hw.block g (e2.lt g hg) (by rw [e3 g hg]; exact fun e => hr e.symm))
  ol := h.ol.kept hw.size (fun g hg => hw.block g (h.ol.lt g hg) (by rw [h.rl g hg]; omega))
  rl := fun k hk => by rw [hρ _ (h.ol.lt k hk)]; exact h.rl k hk
  mrk := fun t v e => by
    obtain ⟨e1, e2⟩ := h.mrk t v e
    refine ⟨?_, fun k hk => ⟨Nat.lt_of_lt_of_le (e2 k hk).1 hw.size, by rw [hρ _ (e2 k hk).1]; exact (e2 k hk).2⟩⟩
    by_cases hr : r = 3 + t / 40
    · exact hm t v e hr e1
    · exact e1.kept hw.size (fun k hk hlt => hw.block k hlt (by rw [(e2 k hk).2]; exact fun e => hr e.symm))
theorem Cb.below {B0 X gh gw : Nat} {F : Value → Array Value} {hv wv : List Value} {Ws : List (List (Nat × Nat))} {w0 w w' : World} {ρ : Nat → Nat} {p : Nat} {vl : Value} {ls : List Value} (h : Cb B0 X gh gw F hv wv Ws w0 ρ w p vl ls) (hB : B0 ≤ w0.heap.size) (hb : Below w.heap.size w w') : Cb B0 X gh gw F hv wv Ws w0 (rx ρ w 0) w' p vl ls :=
  h.step hB (Wr.below (r := 3) hb) (Nat.le_refl _) (Nat.le_refl _) _ (fun _ hk => rx_old hk) (fun _ _ _ _ _ e => e.below hb) (fun _ _ _ _ e => e.kept hb.size (fun k _ hlt => hb.block k hlt))
/-- a list of lists grows by one -/
theorem Cb.push {B0 X gh gw : Nat} {F : Value → Array Value} {hv wv : List Value} {Ws : List (List (Nat × Nat))} {w0 w w' : World} {ρ : Nat → Nat} {p ix : Nat} {vl vl' : Value} {ls : List Value} (h : Cb B0 X gh gw F hv wv Ws w0 ρ w p vl ls) (hB : B0 ≤ w0.heap.size) (hF : ∀ v v', (F v).setIfInBounds ix v' = F v')
    (hg : Grow w w' vl vl') {u : Value} (ho : OwnM 1 w' vl' (ls.length + 1) (ls ++ [u])) (hu : Mk w u (-5 - (((ls.length / 40) : Nat) : Int))) (hur : ∀ k, u.ownBlock = some k → k < w.heap.size ∧ ρ k = 3 + ls.length / 40) :
    Cb B0 X gh gw F hv wv Ws w0 (rx ρ w 2) (w'.setCell ⟨X, ix, none⟩ vl') p vl' (ls ++ [u]) := by
  have hw : Wr ρ 2 w w' := Wr.grow hg h.rl
  have hXl := lt_of_heap h.row
  have hrX : rx ρ w 2 X = 1 := by rw [rx_old hXl]; exact h.rX
  have row1 := (hw.block X hXl (by rw [h.rX]; omega)).trans h.row
  have e0 := setCell_eq_setRow w' X ix (F vl) 29 (0, 0) vl' row1
  have hset : ∀ k, k ≠ X → (w'.setCell ⟨X, ix, none⟩ vl').heap[k]? = w'.heap[k]? := fun k hk => heap_setCell_other w' ⟨X, ix, none⟩ k vl' hk
  have hsz : (w'.setCell ⟨X, ix, none⟩ vl').heap.size = w'.heap.size := by simp [World.setCell]
  have both : ∀ k, k < w.heap.size → ρ k ≠ 2 → ρ k ≠ 1 → (w'.setCell ⟨X, ix, none⟩ vl').heap[k]? = w.heap[k]? := fun k hk h2 h1 => (hset k (fun e => h1 (by rw [e]; exact h.rX))).trans (hw.block k hk h2)
  have hs2 : w.heap.size ≤ (w'.setCell ⟨X, ix, none⟩ vl').heap.size := by rw [hsz]; exact hw.size
  constructor
  case bel => exact (hw.bel h.bel hB h.low (by omega)).setCell (p := ⟨X, ix, none⟩) (by
      show B0 ≤ X
      rcases Nat.lt_or_ge X B0 with e | e
      · have := h.low X e; rw [h.rX] at this; omega
      · exact e) _
  case low => exact fun k hk => by rw [rx_old (by have := h.bel.size; omega)]; exact h.low k hk
  case row =>
    rw [e0, setRow_heap _ _ _ _ _ _ row1]
    exact congrArg (fun A => some (Obj.cells A 29 (0, 0))) (hF _ _)
  case rX => exact hrX
  case hr => exact rangeAt_heap h.hr (both gh h.lh (by rw [h.rh]; omega) (by rw [h.rh]; omega))
  case rh => rw [rx_old h.lh]; exact h.rh
  case lh => exact Nat.lt_of_lt_of_le h.lh hs2
  case wr => exact rangeAt_heap h.wr (both gw h.lw (by rw [h.rw_]; omega) (by rw [h.rw_]; omega))
  case rw_ => rw [rx_old h.lw]; exact h.rw_
  case lw => exact Nat.lt_of_lt_of_le h.lw hs2
  case want =>
    intro j W e
    obtain ⟨a, c, e1, e2, e3⟩ := h.want j W e
    exact ⟨a, c, e1, e2.kept hs2 (fun x hx hlt => both _ hlt (by rw [(e3 x hx).2]; omega) (by rw [(e3 x hx).2]; omega)), fun x hx => ⟨Nat.lt_of_lt_of_le (e3 x hx).1 hs2, by rw [rx_old (e3 x hx).1]; exact (e3 x hx).2⟩⟩
  case own =>
    intro j W hpj e
    obtain ⟨v, e1, e2, e3⟩ := h.own j W hpj e
    exact ⟨v, e1, e2.kept hs2 (fun g hg => both g (e2.lt g hg) (by rw [e3 g hg]; omega) (by rw [e3 g hg]; omega)), fun k hk => by rw [rx_old (e2.lt k hk)]; exact e3 k hk⟩
  case ol =>
    rw [List.length_append]
    refine OwnM.kept ho (Nat.le_of_eq hsz.symm) (fun g hg' => hset g (fun e => ?_))
    have := Wr.own hg h.rl h.ol.lt g hg'
    rw [e, hrX] at this
    omega
  case rl => exact Wr.own hg h.rl h.ol.lt
  case mrk =>
    intro t v e
    rw [List.getElem?_append] at e
    split at e
    · obtain ⟨e1, e2⟩ := h.mrk t v e
      exact ⟨e1.kept hs2 (fun k hk hlt => both k hlt (by rw [(e2 k hk).2]; omega) (by rw [(e2 k hk).2]; omega)), fun k hk => ⟨Nat.lt_of_lt_of_le (e2 k hk).1 hs2, by rw [rx_old (e2 k hk).1]; exact (e2 k hk).2⟩⟩
    · next hlt =>
      obtain rfl : t = ls.length := by
        have := (List.getElem?_eq_some_iff.1 e).1
        simp at this
        omega
      rw [Nat.sub_self] at e
      obtain rfl : u = v := Option.some.inj e
      exact ⟨hu.kept hs2 (fun k hk hlt => both k hlt (by rw [(hur k hk).2]; omega) (by rw [(hur k hk).2]; omega)), fun k hk => ⟨Nat.lt_of_lt_of_le (hur k hk).1 hs2, by rw [rx_old (hur k hk).1]; exact (hur k hk).2⟩⟩
end Chn
end Go.Proofs.YtappjeepajjioaaDoor
