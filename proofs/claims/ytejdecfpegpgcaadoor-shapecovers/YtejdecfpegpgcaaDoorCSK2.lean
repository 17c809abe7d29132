import Derived.Test.YtejdecfpegpgcaaDoorCSL5
namespace Go.Proofs.YtejdecfpegpgcaaDoor
open Go.RowKit Go.Shelf

/-- the book while still looks at it: p lists were marked; ls is what it has marked, vl the list of these -/
structure Cb (B0 X gh gw : Nat) (F : Value → Array Value) (hv wv : List Value) (Ws : List (List (Nat × Nat))) (w0 : World) (ρ : Nat → Nat) (w : World) (p : Nat) (vl : Value) (ls : List Value) : Prop where
  bel : Below B0 w0 w
  low : ∀ k, k < B0 → ρ k = 0
  row : w.heap[X]? = some (.cells (F vl) 33 (0, 0))
  rX : ρ X = 1
  hr : w.rangeAt gh 0 hv
  rh : ρ gh = 0
  lh : gh < w.heap.size
  wr : w.rangeAt gw 0 wv
  rw_ : ρ gw = 0
  lw : gw < w.heap.size
  want : ∀ (j : Nat) (W : List (Nat × Nat)), Ws[j]? = some W → ∃ a c, wv[j]? = some (.slice a W.length c) ∧ AtP w a (pm W) ∧ ∀ x : Addr, a = some x → x.block < w.heap.size ∧ ρ x.block = 0
  own : ∀ (j : Nat) (W : List (Nat × Nat)), p ≤ j → Ws[j]? = some W → ∃ v, hv[j]? = some v ∧ OwnP w v W ∧ ∀ k, v.ownBlock = some k → ρ k = 3 + j
  ol : OwnM 1 w vl ls.length ls
  rl : ∀ k, vl.ownBlock = some k → ρ k = 2
  mrk : ∀ (t : Nat) (v : Value), ls[t]? = some v → Mk w v (-5 - ((40 * (t / 40) : Nat) : Int)) ∧ ∀ k, v.ownBlock = some k → k < w.heap.size ∧ ρ k = 3 + t / 40
theorem AtP.kept {w w' : World} {a : Option Addr} {l : List (Int × Int)} (h : AtP w a l) (hs : w.heap.size ≤ w'.heap.size) (hb : ∀ x : Addr, a = some x → x.block < w.heap.size → w'.heap[x.block]? = w.heap[x.block]?) : AtP w' a l := fun j q hq => by
  obtain ⟨g, e, h1, h2, h3⟩ := h j q hq
  have e2 := hb _ e h1
  exact ⟨g, e, by omega, (World.cell?_of_block (a := ⟨g, j * 2, none⟩) e2).trans h2, (World.cell?_of_block (a := ⟨g, j * 2 + 1, none⟩) e2).trans h3⟩
theorem Wr.bel {ρ : Nat → Nat} {r B0 : Nat} {w0 w w' : World} (h : Wr ρ r w w') (hb : Below B0 w0 w) (hB : B0 ≤ w0.heap.size) (hl : ∀ k, k < B0 → ρ k = 0) (hr : r ≠ 0) : Below B0 w0 w' :=
  hb.trans ⟨h.os, h.tape, h.output, h.size, fun k hk => h.block k (by have := hb.size; omega) (by rw [hl k hk]; exact fun e => hr e.symm)⟩
/-- one role is written; what is new has whatever role -/
theorem Cb.step {B0 X gh gw : Nat} {F : Value → Array Value} {hv wv : List Value} {Ws : List (List (Nat × Nat))} {w0 w w' : World} {ρ : Nat → Nat} {p p' r : Nat} {vl : Value} {ls : List Value} (h : Cb B0 X gh gw F hv wv Ws w0 ρ w p vl ls) (hB : B0 ≤ w0.heap.size) (hw : Wr ρ r w w') (h3 : 3 ≤ r) (hp : p ≤ p') (ρ' : Nat → Nat) (hρ : ∀ k, k < w.heap.size → ρ' k = ρ k)
    (hj : ∀ (j : Nat) (v : Value) (W : List (Nat × Nat)), p' ≤ j → r = 3 + j → OwnP w v W → OwnP w' v W)
    (hm : ∀ (t : Nat) (v : Value), ls[t]? = some v → r = 3 + t / 40 → Mk w v (-5 - ((40 * (t / 40) : Nat) : Int)) → Mk w' v (-5 - ((40 * (t / 40) : Nat) : Int))) : Cb B0 X gh gw F hv wv Ws w0 ρ' w' p' vl ls where
  bel := hw.bel h.bel hB h.low (by omega)
  low := fun k hk => by rw [hρ k (by have := h.bel.size; omega)]; exact h.low k hk
  row := (hw.block X (lt_of_heap h.row) (by rw [h.rX]; omega)).trans h.row
  rX := by rw [hρ X (lt_of_heap h.row)]; exact h.rX
  hr := rangeAt_heap h.hr (hw.block gh h.lh (by rw [h.rh]; omega))
  rh := by rw [hρ _ h.lh]; exact h.rh
  lh := Nat.lt_of_lt_of_le h.lh hw.size
  wr := rangeAt_heap h.wr (hw.block gw h.lw (by rw [h.rw_]; omega))
  rw_ := by rw [hρ _ h.lw]; exact h.rw_
  lw := Nat.lt_of_lt_of_le h.lw hw.size
  want := fun j W e => by
    obtain ⟨a, c, e1, e2, e3⟩ := h.want j W e
    exact ⟨a, c, e1, e2.kept hw.size (fun x hx hlt => hw.block _ hlt (by rw [(e3 x hx).2]; omega)), fun x hx => ⟨Nat.lt_of_lt_of_le (e3 x hx).1 hw.size, by rw [hρ _ (e3 x hx).1]; exact (e3 x hx).2⟩⟩
  own := fun j W hpj e => by
    obtain ⟨v, e1, e2, e3⟩ := h.own j W (by omega) e
    refine ⟨v, e1, ?_, fun k hk => by rw [hρ _ (e2.lt k hk)]; exact e3 k hk⟩
    by_cases hr : r = 3 + j
    · exact hj j v W hpj hr e2
    · exact e2.kept hw.size (fun g hg => hw.block g (e2.lt g hg) (by rw [e3 g hg]; exact fun e => hr e.symm))
  ol := h.ol.kept hw.size (fun g hg => hw.block g (h.ol.lt g hg) (by rw [h.rl g hg]; omega))
  rl := fun k hk => by rw [hρ _ (h.ol.lt k hk)]; exact h.rl k hk
  mrk := fun t v e => by
    obtain ⟨e1, e2⟩ := h.mrk t v e
    refine ⟨?_, fun k hk => ⟨Nat.lt_of_lt_of_le (e2 k hk).1 hw.size, by rw [hρ _ (e2 k hk).1]; exact (e2 k hk).2⟩⟩
    by_cases hr : r = 3 + t / 40
    · exact hm t v e hr e1
    · exact e1.kept hw.size (fun k hk hlt => hw.block k hlt (by rw [(e2 k hk).2]; exact fun e => hr e.symm))
theorem Cb.below {B0 X gh gw : Nat} {F : Value → Array Value} {hv wv : List Value} {Ws : List (List (Nat × Nat))} {w0 w w' : World} {ρ : Nat → Nat} {p : Nat} {vl : Value} {ls : List Value} (h : Cb B0 X gh gw F hv wv Ws w0 ρ w p vl ls) (hB : B0 ≤ w0.heap.size) (hb : Below w.heap.size w w') : Cb B0 X gh gw F hv wv Ws w0 (rx ρ w 0) w' p vl ls :=
  h.step hB (Wr.below (r := 3) hb) (Nat.le_refl _) (Nat.le_refl _) _ (fun _ hk => rx_old hk) (fun _ _ _ _ _ e => e.below hb) (fun _ _ _ _ e => e.kept hb.size (fun k _ hlt => hb.block k hlt))
/-- a list of lists grows by one -/
theorem Cb.push {B0 X gh gw : Nat} {F : Value → Array Value} {hv wv : List Value} {Ws : List (List (Nat × Nat))} {w0 w w' : World} {ρ : Nat → Nat} {p ix : Nat} {vl vl' : Value} {ls : List Value} (h : Cb B0 X gh gw F hv wv Ws w0 ρ w p vl ls) (hB : B0 ≤ w0.heap.size) (hF : ∀ v v', (F v).setIfInBounds ix v' = F v')
    (hg : Grow w w' vl vl') {u : Value} (ho : OwnM 1 w' vl' (ls.length + 1) (ls ++ [u])) (hu : Mk w u (-5 - ((40 * (ls.length / 40) : Nat) : Int))) (hur : ∀ k, u.ownBlock = some k → k < w.heap.size ∧ ρ k = 3 + ls.length / 40) :
    Cb B0 X gh gw F hv wv Ws w0 (rx ρ w 2) (w'.setCell ⟨X, ix, none⟩ vl') p vl' (ls ++ [u]) := by
  have hw : Wr ρ 2 w w' := Wr.grow hg h.rl
  have hXl := lt_of_heap h.row
  have hrX : rx ρ w 2 X = 1 := by rw [rx_old hXl]; exact h.rX
  have row1 := (hw.block X hXl (by rw [h.rX]; omega)).trans h.row
  have e0 := setCell_eq_setRow w' X ix (F vl) 33 (0, 0) vl' row1
  have hset : ∀ k, k ≠ X → (w'.setCell ⟨X, ix, none⟩ vl').heap[k]? = w'.heap[k]? := fun k hk => heap_setCell_other w' ⟨X, ix, none⟩ k vl' hk
  have hsz : (w'.setCell ⟨X, ix, none⟩ vl').heap.size = w'.heap.size := by simp [World.setCell]
  have both : ∀ k, k < w.heap.size → ρ k ≠ 2 → ρ k ≠ 1 → (w'.setCell ⟨X, ix, none⟩ vl').heap[k]? = w.heap[k]? := fun k hk h2 h1 => (hset k (fun e => h1 (by rw [e]; exact h.rX))).trans (hw.block k hk h2)
  have hs2 : w.heap.size ≤ (w'.setCell ⟨X, ix, none⟩ vl').heap.size := by rw [hsz]; exact hw.size
  constructor
  case bel => exact (hw.bel h.bel hB h.low (by omega)).setCell (p := ⟨X, ix, none⟩) (by
      show B0 ≤ X
      rcases Nat.lt_or_ge X B0 with e | e
      · have := h.low X e; rw [h.rX] at this; omega
      · exact e) _
  case low => exact fun k hk => by rw [rx_old (by have := h.bel.size; omega)]; exact h.low k hk
  case row =>
    rw [e0, setRow_heap _ _ _ _ _ _ row1]
    exact congrArg (fun A => some (Obj.cells A 33 (0, 0))) (hF _ _)
  case rX => exact hrX
  case hr => exact rangeAt_heap h.hr (both gh h.lh (by rw [h.rh]; omega) (by rw [h.rh]; omega))
  case rh => rw [rx_old h.lh]; exact h.rh
  case lh => exact Nat.lt_of_lt_of_le h.lh hs2
  case wr => exact rangeAt_heap h.wr (both gw h.lw (by rw [h.rw_]; omega) (by rw [h.rw_]; omega))
  case rw_ => rw [rx_old h.lw]; exact h.rw_
  case lw => exact Nat.lt_of_lt_of_le h.lw hs2
  case want =>
    intro j W e
    obtain ⟨a, c, e1, e2, e3⟩ := h.want j W e
    exact ⟨a, c, e1, e2.kept hs2 (fun x hx hlt => both _ hlt (by rw [(e3 x hx).2]; omega) (by rw [(e3 x hx).2]; omega)), fun x hx => ⟨Nat.lt_of_lt_of_le (e3 x hx).1 hs2, by rw [rx_old (e3 x hx).1]; exact (e3 x hx).2⟩⟩
  case own =>
    intro j W hpj e
    obtain ⟨v, e1, e2, e3⟩ := h.own j W hpj e
    exact ⟨v, e1, e2.kept hs2 (fun g hg => both g (e2.lt g hg) (by rw [e3 g hg]; omega) (by rw [e3 g hg]; omega)), fun k hk => by rw [rx_old (e2.lt k hk)]; exact e3 k hk⟩
  case ol =>
    rw [List.length_append]
    refine OwnM.kept ho (Nat.le_of_eq hsz.symm) (fun g hg' => hset g (fun e => ?_))
    have := Wr.own hg h.rl h.ol.lt g hg'
    rw [e, hrX] at this
    omega
  case rl => exact Wr.own hg h.rl h.ol.lt
  case mrk =>
    intro t v e
    rw [List.getElem?_append] at e
    split at e
    · obtain ⟨e1, e2⟩ := h.mrk t v e
      exact ⟨e1.kept hs2 (fun k hk hlt => both k hlt (by rw [(e2 k hk).2]; omega) (by rw [(e2 k hk).2]; omega)), fun k hk => ⟨Nat.lt_of_lt_of_le (e2 k hk).1 hs2, by rw [rx_old (e2 k hk).1]; exact (e2 k hk).2⟩⟩
    · next hlt =>
      obtain rfl : t = ls.length := by
        have := (List.getElem?_eq_some_iff.1 e).1
        simp at this
        omega
      rw [Nat.sub_self] at e
      obtain rfl : u = v := Option.some.inj e
      exact ⟨hu.kept hs2 (fun k hk hlt => both k hlt (by rw [(hur k hk).2]; omega) (by rw [(hur k hk).2]; omega)), fun k hk => ⟨Nat.lt_of_lt_of_le (hur k hk).1 hs2, by rw [rx_old (hur k hk).1]; exact (hur k hk).2⟩⟩
end Go.Proofs.YtejdecfpegpgcaaDoor

namespace Go.Proofs.YtejdecfpegpgcaaDoor
open Go.RowKit Go.Shelf

theorem Cb.skip {B0 X gh gw : Nat} {F : Value → Array Value} {hv wv : List Value} {Ws : List (List (Nat × Nat))} {w0 w : World} {ρ : Nat → Nat} {p p' : Nat} {vl : Value} {ls : List Value} (h : Cb B0 X gh gw F hv wv Ws w0 ρ w p vl ls) (hp : p ≤ p') : Cb B0 X gh gw F hv wv Ws w0 ρ w p' vl ls :=
  { h with own := fun j W hj e => h.own j W (by omega) e }
/-- the i-th list is being written over: k marks stand -/
structure Ca (B0 X gh gw : Nat) (F : Value → Array Value) (hv wv : List Value) (Ws : List (List (Nat × Nat))) (w0 : World) (ρ : Nat → Nat) (w : World) (i k gm : Nat) (v : Value) (W : List (Nat × Nat)) (vl : Value) (ls : List Value) : Prop where
  cb : Cb B0 X gh gw F hv wv Ws w0 ρ w (i + 1) vl ls
  ov : OwnM 2 w v W.length (mks k (-5 - ((40 * i : Nat) : Int)) ++ (prs W).drop (k * 2))
  rv : ∀ g, v.ownBlock = some g → ρ g = 3 + i
  sp : SpI w gm (-5 - ((40 * i : Nat) : Int)) 0
  rg : ρ gm = 0
  ll : ls.length = 40 * i
theorem Ca.set {B0 X gh gw : Nat} {F : Value → Array Value} {hv wv : List Value} {Ws : List (List (Nat × Nat))} {w0 w : World} {ρ : Nat → Nat} {i k gm g c : Nat} {W : List (Nat × Nat)} {vl : Value} {ls : List Value} (h : Ca B0 X gh gw F hv wv Ws w0 ρ w i k gm (.slice (some ⟨g, 0, none⟩) W.length c) W vl ls) (hB : B0 ≤ w0.heap.size) (hk : k < W.length) :
    Ca B0 X gh gw F hv wv Ws w0 ρ ((w.setCell ⟨g, k * 2, none⟩ (.int .i64 (-5 - ((40 * i : Nat) : Int)))).setCell ⟨g, k * 2 + 1, none⟩ (.int .i64 0)) i (k + 1) gm (.slice (some ⟨g, 0, none⟩) W.length c) W vl ls ∧
    (∃ y, w.cell? ⟨g, k * 2, none⟩ = some y) ∧ w.frozen? ⟨g, k * 2, none⟩ = false ∧ (∃ y, w.cell? ⟨g, k * 2 + 1, none⟩ = some y) ∧ w.frozen? ⟨g, k * 2 + 1, none⟩ = false := by
  have hl := prs_len W
  have hlen : (mks k (-5 - ((40 * i : Nat) : Int)) ++ (prs W).drop (k * 2)).length = W.length * 2 := by rw [List.length_append, mks_len, List.length_drop, hl]; omega
  obtain ⟨o1, y1, f1⟩ := h.ov.set (j := k * 2) (by omega) (.int .i64 (-5 - ((40 * i : Nat) : Int)))
  obtain ⟨_, y2, f2⟩ := h.ov.set (j := k * 2 + 1) (by omega) (.int .i64 0)
  obtain ⟨o2, _, _⟩ := o1.set (j := k * 2 + 1) (by rw [List.length_set]; omega) (.int .i64 0)
  rw [mks_set hl hk] at o2
  have hgl : g < w.heap.size := h.ov.lt g rfl
  have hrg := h.rv g rfl
  have hw : Wr ρ (3 + i) w ((w.setCell ⟨g, k * 2, none⟩ (.int .i64 (-5 - ((40 * i : Nat) : Int)))).setCell ⟨g, k * 2 + 1, none⟩ (.int .i64 0)) := ((Wr.refl ρ (3 + i) w).setCell (fun _ => hrg) _ _).setCell (fun _ => hrg) _ _
  refine ⟨⟨h.cb.step hB hw (by omega) (Nat.le_refl _) ρ (fun _ _ => rfl) (fun j _ _ hj e => by omega) (fun t v e hr => ?_), o2, h.rv, ?_, h.rg, h.ll⟩, y1, f1, y2, f2⟩
  · have := (List.getElem?_eq_some_iff.1 e).1
    rw [h.ll] at this
    omega
  · exact (hw.block gm (lt_of_heap h.sp) (by rw [h.rg]; omega)).trans h.sp
/-- the i-th list is grown: q of its beginnings are kept -/
structure Cu (B0 X gh gw : Nat) (F : Value → Array Value) (hv wv : List Value) (Ws : List (List (Nat × Nat))) (w0 : World) (ρ : Nat → Nat) (w : World) (i q n gm : Nat) (v : Value) (vl : Value) (ls : List Value) : Prop where
  cb : Cb B0 X gh gw F hv wv Ws w0 ρ w (i + 1) vl ls
  ov : OwnM 2 w v n (mks n (-5 - ((40 * i : Nat) : Int)))
  rv : ∀ g, v.ownBlock = some g → ρ g = 3 + i
  sp : SpI w gm (-5 - ((40 * i : Nat) : Int)) 0
  rg : ρ gm = 0
  ll : ls.length = 40 * i + q
  sn : ∀ (t : Nat) (u : Value), ls[t]? = some u → t / 40 = i → ∃ a m c, u = .slice a m c ∧ m ≤ n
theorem Ca.done {B0 X gh gw : Nat} {F : Value → Array Value} {hv wv : List Value} {Ws : List (List (Nat × Nat))} {w0 w : World} {ρ : Nat → Nat} {i gm : Nat} {v : Value} {W : List (Nat × Nat)} {vl : Value} {ls : List Value} (h : Ca B0 X gh gw F hv wv Ws w0 ρ w i W.length gm v W vl ls) : Cu B0 X gh gw F hv wv Ws w0 ρ w i 0 W.length gm v vl ls where
  cb := h.cb
  ov := by
    have := h.ov
    rw [List.drop_eq_nil_of_le (by rw [prs_len]; exact Nat.le_refl _), List.append_nil] at this
    exact this
  rv := h.rv
  sp := h.sp
  rg := h.rg
  ll := h.ll
  sn := fun t u e hr => by
    have := (List.getElem?_eq_some_iff.1 e).1
    rw [h.ll] at this
    omega
theorem Cu.push {B0 X gh gw : Nat} {F : Value → Array Value} {hv wv : List Value} {Ws : List (List (Nat × Nat))} {w0 w w' : World} {ρ : Nat → Nat} {i q n gm ix : Nat} {v vl vl' : Value} {ls : List Value} (h : Cu B0 X gh gw F hv wv Ws w0 ρ w i q n gm v vl ls) (hB : B0 ≤ w0.heap.size) (hF : ∀ v v', (F v).setIfInBounds ix v' = F v') (hq : q < 40)
    (hg : Grow w w' vl vl') (ho : OwnM 1 w' vl' (ls.length + 1) (ls ++ [v])) : Cu B0 X gh gw F hv wv Ws w0 (rx ρ w 2) (w'.setCell ⟨X, ix, none⟩ vl') i (q + 1) n gm v vl' (ls ++ [v]) := by
  have hd : ls.length / 40 = i := by rw [h.ll]; omega
  have hw : Wr ρ 2 w w' := Wr.grow hg h.cb.rl
  have hset : ∀ k, k ≠ X → (w'.setCell ⟨X, ix, none⟩ vl').heap[k]? = w'.heap[k]? := fun k hk => heap_setCell_other w' ⟨X, ix, none⟩ k vl' hk
  have both : ∀ k, k < w.heap.size → ρ k ≠ 2 → ρ k ≠ 1 → (w'.setCell ⟨X, ix, none⟩ vl').heap[k]? = w.heap[k]? := fun k hk h2 h1 => (hset k (fun e => h1 (by rw [e]; exact h.cb.rX))).trans (hw.block k hk h2)
  have hs2 : w.heap.size ≤ (w'.setCell ⟨X, ix, none⟩ vl').heap.size := by simpa [World.setCell] using hw.size
  have hmk := h.ov.mk
  constructor
  case cb => exact h.cb.push hB hF hg ho (by rw [hd]; exact hmk) (fun k hk => ⟨h.ov.lt k hk, by rw [hd]; exact h.rv k hk⟩)
  case ov => exact h.ov.kept hs2 (fun g hg' => both g (h.ov.lt g hg') (by rw [h.rv g hg']; omega) (by rw [h.rv g hg']; omega))
  case rv => exact fun g hg' => by rw [rx_old (h.ov.lt g hg')]; exact h.rv g hg'
  case sp => exact (both gm (lt_of_heap h.sp) (by rw [h.rg]; omega) (by rw [h.rg]; omega)).trans h.sp
  case rg => rw [rx_old (lt_of_heap h.sp)]; exact h.rg
  case ll => rw [List.length_append, h.ll]; rfl
  case sn =>
    intro t u e hr
    rw [List.getElem?_append] at e
    split at e
    · exact h.sn t u e hr
    · obtain ⟨a, c, e1, _, _⟩ := h.ov.shape
      have ht := (List.getElem?_eq_some_iff.1 e).1
      simp at ht
      rw [show t - ls.length = 0 by omega] at e
      obtain rfl : v = u := Option.some.inj e
      exact ⟨a, n, c, e1, Nat.le_refl _⟩
theorem Cu.grow {B0 X gh gw : Nat} {F : Value → Array Value} {hv wv : List Value} {Ws : List (List (Nat × Nat))} {w0 w w' : World} {ρ : Nat → Nat} {i q n gm : Nat} {v v' vl : Value} {ls : List Value} (h : Cu B0 X gh gw F hv wv Ws w0 ρ w i q n gm v vl ls) (hB : B0 ≤ w0.heap.size)
    (hg : Grow w w' v v') (ho : OwnM 2 w' v' (n + 1) (mks (n + 1) (-5 - ((40 * i : Nat) : Int)))) : Cu B0 X gh gw F hv wv Ws w0 (rx ρ w (3 + i)) w' i q (n + 1) gm v' vl ls := by
  have hw : Wr ρ (3 + i) w w' := Wr.grow hg h.rv
  constructor
  case cb =>
    refine h.cb.step hB hw (by omega) (Nat.le_refl _) _ (fun _ hk => rx_old hk) (fun j _ _ hj e => by omega) (fun t u e hr hM => ?_)
    obtain ⟨a0, m0, c0, e0, hm0⟩ := h.sn t u e (by omega)
    obtain ⟨a, m, c, e1, hm, hc⟩ := hM
    rw [e0] at e1
    injection e1 with e1 e2 e3
    subst e1 e2 e3
    refine ⟨a0, m0, c0, e0, hm, fun j hj => ?_⟩
    obtain ⟨g, ea, h3, h4, h5⟩ := hc j hj
    have keep : w'.heap[g]? = w.heap[g]? → ∃ g', a0 = some ⟨g', 0, none⟩ ∧ g' < w'.heap.size ∧ w'.cell? ⟨g', j * 2, none⟩ = some (.int .i64 (-5 - ((40 * (t / 40) : Nat) : Int))) ∧ w'.cell? ⟨g', j * 2 + 1, none⟩ = some (.int .i64 0) := fun e' =>
      ⟨g, ea, Nat.lt_of_lt_of_le h3 hg.size, (World.cell?_of_block (a := ⟨g, j * 2, none⟩) e').trans h4, (World.cell?_of_block (a := ⟨g, j * 2 + 1, none⟩) e').trans h5⟩
    by_cases hv : v.ownBlock = some g
    · rcases hg.alt with e4 | ⟨_, e4⟩
      · obtain ⟨g1, c1, f1, f2, f3⟩ := ho.cell (mks_at _ (n + 1) j (by omega)).1
        obtain ⟨g2, c2, f4, f5, _⟩ := ho.cell (mks_at _ (n + 1) j (by omega)).2
        rw [hv] at e4
        have hg1 : g1 = g := by rw [f1] at e4; injection e4
        have hg2 : g2 = g := by rw [f4] at e4; injection e4
        subst hg1
        subst hg2
        have ht : t / 40 = i := by omega
        rw [ht]
        exact ⟨_, ea, f3, f2, f5⟩
      · exact keep (e4 g h3)
    · exact keep (hg.old g h3 hv)
  case ov => exact ho
  case rv => exact Wr.own hg h.rv h.ov.lt
  case sp => exact (hw.block gm (lt_of_heap h.sp) (by rw [h.rg]; omega)).trans h.sp
  case rg => rw [rx_old (lt_of_heap h.sp)]; exact h.rg
  case ll => exact h.ll
  case sn =>
    intro t u e hr
    obtain ⟨a, m, c, e1, e2⟩ := h.sn t u e hr
    exact ⟨a, m, c, e1, by omega⟩
end Go.Proofs.YtejdecfpegpgcaaDoor

namespace Go.Proofs.YtejdecfpegpgcaaDoor
open Go.RowKit Go.Shelf
theorem pk_nat (c : Int) (n : Nat) (hn : 1 ≤ n) : ∃ k : Nat, Hid (pk c (n : Int) = (k : Int)) ∧ k < n := by
  have q0 := pk_nonneg c (n : Int) (by omega)
  have q1 := pk_lt c (n : Int) (by omega)
  exact ⟨(pk c (n : Int)).toNat, by unfold Hid; omega, by omega⟩
theorem Apt_len : ∀ {L : List (Nat × Nat)} {b e : Nat} {p : Nat → Bool}, Tree.Apt b e L p → L.length + b ≤ e
  | [], b, e, p, h => by have := h.1; simpa using this
  | s :: L, b, e, p, h => by
    obtain ⟨a1, a2, a3, a4, a5, a6⟩ := h
    have := Apt_len a6
    rw [List.length_cons]
    omega
set_option maxRecDepth 100000 in
set_option maxHeartbeats 8000000 in
theorem parts8_law (size index first many : Int) (cs : List Int) (a : Option Addr) (cap : Nat) (hs1 : -9223372036854775808 ≤ size) (hs2 : size ≤ 9223372036854775807) (hi1 : -9223372036854775808 ≤ index) (hi2 : index ≤ 9223372036854775807)
    (hf1 : -9223372036854775808 ≤ first) (hf2 : first ≤ 9223372036854775807) (hm1 : -9223372036854775808 ≤ many) (hm2 : many ≤ 9223372036854775807) (hcs : cs.length ≤ 9223372036854775807) (hw : ∀ x ∈ cs, -9223372036854775808 ≤ x ∧ x ≤ 9223372036854775807) (w : World) (hA : AtI w a cs) (Z : Tb w) :
    Calls Tryd.prog 5 #[.int .i64 size, .int .i64 index, .int .i64 first, .slice a cs.length cap, .int .i64 many] w fun r w' => r = .returned (.bool true) ∧ Below w.heap.size w w' := by
  have i0 := known8_any w Z
  have i1 := fun w' => pick_any size 1099511627776 hs1 hs2 (by omega) (by omega) w'
  have hp0 := pk_nonneg size 1099511627776 (by omega)
  have hp1 := pk_lt size 1099511627776 (by omega)
  generalize pk size 1099511627776 = p at *
  obtain ⟨N, hN⟩ : ∃ N : Nat, 1 + p = (N : Int) := ⟨(1 + p).toNat, by omega⟩
  have hNw : IntKind.i64.wrap (1 + p) = (N : Int) := by rw [IntKind.wrap_i64]; omega
  have n1 : 1 ≤ N := by omega
  have n2 : N ≤ 1099511627776 := by omega
  clear hp0 hp1 hN
  obtain ⟨k, hk, hkN⟩ := pk_nat index N n1
  have i2 := fun w' => pick_any index (N : Int) hi1 hi2 (by omega) (by omega) w'
  rw [hk.out] at i2
  obtain ⟨m0, hm, hm0⟩ := pk_nat first N n1
  have i3 := fun w' => pick_any first (N : Int) hf1 hf2 (by omega) (by omega) w'
  rw [hm.out] at i3
  obtain ⟨m, hmm⟩ : ∃ m : Nat, m = m0 + 1 := ⟨_, rfl⟩
  have hmw : IntKind.i64.wrap (1 + (m0 : Int)) = (m : Int) := by rw [IntKind.wrap_i64]; omega
  have m1 : 1 ≤ m := by omega
  have m2 : m ≤ N := by omega
  clear hmm hm0
  have i4 := fun w' h => rising8_any N cs a cap n1 n2 hcs hw w' h
  generalize cs.length = nc at *
  obtain ⟨dl, hdl⟩ : ∃ dl, Hid ((Tree.D N k).length = dl) := ⟨_, rfl⟩
  obtain ⟨ql, hql⟩ : ∃ ql, Hid (Tree.pl m N true = ql) := ⟨_, rfl⟩
  obtain ⟨mo, hmo⟩ : ∃ mo, Hid ((Tree.D N 0).length = mo) := ⟨_, rfl⟩
  have hmo2 : mo ≤ 40 := by rw [← hmo.out]; exact D_le N 0 (by omega) n2
  have i5 := fun w' => path8_ans N k dl hkN n2 hdl w'
  have i6 := fun w' => proof8_ans m N ql m1 m2 n2 hql w'
  have i8 := fun w' => rPathLen_any (N : Int) (k : Int) w'
  rw [lenOf_nat N k hkN n2, hdl.out] at i8
  have i9 := fun w' => rProofLen_any (m : Int) (N : Int) w'
  rw [prfLen_nat m N m1 m2 n2, hql.out] at i9
  have i10 := fun w' => rPathLen_any (N : Int) 0 w'
  have e10 : lenOf (N : Int) 0 = ((mo : Int), 0) := by
    have e := lenOf_nat N 0 (by omega) n2
    rw [hmo.out] at e
    exact e
  rw [e10] at i10
  clear e10
  generalize Tree.pthF N 0 N k = LP at *
  generalize Tree.prfF N 0 N m = LQ at *
  obtain ⟨R, hR⟩ : ∃ R : Nat, (N : Int) - (k : Int) = (R : Int) := ⟨N - k, by omega⟩
  have hRw : IntKind.i64.wrap ((N : Int) - (k : Int)) = (R : Int) := by rw [IntKind.wrap_i64]; omega
  obtain ⟨q, hq, hqR⟩ := pk_nat many R (by omega)
  have i12 := fun w' => pick_any many (R : Int) hm1 hm2 (by omega) (by omega) w'
  rw [hq.out] at i12
  obtain ⟨k1, hk1⟩ : ∃ k1 : Nat, k1 = k + 1 := ⟨_, rfl⟩
  have hk1w : IntKind.i64.wrap ((k : Int) + 1) = (k1 : Int) := by rw [IntKind.wrap_i64]; omega
  obtain ⟨Y, hY⟩ : ∃ Y : Nat, Y = k1 + q := ⟨_, rfl⟩
  have hYw : IntKind.i64.wrap ((k1 : Int) + (q : Int)) = (Y : Int) := by rw [IntKind.wrap_i64]; omega
  have hkY : k < Y := by omega
  have hYN : Y ≤ N := by omega
  clear hR hqR hk1 hY
  obtain ⟨rl, hrl⟩ : ∃ rl, Hid ((Tree.runF N 0 N k Y).length = rl) := ⟨_, rfl⟩
  have i13 := fun w' => run8_ans N k Y rl hkY hYN n2 hrl w'
  have HA := hid hA
  clear hA Z hw
  go_enter Tryd.func5, Tryd.ntmps5
  go_wp2_with (first
    | (go_at_call 9; refine i0.mono ?_; rintro r w1 ⟨rfl, b1⟩; have b1 := hid b1; clear i0)
    | (go_at_call 10; (first | (with_reducible refine (i1 _).mono ?_) | (with_reducible refine (i2 _).mono ?_) | (with_reducible refine (i3 _).mono ?_)); rintro r w' ⟨rfl, h0⟩; have h0 := h0.symm; subst h0)
    | (go_at_call 18; fail))
  refine (i4 _ (HA.out.below b1.out (Nat.le_refl _))).mono ?_
  rintro r w2 ⟨ra, rc, L, rfl, hLA, hBk, b2⟩
  have B2 := hid (b1.out.trans (b2.mono b1.out.size))
  obtain ⟨bl, hbl⟩ : ∃ bl, Hid ((Tree.othF N 0 N (toN L)).length = bl) := ⟨_, rfl⟩
  have hbc := bat_count hBk
  rw [hbl.out, hmo.out] at hbc
  have hl2 := hBk.l2
  have i7 := fun w' h => batch8_ans N bl L hBk ra rc hbl w' h
  have i11 := fun al cl cr w' h1 h2 => apart8_any N bl L hBk al ra cl cr hbl w' h1 h2
  generalize Tree.othF N 0 N (toN L) = LB at *
  obtain ⟨lr, hlr⟩ : ∃ lr, L.length = lr := ⟨_, rfl⟩
  rw [hlr] at hbc hl2 i7 i11 ⊢
  obtain ⟨X, hX⟩ : ∃ X : Nat, Hid (lr * mo = X) := ⟨_, rfl⟩
  have hX2 : X ≤ 256 * 40 := by rw [← hX.out]; exact Nat.mul_le_mul hl2 hmo2
  have hXi : (lr : Int) * (mo : Int) = (X : Int) := by rw [← hX.out]; omega
  have hXw : IntKind.i64.wrap (X : Int) = (X : Int) := by rw [IntKind.wrap_i64]; omega
  rw [hX.out] at hbc
  have g1 : ¬ (X : Int) < (bl : Int) := by omega
  obtain ⟨D, hD⟩ : ∃ D : Nat, (N : Int) - (lr : Int) = (D : Int) := ⟨N - lr, by omega⟩
  have hDw : IntKind.i64.wrap ((N : Int) - (lr : Int)) = (D : Int) := by rw [IntKind.wrap_i64]; omega
  have g2 : ¬ (D : Int) < (bl : Int) := by omega
  have hLA := hid hLA
  clear hlr hbc hD hBk b1 b2 i4 HA hk hm hdl hql hmo hq
  go_wp2_with (first
    | (go_at_call 19; refine (i5 _).mono ?_; rintro r w3 ⟨pa, pc, rfl, _, b3⟩; have B3 := hid (B2.out.trans (b3.mono B2.out.size)); have hLA3 := hid (hLA.out.below b3 (Nat.le_refl _)); clear b3)
    | (go_at_call 20; refine (i6 _).mono ?_; rintro r w4 ⟨qa, qc, rfl, _, b4⟩; have B4 := hid (B3.out.trans (b4.mono B3.out.size)); have hLA4 := hid (hLA3.out.below b4 (Nat.le_refl _)); clear b4)
    | (go_at_call 21; refine (i7 _ hLA4.out).mono ?_; rintro r w5 ⟨ba, bc, rfl, hBa, b5⟩; have hBa := hid hBa; have B5 := hid (B4.out.trans (b5.mono B4.out.size)); have hLA5 := hid (hLA4.out.below b5 (Nat.le_refl _)); clear b5)
    | (go_at_call 22; (first | (with_reducible refine (i8 _).mono ?_) | (with_reducible refine (i10 _).mono ?_)); rintro r w' ⟨rfl, h0⟩; have h0 := h0.symm; subst h0)
    | (go_at_call 23; refine (i9 _).mono ?_; rintro r w' ⟨rfl, h0⟩; have h0 := h0.symm; subst h0)
    | (go_at_call 24; fail))
  refine (i11 _ _ _ _ hBa.out hLA5.out).mono ?_
  rintro r w6 ⟨rfl, b6⟩
  have B6 := hid (B5.out.trans (b6.mono B5.out.size))
  have S6 := hid (SpI.new w6 (k : Int) (Y : Int))
  have c0 := S6.out.c0
  have c1 := S6.out.c1
  have BS := hid (B6.out.trans (((Below.refl _ w6).alloc (Nat.le_refl _) (.cells #[.int .i64 (k : Int), .int .i64 (Y : Int)] 25)).mono B6.out.size))
  clear b6 i1 i2 i3 i5 i6 i7 i8 i9 i10 i11 hLA hLA3 hLA4 hLA5 hBa B2 B3 B4 B5 hNw hmw
  obtain ⟨gS, hgS⟩ : ∃ gS, Hid (w6.heap.size = gS) := ⟨_, rfl⟩
  have hov := Tree.Over.start (n := N) (by have h := Tree.runF_apart k Y N 0 N n1 (Nat.le_refl _) hkY; rw [Nat.zero_add] at h; exact h)
  have hrN := Apt_len hov.ap
  rw [hrl.out] at hrN
  generalize Tree.runF N 0 N k Y = LR at *
  have hov := hid hov
  go_wp2_with (first
    | (go_at_call 10; refine (i12 _).mono ?_; rintro r w' ⟨rfl, h0⟩; have h0 := h0.symm; subst h0)
    | (go_at_call 25; fail))
  refine (i13 _).mono ?_
  rintro r w8 ⟨xa, xc, rfl, hX8, b8⟩
  have S8 := hid (S6.out.below b8)
  have B8 := hid (BS.out.trans (b8.mono BS.out.size))
  have hX8 := hid hX8
  rw [hgS.out] at S8
  clear S6 c0 c1 BS b8 i12 i13
  try rw [hgS.out]
  go_wp2
  go_loopw [32, 33] (fun t i wr => ∃ A I : Nat, t = .int .i64 (A : Int) ∧ i = .int .i64 (I : Int) ∧ I ≤ rl ∧ Hid (Tree.Over k Y N A (LR.drop I)) ∧ Hid (SpI wr gS (k : Int) (Y : Int)) ∧ Hid (AtP wr xa (pm LR)) ∧ Hid (Below w.heap.size w wr)) (fun _ i _ => rl - (intOf i).toNat)
  case atStart => exact ⟨0, 0, rfl, rfl, by omega, hov, S8, hX8, B8⟩
  case round =>
    clear hov S8 hX8 B8
    obtain ⟨A, I, rfl, rfl, hI, hO, hS, hP, hB⟩ := hrel
    have c0 := hS.out.c0
    have c1 := hS.out.c1
    have i0 : (0 : Int) ≤ (I : Int) := by omega
    by_cases hIr : I < rl
    · have b0 : (I : Int) < (rl : Int) := by omega
      obtain ⟨⟨B, E⟩, hq⟩ : ∃ s, LR[I]? = some s := ⟨_, List.getElem?_eq_getElem (by have := hrl.out; omega)⟩
      have hd := drop_get hq
      rw [hd] at hO
      obtain ⟨o1, o2, o3, o4⟩ := hO.out.next hkY
      have o1 : B = Tree.hop k Y A := o1
      have o2 : B < E := o2
      have o3 : E ≤ N := o3
      have o4 : Hid (Tree.Over k Y N E (LR.drop (I + 1))) := o4
      obtain ⟨g1, hxa, _, p0', p1'⟩ := hP.out I _ (pm_get hq)
      subst hxa
      have p0 : wr.cell? ⟨g1, I * 2, none⟩ = some (.int .i64 (B : Int)) := p0'
      have p1 : wr.cell? ⟨g1, I * 2 + 1, none⟩ = some (.int .i64 (E : Int)) := p1'
      have l1 : ¬ (E : Int) ≤ (B : Int) := by omega
      have wI : IntKind.i64.wrap ((I : Int) + 1) = ((I + 1 : Nat) : Int) := by rw [IntKind.wrap_i64]; omega
      clear hq hd hO p0' p1'
      by_cases hAk : A = k
      · rw [Tree.hop, if_pos hAk] at o1
        subst hAk o1
        go_wp2
        exact ⟨⟨E, I + 1, by go_num, by go_num, by omega, o4, hS, hP, hB⟩, by simp [intOf]; omega⟩
      · rw [Tree.hop, if_neg hAk] at o1
        subst o1
        have hAk' : ¬ (B : Int) = (k : Int) := by omega
        clear hAk
        go_wp2
        exact ⟨⟨E, I + 1, by go_num, by go_num, by omega, o4, hS, hP, hB⟩, by simp [intOf]; omega⟩
    · obtain rfl : I = rl := by omega
      have b0 : ¬ (I : Int) < (I : Int) := by omega
      rw [List.drop_eq_nil_of_le (by have := hrl.out; omega)] at hO
      have hl := hO.out.last hkY hYN
      clear hO
      by_cases hAk : A = k
      · rw [Tree.hop, if_pos hAk] at hl
        subst hAk hl
        go_wp2
        go_ret
        exact ⟨rfl, hB.out⟩
      · rw [Tree.hop, if_neg hAk] at hl
        subst hl
        have hAk' : ¬ (A : Int) = (k : Int) := by omega
        clear hAk
        go_wp2
        go_ret
        exact ⟨rfl, hB.out⟩
end Go.Proofs.YtejdecfpegpgcaaDoor

namespace Go.Proofs.YtejdecfpegpgcaaDoor
open Go.RowKit Go.Shelf
/-- rising's answer, with its capacity -/
def RisQ (n : Nat) (w : World) (r : Ending) (w' : World) : Prop := ∃ (a : Option Addr) (cap : Nat) (L : List Int), r = .returned (.slice a L.length cap) ∧ AtI w' a L ∧ BatOk n L ∧ Below w.heap.size w w' ∧ L.length ≤ cap ∧ cap ≤ 9223372036854775807
set_option maxRecDepth 100000 in
set_option maxHeartbeats 4000000 in
theorem rising20_any (n : Nat) (cs : List Int) (a : Option Addr) (cap : Nat) (hn : 1 ≤ n) (hn2 : n ≤ 1099511627776) (hcs : cs.length ≤ 9223372036854775807) (hw : ∀ x ∈ cs, -9223372036854775808 ≤ x ∧ x ≤ 9223372036854775807) (w : World) (hA : AtI w a cs) :
    Calls Tryd.prog 18 #[.slice a cs.length cap, .int .i64 (n : Int), .int .i64 20] w (RisQ n w) := by
  have HA := hid hA
  have HW := hid hw
  clear hA hw
  generalize hN : cs.length = N at *
  go_enter Tryd.func18, Tryd.ntmps18
  go_wp2
  go_loopw [7, 8, 9] (fun v t i w' => ∃ (L : List Int) (A k : Nat), Hid (L.length = k) ∧ t = .int .i64 (A : Int) ∧ i = .int .i64 (k : Int) ∧ A ≤ n ∧ k ≤ N ∧ k ≤ 20 ∧ Hid (Rsn L A) ∧ Hid (Own w' w.heap.size v (iv8 L)) ∧ Hid (Below w.heap.size w w')) (fun _ _ i _ => 20 - (intOf i).toNat)
  case atStart => exact ⟨[], 0, 0, rfl, rfl, rfl, by omega, by omega, by omega, Rsn.nil _, Own.nil _ _, Below.refl _ _⟩
  case round =>
    obtain ⟨L, A, k, hk, rfl, rfl, hAn, hkN, hk2, hR, hO, hB⟩ := hrel
    obtain ⟨oa, oc, hv, hat, hcp⟩ := hO.out.atI8
    have hcp := hid hcp
    rw [hk.out] at hv
    subst hv
    have hat := hid hat
    by_cases hgo : (k : Int) < (N : Int) ∧ (k : Int) < 20 ∧ (A : Int) < (n : Int)
    · obtain ⟨g1, g2, g3⟩ := hgo
      obtain ⟨x, rfl⟩ := HA.out.pos (by omega)
      have hcell := (HA.out.below hB.out (Nat.le_refl _)).cell k (by omega)
      have hcw := HW.out (cs[k]'(by omega)) (List.getElem_mem _)
      generalize cs[k]'(by omega) = c at *
      obtain ⟨R, hRn⟩ : ∃ R : Nat, (n : Int) - (A : Int) = (R : Int) := ⟨n - A, by omega⟩
      have hRw : IntKind.i64.wrap ((n : Int) - (A : Int)) = (R : Int) := by rw [IntKind.wrap_i64]; omega
      obtain ⟨t, htt⟩ : ∃ t : Int, Int.tmod (k : Int) 2 = t := ⟨_, rfl⟩
      by_cases ht : t = 0
      · subst ht
        by_cases h4 : (40 : Int) < (R : Int)
        · have ip := fun w' => pick_any c (40 : Int) (by omega) (by omega) (by omega) (by omega) w'
          have q0 := pk_nonneg c (40 : Int) (by omega)
          have q1 := pk_lt c (40 : Int) (by omega)
          obtain ⟨q, hq⟩ : ∃ q : Nat, Hid (pk c (40 : Int) = (q : Int)) := ⟨(pk c (40 : Int)).toNat, by unfold Hid; omega⟩
          rw [hq.out] at q0 q1
          have hs : IntKind.i64.wrap ((A : Int) + (q : Int)) = ((A + q : Nat) : Int) := by rw [IntKind.wrap_i64]; omega
          have hs' : IntKind.i64.wrap (((A + q : Nat) : Int) + 1) = ((A + q + 1 : Nat) : Int) := by rw [IntKind.wrap_i64]; omega
          obtain ⟨v3, w3, hap, hO3, hb3⟩ := append_int8 wr w.heap.size _ L ((A + q : Nat) : Int) hO.out (by have := hk.out; omega) hB.out.size
          generalize hG : A + q = G at *
          go_wp2_with (first
            | (go_at_call 10; refine (ip _).mono ?_; rintro e w2 ⟨rfl, h0⟩; have h0 := h0.symm; subst h0; rw [hq.out])
            | (at_builtin; go_must (refine Lib.wpList_append_run _ rfl _ _ 41 41 rfl _ _ rfl rfl _ _ hap ?_)))
          exact ⟨⟨L ++ [((G : Nat) : Int)], G + 1, k + 1, by unfold Hid; have := hk.out; simp; omega, by go_num, by go_num, by omega, by omega, by omega, by unfold Hid; rw [← hG]; exact hR.out.push q, hO3, hB.out.trans hb3⟩, by simp [intOf]; omega⟩
        · have ip := fun w' => pick_any c (R : Int) (by omega) (by omega) (by omega) (by omega) w'
          have q0 := pk_nonneg c (R : Int) (by omega)
          have q1 := pk_lt c (R : Int) (by omega)
          obtain ⟨q, hq⟩ : ∃ q : Nat, Hid (pk c (R : Int) = (q : Int)) := ⟨(pk c (R : Int)).toNat, by unfold Hid; omega⟩
          rw [hq.out] at q0 q1
          have hs : IntKind.i64.wrap ((A : Int) + (q : Int)) = ((A + q : Nat) : Int) := by rw [IntKind.wrap_i64]; omega
          have hs' : IntKind.i64.wrap (((A + q : Nat) : Int) + 1) = ((A + q + 1 : Nat) : Int) := by rw [IntKind.wrap_i64]; omega
          obtain ⟨v3, w3, hap, hO3, hb3⟩ := append_int8 wr w.heap.size _ L ((A + q : Nat) : Int) hO.out (by have := hk.out; omega) hB.out.size
          generalize hG : A + q = G at *
          go_wp2_with (first
            | (go_at_call 10; refine (ip _).mono ?_; rintro e w2 ⟨rfl, h0⟩; have h0 := h0.symm; subst h0; rw [hq.out])
            | (at_builtin; go_must (refine Lib.wpList_append_run _ rfl _ _ 41 41 rfl _ _ rfl rfl _ _ hap ?_)))
          exact ⟨⟨L ++ [((G : Nat) : Int)], G + 1, k + 1, by unfold Hid; have := hk.out; simp; omega, by go_num, by go_num, by omega, by omega, by omega, by unfold Hid; rw [← hG]; exact hR.out.push q, hO3, hB.out.trans hb3⟩, by simp [intOf]; omega⟩
      · have ht' : (t == 0) = false := by simpa using ht
        have ip := fun w' => pick_any c (R : Int) (by omega) (by omega) (by omega) (by omega) w'
        have q0 := pk_nonneg c (R : Int) (by omega)
        have q1 := pk_lt c (R : Int) (by omega)
        obtain ⟨q, hq⟩ : ∃ q : Nat, Hid (pk c (R : Int) = (q : Int)) := ⟨(pk c (R : Int)).toNat, by unfold Hid; omega⟩
        rw [hq.out] at q0 q1
        have hs : IntKind.i64.wrap ((A : Int) + (q : Int)) = ((A + q : Nat) : Int) := by rw [IntKind.wrap_i64]; omega
        have hs' : IntKind.i64.wrap (((A + q : Nat) : Int) + 1) = ((A + q + 1 : Nat) : Int) := by rw [IntKind.wrap_i64]; omega
        obtain ⟨v3, w3, hap, hO3, hb3⟩ := append_int8 wr w.heap.size _ L ((A + q : Nat) : Int) hO.out (by have := hk.out; omega) hB.out.size
        generalize hG : A + q = G at *
        go_wp2_with (first
          | (go_at_call 10; refine (ip _).mono ?_; rintro e w2 ⟨rfl, h0⟩; have h0 := h0.symm; subst h0; rw [hq.out])
          | (at_builtin; go_must (refine Lib.wpList_append_run _ rfl _ _ 41 41 rfl _ _ rfl rfl _ _ hap ?_)))
        exact ⟨⟨L ++ [((G : Nat) : Int)], G + 1, k + 1, by unfold Hid; have := hk.out; simp; omega, by go_num, by go_num, by omega, by omega, by omega, by unfold Hid; rw [← hG]; exact hR.out.push q, hO3, hB.out.trans hb3⟩, by simp [intOf]; omega⟩
    · by_cases g1 : (k : Int) < (N : Int)
      · by_cases g2 : (k : Int) < 20
        · have g3 : ¬ (A : Int) < (n : Int) := fun h => hgo ⟨g1, g2, h⟩
          clear hgo
          by_cases hz : k = 0
          · subst hz
            obtain rfl : L = [] := List.eq_nil_of_length_eq_zero hk.out
            have ip := fun w' => pick_any (n : Int) (n : Int) (by omega) (by omega) (by omega) (by omega) w'
            have q0 := pk_nonneg (n : Int) (n : Int) (by omega)
            have q1 := pk_lt (n : Int) (n : Int) (by omega)
            obtain ⟨q, hq⟩ : ∃ q : Nat, Hid (pk (n : Int) (n : Int) = (q : Int)) := ⟨(pk (n : Int) (n : Int)).toNat, by unfold Hid; omega⟩
            rw [hq.out] at q0 q1
            obtain ⟨v3, w3, hap, hO3, hb3⟩ := append_int8 wr w.heap.size _ [] ((q : Nat) : Int) hO.out (by simp) hB.out.size
            go_wp2_with (first
              | (go_at_call 10; refine (ip _).mono ?_; rintro e w2 ⟨rfl, h0⟩; have h0 := h0.symm; subst h0; rw [hq.out])
              | (at_builtin; go_must (refine Lib.wpList_append_run _ rfl _ _ 41 41 rfl _ _ rfl rfl _ _ hap ?_)))
            go_ret
            obtain ⟨oa, oc, rfl, hat3, hcp3⟩ := hO3.atI8
            refine ⟨oa, oc, _, rfl, hat3, Rsn.ok (A := q + 1) ?_ (by omega) hn hn2 (by simp) (by simp), hB.out.trans hb3, hcp3⟩
            have := (Rsn.nil 0).push q
            simpa using this
          · have hz' : ¬ (k : Int) = 0 := by omega
            go_wp2
            go_ret
            have hat := hat.out
            refine ⟨oa, oc, L, by rw [hk.out]; rfl, hat, hR.out.ok hAn hn hn2 (by have := hk.out; omega) (by have := hk.out; omega), hB.out, hcp.out⟩
        · clear hgo
          have hz : ¬ k = 0 := by omega
          have hz' : ¬ (k : Int) = 0 := by omega
          go_wp2
          go_ret
          have hat := hat.out
          refine ⟨oa, oc, L, by rw [hk.out]; rfl, hat, hR.out.ok hAn hn hn2 (by have := hk.out; omega) (by have := hk.out; omega), hB.out, hcp.out⟩
      · clear hgo
        by_cases hz : k = 0
        · subst hz
          obtain rfl : L = [] := List.eq_nil_of_length_eq_zero hk.out
          have ip := fun w' => pick_any (n : Int) (n : Int) (by omega) (by omega) (by omega) (by omega) w'
          have q0 := pk_nonneg (n : Int) (n : Int) (by omega)
          have q1 := pk_lt (n : Int) (n : Int) (by omega)
          obtain ⟨q, hq⟩ : ∃ q : Nat, Hid (pk (n : Int) (n : Int) = (q : Int)) := ⟨(pk (n : Int) (n : Int)).toNat, by unfold Hid; omega⟩
          rw [hq.out] at q0 q1
          obtain ⟨v3, w3, hap, hO3, hb3⟩ := append_int8 wr w.heap.size _ [] ((q : Nat) : Int) hO.out (by simp) hB.out.size
          go_wp2_with (first
            | (go_at_call 10; refine (ip _).mono ?_; rintro e w2 ⟨rfl, h0⟩; have h0 := h0.symm; subst h0; rw [hq.out])
            | (at_builtin; go_must (refine Lib.wpList_append_run _ rfl _ _ 41 41 rfl _ _ rfl rfl _ _ hap ?_)))
          go_ret
          obtain ⟨oa, oc, rfl, hat3, hcp3⟩ := hO3.atI8
          refine ⟨oa, oc, _, rfl, hat3, Rsn.ok (A := q + 1) ?_ (by omega) hn hn2 (by simp) (by simp), hB.out.trans hb3, hcp3⟩
          have := (Rsn.nil 0).push q
          simpa using this
        · have hz' : ¬ (k : Int) = 0 := by omega
          go_wp2
          go_ret
          have hat := hat.out
          refine ⟨oa, oc, L, by rw [hk.out]; rfl, hat, hR.out.ok hAn hn hn2 (by have := hk.out; omega) (by have := hk.out; omega), hB.out, hcp.out⟩

theorem partOut_ok {l : List (List UInt8)} {b e : Nat} (hw : wrg l = 0) (h1 : b ≤ e) (h2 : e ≤ l.length) : partOut l (b : Int) (e : Int) = (Tree.root (Tree.seg l b e), 0) := by
  unfold partOut
  rw [if_pos hw, if_pos (by omega), Int.toNat_natCast, Int.toNat_natCast]; rfl
set_option maxRecDepth 100000 in
set_option maxHeartbeats 1000000 in
theorem folded8_any (l : List (List UInt8)) (b e : Nat) (h : List UInt8) (hh : Hid (Tree.root (Tree.seg l b e) = h)) (a : Option Addr) (cap : Nat) (w : World) (hw : wrg l = 0) (h1 : b ≤ e) (h2 : e ≤ l.length) (hl : l.length ≤ cap) (hc : cap ≤ 9223372036854775807) (hA : At w a l) (T : Tb w) :
    Calls Tryd.prog 37 #[.slice a l.length cap, sg b e] w fun x w' => x = .returned (sv h) ∧ Below w.heap.size w w' := by
  have hb0 := (Below.refl w.heap.size w).alloc (Nat.le_refl _) (.cells #[.int .i64 (b : Int), .int .i64 (e : Int)] 25)
  have hA1 := hA.below hb0 (Nat.le_refl _)
  have i1 := Part_any l b e a cap _ hl hc hA1 (T.below hb0 T.lt).t
  rw [partOut_ok hw h1 h2, hh.out] at i1
  have S0 := SpI.new w b e
  have c0 := S0.c0
  have c1 := S0.c1
  have B0 := hid hb0
  have i1 := hid i1
  clear hb0 hA1 hA T S0 hl hc
  generalize l.length = n at *
  go_enter Tryd.func37, Tryd.ntmps37
  go_wp2_with (go_at_call 71; refine i1.out.mono ?_; rintro r w2 ⟨rfl, hb2⟩; have B2 := hid (B0.out.trans (hb2.mono B0.out.size)))
  go_ret
  exact ⟨rfl, B2.out⟩
set_option maxRecDepth 100000 in
set_option maxHeartbeats 1000000 in
theorem hashed8_any (l : List (List UInt8)) (L : List (Nat × Nat)) (W : List (List UInt8)) (hLW : L.map (fun s => Tree.root (Tree.seg l s.1 s.2)) = W) (hin : ∀ s ∈ L, s.1 ≤ s.2 ∧ s.2 ≤ l.length) (a al aw : Option Addr) (cap cl cw : Nat) (w : World) (hw : wrg l = 0) (hl : l.length ≤ cap) (hc : cap ≤ 9223372036854775807) (hn : L.length ≤ 1099511627776) (hA : At w a l) (hL : AtP w al (pm L)) (hW : At w aw W) (T : Tb w) :
    Calls Tryd.prog 36 #[.slice a l.length cap, .slice al L.length cl, .slice aw W.length cw] w fun x w' => x = .returned (.bool true) ∧ Below w.heap.size w w' := by
  have hWl : W.length = L.length := by rw [← hLW, List.length_map]
  have HA := hid hA
  have HL := hid hL
  have HW := hid hW
  have HT := hid T
  have HM := hid hLW
  have HI := hid hin
  have hTl := T.lt
  rw [hWl]
  clear hA hL hW T hLW hin hWl
  obtain ⟨N, hN⟩ : ∃ N, Hid (L.length = N) := ⟨_, rfl⟩
  rw [hN.out] at hn ⊢
  have i1 := fun b e h hh w' (B : Below w.heap.size w w') h1 h2 => folded8_any l b e h hh a cap w' hw h1 h2 hl hc (HA.out.below B (Nat.le_refl _)) (HT.out.below B hTl)
  go_enter Tryd.func36, Tryd.ntmps36
  go_wp2
  go_loopw [7] (fun i wr => ∃ k : Nat, i = .int .i64 (k : Int) ∧ k ≤ N ∧ Hid (Below w.heap.size w wr)) (fun i _ => N - (intOf i).toNat)
  case atStart => exact ⟨0, rfl, Nat.zero_le _, Below.refl _ _⟩
  case round =>
    obtain ⟨k, rfl, hk, hB⟩ := hrel
    by_cases hkn : k < N
    · have b0 : (k : Int) < (N : Int) := by omega
      have b1 : (0 : Int) ≤ (k : Int) := by omega
      obtain ⟨⟨x, y⟩, hq⟩ : ∃ s, L[k]? = some s := ⟨_, List.getElem?_eq_getElem (by have := hN.out; omega)⟩
      obtain ⟨g1, hal, _, p0', p1'⟩ := (HL.out.below hB.out (Nat.le_refl _)) k _ (pm_get hq)
      subst hal
      have p0 : wr.cell? ⟨g1, k * 2, none⟩ = some (.int .i64 (x : Int)) := p0'
      have p1 : wr.cell? ⟨g1, k * 2 + 1, none⟩ = some (.int .i64 (y : Int)) := p1'
      obtain ⟨h, hh⟩ : ∃ h, Hid (Tree.root (Tree.seg l x y) = h) := ⟨_, rfl⟩
      have hWk : W[k]? = some h := by rw [← HM.out, List.getElem?_map, hq, ← hh.out]; rfl
      obtain ⟨xw, haw, hxl, q0⟩ := HW.out k h hWk
      subst haw
      have hxy := HI.out _ (List.mem_of_getElem? hq)
      have i2 := i1 x y h hh wr hB.out hxy.1 hxy.2
      have wI : IntKind.i64.wrap ((k : Int) + 1) = ((k + 1 : Nat) : Int) := by rw [IntKind.wrap_i64]; omega
      clear hq p0' p1' hxy i1
      go_wp2_with (go_at_call 37; fail)
      refine i2.mono ?_
      rintro r w2 ⟨rfl, hb2⟩
      have B2 := hid (hB.out.trans (hb2.mono hB.out.size))
      obtain ⟨x', e', _, q2⟩ := (HW.out.below B2.out (Nat.le_refl _)) k h hWk
      cases e'
      clear hb2 hWk q0 hh i2
      rw [svS] at q2 ⊢
      generalize ByteArray.mk h.toArray = p at *
      have y1 : (p.toList == p.toList) = true := by simp
      have y2 : (p.toList != p.toList) = false := by simp
      go_wp2
      exact ⟨⟨k + 1, by go_num, by omega, B2⟩, by simp [intOf]; omega⟩
    · obtain rfl : k = N := by omega
      have b0 : ¬ (k : Int) < (k : Int) := by omega
      go_wp2
      go_ret
      exact ⟨rfl, hB.out⟩
end Go.Proofs.YtejdecfpegpgcaaDoor
