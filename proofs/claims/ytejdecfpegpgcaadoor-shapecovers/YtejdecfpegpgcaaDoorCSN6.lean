import Derived.Test.YtejdecfpegpgcaaDoorCSN5
import Derived.Test.YtejdecfpegpgcaaDoorCSK4
namespace Go.Proofs.YtejdecfpegpgcaaDoor.Nb
open Go.RowKit Go.Shelf

theorem Bh.cb {B0 X : Nat} {w0 w : World} {ρ : Nat → Nat} {vh vw : Value} {hv wv : List Value} {Ws : List (List (Nat × Nat))} (h : Bh B0 X w0 ρ w vh vw hv wv Ws) (hn : 0 < Ws.length) :
    ∃ gh ch gw cw, Ws.length ≤ ch ∧ Ws.length ≤ cw ∧ Cb B0 X gh gw (fS gh ch gw cw Ws.length) hv wv Ws w0 (rz ρ) w 0 (.slice none 0 0) [] := by
  obtain ⟨gh, ch, e1, h1, h2, h3⟩ := h.oh.some1 (by rw [h.lh]; exact hn)
  obtain ⟨gw, cw, e2, h4, h5, h6⟩ := h.ow.some1 (by rw [h.lw]; exact hn)
  have r1 := h.rh gh (by rw [e1]; rfl)
  have r2 := h.rw_ gw (by rw [e2]; rfl)
  refine ⟨gh, ch, gw, cw, by rw [← h.lh]; exact h1, by rw [← h.lw]; exact h4, ?_⟩
  constructor
  case bel => exact h.bel
  case low => exact fun k hk => by rw [rz_ne (by rw [h.low k hk]; omega) (by rw [h.low k hk]; omega)]; exact h.low k hk
  case row => rw [h.row, e1, e2, h.lh, h.lw]; rfl
  case rX => rw [rz_ne (by rw [h.rX]; omega) (by rw [h.rX]; omega)]; exact h.rX
  case hr => exact h2
  case rh => exact rz_z (.inl r1)
  case lh => exact h3
  case wr => exact h5
  case rw_ => exact rz_z (.inr r2)
  case lw => exact h6
  case want =>
    intro j W e
    obtain ⟨v, f1, f2, f3⟩ := h.want j W e
    obtain ⟨a, c, f4, f5, f6⟩ := f2.shape
    subst f4
    refine ⟨a, c, f1, OwnP.atP f2, fun x hx => ?_⟩
    subst hx
    have f7 : ∃ g, x = ⟨g, 0, none⟩ := by
      rcases f2 with ⟨q, _⟩ | ⟨g, cap, q, _⟩
      · cases q
      · injection q with q; injection q with q; exact ⟨g, q⟩
    obtain ⟨g, rfl⟩ := f7
    exact ⟨f2.lt g rfl, by show rz ρ g = 0; rw [rz_ne (by rw [f3 g rfl]; omega) (by rw [f3 g rfl]; omega)]; exact f3 g rfl⟩
  case own =>
    intro j W _ e
    have hj := (List.getElem?_eq_some_iff.1 e).1
    have := h.le
    obtain ⟨v, f1, f2, f3⟩ := h.own j W e
    exact ⟨v, f1, f2, fun k hk => by rw [rz_ne (by rw [f3 k hk]; omega) (by rw [f3 k hk]; omega)]; exact f3 k hk⟩
  case ol => exact OwnM.nil 1 _
  case rl => exact fun k hk => by cases hk
  case mrk => exact fun t v e => by cases e
theorem still_B {B0 X : Nat} {w0 w : World} {ρ : Nat → Nat} {vh vw : Value} {hv wv : List Value} {Ws : List (List (Nat × Nat))} (h : Bh B0 X w0 ρ w vh vw hv wv Ws) (hB : B0 ≤ w0.heap.size) (hn : 0 < Ws.length) (hW : ∀ W ∈ Ws, W.length ≤ 1099511627776) :
    Calls Tryd.prog 17 #[.pointer (some ⟨X, 0, none⟩)] w fun r w' => r = .returned (.bool true) ∧ Below B0 w0 w' := by
  obtain ⟨gh, ch, gw, cw, h1, h2, h3⟩ := h.cb hn
  exact still_S B0 X gh ch gw cw Ws.length hv wv Ws w0 w (rz ρ) h3 hB h.lh h.lw rfl h.le h1 h2 hW
set_option maxRecDepth 100000 in
set_option maxHeartbeats 2000000 in
theorem holds_any {B0 X : Nat} {w0 w : World} {ρ : Nat → Nat} {vh vw : Value} {hv wv : List Value} {Ws : List (List (Nat × Nat))} (h : Bh B0 X w0 ρ w vh vw hv wv Ws) (hB : B0 ≤ w0.heap.size) (hc : Ws.length < 1000) (W : List (Nat × Nat)) (v u : Value)
    (ov : OwnP w v W) (rv : ∀ k, v.ownBlock = some k → ρ k = 3 + Ws.length) (ou : OwnP w u W) (ru : ∀ k, u.ownBlock = some k → ρ k = 0) :
    Calls Tryd.prog 15 #[.pointer (some ⟨X, 0, none⟩), v, u] w fun r w' => r = .returned (.tuple #[]) ∧ ∃ ρ' vh' vw', Bh B0 X w0 ρ' w' vh' vw' (hv ++ [v]) (wv ++ [u]) (Ws ++ [W]) ∧ (∀ k, k < w.heap.size → ρ' k = ρ k) ∧ w.heap.size ≤ w'.heap.size ∧ (∀ k, k < w.heap.size → ρ k ≠ 1 → ρ k ≠ 2 → ρ k ≠ 2000 → w'.heap[k]? = w.heap[k]?) := by
  obtain ⟨a1, c1, e1, _, _⟩ := ov.shape
  obtain ⟨a2, c2, e2, _, _⟩ := ou.shape
  subst e1
  subst e2
  have x0 : w.cell? ⟨X, 3, none⟩ = some vh := by rw [cell_of_row _ _ _ _ _ _ h.row]; rfl
  have hXl := lt_of_heap h.row
  obtain ⟨vh', w1, hap1, o1, g1⟩ := append_ls w vh hv a1 W.length c1 h.oh (by rw [h.lh]; omega)
  have hw1 : Wr ρ 2 w w1 := Wr.grow g1 h.rh
  have row1 := (hw1.block X hXl (by rw [h.rX]; omega)).trans h.row
  have y0 : w1.cell? ⟨X, 3, none⟩ = some vh := by rw [cell_of_row _ _ _ _ _ _ row1]; rfl
  have f0 : w1.frozen? ⟨X, 3, none⟩ = false := frozen_of_row _ _ _ _ _ row1
  have s1 := setCell_eq_setRow w1 X 3 _ 33 (0, 0) vh' row1
  have row2 : (w1.setCell ⟨X, 3, none⟩ vh').heap[X]? = some (.cells #[.slice none 0 0, .slice none 0 0, .slice none 0 0, vh', vw, .slice none 0 0] 33 (0, 0)) := by
    rw [s1, setRow_heap _ _ _ _ _ _ row1]; rfl
  have y1 : (w1.setCell ⟨X, 3, none⟩ vh').cell? ⟨X, 4, none⟩ = some vw := by rw [cell_of_row _ _ _ _ _ _ row2]; rfl
  have ow2 : OwnM 1 (w1.setCell ⟨X, 3, none⟩ vh') vw wv.length wv := h.ow.kept (by simp [World.setCell]; exact hw1.size) (fun k hk => by
    rw [heap_setCell_other w1 ⟨X, 3, none⟩ k vh' (fun e => by have := h.rw_ k hk; rw [show k = X from e, h.rX] at this; omega), hw1.block k (h.ow.lt k hk) (by rw [h.rw_ k hk]; omega)])
  obtain ⟨vw', w3, hap3, o3, g3⟩ := append_ls (w1.setCell ⟨X, 3, none⟩ vh') vw wv a2 W.length c2 ow2 (by rw [h.lw]; omega)
  have row3 := (g3.old X (lt_of_heap row2) (fun e => by have := h.rw_ X e; rw [h.rX] at this; omega)).trans row2
  have y3 : w3.cell? ⟨X, 4, none⟩ = some vw := by rw [cell_of_row _ _ _ _ _ _ row3]; rfl
  have f3 : w3.frozen? ⟨X, 4, none⟩ = false := frozen_of_row _ _ _ _ _ row3
  have fin := hid (h.hold hB hc ov rv ou ru g1 o1 g3 o3)
  obtain ⟨b1, d1, e3, _, _⟩ := o1.shape
  obtain ⟨b2, d2, e4, _, _⟩ := o3.shape
  subst e3
  subst e4
  obtain ⟨n, hn⟩ : ∃ n, W.length = n := ⟨_, rfl⟩
  rw [hn] at hap1 hap3 ⊢ fin
  generalize hw4 : w1.setCell ⟨X, 3, none⟩ (.slice b1 (hv.length + 1) d1) = w4 at *
  clear h ov rv ou ru g1 o1 g3 o3 ow2 row1 row2 row3 s1 hw1 hn
  go_enter Tryd.func15, Tryd.ntmps15
  go_wp2_with (first
    | (at_builtin; refine Lib.wpList_append_run _ rfl _ _ 31 31 rfl _ _ rfl rfl _ _ hap1 ?_)
    | (at_builtin; refine Lib.wpList_append_run _ rfl _ _ 31 31 rfl _ _ rfl rfl _ _ hap3 ?_))
  go_end0
  exact ⟨rfl, _, _, _, fin.out⟩
end Go.Proofs.YtejdecfpegpgcaaDoor.Nb
