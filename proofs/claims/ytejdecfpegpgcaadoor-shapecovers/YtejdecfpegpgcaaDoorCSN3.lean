import Derived.Test.YtejdecfpegpgcaaDoorCSK2
import Derived.Test.YtejdecfpegpgcaaDoorCSP18
namespace Go.Proofs.YtejdecfpegpgcaaDoor.Nb
open Go.RowKit Go.Shelf

/-- the i-th list is being written over: k marks stand -/
structure Ca (B0 X gh gw : Nat) (F : Value → Array Value) (hv wv : List Value) (Ws : List (List (Nat × Nat))) (w0 : World) (ρ : Nat → Nat) (w : World) (i k gm : Nat) (v : Value) (W : List (Nat × Nat)) (vl : Value) (ls : List Value) : Prop where
  cb : Cb B0 X gh gw F hv wv Ws w0 ρ w (i + 1) vl ls
  ov : OwnM 2 w v W.length (mks k (-5 - ((40 * i : Nat) : Int)) ++ (prs W).drop (k * 2))
  rv : ∀ g, v.ownBlock = some g → ρ g = 3 + i
  sp : NdI w gm (-5 - ((40 * i : Nat) : Int)) 0
  rg : ρ gm = 0
  ll : ls.length = 40 * i
theorem Ca.set {B0 X gh gw : Nat} {F : Value → Array Value} {hv wv : List Value} {Ws : List (List (Nat × Nat))} {w0 w : World} {ρ : Nat → Nat} {i k gm g c : Nat} {W : List (Nat × Nat)} {vl : Value} {ls : List Value} (h : Ca B0 X gh gw F hv wv Ws w0 ρ w i k gm (.slice (some ⟨g, 0, none⟩) W.length c) W vl ls) (hB : B0 ≤ w0.heap.size) (hk : k < W.length) :
    Ca B0 X gh gw F hv wv Ws w0 ρ ((w.setCell ⟨g, k * 2, none⟩ (.int .i64 (-5 - ((40 * i : Nat) : Int)))).setCell ⟨g, k * 2 + 1, none⟩ (.int .i64 0)) i (k + 1) gm (.slice (some ⟨g, 0, none⟩) W.length c) W vl ls ∧
    (∃ y, w.cell? ⟨g, k * 2, none⟩ = some y) ∧ w.frozen? ⟨g, k * 2, none⟩ = false ∧ (∃ y, w.cell? ⟨g, k * 2 + 1, none⟩ = some y) ∧ w.frozen? ⟨g, k * 2 + 1, none⟩ = false := by
  have hl := prs_len W
  have hlen : (mks k (-5 - ((40 * i : Nat) : Int)) ++ (prs W).drop (k * 2)).length = W.length * 2 := by rw [List.length_append, mks_len, List.length_drop, hl]; omega
  obtain ⟨o1, y1, f1⟩ := h.ov.set (j := k * 2) (by omega) (.int .i64 (-5 - ((40 * i : Nat) : Int)))
  obtain ⟨_, y2, f2⟩ := h.ov.set (j := k * 2 + 1) (by omega) (.int .i64 0)
  obtain ⟨o2, _, _⟩ := o1.set (j := k * 2 + 1) (by rw [List.length_set]; omega) (.int .i64 0)
  rw [mks_set hl hk] at o2
  have hgl : g < w.heap.size := h.ov.lt g rfl
  have hrg := h.rv g rfl
  have hw : Wr ρ (3 + i) w ((w.setCell ⟨g, k * 2, none⟩ (.int .i64 (-5 - ((40 * i : Nat) : Int)))).setCell ⟨g, k * 2 + 1, none⟩ (.int .i64 0)) := ((Wr.refl ρ (3 + i) w).setCell (fun _ => hrg) _ _).setCell (fun _ => hrg) _ _
  refine ⟨⟨h.cb.step hB hw (by omega) (Nat.le_refl _) ρ (fun _ _ => rfl) (fun j _ _ hj e => by omega) (fun t v e hr => ?_), o2, h.rv, ?_, h.rg, h.ll⟩, y1, f1, y2, f2⟩
  · have := (List.getElem?_eq_some_iff.1 e).1
    rw [h.ll] at this
    omega
  · exact (hw.block gm (lt_of_heap h.sp) (by rw [h.rg]; omega)).trans h.sp
/-- the i-th list is grown: q of its beginnings are kept -/
structure Cu (B0 X gh gw : Nat) (F : Value → Array Value) (hv wv : List Value) (Ws : List (List (Nat × Nat))) (w0 : World) (ρ : Nat → Nat) (w : World) (i q n gm : Nat) (v : Value) (vl : Value) (ls : List Value) : Prop where
  cb : Cb B0 X gh gw F hv wv Ws w0 ρ w (i + 1) vl ls
  ov : OwnM 2 w v n (mks n (-5 - ((40 * i : Nat) : Int)))
  rv : ∀ g, v.ownBlock = some g → ρ g = 3 + i
  sp : NdI w gm (-5 - ((40 * i : Nat) : Int)) 0
  rg : ρ gm = 0
  ll : ls.length = 40 * i + q
  sn : ∀ (t : Nat) (u : Value), ls[t]? = some u → t / 40 = i → ∃ a m c, u = .slice a m c ∧ m ≤ n
theorem Ca.done {B0 X gh gw : Nat} {F : Value → Array Value} {hv wv : List Value} {Ws : List (List (Nat × Nat))} {w0 w : World} {ρ : Nat → Nat} {i gm : Nat} {v : Value} {W : List (Nat × Nat)} {vl : Value} {ls : List Value} (h : Ca B0 X gh gw F hv wv Ws w0 ρ w i W.length gm v W vl ls) : Cu B0 X gh gw F hv wv Ws w0 ρ w i 0 W.length gm v vl ls where
  cb := h.cb
  ov := by
    have := h.ov
    rw [List.drop_eq_nil_of_le (by rw [prs_len]; exact Nat.le_refl _), List.append_nil] at this
    exact this
  rv := h.rv
  sp := h.sp
  rg := h.rg
  ll := h.ll
  sn := fun t u e hr => by
    have := (List.getElem?_eq_some_iff.1 e).1
    rw [h.ll] at this
    omega
theorem Cu.push {B0 X gh gw : Nat} {F : Value → Array Value} {hv wv : List Value} {Ws : List (List (Nat × Nat))} {w0 w w' : World} {ρ : Nat → Nat} {i q n gm ix : Nat} {v vl vl' : Value} {ls : List Value} (h : Cu B0 X gh gw F hv wv Ws w0 ρ w i q n gm v vl ls) (hB : B0 ≤ w0.heap.size) (hF : ∀ v v', (F v).setIfInBounds ix v' = F v') (hq : q < 40)
    (hg : Grow w w' vl vl') (ho : OwnM 1 w' vl' (ls.length + 1) (ls ++ [v])) : Cu B0 X gh gw F hv wv Ws w0 (rx ρ w 2) (w'.setCell ⟨X, ix, none⟩ vl') i (q + 1) n gm v vl' (ls ++ [v]) := by
  have hd : ls.length / 40 = i := by rw [h.ll]; omega
  have hw : Wr ρ 2 w w' := Wr.grow hg h.cb.rl
  have hset : ∀ k, k ≠ X → (w'.setCell ⟨X, ix, none⟩ vl').heap[k]? = w'.heap[k]? := fun k hk => heap_setCell_other w' ⟨X, ix, none⟩ k vl' hk
  have both : ∀ k, k < w.heap.size → ρ k ≠ 2 → ρ k ≠ 1 → (w'.setCell ⟨X, ix, none⟩ vl').heap[k]? = w.heap[k]? := fun k hk h2 h1 => (hset k (fun e => h1 (by rw [e]; exact h.cb.rX))).trans (hw.block k hk h2)
  have hs2 : w.heap.size ≤ (w'.setCell ⟨X, ix, none⟩ vl').heap.size := by simpa [World.setCell] using hw.size
  have hmk := h.ov.mk
  constructor
  case cb => exact h.cb.push hB hF hg ho (by rw [hd]; exact hmk) (fun k hk => ⟨h.ov.lt k hk, by rw [hd]; exact h.rv k hk⟩)
  case ov => exact h.ov.kept hs2 (fun g hg' => both g (h.ov.lt g hg') (by rw [h.rv g hg']; omega) (by rw [h.rv g hg']; omega))
  case rv => exact fun g hg' => by rw [rx_old (h.ov.lt g hg')]; exact h.rv g hg'
  case sp => exact (both gm (lt_of_heap h.sp) (by rw [h.rg]; omega) (by rw [h.rg]; omega)).trans h.sp
  case rg => rw [rx_old (lt_of_heap h.sp)]; exact h.rg
  case ll => rw [List.length_append, h.ll]; rfl
  case sn =>
    intro t u e hr
    rw [List.getElem?_append] at e
    split at e
    · exact h.sn t u e hr
    · obtain ⟨a, c, e1, _, _⟩ := h.ov.shape
      have ht := (List.getElem?_eq_some_iff.1 e).1
      simp at ht
      rw [show t - ls.length = 0 by omega] at e
      obtain rfl : v = u := Option.some.inj e
      exact ⟨a, n, c, e1, Nat.le_refl _⟩
theorem Cu.grow {B0 X gh gw : Nat} {F : Value → Array Value} {hv wv : List Value} {Ws : List (List (Nat × Nat))} {w0 w w' : World} {ρ : Nat → Nat} {i q n gm : Nat} {v v' vl : Value} {ls : List Value} (h : Cu B0 X gh gw F hv wv Ws w0 ρ w i q n gm v vl ls) (hB : B0 ≤ w0.heap.size)
    (hg : Grow w w' v v') (ho : OwnM 2 w' v' (n + 1) (mks (n + 1) (-5 - ((40 * i : Nat) : Int)))) : Cu B0 X gh gw F hv wv Ws w0 (rx ρ w (3 + i)) w' i q (n + 1) gm v' vl ls := by
  have hw : Wr ρ (3 + i) w w' := Wr.grow hg h.rv
  constructor
  case cb =>
    refine h.cb.step hB hw (by omega) (Nat.le_refl _) _ (fun _ hk => rx_old hk) (fun j _ _ hj e => by omega) (fun t u e hr hM => ?_)
    obtain ⟨a0, m0, c0, e0, hm0⟩ := h.sn t u e (by omega)
    obtain ⟨a, m, c, e1, hm, hc⟩ := hM
    rw [e0] at e1
    injection e1 with e1 e2 e3
    subst e1 e2 e3
    refine ⟨a0, m0, c0, e0, hm, fun j hj => ?_⟩
    obtain ⟨g, ea, h3, h4, h5⟩ := hc j hj
    have keep : w'.heap[g]? = w.heap[g]? → ∃ g', a0 = some ⟨g', 0, none⟩ ∧ g' < w'.heap.size ∧ w'.cell? ⟨g', j * 2, none⟩ = some (.int .i64 (-5 - ((40 * (t / 40) : Nat) : Int))) ∧ w'.cell? ⟨g', j * 2 + 1, none⟩ = some (.int .i64 0) := fun e' =>
      ⟨g, ea, Nat.lt_of_lt_of_le h3 hg.size, (World.cell?_of_block (a := ⟨g, j * 2, none⟩) e').trans h4, (World.cell?_of_block (a := ⟨g, j * 2 + 1, none⟩) e').trans h5⟩
    by_cases hv : v.ownBlock = some g
    · rcases hg.alt with e4 | ⟨_, e4⟩
      · obtain ⟨g1, c1, f1, f2, f3⟩ := ho.cell (mks_at _ (n + 1) j (by omega)).1
        obtain ⟨g2, c2, f4, f5, _⟩ := ho.cell (mks_at _ (n + 1) j (by omega)).2
        rw [hv] at e4
        have hg1 : g1 = g := by rw [f1] at e4; injection e4
        have hg2 : g2 = g := by rw [f4] at e4; injection e4
        subst hg1
        subst hg2
        have ht : t / 40 = i := by omega
        rw [ht]
        exact ⟨_, ea, f3, f2, f5⟩
      · exact keep (e4 g h3)
    · exact keep (hg.old g h3 hv)
  case ov => exact ho
  case rv => exact Wr.own hg h.rv h.ov.lt
  case sp => exact (hw.block gm (lt_of_heap h.sp) (by rw [h.rg]; omega)).trans h.sp
  case rg => rw [rx_old (lt_of_heap h.sp)]; exact h.rg
  case ll => exact h.ll
  case sn =>
    intro t u e hr
    obtain ⟨a, m, c, e1, e2⟩ := h.sn t u e hr
    exact ⟨a, m, c, e1, by omega⟩
end Go.Proofs.YtejdecfpegpgcaaDoor.Nb
