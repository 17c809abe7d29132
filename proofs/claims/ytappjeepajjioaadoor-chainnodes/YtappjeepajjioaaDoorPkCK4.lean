import Derived.Test.YtappjeepajjioaaDoorPkCK2
import Derived.Test.YtappjeepajjioaaDoorPkSP28
import Derived.Test.YtappjeepajjioaaDoorPkFN1
import Derived.Test.YtappjeepajjioaaDoorPkSP10
import Derived.Deep.CutRange
import Derived.Deep.DeepCutAuto
namespace Go.Proofs.YtappjeepajjioaaDoor
open Go.RowKit Go.Shelf
namespace Chn
set_option maxRecDepth 100000 in
set_option maxHeartbeats 4000000 in
theorem still_C (B0 X gh ch gw cw c : Nat) (hv wv : List Value) (Ws : List (List (Nat × Nat))) (w0 w : World) (ρ0 : Nat → Nat) (h : Cb B0 X gh gw (fS gh ch gw cw c) hv wv Ws w0 ρ0 w 0 (.slice none 0 0) []) (hB : B0 ≤ w0.heap.size) (hhl : hv.length = c) (hwl : wv.length = c) (hWl : Ws.length = c) (hc : c ≤ 1000) (hch : c ≤ ch) (hcw : c ≤ cw) (hW : ∀ W ∈ Ws, W.length ≤ 1099511627776) :
    Calls Tryd.prog 9 #[.pointer (some ⟨X, 0, none⟩)] w fun r w' => r = .returned (.bool true) ∧ Below B0 w0 w' := by
  have HW := hid hW
  have hF := fS_set gh ch gw cw c
  have HF := hid hF
  have st := hid (fun (w : World) (ρ : Nat → Nat) (p : Nat) (vl : Value) (ls : List Value) (h : Cb B0 X gh gw (fS gh ch gw cw c) hv wv Ws w0 ρ w p vl ls) (hp : p ≤ c) => stay_C B0 X gh ch gw cw c hv wv Ws w0 w ρ p p vl ls h (Nat.le_refl _) hp hB hWl hc hch hcw HW)
  have s0 := st.out w ρ0 0 _ _ h (Nat.zero_le _)
  clear h hW hF
  go_enter Tryd.func9, Tryd.ntmps9
  go_wp2_with (go_at_call 21; fail)
  refine s0.mono ?_
  rintro r w1 ⟨rfl, ρ1, H1, _, _⟩
  have H0 := hid H1
  clear H1 s0
  obtain ⟨x0, x1, x2, x3, x5, x6, x8, f2⟩ := H0.out.cells
  go_wp2
  go_loopw [4] (fun i w' => i = .int .i64 0 ∧ w' = w1) (fun _ _ => 0)
  case atStart => exact ⟨rfl, rfl⟩
  case round =>
    obtain ⟨rfl, hwq⟩ := hrel
    rw [hwq]
    clear hwq
    go_wp2
    go_loopw [3, 10, 11, 12, 13, 14] (fun _ i _ _ _ _ w' => ∃ (q : Nat) (ρ : Nat → Nat) (vl : Value) (ls : List Value), q ≤ c ∧ i = .int .i64 (q : Int) ∧ ls.length = 40 * q ∧ Hid (Cb B0 X gh gw (fS gh ch gw cw c) hv wv Ws w0 ρ w' q vl ls)) (fun _ i _ _ _ _ _ => c - (RowKit.intOf i).toNat)
    case atStart => exact ⟨0, ρ1, _, _, by omega, rfl, rfl, H0⟩
    case round =>
      clear H0 x0 x1 x2 x3 x5 x6 x8 f2
      obtain ⟨q, ρ, vl, ls, hI, rfl, hll, hC⟩ := hrel
      obtain ⟨x0, x1, x2, x3, x5, x6, x8, f2⟩ := hC.out.cells
      by_cases hqc : q < c
      · have hqW : q < Ws.length := by omega
        obtain ⟨W, hWe⟩ : ∃ W, Ws[q]? = some W := ⟨_, List.getElem?_eq_getElem hqW⟩
        have hWs := HW.out W (List.mem_of_getElem? hWe)
        obtain ⟨v, hve, hOv, hrv⟩ := hC.out.own q W (Nat.le_refl _) hWe
        have d0 := hC.out.hr q v hve
        rw [Nat.zero_add] at d0
        obtain ⟨al, cl, hvl, hcl, hcl2⟩ := hC.out.ol.shape
        obtain ⟨av, cv, hvv, hcv, hcv2⟩ := hOv.shape
        subst hvl
        subst hvv
        rw [hll] at x2 hcl
        have b1 : (0 : Int) ≤ (q : Int) := by omega
        have b2 : (q : Int) < (c : Int) := by omega
        have hb := (Below.refl wr.heap.size wr).alloc (Nat.le_refl _) (.cells #[.int .i64 (-5 - ((q : Nat) : Int)), .int .i64 0] 45)
        have Y0 : Ca B0 X gh gw (fS gh ch gw cw c) hv wv Ws w0 (rx ρ wr 0) (wr.alloc (.cells #[.int .i64 (-5 - ((q : Nat) : Int)), .int .i64 0] 45)) q 0 wr.heap.size (.slice av W.length cv) W (.slice al (40 * q) cl) ls :=
          ⟨by have := (hC.out.skip (Nat.le_succ q)).below hB hb; rw [hll] at this; exact this, by rw [show mks 0 _ = [] from rfl, Nat.zero_mul, List.drop_zero, List.nil_append]; exact hOv.below hb, fun g hg => by rw [rx_old (hOv.lt g hg)]; exact hrv g hg, SpI.new wr _ _, rx_new (Nat.le_refl _), hll⟩
        have Y0 := hid Y0
        have hm1 : IntKind.i64.wrap (-5 - ((q : Nat) : Int)) = -5 - ((q : Nat) : Int) := by rw [IntKind.wrap_i64]; omega
        obtain ⟨Q, hQ⟩ : ∃ Q, 40 * q = Q := ⟨_, rfl⟩
        clear hC hOv hrv hb
        go_wp2
        subst hQ
        generalize wr.alloc (.cells #[.int .i64 (-5 - ((q : Nat) : Int)), .int .i64 0] 45) = wA at *
        generalize wr.heap.size = gm at *
        generalize rx ρ wr 0 = ρ1 at *
        obtain ⟨n, hn⟩ : ∃ n, W.length = n := ⟨_, rfl⟩
        have HN := hid hn
        rw [hn] at hWs hcv ⊢
        clear hn x0 x1 x2 x3 x5 x6 x8 f2 d0 hm1
        go_loopw [13] (fun k w' => ∃ K : Nat, K ≤ n ∧ k = .int .i64 (K : Int) ∧ Hid (Ca B0 X gh gw (fS gh ch gw cw c) hv wv Ws w0 ρ1 w' q K gm (.slice av n cv) W (.slice al (40 * q) cl) ls)) (fun k _ => n - (RowKit.intOf k).toNat)
        case atStart => exact ⟨0, by omega, rfl, by rw [← HN.out]; exact Y0⟩
        case round =>
          clear Y0
          obtain ⟨K, hK, rfl, hY⟩ := hrel
          have m0 := hY.out.sp.c0
          have m1 := hY.out.sp.c1
          by_cases hKn : K < n
          · have b3 : (K : Int) < (n : Int) := by omega
            have k0 : (0 : Int) ≤ (K : Int) := by omega
            have hlen : (mks K (-5 - ((q : Nat) : Int)) ++ (prs W).drop (K * 2)).length = W.length * 2 := by rw [List.length_append, mks_len, List.length_drop, prs_len, HN.out]; omega
            obtain ⟨g, cg, eg, hce, hlte⟩ := hY.out.ov.cell (List.getElem?_eq_getElem (show K * 2 < (mks K (-5 - ((q : Nat) : Int)) ++ (prs W).drop (K * 2)).length by rw [hlen, HN.out]; omega))
            injection eg with eg1 eg2 eg3
            subst eg1
            subst eg3
            have hY1 := hY.out
            rw [← HN.out] at hY1
            obtain ⟨Y2, ⟨y1, z1⟩, g1, ⟨y2, z2⟩, g2⟩ := hY1.set hB (by rw [HN.out]; exact hKn)
            rw [HN.out] at Y2
            have Y2 := hid Y2
            have z3 : (wr.setCell ⟨g, K * 2, none⟩ (.int .i64 (-5 - ((q : Nat) : Int)))).cell? ⟨g, K * 2 + 1, none⟩ = some y2 := by rw [World.cell?_setCell_other _ _ _ _ (by simp)]; exact z2
            have g3 : (wr.setCell ⟨g, K * 2, none⟩ (.int .i64 (-5 - ((q : Nat) : Int)))).frozen? ⟨g, K * 2 + 1, none⟩ = false := by rw [World.frozen?_setCell]; exact g2
            clear hce hlte hY hY1 hlen eg2
            go_wp2
            exact ⟨⟨K + 1, by omega, by go_num, Y2⟩, by simp [RowKit.intOf]; omega⟩
          · obtain rfl : K = n := by omega
            have b3 : ¬ (K : Int) < (K : Int) := by omega
            have hY1 := hY.out
            rw [← HN.out] at hY1
            have U0 := hid hY1.done
            rw [HN.out] at U0
            clear hY hY1 m0 m1
            go_wp2
            generalize (.slice av K cv : Value) = v0 at *
            generalize (.slice al (40 * q) cl : Value) = vl0 at *
            go_loopw [11, 14] (fun v k w' => ∃ (S n : Nat) (ρ : Nat → Nat) (vl : Value) (ls : List Value), S ≤ 40 ∧ k = .int .i64 (S : Int) ∧ n ≤ 1099511627776 + S ∧ Hid (Cu B0 X gh gw (fS gh ch gw cw c) hv wv Ws w0 ρ w' q S n gm v vl ls)) (fun _ k _ => 40 - (RowKit.intOf k).toNat)
            case atStart => exact ⟨0, K, ρ1, vl0, ls, by omega, rfl, by omega, U0⟩
            case round =>
              clear U0
              obtain ⟨S, n, ρ2, vl2, ls2, hS, rfl, hnS, hU⟩ := hrel
              have m0 := hU.out.sp.c0
              have m1 := hU.out.sp.c1
              by_cases hS40 : S < 40
              · have b4 : (S : Int) < 40 := by omega
                obtain ⟨y0, y1, y2, y3, y5, y6, y8, f2⟩ := hU.out.cb.cells
                obtain ⟨av2, cv2, hvv, _, _⟩ := hU.out.ov.shape
                subst hvv
                obtain ⟨vl3, w3, hap, O3, G3⟩ := append_ls wr vl2 ls2 av2 n cv2 hU.out.cb.ol (by rw [hU.out.ll]; omega)
                obtain ⟨al3, cl3, hvl3, _, _⟩ := O3.shape
                subst hvl3
                have U3 := hU.out.push hB HF.out hS40 G3 O3
                have X3 := lt_of_heap hU.out.cb.row
                have f3 : w3.frozen? ⟨X, 5, none⟩ = false ∧ ∃ y, w3.cell? ⟨X, 5, none⟩ = some y := by
                  have hw : Wr ρ2 2 wr w3 := Wr.grow G3 hU.out.cb.rl
                  have row1 := (hw.block X X3 (by rw [hU.out.cb.rX]; omega)).trans hU.out.cb.row
                  exact ⟨frozen_of_row _ _ _ _ _ row1, _, by rw [cell_of_row _ _ _ _ _ _ row1]; rfl⟩
                obtain ⟨f3, y3', hy3⟩ := f3
                generalize hw4 : w3.setCell ⟨X, 5, none⟩ (.slice al3 (ls2.length + 1) cl3) = w4 at *
                have m2 := U3.sp.c0
                have m3 := U3.sp.c1
                obtain ⟨v5, w5, hap5, O5, G5⟩ := append_mk w4 (.slice av2 n cv2) n (-5 - ((q : Nat) : Int)) U3.ov (by omega)
                have U5 := hid (U3.grow hB G5 O5)
                clear U3 hU O3 G3 O5 G5 X3
                go_wp2_with (first
                  | (at_builtin; refine Lib.wpList_append_run _ rfl _ _ 26 26 rfl _ _ rfl rfl _ _ hap ?_)
                  | (at_builtin; go_must (refine Lib.wpList_append_run _ rfl _ _ 34 34 rfl _ _ rfl rfl _ _ hap5 ?_)))
                exact ⟨⟨S + 1, n + 1, _, _, _, by omega, by go_num, by omega, U5⟩, by simp [RowKit.intOf]; omega⟩
              · obtain rfl : S = 40 := by omega
                have hU1 := hU.out.cb
                have hl2 := hU.out.ll
                obtain ⟨y0, y1, y2, y3, y5, y6, y8, f2⟩ := hU1.cells
                have s1 := st.out wr ρ2 (q + 1) _ _ hU1 (by omega)
                have hq1 : ((q + 1 : Nat) : Int) = (q : Int) + 1 := by omega
                rw [hq1] at s1
                clear hU hU1 m0 m1
                go_wp2_with (go_at_call 21; fail)
                refine s1.mono ?_
                rintro r w5 ⟨rfl, ρ5, H5, _, _⟩
                have H6 := hid H5
                clear H5 s1
                go_wp2
                exact ⟨⟨q + 1, ρ5, vl2, ls2, by omega, by go_num, by omega, H6⟩, by simp [RowKit.intOf]; omega⟩
      · obtain rfl : q = c := by omega
        have b0 : ¬ (q : Int) < (q : Int) := by omega
        obtain ⟨al, cl, hvl, hcl, hcl2⟩ := hC.out.ol.shape
        subst hvl
        rw [hll] at x2 hcl
        have hcells := hid (fun (T : Nat) (u : Value) (e : ls[T]? = some u) => hC.out.ol.cell e)
        have hmarks := hid (fun (T : Nat) (u : Value) (e : ls[T]? = some u) => (hC.out.mrk T u e).1)
        have HBel := hid hC.out.bel
        have HLL := hid hll
        clear hC st
        obtain ⟨wE, hwE⟩ : ∃ wE, wr = wE := ⟨_, rfl⟩
        rw [hwE] at x0 x1 x2 x3 x5 x6 x8 hcells hmarks HBel ⊢
        clear hwE
        obtain ⟨Z, hZ⟩ : ∃ Z, 40 * q = Z := ⟨_, rfl⟩
        rw [hZ] at x2 hcl
        have hZc : Z ≤ 40000 := by omega
        have HZ := hid hZ
        clear hZ hll f2
        go_wp2
        go_loopw [15] (fun i w' => i = .int .i64 0 ∧ w' = wE) (fun _ _ => 0)
        case atStart => exact ⟨rfl, rfl⟩
        case round =>
          obtain ⟨rfl, hwq⟩ := hrel
          rw [hwq]
          clear hwq
          go_wp2
          go_loopw [20] (fun i w' => i = .int .i64 0 ∧ w' = wE) (fun _ _ => 0)
          case atStart => exact ⟨rfl, rfl⟩
          case round =>
            obtain ⟨rfl, hwq⟩ := hrel
            rw [hwq]
            clear hwq
            go_wp2
            go_loopw [22, 23] (fun t _ w' => ∃ T : Nat, T ≤ Z ∧ t = .int .i64 (T : Int) ∧ w' = wE) (fun t _ _ => Z - (RowKit.intOf t).toNat)
            case atStart => exact ⟨0, by omega, rfl, rfl⟩
            case round =>
              obtain ⟨T, hT, rfl, hwq⟩ := hrel
              rw [hwq]
              clear hwq
              by_cases hTZ : T < Z
              · have b6 : (T : Int) < (Z : Int) := by omega
                have t0 : (0 : Int) ≤ (T : Int) := by omega
                obtain ⟨u, hu⟩ : ∃ u, ls[T]? = some u := ⟨_, List.getElem?_eq_getElem (by rw [HLL.out, HZ.out]; exact hTZ)⟩
                obtain ⟨gl, cl', e1, d2, _⟩ := hcells.out T u hu
                injection e1 with e1 e2 e3
                subst e1
                obtain ⟨a, n, cc, rfl, hn, hM⟩ := hmarks.out T u hu
                have HM := hid hM
                obtain ⟨m, hm⟩ : ∃ m : Int, -5 - (((T / 40) : Nat) : Int) = m := ⟨_, rfl⟩
                rw [hm] at HM
                have q1 : Int.tdiv (T : Int) 40 = ((T / 40 : Nat) : Int) := by rw [Int.tdiv_eq_ediv_of_nonneg (by omega)]; omega
                have q2 : IntKind.i64.wrap ((T / 40 : Nat) : Int) = ((T / 40 : Nat) : Int) := by rw [IntKind.wrap_i64]; omega
                have q4 : IntKind.i64.wrap (-5 - (((T / 40) : Nat) : Int)) = m := by rw [IntKind.wrap_i64]; omega
                clear hM hu
                go_wp2
                go_loopw [23] (fun k w' => ∃ K : Nat, K ≤ n ∧ k = .int .i64 (K : Int) ∧ w' = wE) (fun k _ => n - (RowKit.intOf k).toNat)
                case atStart => exact ⟨0, by omega, rfl, rfl⟩
                case round =>
                  obtain ⟨K, hK, rfl, hwq⟩ := hrel
                  rw [hwq]
                  clear hwq
                  by_cases hKn : K < n
                  · have b7 : (K : Int) < (n : Int) := by omega
                    have k0 : (0 : Int) ≤ (K : Int) := by omega
                    obtain ⟨g, rfl, _, c4, c5⟩ := HM.out K hKn
                    have esp := eq_sp
                    have y1 : (m == m) = true := by simp
                    go_wp2
                    exact ⟨⟨K + 1, by omega, by go_num, trivial⟩, by simp [RowKit.intOf]; omega⟩
                  · obtain rfl : K = n := by omega
                    have b7 : ¬ (K : Int) < (K : Int) := by omega
                    go_wp2
                    exact ⟨⟨T + 1, by omega, by go_num, trivial⟩, by simp [RowKit.intOf]; omega⟩
              · obtain rfl : T = Z := by omega
                have b6 : ¬ (T : Int) < (T : Int) := by omega
                go_wp2
                go_loopw [24] (fun i w' => i = .int .i64 0 ∧ w' = wE) (fun _ _ => 0)
                case atStart => exact ⟨rfl, rfl⟩
                case round =>
                  obtain ⟨rfl, hwq⟩ := hrel
                  rw [hwq]
                  go_wp2
                  go_ret
                  exact ⟨rfl, HBel.out⟩
end Chn
end Go.Proofs.YtappjeepajjioaaDoor

namespace Go.Proofs.YtappjeepajjioaaDoor
open Go.RowKit Go.Shelf
namespace Chn

/-- the book while lists are held -/
structure Bh (B0 X : Nat) (w0 : World) (ρ : Nat → Nat) (w : World) (vh vw : Value) (hv wv : List Value) (Ws : List (List (Nat × Nat))) : Prop where
  bel : Below B0 w0 w
  low : ∀ k, k < B0 → ρ k = 0
  row : w.heap[X]? = some (.cells #[.slice none 0 0, .slice none 0 0, .slice none 0 0, vh, vw, .slice none 0 0, .slice none 0 0, .slice none 0 0, .slice none 0 0] 29 (0, 0))
  rX : ρ X = 1
  oh : OwnM 1 w vh hv.length hv
  rh : ∀ k, vh.ownBlock = some k → ρ k = 2
  ow : OwnM 1 w vw wv.length wv
  rw_ : ∀ k, vw.ownBlock = some k → ρ k = 2000
  lh : hv.length = Ws.length
  lw : wv.length = Ws.length
  le : Ws.length ≤ 1000
  own : ∀ (j : Nat) (W : List (Nat × Nat)), Ws[j]? = some W → ∃ v, hv[j]? = some v ∧ OwnP w v W ∧ ∀ k, v.ownBlock = some k → ρ k = 3 + j
  want : ∀ (j : Nat) (W : List (Nat × Nat)), Ws[j]? = some W → ∃ v, wv[j]? = some v ∧ OwnP w v W ∧ ∀ k, v.ownBlock = some k → ρ k = 0
  fr : ∀ k, k < w0.heap.size → k ≠ X → w.heap[k]? = w0.heap[k]?
  nh : ∀ k, vh.ownBlock = some k → w0.heap.size ≤ k
  nw : ∀ k, vw.ownBlock = some k → w0.heap.size ≤ k
theorem Bh.below {B0 X : Nat} {w0 w w' : World} {ρ : Nat → Nat} {vh vw : Value} {hv wv : List Value} {Ws : List (List (Nat × Nat))} (h : Bh B0 X w0 ρ w vh vw hv wv Ws) (hB : B0 ≤ w0.heap.size) (hb : Below w.heap.size w w') (ρ' : Nat → Nat) (hρ : ∀ k, k < w.heap.size → ρ' k = ρ k) : Bh B0 X w0 ρ' w' vh vw hv wv Ws where
  bel := h.bel.trans (hb.mono (Nat.le_trans hB h.bel.size))
  low := fun k hk => by rw [hρ k (by have := h.bel.size; omega)]; exact h.low k hk
  row := (hb.block X (lt_of_heap h.row)).trans h.row
  rX := by rw [hρ X (lt_of_heap h.row)]; exact h.rX
  oh := h.oh.below hb
  rh := fun k hk => by rw [hρ k (h.oh.lt k hk)]; exact h.rh k hk
  ow := h.ow.below hb
  rw_ := fun k hk => by rw [hρ k (h.ow.lt k hk)]; exact h.rw_ k hk
  lh := h.lh
  lw := h.lw
  le := h.le
  own := fun j W e => by
    obtain ⟨v, e1, e2, e3⟩ := h.own j W e
    exact ⟨v, e1, e2.below hb, fun k hk => by rw [hρ k (e2.lt k hk)]; exact e3 k hk⟩
  want := fun j W e => by
    obtain ⟨v, e1, e2, e3⟩ := h.want j W e
    exact ⟨v, e1, e2.below hb, fun k hk => by rw [hρ k (e2.lt k hk)]; exact e3 k hk⟩
  fr := fun k hk hX => (hb.block k (Nat.lt_of_lt_of_le hk h.bel.size)).trans (h.fr k hk hX)
  nh := h.nh
  nw := h.nw
/-- both lists of lists grow by one -/
theorem Bh.hold {B0 X : Nat} {w0 w w1 w3 : World} {ρ : Nat → Nat} {vh vw vh' vw' v u : Value} {hv wv : List Value} {Ws : List (List (Nat × Nat))} {W : List (Nat × Nat)} (h : Bh B0 X w0 ρ w vh vw hv wv Ws) (hB : B0 ≤ w0.heap.size) (hc : Ws.length < 1000)
    (ov : OwnP w v W) (rv : ∀ k, v.ownBlock = some k → ρ k = 3 + Ws.length) (ou : OwnP w u W) (ru : ∀ k, u.ownBlock = some k → ρ k = 0)
    (g1 : Grow w w1 vh vh') (o1 : OwnM 1 w1 vh' (hv.length + 1) (hv ++ [v])) (g2 : Grow (w1.setCell ⟨X, 3, none⟩ vh') w3 vw vw') (o2 : OwnM 1 w3 vw' (wv.length + 1) (wv ++ [u])) :
    Bh B0 X w0 (rx (rx ρ w 2) w1 2000) (w3.setCell ⟨X, 4, none⟩ vw') vh' vw' (hv ++ [v]) (wv ++ [u]) (Ws ++ [W]) ∧ (∀ k, k < w.heap.size → rx (rx ρ w 2) w1 2000 k = ρ k) ∧ w.heap.size ≤ (w3.setCell ⟨X, 4, none⟩ vw').heap.size ∧ (∀ k, k < w.heap.size → ρ k ≠ 1 → ρ k ≠ 2 → ρ k ≠ 2000 → (w3.setCell ⟨X, 4, none⟩ vw').heap[k]? = w.heap[k]?) := by
  have hXl := lt_of_heap h.row
  have hw1 : Wr ρ 2 w w1 := Wr.grow g1 h.rh
  have hs1 := hw1.size
  have row1 := (hw1.block X hXl (by rw [h.rX]; omega)).trans h.row
  have e1 := setCell_eq_setRow w1 X 3 _ 29 (0, 0) vh' row1
  have hsz2 : (w1.setCell ⟨X, 3, none⟩ vh').heap.size = w1.heap.size := by simp [World.setCell]
  have row2 : (w1.setCell ⟨X, 3, none⟩ vh').heap[X]? = some (.cells #[.slice none 0 0, .slice none 0 0, .slice none 0 0, vh', vw, .slice none 0 0, .slice none 0 0, .slice none 0 0, .slice none 0 0] 29 (0, 0)) := by
    rw [e1, setRow_heap _ _ _ _ _ _ row1]; rfl
  have ρ1 : ∀ k, k < w.heap.size → rx (rx ρ w 2) w1 2000 k = ρ k := fun k hk => by rw [rx_old (by omega), rx_old hk]
  have ne_vw : ∀ k, vw.ownBlock = some k → k ≠ X := fun k hk e => by have := h.rw_ k hk; rw [e, h.rX] at this; omega
  have row3 := (g2.old X (by rw [hsz2]; omega) (fun e => ne_vw X e rfl)).trans row2
  have e3 := setCell_eq_setRow w3 X 4 _ 29 (0, 0) vw' row3
  have hs3 : w1.heap.size ≤ w3.heap.size := by have := g2.size; rw [hsz2] at this; exact this
  have hsz4 : (w3.setCell ⟨X, 4, none⟩ vw').heap.size = w3.heap.size := by simp [World.setCell]
  -- blocks of other roles
  have keep : ∀ k, k < w.heap.size → ρ k ≠ 1 → ρ k ≠ 2 → ρ k ≠ 2000 → (w3.setCell ⟨X, 4, none⟩ vw').heap[k]? = w.heap[k]? := fun k hk n1 n2 n3 => by
    have hkX : k ≠ X := fun e => n1 (by rw [e]; exact h.rX)
    rw [heap_setCell_other w3 ⟨X, 4, none⟩ k vw' hkX, g2.old k (by rw [hsz2]; omega) (fun e => n3 (h.rw_ k e)), heap_setCell_other w1 ⟨X, 3, none⟩ k vh' hkX, hw1.block k hk n2]
  have hs4 : w.heap.size ≤ (w3.setCell ⟨X, 4, none⟩ vw').heap.size := by rw [hsz4]; omega
  have vh_lt : ∀ k, vh'.ownBlock = some k → k < w1.heap.size := fun k hk => o1.lt k hk
  have vh_r : ∀ k, vh'.ownBlock = some k → rx (rx ρ w 2) w1 2000 k = 2 := fun k hk => by rw [rx_old (vh_lt k hk)]; exact Wr.own g1 h.rh h.oh.lt k hk
  have rX' : rx (rx ρ w 2) w1 2000 X = 1 := by rw [ρ1 X hXl]; exact h.rX
  have B0X : B0 ≤ X := by
    rcases Nat.lt_or_ge X B0 with e | e
    · have := h.low X e; rw [h.rX] at this; omega
    · exact e
  have vw_lt : ∀ k, vw.ownBlock = some k → k < w.heap.size := h.ow.lt
  have hvw' : ∀ k, vw'.ownBlock = some k → rx (rx ρ w 2) w1 2000 k = 2000 := fun k hk => by
    rcases g2.alt with e | ⟨e, _⟩
    · rw [e] at hk; rw [ρ1 k (vw_lt k hk)]; exact h.rw_ k hk
    · exact rx_new (by have := e k hk; rw [hsz2] at this; exact this)
  refine ⟨?_, ρ1, hs4, keep⟩
  constructor
  case fr =>
    intro k hk hkX
    have hks := h.bel.size
    rw [heap_setCell_other w3 ⟨X, 4, none⟩ k vw' hkX, g2.old k (by rw [hsz2]; omega) (fun e => by have := h.nw k e; omega), heap_setCell_other w1 ⟨X, 3, none⟩ k vh' hkX, g1.old k (by omega) (fun e => by have := h.nh k e; omega)]
    exact h.fr k hk hkX
  case nh =>
    intro k hk
    have := h.bel.size
    rcases g1.alt with e | ⟨e, _⟩
    · exact h.nh k (e ▸ hk)
    · have := e k hk; omega
  case nw =>
    intro k hk
    have := h.bel.size
    rcases g2.alt with e | ⟨e, _⟩
    · exact h.nw k (e ▸ hk)
    · have := e k hk; rw [hsz2] at this; omega
  case bel =>
    refine Below.setCell (p := ⟨X, 4, none⟩) ?_ B0X _
    refine Below.trans (Below.setCell (p := ⟨X, 3, none⟩) (hw1.bel h.bel hB h.low (by omega)) B0X vh') ⟨g2.os, g2.tape, g2.output, g2.size, fun k hk => g2.old k (by rw [hsz2]; have := h.bel.size; omega) (fun e => ?_)⟩
    have := h.rw_ k e
    rw [h.low k hk] at this
    omega
  case low => exact fun k hk => by rw [ρ1 k (by have := h.bel.size; omega)]; exact h.low k hk
  case row => rw [e3, setRow_heap _ _ _ _ _ _ row3]; rfl
  case rX => exact rX'
  case oh =>
    rw [List.length_append]
    refine OwnM.kept o1 (by rw [hsz4]; exact hs3) (fun k hk => ?_)
    have hkX : k ≠ X := fun e => by have := vh_r k hk; rw [e, rX'] at this; omega
    have hkw : vw.ownBlock ≠ some k := fun e => by have h1 := h.rw_ k e; have h2 := vh_r k hk; rw [ρ1 k (vw_lt k e), h1] at h2; omega
    rw [heap_setCell_other w3 ⟨X, 4, none⟩ k vw' hkX, g2.old k (by rw [hsz2]; exact vh_lt k hk) hkw, heap_setCell_other w1 ⟨X, 3, none⟩ k vh' hkX]
  case rh => exact vh_r
  case ow =>
    rw [List.length_append]
    refine OwnM.kept o2 (Nat.le_of_eq hsz4.symm) (fun k hk => heap_setCell_other w3 ⟨X, 4, none⟩ k vw' (fun e => ?_))
    have := hvw' k hk
    rw [e, rX'] at this
    omega
  case rw_ => exact hvw'
  case lh => rw [List.length_append, List.length_append, h.lh]; rfl
  case lw => rw [List.length_append, List.length_append, h.lw]; rfl
  case le => rw [List.length_append]; simp; omega
  case own =>
    intro j W' e
    rw [List.getElem?_append] at e
    split at e
    · next hj =>
      obtain ⟨v0, f1, f2, f3⟩ := h.own j W' e
      exact ⟨v0, by rw [List.getElem?_append_left (by rw [h.lh]; exact hj)]; exact f1, f2.kept hs4 (fun k hk => keep k (f2.lt k hk) (by rw [f3 k hk]; omega) (by rw [f3 k hk]; omega) (by rw [f3 k hk]; omega)), fun k hk => by rw [ρ1 k (f2.lt k hk)]; exact f3 k hk⟩
    · next hj =>
      have hj2 := (List.getElem?_eq_some_iff.1 e).1
      simp at hj2
      obtain rfl : j = Ws.length := by omega
      rw [Nat.sub_self] at e
      obtain rfl : W = W' := Option.some.inj e
      exact ⟨v, by rw [List.getElem?_append_right (by rw [h.lh]; exact Nat.le_refl _), h.lh, Nat.sub_self]; rfl, ov.kept hs4 (fun k hk => keep k (ov.lt k hk) (by rw [rv k hk]; omega) (by rw [rv k hk]; omega) (by rw [rv k hk]; omega)), fun k hk => by rw [ρ1 k (ov.lt k hk)]; exact rv k hk⟩
  case want =>
    intro j W' e
    rw [List.getElem?_append] at e
    split at e
    · next hj =>
      obtain ⟨v0, f1, f2, f3⟩ := h.want j W' e
      exact ⟨v0, by rw [List.getElem?_append_left (by rw [h.lw]; exact hj)]; exact f1, f2.kept hs4 (fun k hk => keep k (f2.lt k hk) (by rw [f3 k hk]; omega) (by rw [f3 k hk]; omega) (by rw [f3 k hk]; omega)), fun k hk => by rw [ρ1 k (f2.lt k hk)]; exact f3 k hk⟩
    · next hj =>
      have hj2 := (List.getElem?_eq_some_iff.1 e).1
      simp at hj2
      obtain rfl : j = Ws.length := by omega
      rw [Nat.sub_self] at e
      obtain rfl : W = W' := Option.some.inj e
      exact ⟨u, by rw [List.getElem?_append_right (by rw [h.lw]; exact Nat.le_refl _), h.lw, Nat.sub_self]; rfl, ou.kept hs4 (fun k hk => keep k (ou.lt k hk) (by rw [ru k hk]; omega) (by rw [ru k hk]; omega) (by rw [ru k hk]; omega)), fun k hk => by rw [ρ1 k (ou.lt k hk)]; exact ru k hk⟩
end Chn
end Go.Proofs.YtappjeepajjioaaDoor

namespace Go.Proofs.YtappjeepajjioaaDoor
open Go.RowKit Go.Shelf
namespace Chn

theorem own_some1 {m : Nat} {w : World} {v : Value} {n : Nat} {cs : List Value} (h : OwnM m w v n cs) (hn : 0 < n) : ∃ g c, v = .slice (some ⟨g, 0, none⟩) n c ∧ n ≤ c ∧ w.rangeAt g 0 cs ∧ g < w.heap.size := by
  rcases h with ⟨_, rfl, _⟩ | ⟨g, c, rfl, h1, h2, h3, h4, h5, h6⟩
  · omega
  · exact ⟨g, c, rfl, h1, h4, h6⟩
def rz (ρ : Nat → Nat) : Nat → Nat := fun k => if ρ k = 2 ∨ ρ k = 2000 then 0 else ρ k
theorem rz_ne {ρ : Nat → Nat} {k : Nat} (h1 : ρ k ≠ 2) (h2 : ρ k ≠ 2000) : rz ρ k = ρ k := if_neg (by omega)
theorem rz_z {ρ : Nat → Nat} {k : Nat} (h : ρ k = 2 ∨ ρ k = 2000) : rz ρ k = 0 := if_pos h
theorem Bh.cb {B0 X : Nat} {w0 w : World} {ρ : Nat → Nat} {vh vw : Value} {hv wv : List Value} {Ws : List (List (Nat × Nat))} (h : Bh B0 X w0 ρ w vh vw hv wv Ws) (hn : 0 < Ws.length) :
    ∃ gh ch gw cw, Ws.length ≤ ch ∧ Ws.length ≤ cw ∧ Cb B0 X gh gw (fS gh ch gw cw Ws.length) hv wv Ws w0 (rz ρ) w 0 (.slice none 0 0) [] := by
  obtain ⟨gh, ch, e1, h1, h2, h3⟩ := own_some1 h.oh (by rw [h.lh]; exact hn)
  obtain ⟨gw, cw, e2, h4, h5, h6⟩ := own_some1 h.ow (by rw [h.lw]; exact hn)
  have r1 := h.rh gh (by rw [e1]; rfl)
  have r2 := h.rw_ gw (by rw [e2]; rfl)
  refine ⟨gh, ch, gw, cw, by rw [← h.lh]; exact h1, by rw [← h.lw]; exact h4, ?_⟩
  constructor
  case bel => exact h.bel
  case low => exact fun k hk => by rw [rz_ne (by rw [h.low k hk]; omega) (by rw [h.low k hk]; omega)]; exact h.low k hk
  case row => rw [h.row, e1, e2, h.lh, h.lw]; rfl
  case rX => rw [rz_ne (by rw [h.rX]; omega) (by rw [h.rX]; omega)]; exact h.rX
  case hr => exact h2
  case rh => exact rz_z (.inl r1)
  case lh => exact h3
  case wr => exact h5
  case rw_ => exact rz_z (.inr r2)
  case lw => exact h6
  case want =>
    intro j W e
    obtain ⟨v, f1, f2, f3⟩ := h.want j W e
    obtain ⟨a, c, f4, f5, f6⟩ := f2.shape
    subst f4
    refine ⟨a, c, f1, OwnP.atP f2, fun x hx => ?_⟩
    subst hx
    have f7 : ∃ g, x = ⟨g, 0, none⟩ := by
      rcases f2 with ⟨q, _⟩ | ⟨g, cap, q, _⟩
      · cases q
      · injection q with q; injection q with q; exact ⟨g, q⟩
    obtain ⟨g, rfl⟩ := f7
    exact ⟨f2.lt g rfl, by show rz ρ g = 0; rw [rz_ne (by rw [f3 g rfl]; omega) (by rw [f3 g rfl]; omega)]; exact f3 g rfl⟩
  case own =>
    intro j W _ e
    have hj := (List.getElem?_eq_some_iff.1 e).1
    have := h.le
    obtain ⟨v, f1, f2, f3⟩ := h.own j W e
    exact ⟨v, f1, f2, fun k hk => by rw [rz_ne (by rw [f3 k hk]; omega) (by rw [f3 k hk]; omega)]; exact f3 k hk⟩
  case ol => exact OwnM.nil 1 _
  case rl => exact fun k hk => by cases hk
  case mrk => exact fun t v e => by cases e
theorem still_D {B0 X : Nat} {w0 w : World} {ρ : Nat → Nat} {vh vw : Value} {hv wv : List Value} {Ws : List (List (Nat × Nat))} (h : Bh B0 X w0 ρ w vh vw hv wv Ws) (hB : B0 ≤ w0.heap.size) (hn : 0 < Ws.length) (hW : ∀ W ∈ Ws, W.length ≤ 1099511627776) :
    Calls Tryd.prog 9 #[.pointer (some ⟨X, 0, none⟩)] w fun r w' => r = .returned (.bool true) ∧ Below B0 w0 w' := by
  obtain ⟨gh, ch, gw, cw, h1, h2, h3⟩ := h.cb hn
  exact still_C B0 X gh ch gw cw Ws.length hv wv Ws w0 w (rz ρ) h3 hB h.lh h.lw rfl h.le h1 h2 hW
set_option maxRecDepth 100000 in
set_option maxHeartbeats 2000000 in
theorem spansC_any {B0 X : Nat} {w0 w : World} {ρ : Nat → Nat} {vh vw : Value} {hv wv : List Value} {Ws : List (List (Nat × Nat))} (h : Bh B0 X w0 ρ w vh vw hv wv Ws) (hB : B0 ≤ w0.heap.size) (hc : Ws.length < 1000) (W : List (Nat × Nat)) (v u : Value)
    (ov : OwnP w v W) (rv : ∀ k, v.ownBlock = some k → ρ k = 3 + Ws.length) (ou : OwnP w u W) (ru : ∀ k, u.ownBlock = some k → ρ k = 0) :
    Calls Tryd.prog 20 #[.pointer (some ⟨X, 0, none⟩), v, u] w fun r w' => r = .returned (.tuple #[]) ∧ ∃ ρ' vh' vw', Bh B0 X w0 ρ' w' vh' vw' (hv ++ [v]) (wv ++ [u]) (Ws ++ [W]) ∧ (∀ k, k < w.heap.size → ρ' k = ρ k) ∧ w.heap.size ≤ w'.heap.size ∧ (∀ k, k < w.heap.size → ρ k ≠ 1 → ρ k ≠ 2 → ρ k ≠ 2000 → w'.heap[k]? = w.heap[k]?) := by
  obtain ⟨a1, c1, e1, _, _⟩ := ov.shape
  obtain ⟨a2, c2, e2, _, _⟩ := ou.shape
  subst e1
  subst e2
  have x0 : w.cell? ⟨X, 3, none⟩ = some vh := by rw [cell_of_row _ _ _ _ _ _ h.row]; rfl
  have hXl := lt_of_heap h.row
  obtain ⟨vh', w1, hap1, o1, g1⟩ := append_ls w vh hv a1 W.length c1 h.oh (by rw [h.lh]; omega)
  have hw1 : Wr ρ 2 w w1 := Wr.grow g1 h.rh
  have row1 := (hw1.block X hXl (by rw [h.rX]; omega)).trans h.row
  have y0 : w1.cell? ⟨X, 3, none⟩ = some vh := by rw [cell_of_row _ _ _ _ _ _ row1]; rfl
  have f0 : w1.frozen? ⟨X, 3, none⟩ = false := frozen_of_row _ _ _ _ _ row1
  have s1 := setCell_eq_setRow w1 X 3 _ 29 (0, 0) vh' row1
  have row2 : (w1.setCell ⟨X, 3, none⟩ vh').heap[X]? = some (.cells #[.slice none 0 0, .slice none 0 0, .slice none 0 0, vh', vw, .slice none 0 0, .slice none 0 0, .slice none 0 0, .slice none 0 0] 29 (0, 0)) := by
    rw [s1, setRow_heap _ _ _ _ _ _ row1]; rfl
  have y1 : (w1.setCell ⟨X, 3, none⟩ vh').cell? ⟨X, 4, none⟩ = some vw := by rw [cell_of_row _ _ _ _ _ _ row2]; rfl
  have ow2 : OwnM 1 (w1.setCell ⟨X, 3, none⟩ vh') vw wv.length wv := h.ow.kept (by simp [World.setCell]; exact hw1.size) (fun k hk => by
    rw [heap_setCell_other w1 ⟨X, 3, none⟩ k vh' (fun e => by have := h.rw_ k hk; rw [show k = X from e, h.rX] at this; omega), hw1.block k (h.ow.lt k hk) (by rw [h.rw_ k hk]; omega)])
  obtain ⟨vw', w3, hap3, o3, g3⟩ := append_ls (w1.setCell ⟨X, 3, none⟩ vh') vw wv a2 W.length c2 ow2 (by rw [h.lw]; omega)
  have row3 := (g3.old X (lt_of_heap row2) (fun e => by have := h.rw_ X e; rw [h.rX] at this; omega)).trans row2
  have y3 : w3.cell? ⟨X, 4, none⟩ = some vw := by rw [cell_of_row _ _ _ _ _ _ row3]; rfl
  have f3 : w3.frozen? ⟨X, 4, none⟩ = false := frozen_of_row _ _ _ _ _ row3
  have fin := hid (h.hold hB hc ov rv ou ru g1 o1 g3 o3)
  obtain ⟨b1, d1, e3, _, _⟩ := o1.shape
  obtain ⟨b2, d2, e4, _, _⟩ := o3.shape
  subst e3
  subst e4
  obtain ⟨n, hn⟩ : ∃ n, W.length = n := ⟨_, rfl⟩
  rw [hn] at hap1 hap3 ⊢ fin
  generalize hw4 : w1.setCell ⟨X, 3, none⟩ (.slice b1 (hv.length + 1) d1) = w4 at *
  clear h ov rv ou ru g1 o1 g3 o3 ow2 row1 row2 row3 s1 hw1 hn
  go_enter Tryd.func20, Tryd.ntmps20
  go_wp2_with (first
    | (at_builtin; refine Lib.wpList_append_run _ rfl _ _ 26 26 rfl _ _ rfl rfl _ _ hap1 ?_)
    | (at_builtin; refine Lib.wpList_append_run _ rfl _ _ 26 26 rfl _ _ rfl rfl _ _ hap3 ?_))
  go_end0
  exact ⟨rfl, _, _, _, fin.out⟩
end Chn
end Go.Proofs.YtappjeepajjioaaDoor

namespace Go.Proofs.YtappjeepajjioaaDoor
open Go.RowKit Go.Shelf
set_option maxRecDepth 100000 in
set_option maxHeartbeats 4000000 in
theorem rleft_at (b e m : Nat) (h2 : 2 ≤ e - b) (he : e ≤ 1099511627776) (hm : Hid (m = b + Tree.sp (e - b))) (w : World) :
    Calls Tryd.prog 58 #[sg b e] w fun r w' => r = .returned (sg b m) ∧ Below w.heap.size w w' := by
  have i1 := fun w' => rMiddle_at b e m h2 he hm w'
  have S0 := SpI.new w b e
  have B0 := hid (((Below.refl w.heap.size w).alloc (Nat.le_refl _) (.cells #[Value.int .i64 (b : Int), .int .i64 (e : Int)] 45)).alloc (by rw [size_alloc]; omega) (.cells #[Value.int .i64 0, .int .i64 0] 45))
  have R1 := SpI.new (w.alloc (.cells #[Value.int .i64 (b : Int), .int .i64 (e : Int)] 45)) 0 0
  have S1 := S0.below ((Below.refl _ _).alloc (Nat.le_refl _) (.cells #[Value.int .i64 0, .int .i64 0] 45))
  rw [size_alloc] at R1
  have c0 := S1.c0
  have c1 := S1.c1
  have R1 := hid R1
  have S1 := hid S1
  clear S0
  go_enter Tryd.func58, Tryd.ntmps58
  go_wp2
  generalize hw2 : (w.alloc (.cells #[Value.int .i64 (b : Int), .int .i64 (e : Int)] 45)).alloc (.cells #[Value.int .i64 0, .int .i64 0] 45) = w2 at *
  go_region_with (first | (go_at_call 56; refine (i1 _).mono ?_; rintro r w1 ⟨rfl, hw1'⟩; have hw1 := drewBelow8 hw1'; have T0 := S1.out.below hw1; have d0 := T0.c0; have d1 := T0.c1; have T1 := R1.out.below hw1; have g0 := T1.f0; have g1 := T1.f1; have e0 := T1.c0; have e1 := T1.c1; have B1 := hid (B0.out.trans (hw1.mono B0.out.size)); have T1 := hid T1))
  all_goals
    go_wp2_with fail
    have U := T1.out.two (b : Int) (m : Int)
    refine bodyPost_ret (v := sg b m) (results_cell_row rfl _ _ (w.heap.size + 1) 45 #[.int .i64 (b : Int), .int .i64 (m : Int)] (0, 0) _ rfl U Tryd.underlying45 rfl sizeSp8) rfl ⟨rfl, ?_⟩
    exact ((B1.out.setCell (p := ⟨w.heap.size + 1, 0, none⟩) (by show w.heap.size ≤ w.heap.size + 1; omega) _).setCell (p := ⟨w.heap.size + 1, 1, none⟩) (by show w.heap.size ≤ w.heap.size + 1; omega) _)
set_option maxRecDepth 100000 in
set_option maxHeartbeats 4000000 in
theorem rright_at (b e m : Nat) (h2 : 2 ≤ e - b) (he : e ≤ 1099511627776) (hm : Hid (m = b + Tree.sp (e - b))) (w : World) :
    Calls Tryd.prog 57 #[sg b e] w fun r w' => r = .returned (sg m e) ∧ Below w.heap.size w w' := by
  have i1 := fun w' => rMiddle_at b e m h2 he hm w'
  have S0 := SpI.new w b e
  have B0 := hid (((Below.refl w.heap.size w).alloc (Nat.le_refl _) (.cells #[Value.int .i64 (b : Int), .int .i64 (e : Int)] 45)).alloc (by rw [size_alloc]; omega) (.cells #[Value.int .i64 0, .int .i64 0] 45))
  have R1 := SpI.new (w.alloc (.cells #[Value.int .i64 (b : Int), .int .i64 (e : Int)] 45)) 0 0
  have S1 := S0.below ((Below.refl _ _).alloc (Nat.le_refl _) (.cells #[Value.int .i64 0, .int .i64 0] 45))
  rw [size_alloc] at R1
  have c0 := S1.c0
  have c1 := S1.c1
  have R1 := hid R1
  have S1 := hid S1
  clear S0
  go_enter Tryd.func57, Tryd.ntmps57
  go_wp2
  generalize hw2 : (w.alloc (.cells #[Value.int .i64 (b : Int), .int .i64 (e : Int)] 45)).alloc (.cells #[Value.int .i64 0, .int .i64 0] 45) = w2 at *
  go_region_with (first | (go_at_call 56; refine (i1 _).mono ?_; rintro r w1 ⟨rfl, hw1'⟩; have hw1 := drewBelow8 hw1'; have T0 := S1.out.below hw1; have d0 := T0.c0; have d1 := T0.c1; have T1 := R1.out.below hw1; have g0 := T1.f0; have g1 := T1.f1; have e0 := T1.c0; have e1 := T1.c1; have B1 := hid (B0.out.trans (hw1.mono B0.out.size)); have T1 := hid T1))
  all_goals
    go_wp2_with fail
    have U := T1.out.two (m : Int) (e : Int)
    refine bodyPost_ret (v := sg m e) (results_cell_row rfl _ _ (w.heap.size + 1) 45 #[.int .i64 (m : Int), .int .i64 (e : Int)] (0, 0) _ rfl U Tryd.underlying45 rfl sizeSp8) rfl ⟨rfl, ?_⟩
    exact ((B1.out.setCell (p := ⟨w.heap.size + 1, 0, none⟩) (by show w.heap.size ≤ w.heap.size + 1; omega) _).setCell (p := ⟨w.heap.size + 1, 1, none⟩) (by show w.heap.size ≤ w.heap.size + 1; omega) _)
set_option maxRecDepth 100000 in
set_option maxHeartbeats 2000000 in
theorem turned_any (L : List (Nat × Nat)) (a : Option Addr) (c : Nat) (w : World) (hl : L.length ≤ 1099511627776) (hA : AtP w a (pm L)) :
    Calls Tryd.prog 59 #[.slice a L.length c] w fun r w' => ∃ v, r = .returned v ∧ OwnP w' v L.reverse ∧ (∀ k, v.ownBlock = some k → w.heap.size ≤ k) ∧ Below w.heap.size w w' := by
  obtain ⟨n, hn⟩ : ∃ n, L.length = n := ⟨_, rfl⟩
  have HN := hid hn
  have HA := hid hA
  rw [hn] at hl ⊢
  clear hn hA
  go_enter Tryd.func59, Tryd.ntmps59
  go_wp2
  go_loopw [3, 4] (fun v i w' => ∃ J : Nat, J ≤ n ∧ i = .int .i64 ((J : Int) - 1) ∧ Hid (OwnP w' v (L.drop J).reverse) ∧ Hid (∀ k, v.ownBlock = some k → w.heap.size ≤ k) ∧ Hid (Below w.heap.size w w')) (fun _ i _ => (RowKit.intOf i + 1).toNat)
  case atStart => exact ⟨n, Nat.le_refl _, by first | rfl | go_num, by rw [List.drop_eq_nil_of_le (by rw [HN.out]; exact Nat.le_refl _)]; exact hid (OwnM.nil 2 _), hid (fun k hk => by cases hk), hid (Below.refl _ _)⟩
  case round =>
    obtain ⟨J, hJ, rfl, hO, hF, hB⟩ := hrel
    by_cases hJ0 : J = 0
    · subst hJ0
      have hO := hO.out
      rw [List.drop_zero] at hO
      go_wp2
      go_ret
      exact ⟨_, rfl, hO, hF.out, hB.out⟩
    · obtain ⟨j, rfl⟩ : ∃ j, J = j + 1 := ⟨J - 1, by omega⟩
      have hjl : j < L.length := by rw [HN.out]; omega
      obtain ⟨x, y, hxy⟩ : ∃ x y, L[j] = (x, y) := ⟨_, _, rfl⟩
      have e := List.getElem?_eq_getElem hjl
      rw [hxy] at e
      obtain ⟨g, rfl, hgl, c0, c1⟩ := HA.out j ((x : Int), (y : Int)) (by rw [List.getElem?_map, e]; rfl)
      rw [← hB.out.cell (p := ⟨g, j * 2, none⟩) hgl] at c0
      rw [← hB.out.cell (p := ⟨g, j * 2 + 1, none⟩) hgl] at c1
      obtain ⟨v', w3, hap, O3, G3⟩ := append_pair wr u3 (L.drop (j + 1)).reverse x y hO.out (by rw [List.length_reverse, List.length_drop, HN.out]; omega)
      have hrev : (L.drop (j + 1)).reverse ++ [(x, y)] = (L.drop j).reverse := by rw [List.drop_eq_getElem_cons hjl, hxy, List.reverse_cons]
      rw [hrev] at O3
      have O3 := hid O3
      have F3 : Hid (∀ k, v'.ownBlock = some k → w.heap.size ≤ k) := fun k hk => by
        rcases G3.alt with e1 | ⟨e1, _⟩
        · exact hF.out k (e1 ▸ hk)
        · exact Nat.le_trans hB.out.size (e1 k hk)
      have B3 := hid (hB.out.trans ⟨G3.os, G3.tape, G3.output, G3.size, fun k hk => G3.old k (Nat.lt_of_lt_of_le hk hB.out.size) (fun e' => by have := hF.out k e'; omega)⟩)
      have b1 : ((j + 1 : Nat) : Int) - 1 = (j : Int) := by omega
      have b2 : (j : Int) < (n : Int) := by omega
      have b3 : (0 : Int) ≤ (j : Int) := by omega
      rw [b1]
      clear hO hF hB G3 hrev hxy e
      go_wp2_with (at_builtin; go_must (refine Lib.wpList_append_run _ rfl _ _ 34 34 rfl _ _ rfl rfl _ _ hap ?_))
      exact ⟨⟨j, by omega, by go_num, O3, F3, B3⟩, by simp [RowKit.intOf]; try omega⟩
end Go.Proofs.YtappjeepajjioaaDoor

namespace Go.Proofs.YtappjeepajjioaaDoor
open Go.RowKit Go.Shelf
def slLen : Value → Nat
  | .slice _ n _ => n
  | _ => 0
theorem OwnM.slLen {m : Nat} {w : World} {v : Value} {n : Nat} {cs : List Value} (h : OwnM m w v n cs) : slLen v = n := by
  obtain ⟨a, c, e, _, _⟩ := h.shape
  rw [e]; rfl
/-- the way down: the span in a block of its own, the list of what lies beside -/
structure Dn (w w' : World) (v : Value) (b e : Nat) (l : List (Nat × Nat)) : Prop where
  sp : SpI w' w.heap.size b e
  ow : OwnP w' v l
  nw : ∀ k, v.ownBlock = some k → w.heap.size < k
  bel : Below w.heap.size w w'
theorem Dn.below {w w' w'' : World} {v : Value} {b e : Nat} {l : List (Nat × Nat)} (h : Dn w w' v b e l) (hb : Below w'.heap.size w' w'') : Dn w w'' v b e l :=
  ⟨h.sp.below hb, h.ow.below hb, h.nw, h.bel.trans (hb.mono h.bel.size)⟩
theorem Dn.grow {w w' w'' : World} {v v' : Value} {b e : Nat} {l l' : List (Nat × Nat)} (h : Dn w w' v b e l) (hg : Grow w' w'' v v') (ho : OwnP w'' v' l') : Dn w w'' v' b e l' :=
  ⟨(hg.old _ (lt_of_heap h.sp) (fun e => by have := h.nw _ e; omega)).trans h.sp, ho, fun k hk => by
    rcases hg.alt with e1 | ⟨e1, _⟩
    · exact h.nw k (e1 ▸ hk)
    · have := e1 k hk; have := lt_of_heap h.sp; omega,
   h.bel.trans ⟨hg.os, hg.tape, hg.output, hg.size, fun k hk => hg.old k (Nat.lt_of_lt_of_le hk h.bel.size) (fun e => by have := h.nw k e; omega)⟩⟩
theorem Dn.set {w w' : World} {v : Value} {b e : Nat} {l : List (Nat × Nat)} (h : Dn w w' v b e l) (b' e' : Nat) : Dn w ((w'.setCell ⟨w.heap.size, 0, none⟩ (.int .i64 (b' : Int))).setCell ⟨w.heap.size, 1, none⟩ (.int .i64 (e' : Int))) v b' e' l :=
  ⟨h.sp.two _ _, h.ow.kept (by simp [World.setCell]) (fun g hg => by
    have hne : g ≠ w.heap.size := by have := h.nw g hg; omega
    rw [heap_setCell_other _ ⟨w.heap.size, 1, none⟩ g _ hne, heap_setCell_other _ ⟨w.heap.size, 0, none⟩ g _ hne]), h.nw,
   (h.bel.setCell (p := ⟨w.heap.size, 0, none⟩) (Nat.le_refl _) _).setCell (p := ⟨w.heap.size, 1, none⟩) (Nat.le_refl _) _⟩
theorem SpP.nil {w : World} {c : Int} : SpP w c [] (.returned (.tuple #[.slice none 0 0, .int .i64 c])) w := ⟨Below.refl _ _, _, rfl, OwnM.nil 2 _, fun k hk => by cases hk⟩
end Go.Proofs.YtappjeepajjioaaDoor

namespace Go.Proofs.YtappjeepajjioaaDoor
open Go.RowKit Go.Shelf
/-- append(a, b...) of spans -/
theorem append_spl (w : World) (v1 v2 : Value) (l m : List (Nat × Nat)) (h1 : OwnP w v1 l) (h2 : OwnP w v2 m) (hl : l.length ≤ 1099511627776) (hm : m.length ≤ 1099511627776) :
    ∃ v' w', (Builtin.append_ #[34, 34] 34 #[v1, v2]).run Tryd.prog w = .ok v' w' ∧ OwnP w' v' (l ++ m) ∧ Grow w w' v1 v' := by
  obtain ⟨i0, hi, hz0, hz1, hz2⟩ := info_parts infoSp8
  have one : ∀ u ∈ prs m, u.oneCell' = true := fun u hu => by
    simp only [prs, List.mem_flatMap, List.mem_cons, List.not_mem_nil, or_false] at hu
    obtain ⟨q, _, rfl | rfl⟩ := hu <;> rfl
  have hsrc : Src Tryd.prog 2 34 v2 m.length (prs m) w := by
    rcases h2 with ⟨rfl, h, h'⟩ | ⟨g, cap, rfl, _, _, h0, h4, _, _⟩
    · rw [h, h']; exact Src.ofNil w Tryd.underlying34 0
    · exact Src.ofSlice w Tryd.underlying34 ⟨g, 0, none⟩ m.length cap (prs m) h0 (fun j u hj => by rw [Addr.add_mid]; exact h4 j u hj) one
  by_cases hz : v1 = .slice none 0 0 ∧ m.length = 0
  · obtain ⟨rfl, hm0⟩ := hz
    have hl0 : l.length = 0 := by
      rcases h1 with ⟨_, h, _⟩ | ⟨g, cap, h, _⟩
      · exact h
      · cases h
    obtain rfl : l = [] := List.length_eq_zero_iff.1 hl0
    obtain rfl : m = [] := List.length_eq_zero_iff.1 hm0
    refine ⟨.slice none 0 0, w, ?_, OwnM.nil 2 w, ⟨rfl, rfl, rfl, Nat.le_refl _, fun _ _ _ => rfl, .inl rfl⟩⟩
    rcases h2 with ⟨rfl, _⟩ | ⟨g, cap, rfl, _⟩
    · kernel_rfl
    · kernel_rfl
  · obtain ⟨v', w', a1, a2, a3⟩ := run_append_M (P := Tryd.prog) w 34 34 34 45 i0 (.agg #[.int .i64 0, .int .i64 0]) Tryd.underlying34 hi hz0 hz1 rfl v1 l.length (prs l) h1 v2 m.length (prs m) hsrc
      (by rw [hz2]; omega) (by rw [maxLen]; omega) (fun e => by
        rcases Nat.eq_zero_or_pos m.length with h | h
        · exact absurd ⟨e, h⟩ hz
        · exact h)
    refine ⟨v', w', a1, ?_, a3⟩
    rw [OwnP, prs_append, List.length_append]
    exact a2
theorem below_drewN8 {B : Nat} {a w : World} (h : Below B a w) (n : Nat) : Below B a (w.drewN n) := ⟨h.os, h.tape, h.output, h.size, h.block⟩
theorem OwnP.one (w : World) (x y : Nat) : OwnP (w.alloc (.cells #[.int .i64 (x : Int), .int .i64 (y : Int)] 45)) (.slice (some ⟨w.heap.size, 0, none⟩) 1 1) [(x, y)] := by
  have r := heap_alloc_new w (.cells #[.int .i64 (x : Int), .int .i64 (y : Int)] 45)
  refine .inr ⟨w.heap.size, 1, rfl, Nat.le_refl _, by rw [maxLen]; omega, rfl, fun j v hv => ?_, there_of_row r 0 2 (by simp), lt_of_heap r⟩
  rw [cell_of_row _ _ _ _ _ _ r, Nat.zero_add]
  simpa [prs] using hv
theorem Tree.tch_snoc (is : List Nat) (b e : Nat) {j i : Nat} (h : is[j]? = some i) : Tree.tch (is.take (j + 1)) b e = (Tree.tch (is.take j) b e || decide (b ≤ i ∧ i < e)) := by
  unfold Tree.tch
  rw [List.take_add_one, h, Option.toList_some, List.any_append]; simp
end Go.Proofs.YtappjeepajjioaaDoor

namespace Go.Proofs.YtappjeepajjioaaDoor
open Go.RowKit Go.Shelf
end Go.Proofs.YtappjeepajjioaaDoor

namespace Go.Proofs.YtappjeepajjioaaDoor
open Go.RowKit Go.Shelf
end Go.Proofs.YtappjeepajjioaaDoor

namespace Go.Proofs.YtappjeepajjioaaDoor
open Go.RowKit Go.Shelf
theorem batchE_rise {n : Int} {l : List Int} (h1 : 1 ≤ n ∧ n ≤ 1099511627776) (h2 : ¬ (l.length = 0 ∨ 256 < l.length)) (hr : rsgB l = true) : batchE n l = if 0 ≤ l.getD 0 0 ∧ l.getD (l.length - 1) 0 < n then 0 else 80 := by
  have hp : l.Pairwise (· < ·) := by unfold rsgB at hr; exact of_decide_eq_true hr
  have hfl : l.getD 0 0 ≤ l.getD (l.length - 1) 0 := by
    rw [getD_at (show 0 < l.length by omega), getD_at (show l.length - 1 < l.length by omega)]
    by_cases e : l.length = 1
    · have : l.length - 1 = 0 := by omega
      simp [this]
    · have := List.pairwise_iff_getElem.1 hp 0 (l.length - 1) (by omega) (by omega) (by omega)
      omega
  unfold batchE
  rw [if_pos h1, if_neg h2, if_pos hr]
  by_cases h3 : 0 ≤ l.getD 0 0 ∧ l.getD (l.length - 1) 0 < n
  · rw [if_pos h3, if_pos (by omega), if_pos (by omega)]
  · rw [if_neg h3]
    split
    · rw [if_neg (by omega)]
    · rfl
end Go.Proofs.YtappjeepajjioaaDoor

namespace Go.Proofs.YtappjeepajjioaaDoor
open Go.RowKit Go.Shelf
def ivz (l : List Int) : List Value := l.map fun x => .int .i64 x
theorem ivz_len (l : List Int) : (ivz l).length = l.length := by simp [ivz]
theorem ivz_one {L : List Int} {v : Value} (h : v ∈ ivz L) : v.oneCell' = true := by
  simp only [ivz, List.mem_map] at h
  obtain ⟨n, _, rfl⟩ := h
  rfl
theorem infoZ : (Tryd.prog.info? 3).map (fun i => (i.zero, i.size, i.bytes)) = some (some (.int .i64 0), 1, 8) := by kernel_rfl
theorem infoZ1 : (Tryd.prog.info? 3).map (·.size) = some 1 := by kernel_rfl
/-- a row of numbers -/
def RowZ (w : World) (H : Nat) (L : List Int) : Prop := w.heap[H]? = some (.cells (ivz L).toArray 3 (0, 0))
theorem RowZ.lt {w : World} {H : Nat} {L : List Int} (h : RowZ w H L) : H < w.heap.size := lt_of_heap h
theorem RowZ.cell {w : World} {H : Nat} {L : List Int} (h : RowZ w H L) {j : Nat} {p : Int} (hp : L[j]? = some p) : w.cell? ⟨H, j, none⟩ = some (.int .i64 p) := by
  rw [cell_of_row _ _ _ _ _ _ h]; simp [ivz, hp]
theorem RowZ.at {w : World} {H : Nat} {L : List Int} (h : RowZ w H L) : AtI w (some ⟨H, 0, none⟩) L := fun j p hp => ⟨_, rfl, h.lt, by rw [Addr.add_mid, Nat.zero_add]; exact h.cell hp⟩
theorem RowZ.free {w : World} {H : Nat} {L : List Int} (h : RowZ w H L) (j : Nat) : w.frozen? ⟨H, j, none⟩ = false := frozen_of_row _ _ _ _ _ h
theorem RowZ.below {w w' : World} {H B : Nat} {L : List Int} (h : RowZ w H L) (hb : Below B w w') (hB : H < B) : RowZ w' H L := (hb.block H hB).trans h
theorem RowZ.set {w : World} {H : Nat} {L : List Int} (h : RowZ w H L) (k : Nat) (x : Int) : RowZ (w.setCell ⟨H, k, none⟩ (.int .i64 x)) H (L.set k x) := by
  have e := setCell_eq_setRow w H k (ivz L).toArray 3 (0, 0) (.int .i64 x) h
  unfold RowZ
  rw [e, setRow_heap _ _ _ _ _ _ h]
  refine congrArg (fun A => some (Obj.cells A 3 (0, 0))) ?_
  simp [ivz, List.map_set]
theorem make_ints8 (w : World) (c : Nat) (hc : c ≤ 17592186044416) :
    (Instr.makeSlice 22 (.int .i64 (c : Int)) (.int .i64 (c : Int))).run Tryd.prog w = .ok (.slice (some ⟨w.heap.size, 0, none⟩) c c) (w.alloc (.cells (ivz (List.replicate c 0)).toArray 3)) := by
  obtain ⟨i0, hi, hz0, hz1, hz2⟩ := info_parts infoZ
  have h := run_make (P := Tryd.prog) w 22 3 i0 (.int .i64 0) Tryd.underlying22 hi hz0 .i64 .i64 (c : Int) (c : Int) (by omega) (by omega) (by rw [hz2]; omega) (by omega)
  rw [Int.toNat_natCast, hz1, Nat.mul_one] at h
  have e : madeCells (Value.int .i64 0).cells c = (ivz (List.replicate c 0)).toArray := by
    apply Array.ext'
    rw [show (madeCells (Value.int .i64 0).cells c).toList = List.replicate c (.int .i64 0) from toList_madeCells_one _ _]
    simp [ivz]
  rw [e] at h
  exact h
theorem copy_ints8 (w : World) (H : Nat) (a : Option Addr) (cap' : Nat) (ps rest : List Int) (hs : AtI w a ps) (hR : RowZ w H (List.replicate ps.length 0 ++ rest)) (m cap : Nat) (hm : m = ps.length + rest.length) :
    ∃ w', (Builtin.copy_ #[22, 22] 3 #[.slice (some ⟨H, 0, none⟩) m cap, .slice a ps.length cap']).run Tryd.prog w = .ok (goInt ps.length) w' ∧ RowZ w' H (ps ++ rest) ∧ But H w w' := by
  by_cases h0 : ps.length = 0
  · obtain rfl : ps = [] := List.length_eq_zero_iff.1 h0
    exact ⟨w, run_copy_none (P := Tryd.prog) w _ _ _ 3 _ _ _ _ _ _ Tryd.underlying22 infoZ1 (by simp), by simpa using hR, But.refl _ _⟩
  · obtain ⟨x, rfl, hx, _⟩ := hs 0 _ (List.getElem?_eq_getElem (by omega))
    have h := run_copy_row (P := Tryd.prog) w 22 22 3 3 H 0 m cap x ps.length cap' _ 3 (ivz ps) Tryd.underlying22 infoZ1 hR
      (by rw [ivz_len]; exact (Nat.min_eq_left (by omega)).symm) (fun j u hu => by
        simp only [ivz, List.getElem?_map, Option.map_eq_some_iff] at hu
        obtain ⟨p, hp, rfl⟩ := hu
        obtain ⟨y, hy, _, hc⟩ := hs j p hp
        cases hy
        exact hc) (by simp [ivz]) (fun u hu => ivz_one hu)
    refine ⟨_, h.trans (by rw [ivz_len]), ?_, (But.refl _ _).setRow _⟩
    unfold RowZ
    rw [setRow_heap _ _ _ _ _ _ hR]
    refine congrArg (fun A => some (Obj.cells A 3 (0, 0))) ?_
    simp [ivz]
def b77 (j : Nat) : List Int := List.replicate j 77 ++ List.replicate (8 - j) 0
theorem b77_set (ps : List Int) {j : Nat} (hj : j < 8) : (ps ++ b77 j).set (ps.length + j) 77 = ps ++ b77 (j + 1) := by
  rw [List.set_append_right _ _ (by omega), Nat.add_sub_cancel_left, b77, b77, show 8 - j = (8 - (j + 1)) + 1 by omega, List.replicate_succ, List.set_append_right _ _ (by simp), List.length_replicate, Nat.sub_self, List.replicate_succ', List.append_assoc]
  rfl
theorem b77_len (j : Nat) (hj : j ≤ 8) : (b77 j).length = 8 := by simp [b77]; omega
set_option maxRecDepth 100000 in
set_option maxHeartbeats 2000000 in
theorem lentInts8_any (ps : List Int) (a : Option Addr) (cap : Nat) (w : World) (hn : ps.length ≤ 17592186044400) (hA : AtI w a ps) :
    Calls Tryd.prog 17 #[.slice a ps.length cap] w fun e w' => e = .returned (.slice (some ⟨w.heap.size, 0, none⟩) (ps.length + 8) (ps.length + 8)) ∧ RowZ w' w.heap.size (ps ++ List.replicate 8 77) ∧ Below w.heap.size w w' := by
  have hmk := make_ints8 w (ps.length + 8) (by omega)
  have e8 : ((ps.length + 8 : Nat) : Int) = (ps.length : Int) + 8 := by omega
  rw [e8] at hmk
  have R1 : RowZ (w.alloc (.cells (ivz (List.replicate (ps.length + 8) 0)).toArray 3)) w.heap.size (List.replicate ps.length 0 ++ List.replicate 8 0) := by
    rw [List.replicate_append_replicate]; exact heap_alloc_new w _
  have hb1 := (Below.refl w.heap.size w).alloc (Nat.le_refl _) (.cells (ivz (List.replicate (ps.length + 8) 0)).toArray 3)
  obtain ⟨w2, hcp, hR2, hb2⟩ := copy_ints8 _ w.heap.size a cap ps (List.replicate 8 0) (hA.below hb1 (Nat.le_refl _)) R1 (ps.length + 8) (ps.length + 8) (by simp)
  have B2 : Below w.heap.size w w2 := hb1.trans (hb2.below (Nat.le_refl _) (by rw [size_alloc]; omega))
  have HR2 : Hid (RowZ w2 w.heap.size (ps ++ b77 0)) := hR2
  have HB2 := hid B2
  clear hR2 B2 R1 hb2 hb1 hA
  generalize w.alloc (.cells (ivz (List.replicate (ps.length + 8) 0)).toArray 3) = w1 at *
  obtain ⟨n, hpn⟩ : ∃ n, ps.length = n := ⟨_, rfl⟩
  rw [hpn] at hmk hcp hn ⊢
  go_enter Tryd.func17, Tryd.ntmps17
  go_wp2
  clear hcp hmk
  go_loopw [4] (fun i w' => ∃ j : Nat, j ≤ 8 ∧ i = .int .i64 ((n : Int) + (j : Int)) ∧ Hid (RowZ w' w.heap.size (ps ++ b77 j)) ∧ Hid (Below w.heap.size w w')) (fun i _ => n + 8 - (intOf i).toNat)
  case atStart => exact ⟨0, by omega, by simp, HR2, HB2⟩
  case round =>
    clear HR2 HB2
    obtain ⟨j, hj, rfl, hR, hB⟩ := hrel
    by_cases hlt : j < 8
    · have b0 : (n : Int) + (j : Int) < (n : Int) + 8 := by omega
      have b1 : (0 : Int) ≤ (n : Int) + (j : Int) := by omega
      have t1 : ((n : Int) + (j : Int)).toNat = n + j := by omega
      have hl : (ps ++ b77 j).length = n + 8 := by rw [List.length_append, b77_len j (by omega), hpn]
      have cp := hR.out.cell (List.getElem?_eq_getElem (show n + j < (ps ++ b77 j).length by omega))
      have fz := hR.out.free (n + j)
      have R' := hR.out.set (n + j) 77
      rw [← hpn, b77_set ps hlt, hpn] at R'
      have B' := hid (hB.out.setCell (p := ⟨w.heap.size, n + j, none⟩) (Nat.le_refl _) (.int .i64 77))
      have R'' := hid R'
      clear R' hR hB
      go_wp2
      exact ⟨⟨j + 1, by omega, by rw [show (n : Int) + (j : Int) + 1 = (n : Int) + ((j + 1 : Nat) : Int) from by omega], R'', B'⟩, by simp [intOf]; omega⟩
    · obtain rfl : j = 8 := by omega
      have b0 : ¬ (n : Int) + ((8 : Nat) : Int) < (n : Int) + 8 := by omega
      go_wp2
      go_ret
      exact ⟨rfl, hR.out, hB.out⟩
end Go.Proofs.YtappjeepajjioaaDoor

namespace Go.Proofs.YtappjeepajjioaaDoor
open Go.RowKit Go.Shelf
set_option maxRecDepth 100000 in
set_option maxHeartbeats 2000000 in
theorem keptInts8_any (ps : List Int) (H : Nat) (c : Nat) (a : Option Addr) (cap : Nat) (w : World) (hn : ps.length ≤ 17592186044400) (hR : RowZ w H (ps ++ List.replicate 8 77)) (hA : AtI w a ps) :
    Calls Tryd.prog 19 #[.slice (some ⟨H, 0, none⟩) (ps.length + 8) c, .slice a ps.length cap] w fun e w' => e = .returned (.bool true) ∧ Below w.heap.size w w' ∧ w'.heap = w.heap := by
  have HR := hid hR
  have HA := hid hA
  obtain ⟨n, hpn⟩ : ∃ n, ps.length = n := ⟨_, rfl⟩
  have HN := hid hpn
  rw [hpn] at hn ⊢
  clear hR hA hpn
  obtain ⟨N, hN⟩ : ∃ N, n + 8 = N := ⟨_, rfl⟩
  rw [hN]
  go_enter Tryd.func19, Tryd.ntmps19
  go_wp2
  go_loopw [5] (fun i w' => ∃ j : Nat, j ≤ N ∧ i = .int .i64 (j : Int) ∧ Hid (Below w.heap.size w w' ∧ w'.heap = w.heap)) (fun i _ => N - (intOf i).toNat)
  case atStart => exact ⟨0, by omega, rfl, hid ⟨Below.refl _ _, rfl⟩⟩
  case round =>
    obtain ⟨j, hj, rfl, hB⟩ := hrel
    by_cases hjN : j < N
    · have b0 : (j : Int) < (N : Int) := by omega
      have j0 : (0 : Int) ≤ (j : Int) := by omega
      by_cases hjn : j < n
      · have b1 : (j : Int) < (n : Int) := by omega
        have b2 : ¬ (n : Int) ≤ (j : Int) := by omega
        have b3 : ¬ n ≤ j := by omega
        obtain ⟨z, hz⟩ : ∃ z, ps[j]? = some z := ⟨_, List.getElem?_eq_getElem (by rw [HN.out]; exact hjn)⟩
        have c0 := HR.out.cell (j := j) (p := z) (by rw [List.getElem?_append_left (by rw [HN.out]; exact hjn)]; exact hz)
        obtain ⟨x, rfl, xb, c1⟩ := HA.out j z hz
        rw [← hB.out.1.cell (p := ⟨H, j, none⟩) HR.out.lt] at c0
        rw [← hB.out.1.cell (p := x.add j) (by rw [addr_block]; exact xb)] at c1
        have y1 : (z == z) = true := by simp
        have y2 : (z != z) = false := by simp
        have y3 : decide (z = z) = true := by simp
        clear hz xb
        go_wp2
        go_quiet (fail)
        go_wp2
        exact ⟨⟨j + 1, by omega, by go_num, hid ⟨below_drewN8 hB.out.1 _, hB.out.2⟩⟩, by simp [intOf]; omega⟩
      · have b1 : ¬ (j : Int) < (n : Int) := by omega
        have b2 : (n : Int) ≤ (j : Int) := by omega
        have c0 := HR.out.cell (j := j) (p := 77) (by rw [List.getElem?_append_right (by rw [HN.out]; omega), List.getElem?_replicate, if_pos (by rw [HN.out]; omega)])
        rw [← hB.out.1.cell (p := ⟨H, j, none⟩) HR.out.lt] at c0
        go_wp2
        go_quiet (fail)
        go_wp2
        exact ⟨⟨j + 1, by omega, by go_num, hid ⟨below_drewN8 hB.out.1 _, hB.out.2⟩⟩, by simp [intOf]; omega⟩
    · have b0 : ¬ (j : Int) < (N : Int) := by omega
      go_wp2
      go_ret
      exact ⟨rfl, hB.out.1, hB.out.2⟩
end Go.Proofs.YtappjeepajjioaaDoor
