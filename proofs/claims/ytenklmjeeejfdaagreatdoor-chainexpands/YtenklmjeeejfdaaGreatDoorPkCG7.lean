import Derived.Test.YtenklmjeeejfdaaGreatDoorPkCX5
import Derived.Deep.DeepCutAuto
import Derived.Test.YtenklmjeeejfdaaGreatDoorPkCR7
import Derived.Test.YtenklmjeeejfdaaGreatDoorPkTL12
import Derived.Test.YtenklmjeeejfdaaGreatDoorPkSF5
import Derived.Test.YtenklmjeeejfdaaGreatDoorPkCX10
import Derived.Test.YtenklmjeeejfdaaGreatDoorPkTL34
/- Layer 13, the law: still of a book of texts alone (written by genCG7.py) -/
namespace Go.Proofs.YtenklmjeeejfdaaGreatDoor
open Go.RowKit Go.Shelf
namespace Chn
namespace Gb
theorem lt_of_cellU {w : World} {b o : Nat} {v : Value} (h : w.cell? ⟨b, o, none⟩ = some v) : b < w.heap.size := by
  have := block_lt_of_cell h
  exact this
set_option maxRecDepth 100000 in
set_option maxHeartbeats 8000000 in
theorem still_TN (B0 X gh kH gw kW cT : Nat) (hv wv : List Value) (WT : List (List Value)) (w : World) (ρ0 : Nat → Nat)
    (h : Cb mkU B0 X gh gw (fN gh kH gw kW cT) hv wv WT w ρ0 w 0 (.slice none 0 0) []) (hB : B0 ≤ w.heap.size) (hT : WT.length = cT) (q1 : cT ≤ 900) (q3 : cT ≤ kH) (q4 : cT ≤ kW)
    (TX : Hid (∀ W ∈ WT, W.length ≤ 1099511627776 ∧ ∃ L : List (List UInt8), W = svs L)) :
    Calls Tryz.prog 15 #[.pointer (some ⟨X, 0, none⟩)] w fun r w' => r = .returned (.bool true) ∧ Below B0 w w' := by
  have hF := hid (fN_set gh kH gw kW cT)
  have s0 := by
    obtain ⟨x0, x1, x2, x3, x5, x6, x7, x8, _⟩ := (Cn.mk (vl := .slice none 0 0) h.row).all
    exact stay_any X 0 0 cT 0 _ _ _ _ _ _ _ _ w (lt_of_heap h.row) x0 x1 x3 x6 x7 (Nat.zero_le _) (Nat.zero_le _) (by omega) (by omega) (hid fun j _ hj => h.okT TX.out (Nat.zero_le _) (by omega)) (hid fun j _ hj => by omega)
  rw [show ((0 : Nat) : Int) = 0 from rfl] at s0
  have Ha0 := hid h
  have hX0 := h.rX
  clear h
  go_enter Tryz.func15, Tryz.ntmps15
  go_wp2_with (go_at_call 38; fail)
  refine s0.mono ?_
  rintro r wa ⟨rfl, ba⟩
  have Ha1 : Hid (Cb mkU B0 X gh gw (fN gh kH gw kW cT) hv wv WT w (rx ρ0 w 0) wa 0 (.slice none 0 0) [] ∧ ∀ k, k < w.heap.size → rx ρ0 w 0 k = ρ0 k) := ⟨Ha0.out.below hB ba, rx_eq (fun _ _ => rfl) (Nat.le_refl _)⟩
  clear Ha0 s0 ba
  go_wp2
  go_loopw [3, 4, 5, 6, 7, 8, 9] (fun _ i _ _ _ _ _ w' => ∃ (q : Nat) (ρ : Nat → Nat) (vl : Value) (ls : List Value), q ≤ cT ∧ i = .int .i64 (q : Int) ∧ ls.length = 40 * q ∧ Hid (Cb mkU B0 X gh gw (fN gh kH gw kW cT) hv wv WT w ρ w' q vl ls ∧ ∀ k, k < w.heap.size → ρ k = ρ0 k)) (fun _ i _ _ _ _ _ _ => cT - (intOf i).toNat)
  case atStart => exact ⟨0, _, _, _, by omega, rfl, rfl, Ha1⟩
  case round =>
    clear Ha1
    obtain ⟨q, ρ, vl, ls, hq, rfl, hll, hC⟩ := hrel
    obtain ⟨x0, x1, x2, x3, x5, x6, x7, x8, f2⟩ := (Cn.mk (vl := vl) hC.out.1.row).all
    by_cases hqc : q < cT
    · have b1 : (0 : Int) ≤ (q : Int) := by omega
      have b2 : (q : Int) < (cT : Int) := by omega
      obtain ⟨W, hWe⟩ : ∃ W, WT[q]? = some W := ⟨_, List.getElem?_eq_getElem (by omega)⟩
      have hWs := (TX.out W (List.mem_of_getElem? hWe)).1
      obtain ⟨v, hve, hOv, hrv⟩ := hC.out.1.own q W (Nat.le_refl _) hWe
      have d0 := hC.out.1.hr q v hve
      rw [Nat.zero_add] at d0
      obtain ⟨av, cv, hvv, hcv, hcv2⟩ := hOv.shape
      subst hvv
      have im : Calls Tryz.prog 39 #[.int .i64 (q : Int)] wr fun e w' => e = .returned (mkU q) ∧ Below wr.heap.size wr w' := markU13_any q (by omega) wr
      have Ya0 : Hid (∀ w2 : World, Below wr.heap.size wr w2 → Ca mkU B0 X gh gw (fN gh kH gw kW cT) hv wv WT w (rx ρ wr 0) w2 q 0 (.slice av W.length cv) W vl ls ∧ ∀ k, k < w.heap.size → rx ρ wr 0 k = ρ0 k) := fun w2 hb =>
        ⟨⟨(hC.out.1.skip (Nat.le_succ q)).below hB hb, by rw [List.replicate_zero, List.drop_zero, List.nil_append]; exact hOv.below hb, fun g hg => by rw [rx_old (hOv.lt g hg)]; exact hrv g hg, hll⟩, rx_eq hC.out.2 hC.out.1.bel.size⟩
      obtain ⟨m, hm⟩ : ∃ m : ByteArray, mkU q = .string m := ⟨_, rfl⟩
      rw [hm] at im
      have HMQ := hid hm
      obtain ⟨n, hn⟩ : ∃ n, W.length = n := ⟨_, rfl⟩
      have HN := hid hn
      rw [hn] at hWs hcv d0
      clear hC hOv hrv hm hn hWe hve
      go_wp2_with (go_at_call 39; refine im.mono ?_; rintro r w2 ⟨rfl, b2'⟩; have Ya1 := hid (Ya0.out _ b2'); clear b2' im Ya0)
      clear x0 x1 x2 x3 x5 x6 x7 x8 f2 d0
      generalize rx ρ wr 0 = ρ1 at *
      go_loopw [7] (fun k w' => ∃ K : Nat, K ≤ n ∧ k = .int .i64 (K : Int) ∧ Hid (Ca mkU B0 X gh gw (fN gh kH gw kW cT) hv wv WT w ρ1 w' q K (.slice av n cv) W vl ls ∧ ∀ k, k < w.heap.size → ρ1 k = ρ0 k)) (fun k _ => n - (intOf k).toNat)
      case atStart => exact ⟨0, by omega, rfl, by have := Ya1.out; rw [HN.out] at this; exact this⟩
      case round =>
        clear Ya1
        obtain ⟨K, hK, rfl, hY⟩ := hrel
        by_cases hKn : K < n
        · have b3 : (K : Int) < (n : Int) := by omega
          have k0 : (0 : Int) ≤ (K : Int) := by omega
          have hlen : (List.replicate K (mkU q) ++ W.drop K).length = W.length := by rw [List.length_append, List.length_replicate, List.length_drop, HN.out]; omega
          obtain ⟨g, cg, eg, hce, hlte⟩ := hY.out.1.ov.cell (List.getElem?_eq_getElem (show K < (List.replicate K (mkU q) ++ W.drop K).length by rw [hlen, HN.out]; omega))
          injection eg with eg1 eg2 eg3
          subst eg1
          subst eg3
          have hY1 := hY.out.1
          have hR1 := hid hY.out.2
          rw [← HN.out] at hY1
          obtain ⟨Ya2, ⟨y1, z1⟩, g1⟩ := hY1.set hB (by rw [HN.out]; exact hKn)
          rw [HN.out, HMQ.out] at Ya2
          have Ya2 := hid Ya2
          clear hce hlte hY hY1 hlen eg2
          go_wp2
          exact ⟨⟨K + 1, by omega, by go_num, Ya2.out, hR1.out⟩, by simp [intOf]; omega⟩
        · obtain rfl : K = n := by omega
          have b3 : ¬ (K : Int) < (K : Int) := by omega
          have hY1 := hY.out.1
          have hR1 := hY.out.2
          rw [← HN.out] at hY1
          have Ua0 := hY1.done
          rw [HN.out] at Ua0
          have Ua0 := hid (And.intro Ua0 hR1)
          clear hY hY1 hR1
          go_wp2
          generalize (.slice av K cv : Value) = v0 at *
          go_loopw [5, 8] (fun v k w' => ∃ (S n : Nat) (ρ : Nat → Nat) (vl : Value) (ls : List Value), S ≤ 40 ∧ k = .int .i64 (S : Int) ∧ n ≤ 1099511627776 + S ∧ Hid (Cu mkU B0 X gh gw (fN gh kH gw kW cT) hv wv WT w ρ w' q S n v vl ls ∧ ∀ k, k < w.heap.size → ρ k = ρ0 k)) (fun _ k _ => 40 - (intOf k).toNat)
          case atStart => exact ⟨0, K, ρ1, vl, ls, by omega, rfl, by omega, Ua0⟩
          case round =>
            clear Ua0
            obtain ⟨S, n, ρ2, vl2, ls2, hS, rfl, hnS, hU⟩ := hrel
            have zs := hU.out.1.cb.bel.size
            by_cases hS40 : S < 40
            · have b4 : (S : Int) < 40 := by omega
              obtain ⟨_, _, y2, _, _, _, _, _, f2⟩ := (Cn.mk (vl := vl2) hU.out.1.cb.row).all
              obtain ⟨av2, cv2, hvv, _, _⟩ := hU.out.1.ov.shape
              subst hvv
              obtain ⟨vl3, w3, hap, Oa3, Ga3⟩ := append_lsT wr vl2 ls2 av2 n cv2 hU.out.1.cb.ol (by rw [hU.out.1.ll]; omega)
              obtain ⟨al3, cl3, hvl3, _, _⟩ := Oa3.shape
              subst hvl3
              have Ua3 := hU.out.1.push hB hF.out hS40 Ga3 Oa3
              have Ra3 := rx_eq (r := 2) hU.out.2 zs
              have Xa3 := lt_of_heap hU.out.1.cb.row
              have f3 : w3.frozen? ⟨X, 2, none⟩ = false ∧ ∃ y, w3.cell? ⟨X, 2, none⟩ = some y := by
                have hw : Wr ρ2 2 wr w3 := Wr.grow Ga3 hU.out.1.cb.rl
                have row1 := (hw.block X Xa3 (by rw [hU.out.1.cb.rX]; omega)).trans hU.out.1.cb.row
                exact ⟨frozen_of_row _ _ _ _ _ row1, _, by rw [cell_of_row _ _ _ _ _ _ row1]; rfl⟩
              obtain ⟨f3, y3', hy3⟩ := f3
              generalize hw4 : w3.setCell ⟨X, 2, none⟩ (.slice al3 (ls2.length + 1) cl3) = w4 at *
              obtain ⟨v5, w5, hap5, Oa5, Ga5⟩ := append_mkU w4 (.slice av2 n cv2) n q Ua3.ov (by omega)
              have Ua5 : Hid (Cu mkU B0 X gh gw (fN gh kH gw kW cT) hv wv WT w _ w5 q (S + 1) (n + 1) v5 _ _ ∧ _) := ⟨Ua3.grow hB Ga5 Oa5, rx_eq (r := 3 + q) Ra3 Ua3.cb.bel.size⟩
              rw [HMQ.out] at hap5
              clear Ua3 hU Oa3 Ga3 Oa5 Ga5 Xa3 Ra3
              go_wp2_with (first
                | (at_builtin; refine Lib.wpList_append_run _ rfl _ _ 28 28 rfl _ _ rfl rfl _ _ hap ?_)
                | (at_builtin; go_must (refine Lib.wpList_append_run _ rfl _ _ 23 23 rfl _ _ rfl rfl _ _ hap5 ?_)))
              exact ⟨⟨S + 1, n + 1, _, _, _, by omega, by go_num, by omega, Ua5⟩, by simp [intOf]; omega⟩
            · have hS4 : S = 40 := by omega
              have b4 : ¬ (S : Int) < 40 := by omega
              have hl2 := hU.out.1.ll
              have Ha2 : Hid (Cb mkU B0 X gh gw (fN gh kH gw kW cT) hv wv WT w ρ2 wr (q + 1) vl2 ls2 ∧ ∀ k, k < w.heap.size → ρ2 k = ρ0 k) := ⟨hU.out.1.cb, hU.out.2⟩
              clear hU
              go_wp2
              go_loopw [3, 9] (fun _ k w' => ∃ (K : Nat) (ρ : Nat → Nat), q + 1 ≤ K ∧ K ≤ q + 3 ∧ K ≤ cT ∧ k = .int .i64 (K : Int) ∧ Hid (Cb mkU B0 X gh gw (fN gh kH gw kW cT) hv wv WT w ρ w' (q + 1) vl2 ls2 ∧ ∀ k, k < w.heap.size → ρ k = ρ0 k)) (fun _ k _ => cT - (intOf k).toNat)
              case atStart => exact ⟨q + 1, ρ2, by omega, by omega, by omega, by go_num, Ha2⟩
              case round =>
                clear Ha2
                obtain ⟨J, ρ4, hJ1, hJ2, hJ3, rfl, hC4⟩ := hrel
                obtain ⟨x0, x1, x2, x3, x5, x6, x7, x8, f2⟩ := (Cn.mk (vl := vl2) hC4.out.1.row).all
                have w3q : IntKind.i64.wrap ((q : Int) + 3) = (q : Int) + 3 := by rw [IntKind.wrap_i64]; omega
                have lX := lt_of_heap hC4.out.1.row
                by_cases hJc : J < cT
                · have b5 : (J : Int) < (cT : Int) := by omega
                  by_cases hJq : J < q + 3
                  · have b6 : (J : Int) < (q : Int) + 3 := by omega
                    have j0 : (0 : Int) ≤ (J : Int) := by omega
                    obtain ⟨W', gh', gw', a, c, a', c', e1, e2, l1, l2, c1, c2, h1, h2, hl⟩ := hC4.out.1.okT TX.out (j := J) hJ1 (by omega)
                    obtain rfl : gh = gh' := by injection e1 with e1; injection e1
                    obtain rfl : gw = gw' := by injection e2 with e2; injection e2
                    have hy := texts13_yes W' a a' c c' wr.drew h1 h2 (by omega)
                    obtain ⟨n', hn'⟩ : ∃ n', W'.length = n' := ⟨_, rfl⟩
                    rw [hn'] at hy c1 c2
                    have HC5 : Hid (∀ w2 : World, Below wr.heap.size wr w2 → Cb mkU B0 X gh gw (fN gh kH gw kW cT) hv wv WT w (rx ρ4 wr 0) w2 (q + 1) vl2 ls2 ∧ ∀ k, k < w.heap.size → rx ρ4 wr 0 k = ρ0 k) := fun w2 hb => ⟨hC4.out.1.below hB hb, rx_eq hC4.out.2 hC4.out.1.bel.size⟩
                    clear h1 h2 hl hn' hC4 e1 e2
                    go_wp2
                    go_region_held3 (fun w' => w'.cell? ⟨X, 0, none⟩ = some (.slice (some ⟨gh, 0, none⟩) cT kH) ∧ w'.cell? ⟨X, 1, none⟩ = some (.slice (some ⟨gw, 0, none⟩) cT kW) ∧ w'.cell? ⟨gh, J, none⟩ = some (.slice a n' c) ∧ w'.cell? ⟨gw, J, none⟩ = some (.slice a' n' c')) (first | exact e4 | exact ⟨x0, x1, c1, c2⟩)
                      (first | (go_at_call 40; (with_reducible refine hy.mono ?_); rintro e w2 ⟨rfl, hw2', _⟩; have hw2 := drewBelowG hw2'; have e4 := And.intro ((hw2.cell (p := ⟨X, 0, none⟩) lX).trans x0) (And.intro ((hw2.cell (p := ⟨X, 1, none⟩) lX).trans x1) (And.intro ((hw2.cell (p := ⟨gh, J, none⟩) l1).trans c1) ((hw2.cell (p := ⟨gw, J, none⟩) l2).trans c2)))))
                    all_goals
                      have HC6 := hid (HC5.out _ hw2)
                      clear hw2 hw2' e4 hy HC5
                      go_wp2
                      exact ⟨⟨J + 1, _, by omega, by omega, by omega, by go_num, HC6⟩, by simp [intOf]; omega⟩
                  · have b6 : ¬ (J : Int) < (q : Int) + 3 := by omega
                    go_wp2
                    exact ⟨⟨q + 1, ρ4, vl2, ls2, by omega, by go_num, by omega, hC4⟩, by simp [intOf]; omega⟩
                · have b5 : ¬ (J : Int) < (cT : Int) := by omega
                  go_wp2
                  exact ⟨⟨q + 1, ρ4, vl2, ls2, by omega, by go_num, by omega, hC4⟩, by simp [intOf]; omega⟩
    · obtain rfl : q = cT := by omega
      have b0 : ¬ (q : Int) < (q : Int) := by omega
      have hcells := hid (fun (T : Nat) (u : Value) (e : ls[T]? = some u) => hC.out.1.ol.cell e)
      have hmarks := hid (fun (T : Nat) (u : Value) (e : ls[T]? = some u) => (hC.out.1.mrk T u e).1)
      have HBel : Hid (Below B0 w wr) := hC.out.1.bel
      have HBB : Hid (B0 ≤ wr.heap.size) := Nat.le_trans hB hC.out.1.bel.size
      have HLL := hid hll
      obtain ⟨al, cl, hvl, hcl, hcl2⟩ := hC.out.1.ol.shape
      subst hvl
      obtain ⟨wE, hwE⟩ : ∃ wE, wr = wE := ⟨_, rfl⟩
      rw [hwE] at x0 x1 x2 x3 x5 x6 x7 x8 hcells hmarks HBel HBB ⊢
      clear hC hwE f2 hcl2 hX0 hF
      rw [hll] at x2 hcl
      obtain ⟨Z, hZ⟩ : ∃ Z, 40 * q = Z := ⟨_, rfl⟩
      rw [hZ] at x2 hcl
      have hZc : Z ≤ 36000 := by omega
      have HZ := hid hZ
      clear hZ hll
      go_wp2
      go_loopw [10] (fun i w' => i = .int .i64 0 ∧ w' = wE) (fun _ _ => 0)
      case atStart => exact ⟨rfl, rfl⟩
      case round =>
        obtain ⟨rfl, hwq⟩ := hrel
        rw [hwq]
        clear hwq
        go_wp2
        go_loopw [3, 15, 16, 17, 18, 19] (fun _ i _ _ _ _ w' => i = .int .i64 0 ∧ w' = wE) (fun _ _ _ _ _ _ _ => 0)
        case atStart => exact ⟨rfl, rfl⟩
        case round =>
          obtain ⟨rfl, hwq⟩ := hrel
          rw [hwq]
          clear hwq
          go_wp2
          go_loopw [20, 21] (fun t _ w' => ∃ T : Nat, T ≤ Z ∧ t = .int .i64 (T : Int) ∧ Hid (Below wE.heap.size wE w')) (fun t _ _ => Z - (intOf t).toNat)
          case atStart => exact ⟨0, by omega, rfl, Below.refl _ _⟩
          case round =>
            obtain ⟨T, hT, rfl, hBw⟩ := hrel
            have lXE : X < wE.heap.size := lt_of_cellU x2
            have x2' := (hBw.out.cell (p := ⟨X, 2, none⟩) lXE).trans x2
            by_cases hTZ : T < Z
            · have b6 : (T : Int) < (Z : Int) := by omega
              have t0 : (0 : Int) ≤ (T : Int) := by omega
              obtain ⟨u, hu⟩ : ∃ u, ls[T]? = some u := ⟨_, List.getElem?_eq_getElem (by rw [HLL.out, HZ.out]; exact hTZ)⟩
              obtain ⟨gl, cl', e1, d2, lgl⟩ := hcells.out T u hu
              injection e1 with e1 e2 e3
              subst e1
              have d2' := (hBw.out.cell (p := ⟨gl, T, none⟩) lgl).trans d2
              obtain ⟨a, n, cc, rfl, hn, hM⟩ := hmarks.out T u hu
              have HM := hid hM
              obtain ⟨D, hD⟩ : ∃ D, T / 40 = D := ⟨_, rfl⟩
              have q1 : Int.tdiv (T : Int) 40 = (D : Int) := by rw [Int.tdiv_eq_ediv_of_nonneg (by omega)]; omega
              have q1b : (T : Int) / 40 = (D : Int) := by omega
              have q2 : IntKind.i64.wrap (D : Int) = (D : Int) := by rw [IntKind.wrap_i64]; omega
              rw [hD] at HM
              obtain ⟨MB, hMB⟩ : ∃ MB : ByteArray, mkU D = .string MB := ⟨⟨(mrkU D).toArray⟩, rfl⟩
              have hmk := hid fun w' => markU13_any D (by omega) w'
              rw [show sv (mrkU D) = mkU D from rfl, hMB] at hmk
              rw [hMB] at HM
              clear hD
              have htt : (MB.toList == MB.toList) = true := beq_self_eq_true _
              have htn : (MB.toList != MB.toList) = false := by simp
              have HB1 := hBw
              clear hM hu hBw hMB x2' d2'
              have x2' := (HB1.out.cell (p := ⟨X, 2, none⟩) lXE).trans x2
              have d2' := (HB1.out.cell (p := ⟨gl, T, none⟩) lgl).trans d2
              go_wp2
              clear x2' d2'
              go_loopw [21] (fun k w' => ∃ K : Nat, K ≤ n ∧ k = .int .i64 (K : Int) ∧ Hid (Below wE.heap.size wE w')) (fun k _ => n - (intOf k).toNat)
              case atStart => exact ⟨0, by omega, rfl, HB1⟩
              case round =>
                clear HB1
                obtain ⟨K, hK, rfl, hBw⟩ := hrel
                have x2' := (hBw.out.cell (p := ⟨X, 2, none⟩) lXE).trans x2
                have d2' := (hBw.out.cell (p := ⟨gl, T, none⟩) lgl).trans d2
                by_cases hKn : K < n
                · have b7 : (K : Int) < (n : Int) := by omega
                  have k0 : (0 : Int) ≤ (K : Int) := by omega
                  obtain ⟨g, rfl, c4, c5⟩ := HM.out K hKn
                  have c6 := (hBw.out.cell (p := ⟨g, K, none⟩) c4).trans c5
                  go_wp2
                  go_region_held3 (fun w' => w'.cell? ⟨X, 2, none⟩ = some (.slice (some ⟨gl, 0, none⟩) Z cl) ∧ w'.cell? ⟨gl, T, none⟩ = some (.slice (some ⟨g, 0, none⟩) n cc) ∧ w'.cell? ⟨g, K, none⟩ = some (.string MB)) (first | exact e5 | exact ⟨x2', d2', c6⟩)
                    (first | (go_at_call 39; (refine (hmk.out _).mono ?_); rintro e w2 ⟨rfl, hw2⟩; have B2 := hid (hBw.out.drew.trans (hw2.mono hBw.out.drew.size)); have e5 := And.intro ((B2.out.cell (p := ⟨X, 2, none⟩) lXE).trans x2) (And.intro ((B2.out.cell (p := ⟨gl, T, none⟩) lgl).trans d2) ((B2.out.cell (p := ⟨g, K, none⟩) c4).trans c5))))
                  go_wp2
                  exact ⟨⟨K + 1, by omega, by go_num, B2⟩, by simp [intOf]; omega⟩
                · obtain rfl : K = n := by omega
                  have b7 : ¬ (K : Int) < (K : Int) := by omega
                  go_wp2
                  exact ⟨⟨T + 1, by omega, by go_num, hBw⟩, by simp [intOf]; omega⟩
            · obtain rfl : T = Z := by omega
              have b6 : ¬ (T : Int) < (T : Int) := by omega
              have x5' := (hBw.out.cell (p := ⟨X, 5, none⟩) lXE).trans x5
              obtain ⟨wF, hwF⟩ : ∃ wF, wr = wF := ⟨_, rfl⟩
              rw [hwF] at hBw x2' x5' ⊢
              clear hwF
              go_wp2
              go_loopw [22] (fun i w' => i = .int .i64 0 ∧ w' = wF) (fun _ _ => 0)
              case atStart => exact ⟨rfl, rfl⟩
              case round =>
                obtain ⟨rfl, hwq⟩ := hrel
                rw [hwq]
                clear hwq
                have x8' := (hBw.out.cell (p := ⟨X, 8, none⟩) lXE).trans x8
                go_wp2
                go_loopw [24, 25] (fun t _ w' => t = .int .i64 0 ∧ w' = wF) (fun _ _ _ => 0)
                case atStart => exact ⟨rfl, rfl⟩
                case round =>
                  obtain ⟨rfl, hwq⟩ := hrel
                  rw [hwq]
                  clear hwq
                  go_wp2
                  go_ret
                  exact ⟨rfl, HBel.out.trans (hBw.out.mono HBB.out)⟩
end Gb
end Chn
end Go.Proofs.YtenklmjeeejfdaaGreatDoor

/- Layer 13, the law: the book's still, of a book that holds both -/
namespace Go.Proofs.YtenklmjeeejfdaaGreatDoor
open Go.RowKit Go.Shelf
namespace Chn
namespace Gb
theorem own_someG {m : Nat} {w : World} {v : Value} {n : Nat} {cs : List Value} (h : OwnM m w v n cs) (hn : 0 < n) : ∃ g c, v = .slice (some ⟨g, 0, none⟩) n c ∧ n ≤ c ∧ w.rangeAt g 0 cs ∧ g < w.heap.size := by
  rcases h with ⟨_, rfl, _⟩ | ⟨g, c, rfl, h1, h2, h3, h4, h5, h6⟩
  · omega
  · exact ⟨g, c, rfl, h1, h4, h6⟩
theorem own_blk {w : World} {a : Option Addr} {n c m : Nat} {cs : List Value} (h : OwnM 1 w (.slice a n c) m cs) : ∀ x : Addr, a = some x → ∃ g, x = ⟨g, 0, none⟩ := fun x hx => by
  subst hx
  rcases h with ⟨q, _⟩ | ⟨g, cap, q, _⟩
  · cases q
  · injection q with q; injection q with q; exact ⟨g, q⟩
theorem Hf.cb {m w : World} {ρ σ : Nat → Nat} {v u : Value} {hv wv : List Value} {Ws : List (List Value)} {rv ru rb : Nat} (h : Hf m w ρ v u hv wv Ws rv ru rb) {mk : Nat → Value} {B0 X gh kh gw kw : Nat} {F : Value → Array Value} (e1 : v = .slice (some ⟨gh, 0, none⟩) hv.length kh) (e2 : u = .slice (some ⟨gw, 0, none⟩) wv.length kw)
    (row : w.heap[X]? = some (.cells (F (.slice none 0 0)) 32 (0, 0))) (s0 : ∀ k, k < B0 → σ k = 0) (s1 : σ X = 1) (s2 : ∀ k, k < w.heap.size → ρ k = rv ∨ ρ k = ru ∨ ρ k = 0 → σ k = 0) (s3 : ∀ j k, j < 900 → k < w.heap.size → ρ k = rb + j → σ k = 3 + j) :
    Cb mk B0 X gh gw F hv wv Ws w σ w 0 (.slice none 0 0) [] := by
  subst e1
  subst e2
  have le := h.le
  constructor
  case bel => exact Below.refl _ _
  case low => exact s0
  case fr0 => exact fun k _ _ => rfl
  case row => exact row
  case rX => exact s1
  case hr =>
    rcases h.oh with ⟨q, _⟩ | ⟨g, c, q, _, _, _, h4, _⟩
    · cases q
    · injection q with q; injection q with q; injection q with q; subst q; exact h4
  case rh => exact s2 gh (h.oh.lt gh rfl) (.inl (h.rh gh rfl))
  case lh => exact h.oh.lt gh rfl
  case wr =>
    rcases h.ow with ⟨q, _⟩ | ⟨g, c, q, _, _, _, h4, _⟩
    · cases q
    · injection q with q; injection q with q; injection q with q; subst q; exact h4
  case rw_ => exact s2 gw (h.ow.lt gw rfl) (.inr (.inl (h.rw_ gw rfl)))
  case lw => exact h.ow.lt gw rfl
  case want =>
    intro j W e
    obtain ⟨x, f1, f2, f3⟩ := h.want j W e
    obtain ⟨a, c, f4, f5⟩ := AtV.own f2
    subst f4
    refine ⟨a, c, f1, f5, fun y hy => ?_⟩
    obtain ⟨g, rfl⟩ := own_blk f2 y hy
    subst hy
    exact ⟨f2.lt g rfl, s2 g (f2.lt g rfl) (.inr (.inr (f3 g rfl)))⟩
  case own =>
    intro j W _ e
    have hj := (List.getElem?_eq_some_iff.1 e).1
    obtain ⟨x, f1, f2, f3⟩ := h.own j W e
    exact ⟨x, f1, f2, fun k hk => s3 j k (by omega) (f2.lt k hk) (f3 k hk)⟩
  case ol => exact OwnM.nil 1 _
  case rl => exact fun k hk => by cases hk
  case mrk => exact fun t x e => by cases e
def r0 (ρ : Nat → Nat) : Nat → Nat := fun k => if ρ k = 1 ∨ (3 ≤ ρ k ∧ ρ k < 1000) then ρ k else 0
end Gb
end Chn
end Go.Proofs.YtenklmjeeejfdaaGreatDoor

/- Layer 13, the law: still of a book of texts alone, as the book's predicate has it -/
namespace Go.Proofs.YtenklmjeeejfdaaGreatDoor
open Go.RowKit Go.Shelf
namespace Chn
namespace Gb
set_option maxRecDepth 100000 in
set_option maxHeartbeats 4000000 in
theorem still_zeroN (B0 X : Nat) (a aw : Option Addr) (c cw : Nat) (w : World) (hB : B0 ≤ w.heap.size)
    (row : w.heap[X]? = some (.cells #[.slice a 0 c, .slice aw 0 cw, .slice none 0 0, .slice none 0 0, .slice none 0 0, .slice none 0 0, .slice none 0 0, .slice none 0 0, .slice none 0 0] 32 (0, 0))) :
    Calls Tryz.prog 15 #[.pointer (some ⟨X, 0, none⟩)] w fun r w' => r = .returned (.bool true) ∧ Below B0 w w' := by
  have lX := lt_of_heap row
  have fct : ∀ w', Below w.heap.size w w' → w'.cell? ⟨X, 0, none⟩ = some (.slice a 0 c) ∧ w'.cell? ⟨X, 1, none⟩ = some (.slice aw 0 cw) ∧ w'.cell? ⟨X, 2, none⟩ = some (.slice none 0 0) ∧ w'.cell? ⟨X, 3, none⟩ = some (.slice none 0 0) ∧ w'.cell? ⟨X, 5, none⟩ = some (.slice none 0 0) ∧ w'.cell? ⟨X, 6, none⟩ = some (.slice none 0 0) ∧ w'.cell? ⟨X, 7, none⟩ = some (.slice none 0 0) ∧ w'.cell? ⟨X, 8, none⟩ = some (.slice none 0 0) := fun w' b => by
    have row' := (b.block X lX).trans row
    exact ⟨by rw [cell_of_row _ _ _ _ _ _ row']; rfl, by rw [cell_of_row _ _ _ _ _ _ row']; rfl, by rw [cell_of_row _ _ _ _ _ _ row']; rfl, by rw [cell_of_row _ _ _ _ _ _ row']; rfl, by rw [cell_of_row _ _ _ _ _ _ row']; rfl, by rw [cell_of_row _ _ _ _ _ _ row']; rfl, by rw [cell_of_row _ _ _ _ _ _ row']; rfl, by rw [cell_of_row _ _ _ _ _ _ row']; rfl⟩
  obtain ⟨x0, x1, x2, x3, x5, x6, x7, x8⟩ := fct w (Below.refl _ _)
  have s0 := stay_any X 0 0 0 0 _ _ _ _ _ _ _ _ w lX x0 x1 x3 x6 x7 (Nat.zero_le _) (Nat.zero_le _) (by omega) (by omega) (hid fun j _ hj => by omega) (hid fun j _ hj => by omega)
  rw [show ((0 : Nat) : Int) = 0 from rfl] at s0
  have HF := hid fct
  clear fct row x0 x1 x2 x3 x5 x6 x7 x8
  go_enter Tryz.func15, Tryz.ntmps15
  go_wp2_with (go_at_call 38; fail)
  refine s0.mono ?_
  rintro r wa ⟨rfl, ba⟩
  have BA := hid ba
  obtain ⟨x0, x1, x2, x3, x5, x6, x7, x8⟩ := HF.out wa ba
  clear ba s0
  go_wp2
  go_loopw [3, 4, 5, 6, 7, 8, 9] (fun _ i _ _ _ _ _ w' => i = .int .i64 0 ∧ w' = wa) (fun _ _ _ _ _ _ _ _ => 0)
  case atStart => exact ⟨rfl, rfl⟩
  case round =>
    obtain ⟨rfl, hwq⟩ := hrel
    rw [hwq]
    clear hwq
    go_wp2
    go_loopw [10] (fun i w' => i = .int .i64 0 ∧ w' = wa) (fun _ _ => 0)
    case atStart => exact ⟨rfl, rfl⟩
    case round =>
      obtain ⟨rfl, hwq⟩ := hrel
      rw [hwq]
      clear hwq
      go_wp2
      go_loopw [3, 15, 16, 17, 18, 19] (fun _ i _ _ _ _ w' => i = .int .i64 0 ∧ w' = wa) (fun _ _ _ _ _ _ _ => 0)
      case atStart => exact ⟨rfl, rfl⟩
      case round =>
        obtain ⟨rfl, hwq⟩ := hrel
        rw [hwq]
        clear hwq
        go_wp2
        go_loopw [20, 21] (fun t _ w' => t = .int .i64 0 ∧ w' = wa) (fun _ _ _ => 0)
        case atStart => exact ⟨rfl, rfl⟩
        case round =>
          obtain ⟨rfl, hwq⟩ := hrel
          rw [hwq]
          clear hwq
          go_wp2
          go_loopw [22] (fun i w' => i = .int .i64 0 ∧ w' = wa) (fun _ _ => 0)
          case atStart => exact ⟨rfl, rfl⟩
          case round =>
            obtain ⟨rfl, hwq⟩ := hrel
            rw [hwq]
            clear hwq
            go_wp2
            go_loopw [24, 25] (fun t _ w' => t = .int .i64 0 ∧ w' = wa) (fun _ _ _ => 0)
            case atStart => exact ⟨rfl, rfl⟩
            case round =>
              obtain ⟨rfl, hwq⟩ := hrel
              rw [hwq]
              clear hwq
              go_wp2
              go_ret
              exact ⟨rfl, BA.out.mono hB⟩
theorem Bd.stillN {B0 X : Nat} {m w : World} {ρ : Nat → Nat} {vh vw : Value} {hT wT : List Value} {WT : List (List Value)} (d : Bd B0 X m ρ w vh vw (.slice none 0 0) (.slice none 0 0) hT wT [] [] WT []) (t2 : WT.length ≤ 900) (tx : ∀ W ∈ WT, TOK W) :
    Calls Tryz.prog 15 #[.pointer (some ⟨X, 0, none⟩)] w fun r w' => r = .returned (.bool true) ∧ Below B0 w w' := by
  have lB : B0 ≤ w.heap.size := Nat.le_trans d.lB d.bel.size
  rcases Nat.eq_zero_or_pos WT.length with t0 | t1
  · obtain ⟨a, c, e, _, _⟩ := d.t.oh.shape
    obtain ⟨aw, cw, e', _, _⟩ := d.t.ow.shape
    rw [d.t.lh, t0] at e
    rw [d.t.lw, t0] at e'
    have row := d.row
    rw [e, e'] at row
    exact still_zeroN B0 X a aw c cw w lB row
  · obtain ⟨gh, kH, e1, a1, _, _⟩ := own_someG d.t.oh (by rw [d.t.lh]; exact t1)
    obtain ⟨gw, kW, e2, a2, _, _⟩ := own_someG d.t.ow (by rw [d.t.lw]; exact t1)
    have row : w.heap[X]? = some (.cells (fN gh kH gw kW WT.length (.slice none 0 0)) 32 (0, 0)) := by
      rw [d.row, e1, e2, d.t.lh, d.t.lw]; rfl
    have z0 : ∀ k, ρ k = 0 ∨ 2000 ≤ ρ k ∨ ρ k = 2 → r0 ρ k = 0 := fun k hk => by unfold r0; rw [if_neg (by omega)]
    have hcb := d.t.cb (σ := r0 ρ) (mk := mkU) (B0 := B0) (X := X) (F := fN gh kH gw kW WT.length) e1 e2 row (fun k hk => z0 k (.inl (d.low k hk))) (by unfold r0; rw [if_pos (.inl d.rX)]; exact d.rX) (fun k _ hr => z0 k (by omega)) (fun j k hj _ hr => by unfold r0; rw [if_pos (by omega)]; exact hr)
    exact still_TN B0 X gh kH gw kW WT.length hT wT WT w (r0 ρ) hcb lB rfl t2 (by rw [← d.t.lh]; exact a1) (by rw [← d.t.lw]; exact a2) tx
end Gb
end Chn
end Go.Proofs.YtenklmjeeejfdaaGreatDoor

/- Layer 13, the law: the book's proves: its walk (written by genCH4.py) -/
namespace Go.Proofs.YtenklmjeeejfdaaGreatDoor
open Go.RowKit Go.Shelf
namespace Chn
namespace Gb
end Gb
end Chn
end Go.Proofs.YtenklmjeeejfdaaGreatDoor

/- Layer 13, the law: few; the state of ChainProves' walk (written by genCH6.py) -/
namespace Go.Proofs.YtenklmjeeejfdaaGreatDoor
open Go.RowKit Go.Shelf
namespace Chn
namespace Gb
set_option maxRecDepth 100000 in
set_option maxHeartbeats 2000000 in
theorem few13_any (ps : List Int) (n : Nat) (hn : Hid (ps.length = n)) (a : Option Addr) (cap : Nat) (w : World) (ln : n ≤ 17592186044400) (hA : AtI w a ps) :
    Calls Tryz.prog 5 #[.slice a n cap] w fun r w' => (∃ b, r = .returned (.bool b)) ∧ Below w.heap.size w w' := by
  have i1 := rHeads_any ps n hn a cap w (by omega) hA
  have i2 := fun w' (h : AtI w' a ps) => next13_any ps n hn a cap w' ln h
  have HA := hid hA
  have HM := hid (show (ps.map inc8).length = n by rw [List.length_map]; exact hn.out)
  have i3 := fun w' (a : Option Addr) (cap : Nat) (h : AtI w' a (ps.map inc8)) => rHeads_any (ps.map inc8) n HM a cap w' (by omega) h
  generalize mayB ps = B1 at *
  generalize mayB (ps.map inc8) = B2 at *
  clear hA
  go_enter Tryz.func5, Tryz.ntmps5
  go_wp2_with (go_at_call 20; fail)
  refine i1.mono ?_
  rintro r w1 ⟨rfl, b1⟩
  have HB1 := hid b1
  clear b1 i1
  go_wp2_with (go_at_call 21; fail)
  refine (i2 w1 (HA.out.below HB1.out (Nat.le_refl _))).mono ?_
  rintro r w2 ⟨v, rfl, N2⟩
  obtain ⟨a2, c2, hv, hA2⟩ := own_atZ N2.own
  rw [HM.out] at hv
  subst hv
  have HA2 := hid hA2
  have HN2 := hid (HB1.out.trans (N2.bel.mono HB1.out.size))
  clear hA2 N2 i2
  go_wp2_with (go_at_call 20; fail)
  refine (i3 w2 a2 c2 HA2.out).mono ?_
  rintro r w3 ⟨rfl, b3⟩
  have HN3 := hid (HN2.out.trans (b3.mono HN2.out.size))
  clear b3 i3 HA2 HN2 HB1
  by_cases h8 : n ≤ 8
  · have d8 : (n : Int) ≤ 8 := by omega
    go_wp2
    go_ret
    exact ⟨⟨_, rfl⟩, HN3.out⟩
  · have d8 : ¬ (n : Int) ≤ 8 := by omega
    have hl : n - 1 < ps.length := by rw [hn.out]; omega
    obtain ⟨x, rfl, _, hx⟩ := (HA.out.below HN3.out (Nat.le_refl _)) (n - 1) ps[n - 1] (List.getElem?_eq_getElem hl)
    have e1 : IntKind.i64.wrap ((n : Int) - 1) = ((n - 1 : Nat) : Int) := by rw [IntKind.wrap_i64]; omega
    have e2 : wrap64 ((n : Int) - 1) = ((n - 1 : Nat) : Int) := by unfold wrap64; omega
    have j0 : (0 : Int) ≤ ((n - 1 : Nat) : Int) := by omega
    have j1 : ((n - 1 : Nat) : Int) < (n : Int) := by omega
    have j2 : (0 : Int) ≤ (n : Int) - 1 := by omega
    have j3 : (n : Int) - 1 < (n : Int) := by omega
    have j4 : ((n : Int) - 1).toNat = n - 1 := by omega
    generalize ps[n - 1] = z at *
    clear hl
    by_cases hz : z ≤ 130
    all_goals
      cases B1 <;> cases B2
      all_goals
        go_wp2
        go_ret
        exact ⟨⟨_, rfl⟩, HN3.out⟩
end Gb
end Chn
end Go.Proofs.YtenklmjeeejfdaaGreatDoor

/- Layer 13, the law: the state of ChainExpands' walk -/
namespace Go.Proofs.YtenklmjeeejfdaaGreatDoor
open Go.RowKit Go.Shelf
namespace Chn
namespace Gb
def Xs (B0 X : Nat) (m w : World) (ρ : Nat → Nat) (t : Nat) : Prop := ∃ (vh vw : Value) (hT wT : List Value) (WT : List (List Value)), Bd B0 X m ρ w vh vw (.slice none 0 0) (.slice none 0 0) hT wT [] [] WT [] ∧ WT.length ≤ t ∧ ∀ W ∈ WT, TOK W
section
variable {B0 X t : Nat} {m w w' : World} {ρ ρ' : Nat → Nat}
theorem Xs.below (s : Xs B0 X m w ρ t) (hb : Below w.heap.size w w') (hρ : ∀ k, k < w.heap.size → ρ' k = ρ k) : Xs B0 X m w' ρ' t := by
  obtain ⟨vh, vw, hT, wT, WT, d, l, k⟩ := s
  exact ⟨vh, vw, hT, wT, WT, d.below hb ρ' hρ, l, k⟩
theorem Xs.wr {r bb : Nat} (s : Xs B0 X m w ρ t) (v : Writes r bb w w' ρ ρ') (hr : 3900 ≤ r) (h1 : w'.os = w.os) (h2 : w'.tape = w.tape) (h3 : w'.output = w.output) : Xs B0 X m w' ρ' t := by
  obtain ⟨vh, vw, hT, wT, WT, d, l, k⟩ := s
  exact ⟨vh, vw, hT, wT, WT, bd_wr d v hr h1 h2 h3, l, k⟩
theorem Xs.bel (s : Xs B0 X m w ρ t) : Below B0 m w := by
  obtain ⟨vh, vw, hT, wT, WT, d, l, k⟩ := s
  exact d.bel
theorem Xs.wide {t' : Nat} (s : Xs B0 X m w ρ t) (h : t ≤ t') : Xs B0 X m w ρ t' := by
  obtain ⟨vh, vw, hT, wT, WT, d, l, k⟩ := s
  exact ⟨vh, vw, hT, wT, WT, d, Nat.le_trans l h, k⟩
theorem Xs.expands (s : Xs B0 X m w ρ t) (Z : ∀ w', Below B0 m w' → Tb w') (cs : List Int) (H R : List (List UInt8)) (n k l : Nat) (hn : cs.length = n) (hk : H.length = k) (hl : R.length = l) (ln : n ≤ 17592186043904) (lk : k ≤ 8796093021952) (ll : l ≤ 8796093021952) (lt : t + 3 * min 63 (n - 1) ≤ 890)
    (hs : ∀ x ∈ H, x.length ≤ 140737488355000) (ac ah ar : Option Addr) (cc chp cr : Nat) (hA : AtIK w ρ ac cs) (hAh : AtK w ρ ah H) (hAr : AtK w ρ ar R) (q1 : k ≤ chp) (q2 : chp ≤ 9223372036854775807) :
    Calls Tryz.prog 6 #[.pointer (some ⟨X, 0, none⟩), ch (.slice ac n cc) (.slice ah k chp), .slice ar l cr] w fun r w' => r = .returned (.bool true) ∧ ∃ ρ', Xs B0 X m w' ρ' (t + 3 * min 63 (n - 1)) ∧ Stays w w' ρ ρ' := by
  obtain ⟨vh, vw, hT, wT, WT, d, l1, k1⟩ := s
  refine (expands13_any d Z cs H R n k l hn hk hl ln lk ll (by omega) hs ac ah ar cc chp cr hA hAh hAr q1 q2).mono ?_
  rintro r w' ⟨rfl, WT', ⟨ρ', vh', vw', hT', wT', d', s'⟩, l2, k2⟩
  exact ⟨rfl, ρ', ⟨vh', vw', hT', wT', WT', d', by omega, k2 k1⟩, s'⟩
theorem Xs.still (s : Xs B0 X m w ρ t) (lt : t ≤ 900) : Calls Tryz.prog 15 #[.pointer (some ⟨X, 0, none⟩)] w fun r w' => r = .returned (.bool true) ∧ Below B0 w w' := by
  obtain ⟨vh, vw, hT, wT, WT, d, l1, k1⟩ := s
  exact d.stillN (by omega) k1
theorem xs_start (w0 w : World) (hb : Below w0.heap.size w0 w) : Xs w0.heap.size w.heap.size (w.alloc (.cells #[.slice none 0 0, .slice none 0 0, .slice none 0 0, .slice none 0 0, .slice none 0 0, .slice none 0 0, .slice none 0 0, .slice none 0 0, .slice none 0 0] 32)) (w.alloc (.cells #[.slice none 0 0, .slice none 0 0, .slice none 0 0, .slice none 0 0, .slice none 0 0, .slice none 0 0, .slice none 0 0, .slice none 0 0, .slice none 0 0] 32)) (fun k => if k = w.heap.size then 1 else 0) 0 := by
  have ba := (Below.refl w.heap.size w).alloc (Nat.le_refl _) (.cells #[.slice none 0 0, .slice none 0 0, .slice none 0 0, .slice none 0 0, .slice none 0 0, .slice none 0 0, .slice none 0 0, .slice none 0 0, .slice none 0 0] 32)
  have hbb := hb.trans (ba.mono hb.size)
  have zs := hb.size
  exact ⟨_, _, [], [], [], ⟨Below.refl _ _, hbb.size, fun k hk => if_neg (by omega), heap_alloc_new w _, if_pos rfl, Hf.nil _ _ _ _ _ _, Hf.nil _ _ _ _ _ _⟩, Nat.le_refl _, fun W hW => by cases hW⟩
end
structure Os (w : World) (ρ : Nat → Nat) (v : Value) (L : List (List UInt8)) (r : Nat) : Prop where
  own : OwnM 1 w v L.length (svs L)
  ro : ∀ b, v.ownBlock = some b → ρ b = r
section
variable {w w' : World} {ρ ρ' : Nat → Nat} {v : Value} {L : List (List UInt8)} {r : Nat}
theorem Os.stay (o : Os w ρ v L r) (s : Stays w w' ρ ρ') (hr : Kr r) : Os w' ρ' v L r := ⟨(s.own o.own o.ro hr).1, (s.own o.own o.ro hr).2⟩
theorem Os.of {B : Nat} (o : Own w' B v (svs L)) (hB : B = w.heap.size) (hρ : ∀ k, w.heap.size ≤ k → ρ' k = r) : Os w' ρ' v L r := by
  obtain ⟨h1, h2⟩ := own_M1 o
  rw [svs_length] at h1
  exact ⟨h1, fun b hb => hρ b (by rw [← hB]; exact h2 b hb)⟩
theorem Os.atK (o : Os w ρ v L r) (hr : Kr r) (hr2 : r < 4001) : ∃ a c, v = .slice a L.length c ∧ L.length ≤ c ∧ c ≤ 9223372036854775807 ∧ AtK w ρ a L := by
  obtain ⟨a, c, e, l1, l2⟩ := o.own.shape
  subst e
  refine ⟨a, c, rfl, l1, l2, fun i x hx => ?_⟩
  obtain ⟨g, c', e1, e2, e3⟩ := o.own.cell (show (svs L)[i]? = some (sv x) by unfold svs; rw [List.getElem?_map, hx]; rfl)
  injection e1 with e1 _ _
  subst e1
  have hz : ρ g = r := o.ro g rfl
  exact ⟨⟨g, 0, none⟩, rfl, e3, ⟨by show Kr (ρ g); rw [hz]; exact hr, by show ρ g < 4001; omega⟩, by rw [Addr.add_mid, Nat.zero_add]; exact e2⟩
end
end Gb
end Chn
end Go.Proofs.YtenklmjeeejfdaaGreatDoor

/- Layer 13, the law: what ChainExpands writes, and the roots it gathers -/
namespace Go.Proofs.YtenklmjeeejfdaaGreatDoor
open Go.RowKit Go.Shelf
namespace Chn
namespace Gb
theorem ivc_ix (hs : List Nat) : ivC hs = (ix hs).map fun x => Value.int .i64 x := by simp [ivC, ix]
structure Oi (w : World) (ρ : Nat → Nat) (v : Value) (hs : List Nat) : Prop where
  own : OwnM 1 w v hs.length (ivC hs)
  ro : ∀ b, v.ownBlock = some b → ρ b = 0
section
variable {w w' : World} {ρ ρ' : Nat → Nat} {v : Value} {hs : List Nat} {L : List (List UInt8)} {r r0 bb n c : Nat} {a : Option Addr}
theorem Oi.stay (o : Oi w ρ v hs) (s : Stays w w' ρ ρ') : Oi w' ρ' v hs := ⟨(s.own o.own o.ro (.inl rfl)).1, (s.own o.own o.ro (.inl rfl)).2⟩
theorem Oi.atK (o : Oi w ρ v hs) : ∃ a c, v = .slice a hs.length c ∧ AtIK w ρ a (ix hs) := by
  obtain ⟨a, c, e, l1, l2⟩ := o.own.shape
  subst e
  refine ⟨a, c, rfl, fun i x hx => ?_⟩
  obtain ⟨g, c', e1, e2, e3⟩ := o.own.cell (show (ivC hs)[i]? = some (.int .i64 x) by rw [ivc_ix, List.getElem?_map, hx]; rfl)
  injection e1 with e1 _ _
  subst e1
  have hz : ρ g = 0 := o.ro g rfl
  exact ⟨⟨g, 0, none⟩, rfl, e3, ⟨by show Kr (ρ g); rw [hz]; exact .inl rfl, by show ρ g < 4001; omega⟩, by rw [Addr.add_mid, Nat.zero_add]; exact e2⟩
theorem Oi.k (o : Oi w ρ (.slice a n c) hs) : AtIK w ρ a (ix hs) := by
  obtain ⟨a', c', e, h⟩ := o.atK
  injection e with e1 _ _
  subst e1
  exact h
theorem Os.k (o : Os w ρ (.slice a n c) L r) (hr : Kr r) (hr2 : r < 4001) : AtK w ρ a L := by
  obtain ⟨a', c', e, _, _, h⟩ := o.atK hr hr2
  injection e with e1 _ _
  subst e1
  exact h
theorem Os.wr (o : Os w ρ v L r0) (s : Writes r bb w w' ρ ρ') (h : r0 ≠ r) : Os w' ρ' v L r0 :=
  ⟨o.own.kept s.2.1 fun b hb => s.2.2 b (o.own.lt b hb) (.inl (by rw [o.ro b hb]; exact h)), fun b hb => by rw [s.1 b (o.own.lt b hb)]; exact o.ro b hb⟩
theorem Oi.wr (o : Oi w ρ v hs) (s : Writes r bb w w' ρ ρ') (h : 0 ≠ r) : Oi w' ρ' v hs :=
  ⟨o.own.kept s.2.1 fun b hb => s.2.2 b (o.own.lt b hb) (.inl (by rw [o.ro b hb]; exact h)), fun b hb => by rw [s.1 b (o.own.lt b hb)]; exact o.ro b hb⟩
theorem ChI.wrC {g : Nat} {x y : Value} (h : ChI w g x y ∧ ρ g = 0) (s : Writes r bb w w' ρ ρ') (hr : 0 ≠ r) : ChI w' g x y ∧ ρ' g = 0 :=
  ⟨(s.2.2 g (lt_of_heap h.1) (.inl (by rw [h.2]; exact hr))).trans h.1, by rw [s.1 g (lt_of_heap h.1)]; exact h.2⟩
theorem AtK.tailO (h : AtK w ρ a L) : AtK w ρ (a.map fun x => x.add 1) (L.drop 1) := fun j p hp => by
  rw [List.getElem?_drop] at hp
  obtain ⟨x, e, h1, h2, h3⟩ := h (1 + j) p hp
  subst e
  refine ⟨x.add 1, rfl, by rw [addr_block]; exact h1, by rw [addr_block]; exact h2, ?_⟩
  rw [← h3]
  congr 1
  simp [Addr.add, Nat.add_assoc]
theorem Os.put (o : Os w ρ v L r) (hn : L.length = n) {k : Nat} (hk : k < n) (x : List UInt8) : ∃ g c y, v = .slice (some ⟨g, 0, none⟩) n c ∧ w.cell? ⟨g, k, none⟩ = some (sv y) ∧ L[k]? = some y ∧ w.frozen? ⟨g, k, none⟩ = false ∧ Os (w.setCell ⟨g, k, none⟩ (sv x)) ρ v (L.set k x) r ∧ Writes r 0 w (w.setCell ⟨g, k, none⟩ (sv x)) ρ ρ ∧ (w.setCell ⟨g, k, none⟩ (sv x)).os = w.os ∧ (w.setCell ⟨g, k, none⟩ (sv x)).tape = w.tape ∧ (w.setCell ⟨g, k, none⟩ (sv x)).output = w.output := by
  subst hn
  obtain ⟨y, hy⟩ : ∃ y, L[k]? = some y := ⟨_, List.getElem?_eq_getElem hk⟩
  obtain ⟨g, c, e1, e2, e3⟩ := o.own.cell (show (svs L)[k]? = some (sv y) by unfold svs; rw [List.getElem?_map, hy]; rfl)
  subst e1
  have rg : ρ g = r := o.ro g rfl
  have oo := o.own
  obtain ⟨o1, _, f1⟩ := oo.set (j := k) (by rw [svs_length]; exact hk) (sv x)
  have hw : Wr ρ r w (w.setCell ⟨g, k, none⟩ (sv x)) := (Wr.refl ρ r w).setCell (fun _ => rg) _ _
  have es : (svs L).set k (sv x) = svs (L.set k x) := by unfold svs; rw [List.map_set]
  rw [es] at o1
  refine ⟨g, c, y, rfl, e2, hy, f1, ⟨?_, o.ro⟩, ⟨fun _ _ => rfl, hw.size, fun i hi hn => ?_⟩, hw.os, hw.tape, hw.output⟩
  · rw [List.length_set]; exact o1
  · rcases hn with hn | hn
    · exact hw.block i hi hn
    · omega
theorem Os.putB (o : Os w ρ v L r) (hr : Kr r) (hn : L.length = n) {k : Nat} (hk : k < n) : ∃ g c y, v = .slice (some ⟨g, 0, none⟩) n c ∧ w.cell? ⟨g, k, none⟩ = some (sv y) ∧ L[k]? = some y ∧ g < w.heap.size ∧ ∀ (w' : World) (ρ' : Nat → Nat), Below w.heap.size w w' → (∀ i, i < w.heap.size → ρ' i = ρ i) → ∀ x : List UInt8, w'.cell? ⟨g, k, none⟩ = some (sv y) ∧ w'.frozen? ⟨g, k, none⟩ = false ∧ Os (w'.setCell ⟨g, k, none⟩ (sv x)) ρ' v (L.set k x) r ∧ Writes r 0 w' (w'.setCell ⟨g, k, none⟩ (sv x)) ρ' ρ' ∧ (w'.setCell ⟨g, k, none⟩ (sv x)).os = w'.os ∧ (w'.setCell ⟨g, k, none⟩ (sv x)).tape = w'.tape ∧ (w'.setCell ⟨g, k, none⟩ (sv x)).output = w'.output := by
  obtain ⟨g, c, y, e, hc, hy, _, _⟩ := o.put hn hk []
  subst e
  have hg : g < w.heap.size := o.own.lt g rfl
  refine ⟨g, c, y, rfl, hc, hy, hg, fun w' ρ' bb hρ x => ?_⟩
  obtain ⟨g', c', y', e', hc', hy', hf', z1, z2, z3⟩ := (o.stay (stays_below bb hρ) hr).put hn hk x
  injection e' with e1 _ _
  injection e1 with e1
  injection e1 with e1 _ _
  subst e1
  obtain rfl : y = y' := Option.some.inj (hy.symm.trans hy')
  exact ⟨hc', hf', z1, z2, z3⟩
end
theorem part_few (Lf : List (List UInt8)) (h : Tree.Hs Lf) (n : Int) : ∃ x z, Hid (tPartO Lf 0 n = (x, z)) ∧ x.length ≤ 32 := by
  unfold tPartO
  split
  · exact ⟨_, _, rfl, by rw [Tree.root_hash (show Tree.Hs (Til.sg Lf (0 : Int).toNat n.toNat) from (h.take _).drop _)]; omega⟩
  · exact ⟨_, _, rfl, by simp⟩
end Gb
end Chn
end Go.Proofs.YtenklmjeeejfdaaGreatDoor
