import Derived.Test.YtjcapdkibbjmiaaGreatDoorPkCT0
import Derived.Deep.DeepCutAuto
namespace Go.Proofs.YtjcapdkibbjmiaaGreatDoor
open Go.RowKit Go.Shelf
namespace Chn
namespace Gb
theorem lt_of_cell' {w : World} {b o : Nat} {v : Value} (h : w.cell? ⟨b, o, none⟩ = some v) : b < w.heap.size := by
  have := block_lt_of_cell h
  exact this
theorem below_drewNG {B : Nat} {a w : World} (h : Below B a w) (n : Nat) : Below B a (w.drewN n) := ⟨h.os, h.tape, h.output, h.size, h.block⟩
set_option maxRecDepth 100000 in
set_option maxHeartbeats 8000000 in
theorem still_TI (B0 X gh kH gw kW cT gi kI gj kJ cI : Nat) (hv wv hvI wvI : List Value) (WT WI : List (List Value)) (w : World) (ρ0 : Nat → Nat)
    (h : Cb mkT B0 X gh gw (fT gh kH gw kW cT gi kI gj kJ cI) hv wv WT w ρ0 w 0 (.slice none 0 0) []) (hB : B0 ≤ w.heap.size) (hT : WT.length = cT) (hI : WI.length = cI) (q1 : cT ≤ 100) (q2 : cI ≤ 100) (q3 : cT ≤ kH) (q4 : cT ≤ kW) (q5 : cI ≤ kI) (q6 : cI ≤ kJ)
    (TX : Hid (∀ W ∈ WT, W.length ≤ 1099511627776 ∧ ∃ L : List (List UInt8), W = svs L)) (TI : Hid (∀ W ∈ WI, W.length ≤ 1099511627776 ∧ ∃ L : List Int, W = L.map fun x => .int .i64 x))
    (HIk : Hid (∀ w' : World, w.heap.size ≤ w'.heap.size → (∀ k, k < w.heap.size → ρ0 k = 0 → w'.heap[k]? = w.heap[k]?) → ∀ j, j < cI → OkI w' (some ⟨gi, 0, none⟩) (some ⟨gj, 0, none⟩) j))
    (HIs : Hid (∀ (w1 : World) (VL : Value), w.heap.size ≤ w1.heap.size → (∀ k, k < w.heap.size → ρ0 k = 0 → w1.heap[k]? = w.heap[k]?) → w1.heap[X]? = some (.cells (fT gh kH gw kW cT gi kI gj kJ cI VL) 35 (0, 0)) → ∃ ρI, Cb mkI B0 X gi gj (fI gh kH gw kW cT gi kI gj kJ cI VL) hvI wvI WI w1 ρI w1 0 (.slice none 0 0) [] ∧ ∀ k, k < w1.heap.size → k ≠ X → (w.heap.size ≤ k ∨ ρ0 k ≠ 0) → ρI k = 0)) :
    Calls Tryz.prog 14 #[.pointer (some ⟨X, 0, none⟩)] w fun r w' => r = .returned (.bool true) ∧ Below B0 w w' := by
  have hF := hid (fT_set gh kH gw kW cT gi kI gj kJ cI)
  have s0 := by
    obtain ⟨x0, x1, x2, x3, x5, x6, x7, x8, _, _⟩ := (Ce.mk (vl := .slice none 0 0) (vm := .slice none 0 0) h.row).all
    exact stay_any X 0 0 cT cI _ _ _ _ _ _ _ _ w (lt_of_heap h.row) x0 x1 x3 x6 x7 (Nat.zero_le _) (Nat.zero_le _) (by omega) (by omega) (hid fun j _ hj => h.okT TX.out (Nat.zero_le _) (by omega)) (hid fun j _ hj => HIk.out w (Nat.le_refl _) (fun _ _ _ => rfl) j hj)
  rw [show ((0 : Nat) : Int) = 0 from rfl] at s0
  have Ha0 := hid h
  have hX0 := h.rX
  clear h
  go_enter Tryz.func14, Tryz.ntmps14
  go_wp2_with (go_at_call 36; fail)
  refine s0.mono ?_
  rintro r wa ⟨rfl, ba⟩
  have Ha1 : Hid (Cb mkT B0 X gh gw (fT gh kH gw kW cT gi kI gj kJ cI) hv wv WT w (rx ρ0 w 0) wa 0 (.slice none 0 0) [] ∧ ∀ k, k < w.heap.size → rx ρ0 w 0 k = ρ0 k) := ⟨Ha0.out.below hB ba, rx_eq (fun _ _ => rfl) (Nat.le_refl _)⟩
  clear Ha0 s0 ba
  go_wp2
  go_loopw [3, 4, 5, 6, 7, 8, 9] (fun _ i _ _ _ _ _ w' => ∃ (q : Nat) (ρ : Nat → Nat) (vl : Value) (ls : List Value), q ≤ cT ∧ i = .int .i64 (q : Int) ∧ ls.length = 40 * q ∧ Hid (Cb mkT B0 X gh gw (fT gh kH gw kW cT gi kI gj kJ cI) hv wv WT w ρ w' q vl ls ∧ ∀ k, k < w.heap.size → ρ k = ρ0 k)) (fun _ i _ _ _ _ _ _ => cT - (intOf i).toNat)
  case atStart => exact ⟨0, _, _, _, by omega, rfl, rfl, Ha1⟩
  case round =>
    clear Ha1
    obtain ⟨q, ρ, vl, ls, hq, rfl, hll, hC⟩ := hrel
    obtain ⟨x0, x1, x2, x3, x5, x6, x7, x8, f2, _⟩ := (Ce.mk (vl := vl) (vm := .slice none 0 0) hC.out.1.row).all
    by_cases hqc : q < cT
    · have b1 : (0 : Int) ≤ (q : Int) := by omega
      have b2 : (q : Int) < (cT : Int) := by omega
      obtain ⟨W, hWe⟩ : ∃ W, WT[q]? = some W := ⟨_, List.getElem?_eq_getElem (by omega)⟩
      have hWs := (TX.out W (List.mem_of_getElem? hWe)).1
      obtain ⟨v, hve, hOv, hrv⟩ := hC.out.1.own q W (Nat.le_refl _) hWe
      have d0 := hC.out.1.hr q v hve
      rw [Nat.zero_add] at d0
      obtain ⟨av, cv, hvv, hcv, hcv2⟩ := hOv.shape
      subst hvv
      have im : Calls Tryz.prog 37 #[.int .i64 (q : Int)] wr fun e w' => e = .returned (mkT q) ∧ Below wr.heap.size wr w' := mark13_any q (by omega) wr
      have Ya0 : Hid (∀ w2 : World, Below wr.heap.size wr w2 → Ca mkT B0 X gh gw (fT gh kH gw kW cT gi kI gj kJ cI) hv wv WT w (rx ρ wr 0) w2 q 0 (.slice av W.length cv) W vl ls ∧ ∀ k, k < w.heap.size → rx ρ wr 0 k = ρ0 k) := fun w2 hb =>
        ⟨⟨(hC.out.1.skip (Nat.le_succ q)).below hB hb, by rw [List.replicate_zero, List.drop_zero, List.nil_append]; exact hOv.below hb, fun g hg => by rw [rx_old (hOv.lt g hg)]; exact hrv g hg, hll⟩, rx_eq hC.out.2 hC.out.1.bel.size⟩
      obtain ⟨m, hm⟩ : ∃ m : ByteArray, mkT q = .string m := ⟨_, rfl⟩
      rw [hm] at im
      have HMQ := hid hm
      obtain ⟨n, hn⟩ : ∃ n, W.length = n := ⟨_, rfl⟩
      have HN := hid hn
      rw [hn] at hWs hcv d0
      clear hC hOv hrv hm hn hWe hve
      go_wp2_with (go_at_call 37; refine im.mono ?_; rintro r w2 ⟨rfl, b2'⟩; have Ya1 := hid (Ya0.out _ b2'); clear b2' im Ya0)
      clear x0 x1 x2 x3 x5 x6 x7 x8 f2 d0
      generalize rx ρ wr 0 = ρ1 at *
      go_loopw [7] (fun k w' => ∃ K : Nat, K ≤ n ∧ k = .int .i64 (K : Int) ∧ Hid (Ca mkT B0 X gh gw (fT gh kH gw kW cT gi kI gj kJ cI) hv wv WT w ρ1 w' q K (.slice av n cv) W vl ls ∧ ∀ k, k < w.heap.size → ρ1 k = ρ0 k)) (fun k _ => n - (intOf k).toNat)
      case atStart => exact ⟨0, by omega, rfl, by have := Ya1.out; rw [HN.out] at this; exact this⟩
      case round =>
        clear Ya1
        obtain ⟨K, hK, rfl, hY⟩ := hrel
        by_cases hKn : K < n
        · have b3 : (K : Int) < (n : Int) := by omega
          have k0 : (0 : Int) ≤ (K : Int) := by omega
          have hlen : (List.replicate K (mkT q) ++ W.drop K).length = W.length := by rw [List.length_append, List.length_replicate, List.length_drop, HN.out]; omega
          obtain ⟨g, cg, eg, hce, hlte⟩ := hY.out.1.ov.cell (List.getElem?_eq_getElem (show K < (List.replicate K (mkT q) ++ W.drop K).length by rw [hlen, HN.out]; omega))
          injection eg with eg1 eg2 eg3
          subst eg1
          subst eg3
          have hY1 := hY.out.1
          have hR1 := hid hY.out.2
          rw [← HN.out] at hY1
          obtain ⟨Ya2, ⟨y1, z1⟩, g1⟩ := hY1.set hB (by rw [HN.out]; exact hKn)
          rw [HN.out, HMQ.out] at Ya2
          have Ya2 := hid Ya2
          clear hce hlte hY hY1 hlen eg2
          go_wp2
          exact ⟨⟨K + 1, by omega, by go_num, Ya2.out, hR1.out⟩, by simp [intOf]; omega⟩
        · obtain rfl : K = n := by omega
          have b3 : ¬ (K : Int) < (K : Int) := by omega
          have hY1 := hY.out.1
          have hR1 := hY.out.2
          rw [← HN.out] at hY1
          have Ua0 := hY1.done
          rw [HN.out] at Ua0
          have Ua0 := hid (And.intro Ua0 hR1)
          clear hY hY1 hR1
          go_wp2
          generalize (.slice av K cv : Value) = v0 at *
          go_loopw [5, 8] (fun v k w' => ∃ (S n : Nat) (ρ : Nat → Nat) (vl : Value) (ls : List Value), S ≤ 40 ∧ k = .int .i64 (S : Int) ∧ n ≤ 1099511627776 + S ∧ Hid (Cu mkT B0 X gh gw (fT gh kH gw kW cT gi kI gj kJ cI) hv wv WT w ρ w' q S n v vl ls ∧ ∀ k, k < w.heap.size → ρ k = ρ0 k)) (fun _ k _ => 40 - (intOf k).toNat)
          case atStart => exact ⟨0, K, ρ1, vl, ls, by omega, rfl, by omega, Ua0⟩
          case round =>
            clear Ua0
            obtain ⟨S, n, ρ2, vl2, ls2, hS, rfl, hnS, hU⟩ := hrel
            have zs := hU.out.1.cb.bel.size
            by_cases hS40 : S < 40
            · have b4 : (S : Int) < 40 := by omega
              obtain ⟨_, _, y2, _, _, _, _, _, f2, _⟩ := (Ce.mk (vl := vl2) (vm := .slice none 0 0) hU.out.1.cb.row).all
              obtain ⟨av2, cv2, hvv, _, _⟩ := hU.out.1.ov.shape
              subst hvv
              obtain ⟨vl3, w3, hap, Oa3, Ga3⟩ := append_lsT wr vl2 ls2 av2 n cv2 hU.out.1.cb.ol (by rw [hU.out.1.ll]; omega)
              obtain ⟨al3, cl3, hvl3, _, _⟩ := Oa3.shape
              subst hvl3
              have Ua3 := hU.out.1.push hB hF.out hS40 Ga3 Oa3
              have Ra3 := rx_eq (r := 2) hU.out.2 zs
              have Xa3 := lt_of_heap hU.out.1.cb.row
              have f3 : w3.frozen? ⟨X, 2, none⟩ = false ∧ ∃ y, w3.cell? ⟨X, 2, none⟩ = some y := by
                have hw : Wr ρ2 2 wr w3 := Wr.grow Ga3 hU.out.1.cb.rl
                have row1 := (hw.block X Xa3 (by rw [hU.out.1.cb.rX]; omega)).trans hU.out.1.cb.row
                exact ⟨frozen_of_row _ _ _ _ _ row1, _, by rw [cell_of_row _ _ _ _ _ _ row1]; rfl⟩
              obtain ⟨f3, y3', hy3⟩ := f3
              generalize hw4 : w3.setCell ⟨X, 2, none⟩ (.slice al3 (ls2.length + 1) cl3) = w4 at *
              obtain ⟨v5, w5, hap5, Oa5, Ga5⟩ := append_mkT w4 (.slice av2 n cv2) n q Ua3.ov (by omega)
              have Ua5 : Hid (Cu mkT B0 X gh gw (fT gh kH gw kW cT gi kI gj kJ cI) hv wv WT w _ w5 q (S + 1) (n + 1) v5 _ _ ∧ _) := ⟨Ua3.grow hB Ga5 Oa5, rx_eq (r := 3 + q) Ra3 Ua3.cb.bel.size⟩
              rw [HMQ.out] at hap5
              clear Ua3 hU Oa3 Ga3 Oa5 Ga5 Xa3 Ra3
              go_wp2_with (first
                | (at_builtin; refine Lib.wpList_append_run _ rfl _ _ 31 31 rfl _ _ rfl rfl _ _ hap ?_)
                | (at_builtin; go_must (refine Lib.wpList_append_run _ rfl _ _ 22 22 rfl _ _ rfl rfl _ _ hap5 ?_)))
              exact ⟨⟨S + 1, n + 1, _, _, _, by omega, by go_num, by omega, Ua5⟩, by simp [intOf]; omega⟩
            · have hS4 : S = 40 := by omega
              have b4 : ¬ (S : Int) < 40 := by omega
              have hl2 := hU.out.1.ll
              have Ha2 : Hid (Cb mkT B0 X gh gw (fT gh kH gw kW cT gi kI gj kJ cI) hv wv WT w ρ2 wr (q + 1) vl2 ls2 ∧ ∀ k, k < w.heap.size → ρ2 k = ρ0 k) := ⟨hU.out.1.cb, hU.out.2⟩
              clear hU
              go_wp2
              go_loopw [3, 9] (fun _ k w' => ∃ (K : Nat) (ρ : Nat → Nat), q + 1 ≤ K ∧ K ≤ q + 3 ∧ K ≤ cT ∧ k = .int .i64 (K : Int) ∧ Hid (Cb mkT B0 X gh gw (fT gh kH gw kW cT gi kI gj kJ cI) hv wv WT w ρ w' (q + 1) vl2 ls2 ∧ ∀ k, k < w.heap.size → ρ k = ρ0 k)) (fun _ k _ => cT - (intOf k).toNat)
              case atStart => exact ⟨q + 1, ρ2, by omega, by omega, by omega, by go_num, Ha2⟩
              case round =>
                clear Ha2
                obtain ⟨J, ρ4, hJ1, hJ2, hJ3, rfl, hC4⟩ := hrel
                obtain ⟨x0, x1, x2, x3, x5, x6, x7, x8, f2, _⟩ := (Ce.mk (vl := vl2) (vm := .slice none 0 0) hC4.out.1.row).all
                have w3q : IntKind.i64.wrap ((q : Int) + 3) = (q : Int) + 3 := by rw [IntKind.wrap_i64]; omega
                have lX := lt_of_heap hC4.out.1.row
                by_cases hJc : J < cT
                · have b5 : (J : Int) < (cT : Int) := by omega
                  by_cases hJq : J < q + 3
                  · have b6 : (J : Int) < (q : Int) + 3 := by omega
                    have j0 : (0 : Int) ≤ (J : Int) := by omega
                    obtain ⟨W', gh', gw', a, c, a', c', e1, e2, l1, l2, c1, c2, h1, h2, hl⟩ := hC4.out.1.okT TX.out (j := J) hJ1 (by omega)
                    obtain rfl : gh = gh' := by injection e1 with e1; injection e1
                    obtain rfl : gw = gw' := by injection e2 with e2; injection e2
                    have hy := texts13_yes W' a a' c c' wr.drew h1 h2 (by omega)
                    obtain ⟨n', hn'⟩ : ∃ n', W'.length = n' := ⟨_, rfl⟩
                    rw [hn'] at hy c1 c2
                    have HC5 : Hid (∀ w2 : World, Below wr.heap.size wr w2 → Cb mkT B0 X gh gw (fT gh kH gw kW cT gi kI gj kJ cI) hv wv WT w (rx ρ4 wr 0) w2 (q + 1) vl2 ls2 ∧ ∀ k, k < w.heap.size → rx ρ4 wr 0 k = ρ0 k) := fun w2 hb => ⟨hC4.out.1.below hB hb, rx_eq hC4.out.2 hC4.out.1.bel.size⟩
                    clear h1 h2 hl hn' hC4 e1 e2
                    go_wp2
                    go_region_held3 (fun w' => w'.cell? ⟨X, 0, none⟩ = some (.slice (some ⟨gh, 0, none⟩) cT kH) ∧ w'.cell? ⟨X, 1, none⟩ = some (.slice (some ⟨gw, 0, none⟩) cT kW) ∧ w'.cell? ⟨gh, J, none⟩ = some (.slice a n' c) ∧ w'.cell? ⟨gw, J, none⟩ = some (.slice a' n' c')) (first | exact e4 | exact ⟨x0, x1, c1, c2⟩)
                      (first | (go_at_call 38; (with_reducible refine hy.mono ?_); rintro e w2 ⟨rfl, hw2', _⟩; have hw2 := drewBelowG hw2'; have e4 := And.intro ((hw2.cell (p := ⟨X, 0, none⟩) lX).trans x0) (And.intro ((hw2.cell (p := ⟨X, 1, none⟩) lX).trans x1) (And.intro ((hw2.cell (p := ⟨gh, J, none⟩) l1).trans c1) ((hw2.cell (p := ⟨gw, J, none⟩) l2).trans c2)))))
                    all_goals
                      have HC6 := hid (HC5.out _ hw2)
                      clear hw2 hw2' e4 hy HC5
                      go_wp2
                      exact ⟨⟨J + 1, _, by omega, by omega, by omega, by go_num, HC6⟩, by simp [intOf]; omega⟩
                  · have b6 : ¬ (J : Int) < (q : Int) + 3 := by omega
                    go_wp2
                    exact ⟨⟨q + 1, ρ4, vl2, ls2, by omega, by go_num, by omega, hC4⟩, by simp [intOf]; omega⟩
                · have b5 : ¬ (J : Int) < (cT : Int) := by omega
                  go_wp2
                  exact ⟨⟨q + 1, ρ4, vl2, ls2, by omega, by go_num, by omega, hC4⟩, by simp [intOf]; omega⟩
    · obtain rfl : q = cT := by omega
      have b0 : ¬ (q : Int) < (q : Int) := by omega
      obtain ⟨wI, hwI⟩ : ∃ wI, wr = wI := ⟨_, rfl⟩
      rw [hwI] at x0 x1 x2 x3 x5 x6 x7 x8 hC ⊢
      clear hwI f2
      have hsz := hC.out.1.bel.size
      have hB2 : B0 ≤ wI.heap.size := Nat.le_trans hB hsz
      have HBI := hid hC.out.1.bel
      obtain ⟨ρI, hI0, hIz⟩ := HIs.out wI vl hsz (fun k hk e => hC.out.1.fr0 k hk (by rw [hC.out.2 k hk]; exact e)) hC.out.1.row
      have HI0 := hid hI0
      have hrX := hC.out.1.rX
      have hcells := hid (fun (T : Nat) (u : Value) (e : ls[T]? = some u) => hC.out.1.ol.cell e)
      have hvz : Hid (∀ k, vl.ownBlock = some k → k < wI.heap.size ∧ ρI k = 0) := fun k hk => by
        have hlt := hC.out.1.ol.lt k hk
        have hr2 := hC.out.1.rl k hk
        refine ⟨hlt, hIz k hlt (fun e => by subst e; rw [hrX] at hr2; omega) ?_⟩
        rcases Nat.lt_or_ge k w.heap.size with e | e
        · right; rw [← hC.out.2 k e, hr2]; omega
        · exact .inl e
      have hmarks : Hid (∀ (T : Nat) (u : Value), ls[T]? = some u → MkV wI u (mkT (T / 40)) ∧ ∀ k, u.ownBlock = some k → k < wI.heap.size ∧ ρI k = 0) := fun T u e => by
        obtain ⟨m1, m2⟩ := hC.out.1.mrk T u e
        refine ⟨m1, fun k hk => ?_⟩
        obtain ⟨hlt, hr2⟩ := m2 k hk
        refine ⟨hlt, hIz k hlt (fun e => by subst e; rw [hrX] at hr2; omega) ?_⟩
        rcases Nat.lt_or_ge k w.heap.size with e | e
        · right; rw [← hC.out.2 k e, hr2]; omega
        · exact .inl e
      obtain ⟨al, cl, hvl, hcl, hcl2⟩ := hC.out.1.ol.shape
      have HLL := hid hll
      have hFI := hid (fI_set gh kH gw kW q gi kI gj kJ cI vl)
      have HVL := hid hvl
      clear hC hI0 hIz hrX HIs HIk hF hll hcl hcl2 hvl
      go_wp2
      go_loopw [10] (fun i w' => i = .int .i64 0 ∧ w' = wI) (fun _ _ => 0)
      case atStart => exact ⟨rfl, rfl⟩
      case round =>
        obtain ⟨rfl, hwq⟩ := hrel
        rw [hwq]
        clear hwq
        go_wp2
        clear x0 x1 x2 x3 x5 x6 x7 x8
        go_loopw [3, 15, 16, 17, 18, 19] (fun _ i _ _ _ _ w' => ∃ (p : Nat) (ρ : Nat → Nat) (vm : Value) (lm : List Value), p ≤ cI ∧ i = .int .i64 (p : Int) ∧ lm.length = 40 * p ∧ Hid (Cb mkI B0 X gi gj (fI gh kH gw kW q gi kI gj kJ cI vl) hvI wvI WI wI ρ w' p vm lm ∧ ∀ k, k < wI.heap.size → ρ k = ρI k)) (fun _ i _ _ _ _ _ => cI - (intOf i).toNat)
        case atStart => exact ⟨0, ρI, .slice none 0 0, [], by omega, rfl, rfl, HI0.out, fun _ _ => rfl⟩
        case round =>
          clear HI0
          obtain ⟨p, ρ, vm, lm, hp, rfl, hlm, hC⟩ := hrel
          obtain ⟨x0, x1, x2, x3, x5, x6, x7, x8, _, f8⟩ := (Ce.mk (vl := vl) (vm := vm) hC.out.1.row).all
          by_cases hpc : p < cI
          · have b1 : (0 : Int) ≤ (p : Int) := by omega
            have b2 : (p : Int) < (cI : Int) := by omega
            obtain ⟨W, hWe⟩ : ∃ W, WI[p]? = some W := ⟨_, List.getElem?_eq_getElem (by omega)⟩
            have hWs := (TI.out W (List.mem_of_getElem? hWe)).1
            obtain ⟨v, hve, hOv, hrv⟩ := hC.out.1.own p W (Nat.le_refl _) hWe
            have d0 := hC.out.1.hr p v hve
            rw [Nat.zero_add] at d0
            obtain ⟨av, cv, hvv, hcv, hcv2⟩ := hOv.shape
            subst hvv
            have Ya1 : Hid (Ca mkI B0 X gi gj (fI gh kH gw kW q gi kI gj kJ cI vl) hvI wvI WI wI ρ wr p 0 (.slice av W.length cv) W vm lm ∧ ∀ k, k < wI.heap.size → ρ k = ρI k) :=
              ⟨⟨hC.out.1.skip (Nat.le_succ p), by rw [List.replicate_zero, List.drop_zero, List.nil_append]; exact hOv, hrv, hlm⟩, hC.out.2⟩
            have hmI : mkI p = .int .i64 (-5 - (p : Int)) := rfl
            have hm1 : IntKind.i64.wrap (-5 - (p : Int)) = -5 - (p : Int) := by rw [IntKind.wrap_i64]; omega
            obtain ⟨n, hn⟩ : ∃ n, W.length = n := ⟨_, rfl⟩
            have HN := hid hn
            rw [hn] at hWs hcv d0
            clear hC hOv hrv hn hWe hve
            go_wp2
            clear x0 x1 x2 x3 x5 x6 x7 x8 f8 d0
            go_loopw [18] (fun k w' => ∃ K : Nat, K ≤ n ∧ k = .int .i64 (K : Int) ∧ Hid (Ca mkI B0 X gi gj (fI gh kH gw kW q gi kI gj kJ cI vl) hvI wvI WI wI ρ w' p K (.slice av n cv) W vm lm ∧ ∀ k, k < wI.heap.size → ρ k = ρI k)) (fun k _ => n - (intOf k).toNat)
            case atStart => exact ⟨0, by omega, rfl, by have := Ya1.out; rw [HN.out] at this; exact this⟩
            case round =>
              clear Ya1
              obtain ⟨K, hK, rfl, hY⟩ := hrel
              by_cases hKn : K < n
              · have b3 : (K : Int) < (n : Int) := by omega
                have k0 : (0 : Int) ≤ (K : Int) := by omega
                have hlen : (List.replicate K (mkI p) ++ W.drop K).length = W.length := by rw [List.length_append, List.length_replicate, List.length_drop, HN.out]; omega
                obtain ⟨g, cg, eg, hce, hlte⟩ := hY.out.1.ov.cell (List.getElem?_eq_getElem (show K < (List.replicate K (mkI p) ++ W.drop K).length by rw [hlen, HN.out]; omega))
                injection eg with eg1 eg2 eg3
                subst eg1
                subst eg3
                have hY1 := hY.out.1
                have hR1 := hid hY.out.2
                rw [← HN.out] at hY1
                obtain ⟨Ya2, ⟨y1, z1⟩, g1⟩ := hY1.set hB2 (by rw [HN.out]; exact hKn)
                rw [HN.out, hmI] at Ya2
                have Ya2 := hid Ya2
                clear hce hlte hY hY1 hlen eg2 hmI
                go_wp2
                exact ⟨⟨K + 1, by omega, by go_num, Ya2.out, hR1.out⟩, by simp [intOf]; omega⟩
              · obtain rfl : K = n := by omega
                have b3 : ¬ (K : Int) < (K : Int) := by omega
                have hY1 := hY.out.1
                have hR1 := hY.out.2
                rw [← HN.out] at hY1
                have Ua0 := hY1.done
                rw [HN.out] at Ua0
                have Ua0 := hid (And.intro Ua0 hR1)
                clear hY hY1 hR1
                go_wp2
                generalize (.slice av K cv : Value) = v0 at *
                go_loopw [16, 19] (fun v k w' => ∃ (S n : Nat) (ρ : Nat → Nat) (vm : Value) (lm : List Value), S ≤ 40 ∧ k = .int .i64 (S : Int) ∧ n ≤ 1099511627776 + S ∧ Hid (Cu mkI B0 X gi gj (fI gh kH gw kW q gi kI gj kJ cI vl) hvI wvI WI wI ρ w' p S n v vm lm ∧ ∀ k, k < wI.heap.size → ρ k = ρI k)) (fun _ k _ => 40 - (intOf k).toNat)
                case atStart => exact ⟨0, K, ρ, vm, lm, by omega, rfl, by omega, Ua0⟩
                case round =>
                  clear Ua0
                  obtain ⟨S, n, ρ2, vl2, ls2, hS, rfl, hnS, hU⟩ := hrel
                  have zs := hU.out.1.cb.bel.size
                  by_cases hS40 : S < 40
                  · have b4 : (S : Int) < 40 := by omega
                    obtain ⟨_, _, _, _, _, _, _, y8, _, f8⟩ := (Ce.mk (vl := vl) (vm := vl2) hU.out.1.cb.row).all
                    obtain ⟨av2, cv2, hvv, _, _⟩ := hU.out.1.ov.shape
                    subst hvv
                    obtain ⟨vl3, w3, hap, Oa3, Ga3⟩ := append_lsI wr vl2 ls2 av2 n cv2 hU.out.1.cb.ol (by rw [hU.out.1.ll]; omega)
                    obtain ⟨al3, cl3, hvl3, _, _⟩ := Oa3.shape
                    subst hvl3
                    have Ua3 := hU.out.1.push hB2 hFI.out hS40 Ga3 Oa3
                    have Ra3 := rx_eq (r := 2) hU.out.2 zs
                    have Xa3 := lt_of_heap hU.out.1.cb.row
                    have f3 : w3.frozen? ⟨X, 8, none⟩ = false ∧ ∃ y, w3.cell? ⟨X, 8, none⟩ = some y := by
                      have hw : Wr ρ2 2 wr w3 := Wr.grow Ga3 hU.out.1.cb.rl
                      have row1 := (hw.block X Xa3 (by rw [hU.out.1.cb.rX]; omega)).trans hU.out.1.cb.row
                      exact ⟨frozen_of_row _ _ _ _ _ row1, _, by rw [cell_of_row _ _ _ _ _ _ row1]; rfl⟩
                    obtain ⟨f3, y3', hy3⟩ := f3
                    generalize hw4 : w3.setCell ⟨X, 8, none⟩ (.slice al3 (ls2.length + 1) cl3) = w4 at *
                    obtain ⟨v5, w5, hap5, Oa5, Ga5⟩ := append_mkI w4 (.slice av2 n cv2) n p Ua3.ov (by omega)
                    have Ua5 : Hid (Cu mkI B0 X gi gj (fI gh kH gw kW q gi kI gj kJ cI vl) hvI wvI WI wI _ w5 p (S + 1) (n + 1) v5 _ _ ∧ _) := ⟨Ua3.grow hB2 Ga5 Oa5, rx_eq (r := 3 + p) Ra3 Ua3.cb.bel.size⟩
                    rw [hmI] at hap5
                    clear Ua3 hU Oa3 Ga3 Oa5 Ga5 Xa3 Ra3 hmI
                    go_wp2_with (first
                      | (at_builtin; refine Lib.wpList_append_run _ rfl _ _ 33 33 rfl _ _ rfl rfl _ _ hap ?_)
                      | (at_builtin; go_must (refine Lib.wpList_append_run _ rfl _ _ 23 23 rfl _ _ rfl rfl _ _ hap5 ?_)))
                    exact ⟨⟨S + 1, n + 1, _, _, _, by omega, by go_num, by omega, Ua5⟩, by simp [intOf]; omega⟩
                  · have hS4 : S = 40 := by omega
                    have b4 : ¬ (S : Int) < 40 := by omega
                    have hl2 := hU.out.1.ll
                    have Ha2 : Hid (Cb mkI B0 X gi gj (fI gh kH gw kW q gi kI gj kJ cI vl) hvI wvI WI wI ρ2 wr (p + 1) vl2 ls2 ∧ ∀ k, k < wI.heap.size → ρ2 k = ρI k) := ⟨hU.out.1.cb, hU.out.2⟩
                    obtain ⟨x0, x1, x2, x3, x5, x6, x7, x8, _, _⟩ := (Ce.mk (vl := vl) (vm := vl2) Ha2.out.1.row).all
                    have s1 := stay_any X q (p + 1) q cI _ _ _ _ _ _ _ _ wr.drew (lt_of_heap Ha2.out.1.row) x0 x1 x3 x6 x7 (Nat.le_refl _) (by omega) (by omega) (by omega) (hid fun j h1 h2 => by omega) (hid fun j h1 h2 => (Ha2.out.1.okI TI.out h1 (by omega)).below (Below.refl _ _).drew)
                    have hp1 : ((p + 1 : Nat) : Int) = IntKind.i64.wrap ((p : Int) + 1) := by rw [IntKind.wrap_i64]; omega
                    rw [hp1] at s1
                    have lX := lt_of_heap Ha2.out.1.row
                    clear hU
                    go_wp2
                    go_region_held3 (fun w' => w'.cell? ⟨X, 0, none⟩ = some (.slice (some ⟨gh, 0, none⟩) q kH) ∧ w'.cell? ⟨X, 3, none⟩ = some (.slice none 0 0)) (first | exact e5 | exact ⟨x0, x3⟩)
                      (first | (go_at_call 36; (with_reducible refine s1.mono ?_); rintro r w5 ⟨rfl, b5'⟩; have b5 := drewBelowG b5'; have e5 := And.intro ((b5.cell (p := ⟨X, 0, none⟩) lX).trans x0) ((b5.cell (p := ⟨X, 3, none⟩) lX).trans x3)))
                    have Ha3 : Hid (Cb mkI B0 X gi gj (fI gh kH gw kW q gi kI gj kJ cI vl) hvI wvI WI wI (rx ρ2 wr 0) w5 (p + 1) vl2 ls2 ∧ ∀ k, k < wI.heap.size → rx ρ2 wr 0 k = ρI k) := ⟨Ha2.out.1.below hB2 b5, rx_eq Ha2.out.2 zs⟩
                    clear Ha2 s1 b5 b5' e5 x0 x1 x2 x3 x5 x6 x7 x8
                    go_wp2
                    exact ⟨⟨p + 1, _, vl2, ls2, by omega, by go_num, by omega, Ha3⟩, by simp [intOf]; omega⟩
          · obtain rfl : p = cI := by omega
            have b0 : ¬ (p : Int) < (p : Int) := by omega
            have hcellsI := hid (fun (T : Nat) (u : Value) (e : lm[T]? = some u) => hC.out.1.ol.cell e)
            have hmarksI := hid (fun (T : Nat) (u : Value) (e : lm[T]? = some u) => (hC.out.1.mrk T u e).1)
            have hsE := hC.out.1.bel.size
            have hkp : Hid (∀ k, k < wI.heap.size → ρI k = 0 → wr.heap[k]? = wI.heap[k]?) := fun k hk e => hC.out.1.fr0 k hk (by rw [hC.out.2 k hk]; exact e)
            have HBel : Hid (Below B0 w wr) := HBI.out.trans hC.out.1.bel
            have HLM := hid hlm
            obtain ⟨am, cm, hvm, hcm, hcm2⟩ := hC.out.1.ol.shape
            subst hvm
            have hcT : Hid (∀ (T : Nat) (u : Value), ls[T]? = some u → ∃ g c, vl = .slice (some ⟨g, 0, none⟩) ls.length c ∧ wr.cell? ⟨g, T, none⟩ = some u) := fun T u e => by
              obtain ⟨g, c, e1, e2, e3⟩ := hcells.out T u e
              have hz := hvz.out g (by rw [e1]; rfl)
              exact ⟨g, c, e1, (World.cell?_of_block (a := ⟨g, T, none⟩) (hkp.out g hz.1 hz.2)).trans e2⟩
            have hmT : Hid (∀ (T : Nat) (u : Value), ls[T]? = some u → MkV wr u (mkT (T / 40))) := fun T u e => (hmarks.out T u e).1.kept hsE fun k hk _ => hkp.out k ((hmarks.out T u e).2 k hk).1 ((hmarks.out T u e).2 k hk).2
            obtain ⟨wE, hwE⟩ : ∃ wE, wr = wE := ⟨_, rfl⟩
            rw [hwE] at x0 x1 x2 x3 x5 x6 x7 x8 hcellsI hmarksI HBel hcT hmT ⊢
            clear hC hkp hcells hmarks hvz hwE f8 hcm2
            rw [HVL.out] at x2
            rw [HLL.out] at x2
            rw [hlm] at x8 hcm
            obtain ⟨Z, hZ⟩ : ∃ Z, 40 * q = Z := ⟨_, rfl⟩
            obtain ⟨Y, hY⟩ : ∃ Y, 40 * p = Y := ⟨_, rfl⟩
            rw [hZ] at x2
            rw [hY] at x8 hcm
            have hZc : Z ≤ 4000 := by omega
            have hYc : Y ≤ 4000 := by omega
            have HZ := hid hZ
            have HY := hid hY
            clear hZ hY hlm
            go_wp2
            go_loopw [20, 21] (fun t _ w' => ∃ T : Nat, T ≤ Z ∧ t = .int .i64 (T : Int) ∧ Hid (Below wE.heap.size wE w')) (fun t _ _ => Z - (intOf t).toNat)
            case atStart => exact ⟨0, by omega, rfl, Below.refl _ _⟩
            case round =>
              obtain ⟨T, hT, rfl, hBw⟩ := hrel
              have lXE : X < wE.heap.size := lt_of_cell' x2
              have x2' := (hBw.out.cell (p := ⟨X, 2, none⟩) lXE).trans x2
              by_cases hTZ : T < Z
              · have b6 : (T : Int) < (Z : Int) := by omega
                have t0 : (0 : Int) ≤ (T : Int) := by omega
                obtain ⟨u, hu⟩ : ∃ u, ls[T]? = some u := ⟨_, List.getElem?_eq_getElem (by rw [HLL.out, HZ.out]; exact hTZ)⟩
                obtain ⟨gl, cl', e1, d2⟩ := hcT.out T u hu
                rw [HVL.out] at e1
                injection e1 with e1 e2 e3
                subst e1
                have lgl : gl < wE.heap.size := lt_of_cell' d2
                have d2' := (hBw.out.cell (p := ⟨gl, T, none⟩) lgl).trans d2
                obtain ⟨a, n, cc, rfl, hn, hM⟩ := hmT.out T u hu
                have HM := hid hM
                obtain ⟨D, hD⟩ : ∃ D, T / 40 = D := ⟨_, rfl⟩
                have q1 : Int.tdiv (T : Int) 40 = (D : Int) := by rw [Int.tdiv_eq_ediv_of_nonneg (by omega)]; omega
                have q1b : (T : Int) / 40 = (D : Int) := by omega
                have q2 : IntKind.i64.wrap (D : Int) = (D : Int) := by rw [IntKind.wrap_i64]; omega
                rw [hD] at HM
                obtain ⟨MB, hMB⟩ : ∃ MB : ByteArray, mkT D = .string MB := ⟨⟨(mrkT D).toArray⟩, rfl⟩
                have hmk := hid fun w' => mark13_any D (by omega) w'
                rw [show sv (mrkT D) = mkT D from rfl, hMB] at hmk
                rw [hMB] at HM
                clear hD
                have htt : (MB.toList == MB.toList) = true := beq_self_eq_true _
                have htn : (MB.toList != MB.toList) = false := by simp
                have HB1 := hBw
                clear hM hu hBw hMB x2' d2'
                have x2' := (HB1.out.cell (p := ⟨X, 2, none⟩) lXE).trans x2
                have d2' := (HB1.out.cell (p := ⟨gl, T, none⟩) lgl).trans d2
                go_wp2
                clear x2' d2'
                go_loopw [21] (fun k w' => ∃ K : Nat, K ≤ n ∧ k = .int .i64 (K : Int) ∧ Hid (Below wE.heap.size wE w')) (fun k _ => n - (intOf k).toNat)
                case atStart => exact ⟨0, by omega, rfl, HB1⟩
                case round =>
                  clear HB1
                  obtain ⟨K, hK, rfl, hBw⟩ := hrel
                  have x2' := (hBw.out.cell (p := ⟨X, 2, none⟩) lXE).trans x2
                  have d2' := (hBw.out.cell (p := ⟨gl, T, none⟩) lgl).trans d2
                  by_cases hKn : K < n
                  · have b7 : (K : Int) < (n : Int) := by omega
                    have k0 : (0 : Int) ≤ (K : Int) := by omega
                    obtain ⟨g, rfl, c4, c5⟩ := HM.out K hKn
                    have c6 := (hBw.out.cell (p := ⟨g, K, none⟩) c4).trans c5
                    go_wp2
                    go_region_held3 (fun w' => w'.cell? ⟨X, 2, none⟩ = some (.slice (some ⟨gl, 0, none⟩) Z cl) ∧ w'.cell? ⟨gl, T, none⟩ = some (.slice (some ⟨g, 0, none⟩) n cc) ∧ w'.cell? ⟨g, K, none⟩ = some (.string MB)) (first | exact e5 | exact ⟨x2', d2', c6⟩)
                      (first | (go_at_call 37; (refine (hmk.out _).mono ?_); rintro e w2 ⟨rfl, hw2⟩; have B2 := hid (hBw.out.drew.trans (hw2.mono hBw.out.drew.size)); have e5 := And.intro ((B2.out.cell (p := ⟨X, 2, none⟩) lXE).trans x2) (And.intro ((B2.out.cell (p := ⟨gl, T, none⟩) lgl).trans d2) ((B2.out.cell (p := ⟨g, K, none⟩) c4).trans c5))))
                    go_wp2
                    exact ⟨⟨K + 1, by omega, by go_num, B2⟩, by simp [intOf]; omega⟩
                  · obtain rfl : K = n := by omega
                    have b7 : ¬ (K : Int) < (K : Int) := by omega
                    go_wp2
                    exact ⟨⟨T + 1, by omega, by go_num, hBw⟩, by simp [intOf]; omega⟩
              · obtain rfl : T = Z := by omega
                have b6 : ¬ (T : Int) < (T : Int) := by omega
                have x5' := (hBw.out.cell (p := ⟨X, 5, none⟩) lXE).trans x5
                obtain ⟨wF, hwF⟩ : ∃ wF, wr = wF := ⟨_, rfl⟩
                rw [hwF] at hBw x2' x5' ⊢
                clear hwF
                go_wp2
                go_loopw [22] (fun i w' => i = .int .i64 0 ∧ w' = wF) (fun _ _ => 0)
                case atStart => exact ⟨rfl, rfl⟩
                case round =>
                  obtain ⟨rfl, hwq⟩ := hrel
                  rw [hwq]
                  clear hwq
                  have x8' := (hBw.out.cell (p := ⟨X, 8, none⟩) lXE).trans x8
                  go_wp2
                  go_loopw [24, 25] (fun t _ w' => ∃ (T : Nat) (d : Nat), T ≤ Y ∧ t = .int .i64 (T : Int) ∧ w' = wF.drewN d) (fun t _ _ => Y - (intOf t).toNat)
                  case atStart => exact ⟨0, 0, by omega, rfl, rfl⟩
                  case round =>
                    obtain ⟨T, dd, hT, rfl, hwq⟩ := hrel
                    rw [hwq]
                    clear hwq
                    by_cases hTZ : T < Y
                    · have b6 : (T : Int) < (Y : Int) := by omega
                      have t0 : (0 : Int) ≤ (T : Int) := by omega
                      obtain ⟨u, hu⟩ : ∃ u, lm[T]? = some u := ⟨_, List.getElem?_eq_getElem (by rw [HLM.out, HY.out]; exact hTZ)⟩
                      obtain ⟨gl, cl', e1, d2, lgl⟩ := hcellsI.out T u hu
                      injection e1 with e1 e2 e3
                      subst e1
                      have d2' := (hBw.out.cell (p := ⟨gl, T, none⟩) lgl).trans d2
                      obtain ⟨a, n, cc, rfl, hn, hM⟩ := hmarksI.out T u hu
                      have HM := hid hM
                      obtain ⟨D, hD⟩ : ∃ D, T / 40 = D := ⟨_, rfl⟩
                      rw [hD] at HM
                      obtain ⟨m, hm⟩ : ∃ m : Int, -5 - (D : Int) = m := ⟨_, rfl⟩
                      rw [show mkI D = .int .i64 m by rw [← hm]; rfl] at HM
                      have q1 : Int.tdiv (T : Int) 40 = (D : Int) := by rw [Int.tdiv_eq_ediv_of_nonneg (by omega)]; omega
                      have q1b : (T : Int) / 40 = (D : Int) := by omega
                      have q2 : IntKind.i64.wrap (D : Int) = (D : Int) := by rw [IntKind.wrap_i64]; omega
                      have q4 : IntKind.i64.wrap (-5 - (D : Int)) = m := by rw [IntKind.wrap_i64]; omega
                      clear hD
                      clear hM hu
                      go_wp2
                      go_loopw [25] (fun k w' => ∃ (K : Nat) (d : Nat), K ≤ n ∧ k = .int .i64 (K : Int) ∧ w' = wF.drewN d) (fun k _ => n - (intOf k).toNat)
                      case atStart => exact ⟨0, dd, by omega, rfl, rfl⟩
                      case round =>
                        obtain ⟨K, d3, hK, rfl, hwq⟩ := hrel
                        rw [hwq]
                        clear hwq
                        by_cases hKn : K < n
                        · have b7 : (K : Int) < (n : Int) := by omega
                          have k0 : (0 : Int) ≤ (K : Int) := by omega
                          obtain ⟨g, rfl, c4, c5⟩ := HM.out K hKn
                          have c6 := (hBw.out.cell (p := ⟨g, K, none⟩) c4).trans c5
                          have y1 : (m == m) = true := by simp
                          have y2 : (m != m) = false := by simp
                          go_wp2
                          exact ⟨⟨K + 1, d3, by omega, by go_num, rfl⟩, by simp [intOf]; omega⟩
                        · obtain rfl : K = n := by omega
                          have b7 : ¬ (K : Int) < (K : Int) := by omega
                          go_wp2
                          exact ⟨⟨T + 1, d3, by omega, by go_num, rfl⟩, by simp [intOf]; omega⟩
                    · obtain rfl : T = Y := by omega
                      have b6 : ¬ (T : Int) < (T : Int) := by omega
                      go_wp2
                      go_ret
                      exact ⟨rfl, HBel.out.trans ((below_drewNG hBw.out dd).mono (by have := HBel.out.size; omega))⟩
end Gb
end Chn
end Go.Proofs.YtjcapdkibbjmiaaGreatDoor
