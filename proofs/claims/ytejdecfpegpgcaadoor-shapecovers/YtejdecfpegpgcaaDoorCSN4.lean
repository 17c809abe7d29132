import Derived.Test.YtejdecfpegpgcaaDoorCSN3
import Derived.Test.YtejdecfpegpgcaaDoorCSP28
import Derived.Test.YtejdecfpegpgcaaDoorCSP4
import Derived.Test.YtejdecfpegpgcaaDoorCFN1
import Derived.Test.YtejdecfpegpgcaaDoorCSL11
import Derived.Deep.CutRange
import Derived.Deep.DeepCutAuto
namespace Go.Proofs.YtejdecfpegpgcaaDoor.Nb
open Go.RowKit Go.Shelf

/-- the book's cells: only lists of nodes -/
def fS (gh ch gw cw c : Nat) (vl : Value) : Array Value := #[.slice none 0 0, .slice none 0 0, .slice none 0 0, .slice (some ⟨gh, 0, none⟩) c ch, .slice (some ⟨gw, 0, none⟩) c cw, vl]
theorem fS_set (gh ch gw cw c : Nat) : ∀ v v', (fS gh ch gw cw c v).setIfInBounds 5 v' = fS gh ch gw cw c v' := fun _ _ => rfl
theorem Cb_cells {B0 X gh ch gw cw c : Nat} {hv wv : List Value} {Ws : List (List (Nat × Nat))} {w0 w : World} {ρ : Nat → Nat} {p : Nat} {vl : Value} {ls : List Value} (h : Cb B0 X gh gw (fS gh ch gw cw c) hv wv Ws w0 ρ w p vl ls) :
    w.cell? ⟨X, 3, none⟩ = some (.slice (some ⟨gh, 0, none⟩) c ch) ∧ w.cell? ⟨X, 4, none⟩ = some (.slice (some ⟨gw, 0, none⟩) c cw) ∧ w.cell? ⟨X, 5, none⟩ = some vl ∧ w.cell? ⟨X, 0, none⟩ = some (.slice none 0 0) ∧ w.cell? ⟨X, 2, none⟩ = some (.slice none 0 0) ∧ w.frozen? ⟨X, 5, none⟩ = false :=
  ⟨by rw [cell_of_row _ _ _ _ _ _ h.row]; rfl, by rw [cell_of_row _ _ _ _ _ _ h.row]; rfl, by rw [cell_of_row _ _ _ _ _ _ h.row]; rfl, by rw [cell_of_row _ _ _ _ _ _ h.row]; rfl, by rw [cell_of_row _ _ _ _ _ _ h.row]; rfl, frozen_of_row _ _ _ _ _ h.row⟩
theorem infoLs : (Tryd.prog.info? 35).map (fun i => (i.zero, i.size, i.bytes)) = some (some (.slice none 0 0), 1, 24) := by kernel_rfl
/-- append to the list of lists -/
theorem append_ls (w : World) (v : Value) (ls : List Value) (a : Option Addr) (n c : Nat) (h : OwnM 1 w v ls.length ls) (hl : ls.length ≤ 1000000) :
    ∃ v' w', (Builtin.append_ #[31, 31] 31 #[v, .slice (some ⟨w.heap.size, 0, none⟩) 1 1]).run Tryd.prog (w.alloc (.cells #[.slice a n c] 35)) = .ok v' w' ∧ OwnM 1 w' v' (ls.length + 1) (ls ++ [.slice a n c]) ∧ Grow w w' v v' :=
  append_oneL 31 35 _ 24 Tryd.underlying31 infoLs rfl w v ls.length ls [.slice a n c] rfl (fun u hu => by
    simp only [List.mem_cons, List.not_mem_nil, or_false] at hu
    subst hu; rfl) h (by omega) (by rw [maxLen]; omega)
/-- append of a mark -/
theorem append_mk (w : World) (v : Value) (n : Nat) (m : Int) (h : OwnM 2 w v n (mks n m)) (hl : n ≤ 2000000000000) :
    ∃ v' w', (Builtin.append_ #[35, 35] 35 #[v, .slice (some ⟨w.heap.size, 0, none⟩) 1 1]).run Tryd.prog (w.alloc (.cells #[.int .i64 m, .int .i64 0] 69)) = .ok v' w' ∧ OwnM 2 w' v' (n + 1) (mks (n + 1) m) ∧ Grow w w' v v' :=
  append_oneL 35 69 (.agg #[.int .i64 0, .int .i64 0]) 16 Tryd.underlying35 infoNd8 rfl w v n (mks n m) [.int .i64 m, .int .i64 0] rfl (fun u hu => by
    simp only [List.mem_cons, List.not_mem_nil, or_false] at hu
    rcases hu with rfl | rfl <;> rfl) h (by omega) (by rw [maxLen]; omega)
theorem ndU : Tryd.prog.underlying 69 = some (.struct (Tryd.prog.fieldsOf 69)) := by kernel_rfl
theorem ndP : Tryd.prog.stoodInHeld 69 = false := by kernel_rfl
theorem ndF : (Tryd.prog.fieldsOf 69).toList.map (fun f => (f.name, f.type, f.offset)) = [("Level", 3, 0), ("Index", 3, 1)] := by kernel_rfl
theorem eq_nd (p f q e : Int) (w : World) : (binOp .eql 69 (.agg #[.int .i64 p, .int .i64 f]) (.agg #[.int .i64 q, .int .i64 e])).run Tryd.prog w = .ok (.bool (p == q && f == e)) w := by
  rw [run_eql_struct, run_equalIn_agg w 9999 _ _ _ ndU ndP]
  obtain ⟨f1, f2, hf, a1, a2, a3, b1, b2, b3⟩ := two_fields ndF
  rw [hf]
  simp only [Op.eqFields, a1, a2, a3, b1, b2, b3]
  simp only [Sem.run_ite, Sem.run_bind, part0, part1, Result.andThen_ok, run_equalIn_int w 9998 3 .i64 .i64 _ _ Tryd.underlying3]
  generalize (p == q) = u
  generalize (f == e) = v
  cases u <;> cases v <;> simp
set_option maxRecDepth 100000 in
set_option maxHeartbeats 4000000 in
theorem still_S (B0 X gh ch gw cw c : Nat) (hv wv : List Value) (Ws : List (List (Nat × Nat))) (w0 w : World) (ρ0 : Nat → Nat) (h : Cb B0 X gh gw (fS gh ch gw cw c) hv wv Ws w0 ρ0 w 0 (.slice none 0 0) []) (hB : B0 ≤ w0.heap.size) (hhl : hv.length = c) (hwl : wv.length = c) (hWl : Ws.length = c) (hc : c ≤ 1000) (hch : c ≤ ch) (hcw : c ≤ cw) (hW : ∀ W ∈ Ws, W.length ≤ 1099511627776) :
    Calls Tryd.prog 17 #[.pointer (some ⟨X, 0, none⟩)] w fun r w' => r = .returned (.bool true) ∧ Below B0 w0 w' := by
  have H0 := hid h
  have HW := hid hW
  have hF := fS_set gh ch gw cw c
  have HF := hid hF
  obtain ⟨x0, x1, x2, x3, x5, f2⟩ := Cb_cells H0.out
  clear h hW hF
  go_enter Tryd.func17, Tryd.ntmps17
  go_wp2
  go_loopw [3, 4, 5, 6, 7, 8, 9] (fun i _ _ _ _ _ _ w' => (i = .int .i64 (-1) ∨ i = .int .i64 0) ∧ w' = w) (fun i _ _ _ _ _ _ _ => 1 - (RowKit.intOf i + 1).toNat)
  case atStart => exact ⟨.inl rfl, rfl⟩
  case round =>
    obtain ⟨hi, hwq⟩ := hrel
    rw [hwq]
    clear hwq
    rcases hi with rfl | rfl
    · go_wp2
      go_loopw [8, 9] (fun j _ w' => j = .int .i64 0 ∧ w' = w) (fun _ _ _ => 0)
      case atStart => exact ⟨rfl, rfl⟩
      case round =>
        obtain ⟨rfl, hwq⟩ := hrel
        rw [hwq]
        clear hwq
        go_wp2
        first
          | exact ⟨⟨.inr rfl, trivial⟩, by simp [RowKit.intOf]⟩
          | exact ⟨⟨.inr rfl, trivial⟩, by decide⟩
    · go_wp2
      go_loopw [10, 11, 12, 13, 14, 15, 16] (fun i _ _ _ _ _ _ w' => ∃ (I : Nat) (ρ : Nat → Nat) (vl : Value) (ls : List Value), I ≤ c + 1 ∧ i = .int .i64 ((I : Int) - 1) ∧ ls.length = 40 * (I - 1) ∧ Hid (Cb B0 X gh gw (fS gh ch gw cw c) hv wv Ws w0 ρ w' (I - 1) vl ls)) (fun i _ _ _ _ _ _ _ => c + 1 - (RowKit.intOf i + 1).toNat)
      case atStart => exact ⟨0, ρ0, _, _, by omega, rfl, rfl, H0⟩
      case round =>
        clear H0
        obtain ⟨I, ρ, vl, ls, hI, rfl, hll, hC⟩ := hrel
        obtain ⟨x0, x1, x2, x3, x5, f2⟩ := Cb_cells hC.out
        by_cases hIc : I ≤ c
        · have b0 : (I : Int) - 1 < (c : Int) := by omega
          go_upto_if 112 with fail
          go_cut [11, 12, 13, 14] from 102 to 182 (fun _ _ _ _ w' => ∃ (ρ : Nat → Nat) (vl : Value) (ls : List Value), ls.length = 40 * I ∧ Hid (Cb B0 X gh gw (fS gh ch gw cw c) hv wv Ws w0 ρ w' I vl ls))
          case first =>
            by_cases hI0 : I = 0
            · subst hI0
              go_wp2
              go_meet
              exact ⟨ρ, vl, ls, hll, hC⟩
            · obtain ⟨q, hqI⟩ : ∃ q, I = q + 1 := ⟨I - 1, by omega⟩
              have hq1 : I - 1 = q := by omega
              rw [hq1] at hll hC
              have hqc : q < c := by omega
              have hqW : q < Ws.length := by omega
              obtain ⟨W, hWe⟩ : ∃ W, Ws[q]? = some W := ⟨_, List.getElem?_eq_getElem hqW⟩
              have hWs := HW.out W (List.mem_of_getElem? hWe)
              obtain ⟨v, hve, hOv, hrv⟩ := hC.out.own q W (Nat.le_refl _) hWe
              have d0 := hC.out.hr q v hve
              rw [Nat.zero_add, ← hq1] at d0
              have HQI := hid hqI
              obtain ⟨al, cl, hvl, hcl, hcl2⟩ := hC.out.ol.shape
              obtain ⟨av, cv, hvv, hcv, hcv2⟩ := hOv.shape
              subst hvl
              subst hvv
              rw [hll] at x2 hcl
              have b1 : (1 : Int) ≤ (I : Int) := by omega
              have hb := (Below.refl wr.heap.size wr).alloc (Nat.le_refl _) (.cells #[.int .i64 (-5 - ((40 * q : Nat) : Int)), .int .i64 0] 69)
              have Y0 : Ca B0 X gh gw (fS gh ch gw cw c) hv wv Ws w0 (rx ρ wr 0) (wr.alloc (.cells #[.int .i64 (-5 - ((40 * q : Nat) : Int)), .int .i64 0] 69)) q 0 wr.heap.size (.slice av W.length cv) W (.slice al (40 * q) cl) ls :=
                ⟨by have := (hC.out.skip (Nat.le_succ q)).below hB hb; rw [hll] at this; exact this, by rw [show mks 0 _ = [] from rfl, Nat.zero_mul, List.drop_zero, List.nil_append]; exact hOv.below hb, fun g hg => by rw [rx_old (hOv.lt g hg)]; exact hrv g hg, NdI.new wr _ _, rx_new (Nat.le_refl _), hll⟩
              have Y0 := hid Y0
              have hm1 : IntKind.i64.wrap (-5 - ((40 * q : Nat) : Int)) = -5 - ((40 * q : Nat) : Int) := by rw [IntKind.wrap_i64]; omega
              obtain ⟨Q, hQ⟩ : ∃ Q, 40 * q = Q := ⟨_, rfl⟩
              clear hC hOv hrv hb hqI hq1
              go_wp2
              subst hQ
              generalize wr.alloc (.cells #[.int .i64 (-5 - ((40 * q : Nat) : Int)), .int .i64 0] 69) = wA at *
              generalize wr.heap.size = gm at *
              generalize rx ρ wr 0 = ρ1 at *
              obtain ⟨n, hn⟩ : ∃ n, W.length = n := ⟨_, rfl⟩
              have HN := hid hn
              rw [hn] at hWs hcv ⊢
              clear hn x0 x1 x2 x3 x5 f2 d0 hm1
              go_loopw [13] (fun k w' => ∃ K : Nat, K ≤ n ∧ k = .int .i64 (K : Int) ∧ Hid (Ca B0 X gh gw (fS gh ch gw cw c) hv wv Ws w0 ρ1 w' q K gm (.slice av n cv) W (.slice al (40 * q) cl) ls)) (fun k _ => n - (RowKit.intOf k).toNat)
              case atStart => exact ⟨0, by omega, rfl, by rw [← HN.out]; exact Y0⟩
              case round =>
                clear Y0
                obtain ⟨K, hK, rfl, hY⟩ := hrel
                have m0 := hY.out.sp.c0
                have m1 := hY.out.sp.c1
                by_cases hKn : K < n
                · have b3 : (K : Int) < (n : Int) := by omega
                  have k0 : (0 : Int) ≤ (K : Int) := by omega
                  have hlen : (mks K (-5 - ((40 * q : Nat) : Int)) ++ (prs W).drop (K * 2)).length = W.length * 2 := by rw [List.length_append, mks_len, List.length_drop, prs_len, HN.out]; omega
                  obtain ⟨g, cg, eg, hce, hlte⟩ := hY.out.ov.cell (List.getElem?_eq_getElem (show K * 2 < (mks K (-5 - ((40 * q : Nat) : Int)) ++ (prs W).drop (K * 2)).length by rw [hlen, HN.out]; omega))
                  injection eg with eg1 eg2 eg3
                  subst eg1
                  subst eg3
                  have hY1 := hY.out
                  rw [← HN.out] at hY1
                  obtain ⟨Y2, ⟨y1, z1⟩, g1, ⟨y2, z2⟩, g2⟩ := hY1.set hB (by rw [HN.out]; exact hKn)
                  rw [HN.out] at Y2
                  have Y2 := hid Y2
                  have z3 : (wr.setCell ⟨g, K * 2, none⟩ (.int .i64 (-5 - ((40 * q : Nat) : Int)))).cell? ⟨g, K * 2 + 1, none⟩ = some y2 := by rw [World.cell?_setCell_other _ _ _ _ (by simp)]; exact z2
                  have g3 : (wr.setCell ⟨g, K * 2, none⟩ (.int .i64 (-5 - ((40 * q : Nat) : Int)))).frozen? ⟨g, K * 2 + 1, none⟩ = false := by rw [World.frozen?_setCell]; exact g2
                  clear hce hlte hY hY1 hlen eg2
                  go_wp2
                  exact ⟨⟨K + 1, by omega, by go_num, Y2⟩, by simp [RowKit.intOf]; omega⟩
                · obtain rfl : K = n := by omega
                  have b3 : ¬ (K : Int) < (K : Int) := by omega
                  have hY1 := hY.out
                  rw [← HN.out] at hY1
                  have U0 := hid hY1.done
                  rw [HN.out] at U0
                  clear hY hY1 m0 m1
                  go_wp2
                  generalize (.slice av K cv : Value) = v0 at *
                  generalize (.slice al (40 * q) cl : Value) = vl0 at *
                  go_loopw [11, 14] (fun v k w' => ∃ (S n : Nat) (ρ : Nat → Nat) (vl : Value) (ls : List Value), S ≤ 40 ∧ k = .int .i64 (S : Int) ∧ n ≤ 1099511627776 + S ∧ Hid (Cu B0 X gh gw (fS gh ch gw cw c) hv wv Ws w0 ρ w' q S n gm v vl ls)) (fun _ k _ => 40 - (RowKit.intOf k).toNat)
                  case atStart => exact ⟨0, K, ρ1, vl0, ls, by omega, rfl, by omega, U0⟩
                  case round =>
                    clear U0
                    obtain ⟨S, n, ρ2, vl2, ls2, hS, rfl, hnS, hU⟩ := hrel
                    have m0 := hU.out.sp.c0
                    have m1 := hU.out.sp.c1
                    by_cases hS40 : S < 40
                    · have b4 : (S : Int) < 40 := by omega
                      obtain ⟨y0, y1, y2, y3, y5, f2⟩ := Cb_cells hU.out.cb
                      obtain ⟨av2, cv2, hvv, _, _⟩ := hU.out.ov.shape
                      subst hvv
                      obtain ⟨vl3, w3, hap, O3, G3⟩ := append_ls wr vl2 ls2 av2 n cv2 hU.out.cb.ol (by rw [hU.out.ll]; omega)
                      obtain ⟨al3, cl3, hvl3, _, _⟩ := O3.shape
                      subst hvl3
                      have U3 := hU.out.push hB HF.out hS40 G3 O3
                      have X3 := lt_of_heap hU.out.cb.row
                      have f3 : w3.frozen? ⟨X, 5, none⟩ = false ∧ ∃ y, w3.cell? ⟨X, 5, none⟩ = some y := by
                        have hw : Wr ρ2 2 wr w3 := Wr.grow G3 hU.out.cb.rl
                        have row1 := (hw.block X X3 (by rw [hU.out.cb.rX]; omega)).trans hU.out.cb.row
                        exact ⟨frozen_of_row _ _ _ _ _ row1, _, by rw [cell_of_row _ _ _ _ _ _ row1]; rfl⟩
                      obtain ⟨f3, y3', hy3⟩ := f3
                      generalize hw4 : w3.setCell ⟨X, 5, none⟩ (.slice al3 (ls2.length + 1) cl3) = w4 at *
                      have m2 := U3.sp.c0
                      have m3 := U3.sp.c1
                      obtain ⟨v5, w5, hap5, O5, G5⟩ := append_mk w4 (.slice av2 n cv2) n (-5 - ((40 * q : Nat) : Int)) U3.ov (by omega)
                      have U5 := hid (U3.grow hB G5 O5)
                      clear U3 hU O3 G3 O5 G5 X3
                      go_wp2_with (first
                        | (at_builtin; refine Lib.wpList_append_run _ rfl _ _ 31 31 rfl _ _ rfl rfl _ _ hap ?_)
                        | (at_builtin; go_must (refine Lib.wpList_append_run _ rfl _ _ 35 35 rfl _ _ rfl rfl _ _ hap5 ?_)))
                      exact ⟨⟨S + 1, n + 1, _, _, _, by omega, by go_num, by omega, U5⟩, by simp [RowKit.intOf]; omega⟩
                    · obtain rfl : S = 40 := by omega
                      have hU1 := hU.out.cb
                      have hl2 := hU.out.ll
                      have HU1 := hid hU1
                      clear hU hU1 m0 m1
                      go_wp2
                      go_meet
                      exact ⟨ρ2, vl2, ls2, by have := HQI.out; omega, by rw [HQI.out]; exact HU1⟩
          case rest =>
            obtain ⟨ρ3, vl3, ls3, hl3, hC3⟩ := hcut
            clear hC hll x0 x1 x2 x3 x5 f2
            go_wp2
            go_loopw [15, 16] (fun j _ w' => ∃ (J : Nat) (ρ : Nat → Nat), I ≤ J ∧ J ≤ c ∧ j = .int .i64 (J : Int) ∧ Hid (Cb B0 X gh gw (fS gh ch gw cw c) hv wv Ws w0 ρ w' I vl3 ls3)) (fun j _ _ => c - (RowKit.intOf j).toNat)
            case atStart => exact ⟨I, ρ3, Nat.le_refl _, hIc, by first | rfl | go_num, hC3⟩
            case round =>
              clear hC3
              obtain ⟨J, ρ4, hIJ, hJ, rfl, hC4⟩ := hrel
              obtain ⟨x0, x1, x2, x3, x5, f2⟩ := Cb_cells hC4.out
              by_cases hJc : J < c
              · have b5 : (J : Int) < (c : Int) := by omega
                have j0 : (0 : Int) ≤ (J : Int) := by omega
                obtain ⟨W, hWe⟩ : ∃ W, Ws[J]? = some W := ⟨_, List.getElem?_eq_getElem (by omega)⟩
                have hWs := HW.out W (List.mem_of_getElem? hWe)
                obtain ⟨v, hve, hOv, hrv⟩ := hC4.out.own J W hIJ hWe
                obtain ⟨aw, cw', hwe, hAw, _⟩ := hC4.out.want J W hWe
                have d0 := hC4.out.hr J v hve
                rw [Nat.zero_add] at d0
                have d1 := hC4.out.wr J _ hwe
                rw [Nat.zero_add] at d1
                obtain ⟨av, cv, hvv, hcv, hcv2⟩ := hOv.shape
                subst hvv
                have hs := nodes_yes (pm W) av aw cv cw' wr.drew (by rw [List.length_map]; omega) ((OwnP.atP hOv).kept (Nat.le_refl _) (fun _ _ _ => rfl)) (hAw.kept (Nat.le_refl _) (fun _ _ _ => rfl))
                rw [List.length_map] at hs
                have lX := lt_of_heap hC4.out.row
                have lh := hC4.out.lh
                have lw := hC4.out.lw
                have HC5 := hid (fun w' (hb : Below wr.heap.size wr w') => hC4.out.below hB hb)
                obtain ⟨nW, hnW⟩ : ∃ nW, W.length = nW := ⟨_, rfl⟩
                rw [hnW] at hs d0 d1
                clear hOv hrv hAw hC4 hwe hve
                go_wp2
                go_region_held3 (fun w' => w'.cell? ⟨X, 3, none⟩ = some (.slice (some ⟨gh, 0, none⟩) c ch) ∧ w'.cell? ⟨X, 4, none⟩ = some (.slice (some ⟨gw, 0, none⟩) c cw) ∧ w'.cell? ⟨gh, J, none⟩ = some (.slice av nW cv) ∧ w'.cell? ⟨gw, J, none⟩ = some (.slice aw nW cw')) (first | exact e4 | exact ⟨x0, x1, d0, d1⟩)
                  (first | (go_at_call 39; (with_reducible refine hs.mono ?_); rintro e w2 ⟨rfl, hw2'⟩; have hw2 := drewBelow8 hw2'; have e4 := And.intro ((hw2.cell (p := ⟨X, 3, none⟩) lX).trans x0) (And.intro ((hw2.cell (p := ⟨X, 4, none⟩) lX).trans x1) (And.intro ((hw2.cell (p := ⟨gh, J, none⟩) lh).trans d0) ((hw2.cell (p := ⟨gw, J, none⟩) lw).trans d1)))))
                all_goals
                  have HC6 := hid (HC5.out _ hw2)
                  clear hw2 hw2' e4 HC5 hs
                  go_wp2
                  exact ⟨⟨J + 1, _, by omega, by omega, by go_num, HC6⟩, by simp [RowKit.intOf]; omega⟩
              · obtain rfl : J = c := by omega
                have b5 : ¬ (J : Int) < (J : Int) := by omega
                clear x2 x3 x5 f2
                go_wp2
                exact ⟨⟨I + 1, ρ4, vl3, ls3, by omega, by go_num, by rw [Nat.add_sub_cancel]; exact hl3, by rw [Nat.add_sub_cancel]; exact hC4⟩, by simp [RowKit.intOf]; omega⟩
        · obtain rfl : I = c + 1 := by omega
          have b0 : ¬ ((c + 1 : Nat) : Int) - 1 < (c : Int) := by omega
          rw [Nat.add_sub_cancel] at hll hC
          obtain ⟨al, cl, hvl, hcl, hcl2⟩ := hC.out.ol.shape
          subst hvl
          rw [hll] at x2 hcl
          have hcells := hid (fun (T : Nat) (u : Value) (e : ls[T]? = some u) => hC.out.ol.cell e)
          have hmarks := hid (fun (T : Nat) (u : Value) (e : ls[T]? = some u) => (hC.out.mrk T u e).1)
          have HBel := hid hC.out.bel
          have HLL := hid hll
          clear hC
          obtain ⟨wE, hwE⟩ : ∃ wE, wr = wE := ⟨_, rfl⟩
          rw [hwE] at x0 x1 x2 x3 x5 hcells hmarks HBel ⊢
          clear hwE
          obtain ⟨Z, hZ⟩ : ∃ Z, 40 * c = Z := ⟨_, rfl⟩
          rw [hZ] at x2 hcl
          have hZc : Z ≤ 40000 := by omega
          have HZ := hid hZ
          clear hZ hll f2
          go_wp2
          go_loopw [17, 18] (fun t _ w' => t = .int .i64 0 ∧ w' = wE) (fun _ _ _ => 0)
          case atStart => exact ⟨rfl, rfl⟩
          case round =>
            obtain ⟨rfl, hwq⟩ := hrel
            rw [hwq]
            clear hwq
            go_wp2
            go_loopw [19, 20] (fun t _ w' => ∃ T : Nat, T ≤ Z ∧ t = .int .i64 (T : Int) ∧ w' = wE) (fun t _ _ => Z - (RowKit.intOf t).toNat)
            case atStart => exact ⟨0, by omega, rfl, rfl⟩
            case round =>
              obtain ⟨T, hT, rfl, hwq⟩ := hrel
              rw [hwq]
              clear hwq
              by_cases hTZ : T < Z
              · have b6 : (T : Int) < (Z : Int) := by omega
                have t0 : (0 : Int) ≤ (T : Int) := by omega
                obtain ⟨u, hu⟩ : ∃ u, ls[T]? = some u := ⟨_, List.getElem?_eq_getElem (by rw [HLL.out, HZ.out]; exact hTZ)⟩
                obtain ⟨gl, cl', e1, d2, _⟩ := hcells.out T u hu
                injection e1 with e1 e2 e3
                subst e1
                obtain ⟨a, n, cc, rfl, hn, hM⟩ := hmarks.out T u hu
                have HM := hid hM
                obtain ⟨m, hm⟩ : ∃ m : Int, -5 - ((40 * (T / 40) : Nat) : Int) = m := ⟨_, rfl⟩
                rw [hm] at HM
                have q1 : Int.tdiv (T : Int) 40 = ((T / 40 : Nat) : Int) := by rw [Int.tdiv_eq_ediv_of_nonneg (by omega)]; omega
                have q2 : IntKind.i64.wrap ((T / 40 : Nat) : Int) = ((T / 40 : Nat) : Int) := by rw [IntKind.wrap_i64]; omega
                have q3 : IntKind.i64.wrap (((T / 40 : Nat) : Int) * 40) = ((40 * (T / 40) : Nat) : Int) := by rw [IntKind.wrap_i64]; omega
                have q4 : IntKind.i64.wrap (-5 - ((40 * (T / 40) : Nat) : Int)) = m := by rw [IntKind.wrap_i64]; omega
                clear hM hu
                go_wp2
                go_loopw [20] (fun k w' => ∃ K : Nat, K ≤ n ∧ k = .int .i64 (K : Int) ∧ w' = wE) (fun k _ => n - (RowKit.intOf k).toNat)
                case atStart => exact ⟨0, by omega, rfl, rfl⟩
                case round =>
                  obtain ⟨K, hK, rfl, hwq⟩ := hrel
                  rw [hwq]
                  clear hwq
                  by_cases hKn : K < n
                  · have b7 : (K : Int) < (n : Int) := by omega
                    have k0 : (0 : Int) ≤ (K : Int) := by omega
                    obtain ⟨g, rfl, _, c4, c5⟩ := HM.out K hKn
                    have esp := eq_nd
                    have y1 : (m == m) = true := by simp
                    go_wp2
                    exact ⟨⟨K + 1, by omega, by go_num, trivial⟩, by simp [RowKit.intOf]; omega⟩
                  · obtain rfl : K = n := by omega
                    have b7 : ¬ (K : Int) < (K : Int) := by omega
                    go_wp2
                    exact ⟨⟨T + 1, by omega, by go_num, trivial⟩, by simp [RowKit.intOf]; omega⟩
              · obtain rfl : T = Z := by omega
                have b6 : ¬ (T : Int) < (T : Int) := by omega
                go_wp2
                go_ret
                exact ⟨rfl, HBel.out⟩
end Go.Proofs.YtejdecfpegpgcaaDoor.Nb
