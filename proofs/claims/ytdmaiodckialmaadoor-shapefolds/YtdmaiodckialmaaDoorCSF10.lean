import Derived.Test.YtdmaiodckialmaaDoorCSQ5
import Derived.Test.YtdmaiodckialmaaDoorCFN1
import Derived.Test.YtdmaiodckialmaaDoorCO1
import Derived.Test.YtdmaiodckialmaaDoorCO48
import Derived.Lib.SmallJoins
import Derived.Test.YtdmaiodckialmaaDoorCSP28
import Derived.Deep.SlicePairs
namespace Go.Proofs.YtdmaiodckialmaaDoor
open Go.RowKit Go.Shelf
set_option maxRecDepth 100000 in
set_option maxHeartbeats 800000 in
theorem folds8_law (size way out b e : Int) (K : List (Int × Int)) (H : List (List UInt8)) (cs : List Int) (ak ah ai : Option Addr) (ck ch ci : Nat) (hs1 : -9223372036854775808 ≤ size) (hs2 : size ≤ 9223372036854775807) (hw1 : -9223372036854775808 ≤ way) (hw2 : way ≤ 9223372036854775807) (ho1 : -9223372036854775808 ≤ out) (ho2 : out ≤ 9223372036854775807)
    (hk : K.length ≤ 8796093021952) (hh : H.length ≤ 8796093021952) (hq : ∀ q ∈ H, q.length ≤ 140737488351232) (hcs : cs.length ≤ 9223372036854775807) (hin : ∀ x ∈ cs, -9223372036854775808 ≤ x ∧ x ≤ 9223372036854775807) (w : World) (hK : AtQ w ak K) (hH : At w ah H) (hA : AtI w ai cs) (Z : Tb w) :
    Calls Tryd.prog 3 #[.int .i64 size, .slice ak K.length ck, .slice ah H.length ch, sg b e, .slice ai cs.length ci, .int .i64 way, .int .i64 out] w fun r w' => r = .returned (.bool true) ∧ Below w.heap.size w w' := by
  have S0 := SpI.new w b e
  have b0 := (Below.refl w.heap.size w).alloc (Nat.le_refl _) (.cells #[.int .i64 b, .int .i64 e] 25)
  have i0 := known8_any _ (Z.below b0 Z.lt)
  have B0 := hid b0
  have HS := hid S0
  have HZ := hid Z
  have hT := Z.lt
  have AH := hid (fun w' (h : Below w.heap.size w w') => hH.below h (Nat.le_refl _))
  have HQ := hid hq
  have iF := fun w' (h : Below w.heap.size w w') => folds8_any size K H b e ak ah ck ch w' hk hh hq (hK.below h (Nat.le_refl _)) (hH.below h (Nat.le_refl _)) (Z.below h Z.lt).t
  obtain ⟨p1, hp1, hp1'⟩ := pk_nat8 size 1099511627776 (by omega)
  have k1 : ∀ w', Calls Tryd.prog 6 #[.int .i64 size, .int .i64 1099511627776] w' fun e w'' => e = .returned (.int .i64 (p1 : Int)) ∧ w'' = w' := fun w' => by
    have := pick_any size 1099511627776 hs1 hs2 (by omega) (by omega) w'
    rw [show pk size 1099511627776 = (p1 : Int) from hp1.out] at this
    exact this
  obtain ⟨n, hn⟩ : ∃ n : Nat, n = p1 + 1 := ⟨_, rfl⟩
  have hnw : IntKind.i64.wrap (1 + (p1 : Int)) = (n : Int) := by rw [IntKind.wrap_i64]; omega
  have hn1 : 1 ≤ n := by omega
  have hn2 : n ≤ 1099511627776 := by omega
  have iRi := fun w' (h : Below w.heap.size w w') => rising12_any n cs ai ci hn1 hn2 hcs hin w' (hA.below h (Nat.le_refl _))
  have iBe := fun w' => below8_any n way hn1 hn2 hw1 hw2 w'
  have HMx := hid (rfl : H.length = H.length)
  obtain ⟨mk, hmk⟩ : ∃ mk, K.length = mk := ⟨_, rfl⟩
  obtain ⟨mh, hmh⟩ : ∃ mh, H.length = mh := ⟨_, rfl⟩
  obtain ⟨mc, hmc⟩ : ∃ mc, cs.length = mc := ⟨_, rfl⟩
  have HMH := hid hmh
  rw [hmk, hmh] at iF
  rw [hmc] at iRi
  rw [hmk, hmh, hmc]
  rw [hmk] at hk
  rw [hmh] at hh
  unfold sg at iF ⊢
  clear hn hp1 hp1' hK hH hA Z hq hin S0 b0 hmk hmh hmc HMx
  go_enter Tryd.func3, Tryd.ntmps3
  go_wp2_with (go_at_call 4; fail)
  refine i0.mono ?_
  rintro r w1 ⟨rfl, b1⟩
  have B1 := hid (B0.out.trans (b1.mono B0.out.size))
  have S1 := hid (HS.out.below b1)
  clear i0 b1 B0 HS
  go_upto_region 3 with fail
  go_cut [48] from 34 to 48 (fun v w' => ∃ B : Bool, v = .bool B ∧ w' = w1)
  case first =>
    by_cases c1 : mk ≤ 60
    · go_wp2
      go_meet
      exact ⟨_, rfl, rfl⟩
    · by_cases c2 : 4096 < mk
      · go_wp2
        go_meet
        exact ⟨_, rfl, rfl⟩
      · go_wp2
        go_meet
        exact ⟨_, rfl, rfl⟩
  case rest =>
  obtain ⟨B, rfl, rfl⟩ := hcut
  go_upto_if 48 with fail
  go_cut [16] from 33 to 224 (fun v w' => v = .bool true ∧ Hid (Below w.heap.size w w'))
  case first =>
    have s0 := S1.out.c0
    have s1 := S1.out.c1
    have i1 := iF _ B1.out
    cases B
    · go_wp2
      go_meet
      exact ⟨rfl, B1⟩
    · go_wp2_with (go_at_call 5; refine i1.mono ?_; rintro r w2 ⟨rfl, b2⟩; have B2 := hid (B1.out.trans (b2.mono B1.out.size)); clear b2)
      go_meet
      exact ⟨rfl, B2⟩
  case rest =>
    obtain ⟨rfl, B2⟩ := hcut
    obtain ⟨w2, hw2⟩ : ∃ w2, wc = w2 := ⟨_, rfl⟩
    rw [hw2] at B2 ⊢
    clear hw2 B1 S1 iF
    go_wp2_with (first
      | (go_at_call 6; with_reducible refine (k1 _).mono ?_; rintro r w' ⟨rfl, h0⟩; have h0 := h0.symm; subst h0)
      | (go_at_call 7; fail))
    refine (iRi _ B2.out).mono ?_
    rintro r w3 ⟨ar, cr, L, rfl, hAr, hok, b3⟩
    have B3 := hid (B2.out.trans (b3.mono B2.out.size))
    have iBa := rBatch8_any (n : Int) L ar cr w3 (by have := hok.l2; omega) hAr
    have eB := batchE_ok hok
    rw [eB] at iBa
    have AR := hid hAr
    have hl1 := hok.l1
    have hl2 := hok.l2
    have few : (batchL (n : Int) L).length + L.length ≤ n := by
      have hbc := (bat_count hok).1
      unfold batchL
      rw [if_pos (batchE_ok hok), Int.toNat_natCast]
      exact hbc
    have hall := hid hok.all
    obtain ⟨nL, hnL⟩ : ∃ nL, L.length = nL := ⟨_, rfl⟩
    have HNL := hid hnL
    rw [hnL] at iBa hl1 hl2 few ⊢
    obtain ⟨X0, hX0⟩ : ∃ X0, batchL (n : Int) L = X0 := ⟨_, rfl⟩
    rw [hX0] at iBa few
    obtain ⟨k0, hk0⟩ : ∃ k0, X0.length = k0 := ⟨_, rfl⟩
    rw [hk0] at few
    clear hX0
    clear hAr hok b3 eB B2 iRi k1 hnL
    go_wp2_with (go_at_call 8; fail)
    refine iBa.mono ?_
    rintro r w4 ⟨b4, x0, rfl, ox, fx⟩
    have F4 := hid (show Fd w3 w4 x0 (.slice none 0 0) X0 [] from ⟨ox, OwnM.nil 1 _, fx, fun k hk => (by cases hk), fun k _ hk => (by cases hk), fun q hq => (by cases hq), b4⟩)
    clear ox fx b4 iBa
    go_wp2
    go_loopw [19, 21] (fun x i w' => ∃ (j : Nat) (X : List (Nat × Nat)), j ≤ nL ∧ i = .int .i64 (j : Int) ∧ Hid (X.length = k0 + j) ∧ Hid (Fd w3 w' x (.slice none 0 0) X [])) (fun _ i _ => nL - (intOf i).toNat)
    case atStart => exact ⟨0, X0, by omega, rfl, hk0, F4⟩
    case round =>
      clear F4
      obtain ⟨j, X, hj, rfl, hXl, hF⟩ := hrel
      by_cases hjl : j < nL
      · have b2 : (j : Int) < (nL : Int) := by omega
        have j0 : (0 : Int) ≤ (j : Int) := by omega
        obtain ⟨xr, rfl⟩ := AR.out.pos (by have := HNL.out; omega)
        have c1 := (AR.out.below hF.out.bel (Nat.le_refl _)).cell j (by have := HNL.out; omega)
        have hr := hall.out _ (List.getElem_mem (l := L) (by have := HNL.out; omega : j < L.length))
        obtain ⟨ix, hix⟩ : ∃ ix : Nat, L[j]'(by have := HNL.out; omega) = (ix : Int) := ⟨(L[j]'(by have := HNL.out; omega)).toNat, by omega⟩
        rw [hix] at c1 hr
        obtain ⟨v', wx, hap, O3, G3⟩ := append_pair wr.drew u19 X ix (ix + 1) hF.out.drew.ox (by have := hXl.out; omega)
        have F5 := hid (hF.out.drew.growX G3 O3)
        have e4 : ((ix + 1 : Nat) : Int) = IntKind.i64.wrap ((ix : Int) + 1) := by rw [IntKind.wrap_i64]; omega
        rw [e4] at hap
        have hap : (Builtin.append_ #[22, 22] 22 #[u19, .slice (some ⟨wr.heap.size, 0, none⟩) 1 1]).run Tryd.prog (wr.alloc (.cells #[.int .i64 (ix : Int), .int .i64 (IntKind.i64.wrap ((ix : Int) + 1))] 25)).drew = .ok v' wx := hap
        clear O3 G3 hF hix
        go_wp2
        go_region_law (refine step_append_run rfl _ _ 22 rfl u19 _ v' wx rfl rfl hap ?_)
        all_goals
          go_wp2
          exact ⟨⟨j + 1, X ++ [(ix, ix + 1)], by omega, by go_num, by unfold Hid; have := hXl.out; simp; omega, F5⟩, by simp [intOf]; omega⟩
      · obtain rfl : j = nL := by omega
        have b2 : ¬ (j : Int) < (j : Int) := by omega
        obtain ⟨xa, xc, hxv, hx3, hx4⟩ := OwnM.shape hF.out.ox
        subst hxv
        obtain ⟨mx, hmx⟩ : ∃ mx, X.length = mx := ⟨_, rfl⟩
        have HX := hid hmx
        have hm1 : mx ≤ n := by have := hXl.out; omega
        have hm0 : 1 ≤ mx := by have := hXl.out; omega
        rw [hmx]
        rw [hmx] at hF
        have hm2 := hid hm1
        clear hXl hmx AR few hl1 hl2 hall HNL b2 hjl hx3 hx4
        go_wp2
        go_loopw [22, 23, 24] (fun y i _ w' => ∃ (k : Nat) (Y : List (List UInt8)), k ≤ mx ∧ i = .int .i64 (k : Int) ∧ Hid (Y.length = k) ∧ Hid (Fd w3 w' (.slice xa mx xc) y X Y)) (fun _ i _ _ => mx - (intOf i).toNat)
        case atStart => exact ⟨0, [], by omega, rfl, rfl, hF⟩
        case round =>
          clear hF
          obtain ⟨k, Y, hkx, rfl, hYl, hF⟩ := hrel
          by_cases hkl : k < mx
          · have b2 : (k : Int) < (mx : Int) := by omega
            have j0 : (0 : Int) ≤ (k : Int) := by omega
            have hcv := conv_some ((k : Int) % 256) ((k : Int) / 256 % 256) ⟨by omega, by omega⟩ ⟨by omega, by omega⟩ (wr.alloc (.cells #[.int .u8 ((k : Int) % 256), .int .u8 ((k : Int) / 256 % 256)] 5)) wr.heap.size (heap_alloc_new wr _)
            have bA := (Below.refl wr.heap.size wr).alloc (Nat.le_refl _) (.cells #[.int .u8 ((k : Int) % 256), .int .u8 ((k : Int) / 256 % 256)] 5)
            obtain ⟨s2, hs2', hz2⟩ := sv_two (UInt8.ofNat ((k : Int) % 256).toNat) (UInt8.ofNat ((k : Int) / 256 % 256).toNat)
            rw [hs2'] at hcv
            obtain ⟨wA, hwA⟩ : ∃ wA, wr.alloc (.cells #[.int .u8 ((k : Int) % 256), .int .u8 ((k : Int) / 256 % 256)] 5) = wA := ⟨_, rfl⟩
            rw [hwA] at hcv bA
            have hF := hF.out.below bA
            clear bA hs2'
            by_cases hkh : k < mh
            · have b3 : (k : Int) < (mh : Int) := by omega
              have aH := AH.out wA (B3.out.trans (hF.bel.mono B3.out.size))
              obtain ⟨xh, rfl⟩ := aH.pos (by have := HMH.out; omega)
              obtain ⟨sH, esH, cH⟩ := aH.cell k (by have := HMH.out; omega)
              have hzH : sH.size ≤ 140737488351232 := by
                have := HQ.out _ (List.getElem_mem (l := H) (by have := HMH.out; omega : k < H.length))
                rw [← esH.out] at this
                simpa using this
              clear aH esH
              go_wp2_with (go_at_call 9; fail)
              refine (hash8_D _ (by omega) _).mono ?_
              rintro r w5 ⟨D, hD, rfl, b5⟩
              have F5 := hF.below b5
              obtain ⟨v', w6, hap, O6, G6⟩ := append_hash w5 u22 Y D F5.oy (by have := hYl.out; omega)
              have F6 := hid (F5.growY G6 O6 (hy_snoc F5.hy hD))
              clear O6 G6 F5 hF b5
              go_wp2_with (at_builtin; go_must (refine Lib.wpList_append_run _ rfl _ _ 23 23 rfl _ _ rfl rfl _ _ hap ?_))
              exact ⟨⟨k + 1, Y ++ [D], by omega, by go_num, by unfold Hid; have := hYl.out; simp; omega, F6⟩, by simp [intOf]; omega⟩
            · have b3 : ¬ (k : Int) < (mh : Int) := by omega
              go_wp2_with (go_at_call 9; fail)
              refine (hash8_D _ (by rw [ByteArray.size_append, hz2]; decide) _).mono ?_
              rintro r w5 ⟨D, hD, rfl, b5⟩
              have F5 := hF.below b5
              obtain ⟨v', w6, hap, O6, G6⟩ := append_hash w5 u22 Y D F5.oy (by have := hYl.out; omega)
              have F6 := hid (F5.growY G6 O6 (hy_snoc F5.hy hD))
              clear O6 G6 F5 hF b5
              go_wp2_with (at_builtin; go_must (refine Lib.wpList_append_run _ rfl _ _ 23 23 rfl _ _ rfl rfl _ _ hap ?_))
              exact ⟨⟨k + 1, Y ++ [D], by omega, by go_num, by unfold Hid; have := hYl.out; simp; omega, F6⟩, by simp [intOf]; omega⟩
          · obtain rfl : k = mx := by omega
            have b2 : ¬ (k : Int) < (k : Int) := by omega
            have HYL := hid hYl.out
            obtain ⟨kp, hkp, hkk⟩ := pk_nat8 out k (by omega)
            have k2 : ∀ w', Calls Tryd.prog 6 #[.int .i64 out, .int .i64 (k : Int)] w' fun e w'' => e = .returned (.int .i64 (kp : Int)) ∧ w'' = w' := fun w' => by
              have := pick_any out (k : Int) ho1 ho2 (by omega) (by omega) w'
              rw [show pk out (k : Int) = (kp : Int) from hkp.out] at this
              exact this
            have kp0 : (0 : Int) ≤ (kp : Int) := by omega
            have kp1 : (kp : Int) < (k : Int) := by omega
            clear hkp hYl hkx hj
            go_wp2_with (go_at_call 5; fail)
            refine (folds_fd hF.out (HZ.out.below (B3.out.trans (hF.out.bel.mono B3.out.size)) HZ.out.lt).t (n : Int) _ _ (by rw [HX.out]; omega) (by rw [HYL.out]; omega)).mono ?_
            rintro r w7 ⟨rfl, b7⟩
            have F7 := hid (hF.out.below b7)
            clear b7 hF
            go_wp2_with (go_at_call 10; fail)
            refine (iBe _).mono ?_
            rintro r w8 ⟨bb, eb, rfl, hins, b8⟩
            have F8 := hid (F7.out.below b8)
            clear b8 F7 hins
            unfold sg
            go_wp2_with (go_at_call 5; fail)
            refine (folds_fd F8.out (HZ.out.below (B3.out.trans (F8.out.bel.mono B3.out.size)) HZ.out.lt).t (n : Int) _ _ (by rw [HX.out]; omega) (by rw [HYL.out]; omega)).mono ?_
            rintro r w9 ⟨rfl, b9⟩
            have F9 := hid (F8.out.below b9)
            clear b9 F8
            obtain ⟨gx, rfl, cx0, cx1⟩ := F9.out.pair kp (by rw [HX.out]; omega)
            obtain ⟨q1, eq1⟩ : ∃ q, (X[kp]'(by rw [HX.out]; omega)).1 = q := ⟨_, rfl⟩
            obtain ⟨q2, eq2⟩ : ∃ q, (X[kp]'(by rw [HX.out]; omega)).2 = q := ⟨_, rfl⟩
            rw [eq1] at cx0
            rw [eq2] at cx1
            clear eq1 eq2
            obtain ⟨vx, w10, hapx, O10, G10⟩ := append_pair w9 (.slice (some ⟨gx, 0, none⟩) k xc) X q1 q2 F9.out.ox (by rw [HX.out]; omega)
            have F10 := hid (F9.out.growX G10 O10)
            clear O10 G10 F9
            go_wp2_with (first
              | (go_at_call 6; with_reducible refine (k2 _).mono ?_; rintro r w' ⟨rfl, h0⟩; have h0 := h0.symm; subst h0)
              | (at_builtin; go_must (refine Lib.wpList_append_run _ rfl _ _ 22 22 rfl _ _ rfl rfl _ _ hapx ?_))
              | (go_at_call 9; fail))
            refine (hash8_D _ (by decide) _).mono ?_
            rintro r w11 ⟨D, hD, rfl, b11⟩
            have F11 := F10.out.below b11
            obtain ⟨vy, w12, hapy, O12, G12⟩ := append_hash w11 u22 Y D F11.oy (by rw [HYL.out]; omega)
            have F12 := hid (F11.growY G12 O12 (hy_snoc F11.hy hD))
            clear O12 G12 F11 F10 b11 hapx cx0 cx1
            go_wp2_with (first
              | (at_builtin; go_must (refine Lib.wpList_append_run _ rfl _ _ 23 23 rfl _ _ rfl rfl _ _ hapy ?_))
              | (go_at_call 5; fail))
            have hlx : (X ++ [(q1, q2)]).length = k + 1 := by rw [List.length_append, HX.out]; rfl
            have hly : (Y ++ [D]).length = k + 1 := by rw [List.length_append, HYL.out]; rfl
            obtain ⟨X1, hX1⟩ : ∃ X1, X ++ [(q1, q2)] = X1 := ⟨_, rfl⟩
            obtain ⟨Y1, hY1⟩ : ∃ Y1, Y ++ [D] = Y1 := ⟨_, rfl⟩
            rw [hX1] at F12 hlx
            rw [hY1] at F12 hly
            have HX1 := hid hlx
            have HY1 := hid hly
            clear hX1 hY1 hlx hly
            refine (folds_fd F12.out (HZ.out.below (B3.out.trans (F12.out.bel.mono B3.out.size)) HZ.out.lt).t (n : Int) _ _ (by rw [HX1.out]; omega) (by rw [HY1.out]; omega)).mono ?_
            rintro r w13 ⟨rfl, b13⟩
            have F13 := hid (F12.out.below b13)
            clear b13 F12
            obtain ⟨g1, c1, hv1, hc1⟩ := own_form F13.out.ox (by rw [HX1.out]; omega)
            obtain ⟨g2, c2, hv2, hc2⟩ := own_form F13.out.oy (by rw [HY1.out]; omega)
            rw [HX1.out] at hv1 hc1
            rw [HY1.out] at hv2 hc2
            obtain ⟨k1, hk1⟩ : ∃ k1, k + 1 = k1 := ⟨_, rfl⟩
            rw [hk1] at hv1 hv2 hc1 hc2 HX1 HY1
            subst hv1 hv2
            clear hapy
            go_wp2_with (go_at_call 10; fail)
            refine (iBe _).mono ?_
            rintro r w14 ⟨bb', eb', rfl, hins', b14⟩
            have F14 := hid (F13.out.below b14)
            clear b14 F13 hins'
            unfold sg
            obtain ⟨⟨z1, r1⟩, r2, ⟨z3, r3⟩, r4⟩ := F14.out.room kp (by rw [HX1.out]; omega) (.int .i64 (bb' : Int))
            have F15 := hid (((F14.out.setX kp (by rw [HX1.out]; omega) bb' eb').cutX k (by omega)).cutY k (by omega))
            have kq1 : (kp : Int) < (k1 : Int) := by omega
            have hw1' : IntKind.i64.wrap ((k1 : Int) - 1) = (k : Int) := by rw [IntKind.wrap_i64]; omega
            have hlx2 : ((X1.set kp (bb', eb')).take k).length ≤ k := by rw [List.length_take]; omega
            have hly2 : (Y1.take k).length ≤ k := by rw [List.length_take]; omega
            obtain ⟨X2, hX2⟩ : ∃ X2, (X1.set kp (bb', eb')).take k = X2 := ⟨_, rfl⟩
            obtain ⟨Y2, hY2⟩ : ∃ Y2, Y1.take k = Y2 := ⟨_, rfl⟩
            rw [hX2] at F15 hlx2
            rw [hY2] at F15 hly2
            have HX2 := hid hlx2
            have HY2 := hid hly2
            have q3 : (k : Int) ≤ (c1 : Int) := by omega
            have q4 : (k : Int) ≤ (c2 : Int) := by omega
            clear hX2 hY2 hlx2 hly2 F14
            go_wp2_with (go_at_call 5; fail)
            refine (folds_fd F15.out (HZ.out.below (B3.out.trans (F15.out.bel.mono B3.out.size)) HZ.out.lt).t (n : Int) _ _ (by have := HX2.out; omega) (by have := HY2.out; omega)).mono ?_
            rintro r w16 ⟨rfl, b16⟩
            have F16 := hid (F15.out.below b16)
            clear b16 F15
            have B16 := hid (B3.out.trans (F16.out.bel.mono B3.out.size))
            have C16 := hid F16.out.bel
            clear F16 HX2 HY2 HX1 HY1 HX HYL r1 r2 r3 r4 k2 iBe
            have k3 := fun w' => pick_any out 23 ho1 ho2 (by omega) (by omega) w'
            obtain ⟨P3, hP3⟩ : ∃ P3, pk out 23 = P3 := ⟨_, rfl⟩
            rw [hP3] at k3
            by_cases h7 : P3 = 7
            · subst h7
              obtain ⟨p4, hp4, hp4'⟩ := pk_nat8 size 4036 (by omega)
              have k4 : ∀ w', Calls Tryd.prog 6 #[.int .i64 size, .int .i64 4036] w' fun e w'' => e = .returned (.int .i64 (p4 : Int)) ∧ w'' = w' := fun w' => by
                have := pick_any size 4036 hs1 hs2 (by omega) (by omega) w'
                rw [show pk size 4036 = (p4 : Int) from hp4.out] at this
                exact this
              obtain ⟨m, hm⟩ : ∃ m : Nat, m = 61 + p4 := ⟨_, rfl⟩
              have hmw : IntKind.i64.wrap (61 + (p4 : Int)) = (m : Int) := by rw [IntKind.wrap_i64]; omega
              have hm3 : m ≤ 4096 := by omega
              clear hm hp4 hp4' hP3
              go_wp2_with (first
                | (go_at_call 6; with_reducible refine (k3 _).mono ?_; rintro r w' ⟨rfl, h0⟩; have h0 := h0.symm; subst h0)
                | (go_at_call 6; with_reducible refine (k4 _).mono ?_; rintro r w' ⟨rfl, h0⟩; have h0 := h0.symm; subst h0))
              have F17 := hid (Fd.new w3 _ C16.out)
              go_loopw [19, 22, 32] (fun x y i w' => ∃ (k : Nat) (X : List (Nat × Nat)) (Y : List (List UInt8)), k ≤ m ∧ i = .int .i64 (k : Int) ∧ Hid (X.length = k) ∧ Hid (Y.length = k) ∧ Hid (Fd w3 w' x y X Y)) (fun _ _ i _ => m - (intOf i).toNat)
              case atStart => exact ⟨0, [], [], by omega, rfl, rfl, rfl, F17⟩
              case round =>
                clear F17 C16 B16 k3 k4
                obtain ⟨t, X3, Y3, htm, rfl, hX3, hY3, hF⟩ := hrel
                by_cases htl : t < m
                · have b5 : (t : Int) < (m : Int) := by omega
                  obtain ⟨v', w15, hap, O5, G5⟩ := append_pair wr u19 X3 t (t + 1) hF.out.ox (by rw [hX3.out]; omega)
                  have F5 := hF.out.growX G5 O5
                  have e4 : ((t + 1 : Nat) : Int) = (t : Int) + 1 := by omega
                  rw [e4] at hap
                  have hcv := conv_some ((t : Int) % 256) ((t : Int) / 256) ⟨by omega, by omega⟩ ⟨by omega, by omega⟩ (w15.alloc (.cells #[.int .u8 ((t : Int) % 256), .int .u8 ((t : Int) / 256)] 5)) w15.heap.size (heap_alloc_new w15 _)
                  have bA := (Below.refl w15.heap.size w15).alloc (Nat.le_refl _) (.cells #[.int .u8 ((t : Int) % 256), .int .u8 ((t : Int) / 256)] 5)
                  obtain ⟨s2, hs2', hz2⟩ := sv_two (UInt8.ofNat ((t : Int) % 256).toNat) (UInt8.ofNat ((t : Int) / 256).toNat)
                  rw [hs2'] at hcv
                  obtain ⟨wA, hwA⟩ : ∃ wA, w15.alloc (.cells #[.int .u8 ((t : Int) % 256), .int .u8 ((t : Int) / 256)] 5) = wA := ⟨_, rfl⟩
                  rw [hwA] at hcv bA
                  have F6 := hid (F5.below bA)
                  clear bA hs2' F5 O5 G5 hF
                  go_wp2_with (first
                    | (at_builtin; go_must (refine Lib.wpList_append_run _ rfl _ _ 22 22 rfl _ _ rfl rfl _ _ hap ?_))
                    | (go_at_call 9; fail))
                  refine (hash8_D _ (by rw [ByteArray.size_append, hz2]; decide) _).mono ?_
                  rintro r w18 ⟨D3, hD3, rfl, b18⟩
                  have F8 := F6.out.below b18
                  obtain ⟨v2, w19, hapy, O9, G9⟩ := append_hash w18 u22 Y3 D3 F8.oy (by rw [hY3.out]; omega)
                  have F9 := hid (F8.growY G9 O9 (hy_snoc F8.hy hD3))
                  clear O9 G9 F8 F6 b18 hap hcv hwA
                  go_wp2_with (at_builtin; go_must (refine Lib.wpList_append_run _ rfl _ _ 23 23 rfl _ _ rfl rfl _ _ hapy ?_))
                  exact ⟨⟨t + 1, X3 ++ [(t, t + 1)], Y3 ++ [D3], by omega, by go_num, by unfold Hid; have := hX3.out; simp; omega, by unfold Hid; have := hY3.out; simp; omega, F9⟩, by simp [intOf]; omega⟩
                · obtain rfl : t = m := by omega
                  have b5 : ¬ (t : Int) < (t : Int) := by omega
                  go_wp2_with (go_at_call 5; fail)
                  refine (folds_fd hF.out (HZ.out.below (B3.out.trans (hF.out.bel.mono B3.out.size)) HZ.out.lt).t (t : Int) _ _ (by rw [hX3.out]; omega) (by rw [hY3.out]; omega)).mono ?_
                  rintro r w20 ⟨rfl, b20⟩
                  have B20 := hid (B3.out.trans ((hF.out.below b20).bel.mono B3.out.size))
                  clear b20 hF
                  go_wp2
                  go_ret
                  exact ⟨rfl, B20.out⟩
            · have h7' : (P3 == 7) = false := by simpa using h7
              go_wp2_with (go_at_call 6; refine (k3 _).mono ?_; rintro r w' ⟨rfl, h0⟩; have h0 := h0.symm; subst h0)
              go_ret
              exact ⟨rfl, B16.out⟩
end Go.Proofs.YtdmaiodckialmaaDoor

namespace Go.Proofs.YtdmaiodckialmaaDoor
open Go.ChangeShapes Go.WideShapes Go.ChangeAt Go.RowKit
theorem gDB : Tryd.prog.globalNamed "math/bits.deBruijn64tab" = some 1 := by kernel_rfl
theorem gDBType : (Tryd.prog.globals[1]?).map (·.type) = some 103 := by kernel_rfl
theorem cells64b : Tryd.prog.cellsOf 103 = 64 := by kernel_rfl
theorem cells1b : Tryd.prog.cellsOf 5 = 1 := by kernel_rfl
def four : List (String × DataW Unit) := [("math/bits.deBruijn32tab", Rows.laid_math_bits_deBruijn32tab), ("math/bits.deBruijn64tab", Rows.laid_math_bits_deBruijn64tab), ("scrivener/digest.start", Rows.laid_scrivener_digest_start), ("scrivener/digest.rounds", Rows.laid_scrivener_digest_rounds)]
theorem tb_of {W : World} (h : laidMet Tryd.prog four W) : Tb W := by
  have h1 := laidMet.tail h
  have h2 : Lib.TabIs Tryd.prog W "math/bits.deBruijn64tab" .u8 (Lib.deBruijn64tab.map Int.ofNat) :=
    Lib.tabIs_of_head gDB gDBType Tryd.underlying103 Tryd.underlying5 cells1b cells64b (show laidMet Tryd.prog (("math/bits.deBruijn64tab", Lib.tabData .u8 (Lib.deBruijn64tab.map Int.ofNat)) :: _) W from h1)
  refine ⟨tabs_of (laidMet.tail h1), fun j hj => ?_⟩
  have := h2.cell gDB j (by rw [List.length_map]; exact hj)
  rw [this]
  simp [List.getD_eq_getElem?_getD]
  rw [List.getElem?_eq_getElem (show j < Lib.deBruijn64tab.length from hj)]; simp
/-- A WORLD FOR THE WITNESS: all four tables laid. -/
noncomputable def laidWorld5 (os : Os) : World :=
  { laidWorld os with
    heap := ((laidWorld os).heap.modify 0 (fillObj (Lib.deBruijn32tab.map fun n => Value.int .u8 (Int.ofNat n)).toArray)).modify 1 (fillObj (Lib.deBruijn64tab.map fun n => Value.int .u8 (Int.ofNat n)).toArray) }
end Go.Proofs.YtdmaiodckialmaaDoor

namespace Go.Proofs.YtdmaiodckialmaaDoor
open Go.ChangeShapes Go.WideShapes Go.ChangeAt Go.RowKit
theorem bytesS : Tryd.prog.bytesOf 9 = 16 := by kernel_rfl
set_option maxRecDepth 100000 in
/-- a slice of texts among the arguments, by its weight -/
theorem open_atF {H : Type} {enc : TypeId × Value → H} {W : World} {base : Nat} {v : Value} {d : DataW H} {p : List MemPlace}
    (hval : Value.okWide Tryd.prog W .any base 23 v) (hd : DataW.Trod enc Tryd.prog W 0 (fun _ => true) true 23 v d p) (hk : ∀ x ∈ DataW.weights Tryd.prog 23 d, x ≤ reachBytes) :
    ∃ a l cap, v = .slice a l.length cap ∧ At W a l ∧ l.length ≤ cap ∧ cap ≤ 9223372036854775807 ∧ l.length ≤ 8796093021952 := by
  obtain ⟨a0, len0, cap0, rfl⟩ := okWide_slice Tryd.underlying23 hval
  obtain ⟨fuel, hf⟩ := hd
  rcases open_strings Tryd.underlying23 Tryd.underlying9 cellsS hf with ⟨hcs, hx⟩ | ⟨a, len, cap, ss, hcs, _, hl, hm, hz, hx, hcell, hsz⟩
  · simp [Value.cells] at hcs
    obtain ⟨rfl, rfl, rfl⟩ := hcs
    exact ⟨none, [], 0, rfl, At.nil _ _, by simp, by omega, by simp⟩
  · simp [Value.cells] at hcs
    obtain ⟨rfl, rfl, rfl⟩ := hcs
    simp only [Prod.mk.injEq] at hx
    obtain ⟨rfl, _⟩ := hx
    simp only [if_true] at hz
    have hlen : ((ss.take len0).map (·.data.toList)).length = len0 := by simp; omega
    have hw : cap0 * 16 ≤ reachBytes := by
      refine hk _ ?_
      rw [DataW.weights, Tryd.underlying23]
      simp only [bytesS]
      have e : (strs (H := H) (ss.take len0)).length + (strs (H := H) (ss.drop len0)).length = cap0 := by simp [strs]; omega
      rw [e]
      exact List.mem_cons_self
    have hr : reachBytes = 140737488351232 := rfl
    refine ⟨some a, (ss.take len0).map (·.data.toList), cap0, by rw [hlen], fun j p hp => ?_, by omega, hm, by omega⟩
    rw [List.getElem?_map, Option.map_eq_some_iff] at hp
    obtain ⟨s, hs, rfl⟩ := hp
    rw [List.getElem?_take] at hs
    split at hs
    · have hj := (List.getElem?_eq_some_iff.1 hs).1
      have hc := hcell j hj
      rw [List.getD_eq_getElem?_getD, hs] at hc
      refine ⟨a, rfl, ?_, hc⟩
      have := block_lt_of_cell hc
      rwa [addr_block] at this
    · cases hs
theorem weights_head {H : Type} {P : Program} {t : TypeId} {ts : List TypeId} {d : DataW H} {r : List (DataW H)} (h : (DataW.weightsEach P (t :: ts) (d :: r)).all (· ≤ reachBytes) = true) : ∀ x ∈ DataW.weights P t d, x ≤ reachBytes := fun x hx => by
  have := List.all_eq_true.1 h x (by rw [DataW.weightsEach]; exact List.mem_append_left _ hx)
  simpa using this
theorem weights_mem {H : Type} {P : Program} {e : TypeId} {d : DataW H} {x : Nat} : ∀ {l : List (DataW H)}, d ∈ l → x ∈ DataW.weights P e d → x ∈ DataW.weightsAll P e l
  | [], h, _ => by cases h
  | f :: r, h, hx => by
    rw [DataW.weightsAll]
    rcases List.mem_cons.1 h with rfl | h
    · exact List.mem_append_left _ hx
    · exact List.mem_append_right _ (weights_mem h hx)
theorem weights_tail {H : Type} {P : Program} {t : TypeId} {ts : List TypeId} {d : DataW H} {r : List (DataW H)} (h : (DataW.weightsEach P (t :: ts) (d :: r)).all (· ≤ reachBytes) = true) : (DataW.weightsEach P ts r).all (· ≤ reachBytes) = true := by
  rw [List.all_eq_true] at h ⊢
  exact fun x hx => h x (by rw [DataW.weightsEach]; exact List.mem_append_right _ hx)
set_option maxRecDepth 100000 in
/-- a slice of texts among the arguments, by its weight, and by its texts' -/
theorem open_atG {H : Type} {enc : TypeId × Value → H} {W : World} {base : Nat} {v : Value} {d : DataW H} {p : List MemPlace}
    (hval : Value.okWide Tryd.prog W .any base 23 v) (hd : DataW.Trod enc Tryd.prog W 0 (fun _ => true) true 23 v d p) (hk : ∀ x ∈ DataW.weights Tryd.prog 23 d, x ≤ reachBytes) :
    ∃ a l cap, v = .slice a l.length cap ∧ At W a l ∧ l.length ≤ cap ∧ cap ≤ 9223372036854775807 ∧ l.length ≤ 8796093021952 ∧ ∀ q ∈ l, q.length ≤ 140737488351232 := by
  obtain ⟨a0, len0, cap0, rfl⟩ := okWide_slice Tryd.underlying23 hval
  obtain ⟨fuel, hf⟩ := hd
  rcases open_strings Tryd.underlying23 Tryd.underlying9 cellsS hf with ⟨hcs, hx⟩ | ⟨a, len, cap, ss, hcs, _, hl, hm, hz, hx, hcell, hsz⟩
  · simp [Value.cells] at hcs
    obtain ⟨rfl, rfl, rfl⟩ := hcs
    exact ⟨none, [], 0, rfl, At.nil _ _, by simp, by omega, by simp, by simp⟩
  · simp [Value.cells] at hcs
    obtain ⟨rfl, rfl, rfl⟩ := hcs
    simp only [Prod.mk.injEq] at hx
    obtain ⟨rfl, _⟩ := hx
    simp only [if_true] at hz
    have hlen : ((ss.take len0).map (·.data.toList)).length = len0 := by simp; omega
    have hr : reachBytes = 140737488351232 := rfl
    have hw : cap0 * 16 ≤ reachBytes := by
      refine hk _ ?_
      rw [DataW.weights, Tryd.underlying23]
      simp only [bytesS]
      have e : (strs (H := H) (ss.take len0)).length + (strs (H := H) (ss.drop len0)).length = cap0 := by simp [strs]; omega
      rw [e]
      exact List.mem_cons_self
    have hq : ∀ s ∈ ss.take len0, s.data.toList.length ≤ reachBytes := fun s hs => by
      refine hk _ ?_
      rw [DataW.weights, Tryd.underlying23]
      refine List.mem_cons_of_mem _ (List.mem_append_left _ (weights_mem (d := .lit (.string s.data.toList)) ?_ ?_))
      · unfold strs
        exact List.mem_map.2 ⟨s, hs, rfl⟩
      · simp [DataW.weights]
    refine ⟨some a, (ss.take len0).map (·.data.toList), cap0, by rw [hlen], fun j p hp => ?_, by omega, hm, by omega, fun q hq' => ?_⟩
    rotate_left
    · obtain ⟨s, hs, rfl⟩ := List.mem_map.1 hq'
      have := hq s hs
      omega
    rw [List.getElem?_map, Option.map_eq_some_iff] at hp
    obtain ⟨s, hs, rfl⟩ := hp
    rw [List.getElem?_take] at hs
    split at hs
    · have hj := (List.getElem?_eq_some_iff.1 hs).1
      have hc := hcell j hj
      rw [List.getD_eq_getElem?_getD, hs] at hc
      refine ⟨a, rfl, ?_, hc⟩
      have := block_lt_of_cell hc
      rwa [addr_block] at this
    · cases hs
set_option maxRecDepth 100000 in
/-- a text among the arguments, by its weight -/
theorem open_strG {H : Type} {enc : TypeId × Value → H} {W : World} {base : Nat} {v : Value} {d : DataW H} {p : List MemPlace}
    (hval : Value.okWide Tryd.prog W .any base 9 v) (hd : DataW.Trod enc Tryd.prog W 0 (fun _ => true) true 9 v d p) (hk : ∀ x ∈ DataW.weights Tryd.prog 9 d, x ≤ reachBytes) :
    ∃ s : List UInt8, v = sv s ∧ s.length ≤ 140737488351232 := by
  obtain ⟨s0, rfl, rfl, rfl, hs0⟩ := ChangeMaps.open_string Tryd.underlying9 hval hd
  have hr : reachBytes = 140737488351232 := rfl
  have := hk s0.data.toList.length (by simp [DataW.weights])
  exact ⟨s0.data.toList, sv_eta s0, by omega⟩
end Go.Proofs.YtdmaiodckialmaaDoor

namespace Go.Proofs.YtdmaiodckialmaaDoor
open Go.ChangeShapes Go.WideShapes Go.ChangeAt Go.RowKit
theorem cellsS8 : Tryd.prog.cellsOf 25 = 2 := by kernel_rfl
theorem bytesS8 : Tryd.prog.bytesOf 25 = 16 := by kernel_rfl
set_option maxRecDepth 100000 in
/-- a span among the arguments -/
theorem open_span8 {H : Type} {enc : TypeId × Value → H} {W : World} {base : Nat} {v : Value} {d : DataW H} {p : List MemPlace}
    (hval : Value.okWide Tryd.prog W .any base 25 v) (hd : DataW.Trod enc Tryd.prog W 0 (fun _ => true) true 25 v d p) :
    ∃ b e : Int, v = .agg #[.int .i64 b, .int .i64 e] := by
  obtain ⟨v0, v1, y0, y1, n, rfl, _, _, h0, h1⟩ := Joins.open_agg2 Tryd.underlying25 (by kernel_rfl) cellsS8 hval hd
  obtain ⟨b, hb, _, _⟩ := DataW.trod_int Tryd.underlying3 h0
  obtain ⟨e, he, _, _⟩ := DataW.trod_int Tryd.underlying3 h1
  simp only [List.cons.injEq, and_true] at hb he
  exact ⟨b, e, by rw [hb, he]⟩
def zof : Value → Int
  | .int _ z => z
  | _ => 0
set_option maxRecDepth 100000 in
/-- a slice of spans among the arguments, by its weight -/
theorem open_atQ {H : Type} {enc : TypeId × Value → H} {W : World} {base : Nat} {v : Value} {d : DataW H} {p : List MemPlace}
    (hval : Value.okWide Tryd.prog W .any base 22 v) (hd : DataW.Trod enc Tryd.prog W 0 (fun _ => true) true 22 v d p) (hk : ∀ x ∈ DataW.weights Tryd.prog 22 d, x ≤ reachBytes) :
    ∃ a l cap, v = .slice a l.length cap ∧ AtQ W a l ∧ l.length ≤ 8796093021952 := by
  obtain ⟨a0, len0, cap0, rfl⟩ := okWide_slice Tryd.underlying22 hval
  obtain ⟨fuel, hf⟩ := hd
  rcases Deep.open_slice_pairs Tryd.underlying22 Tryd.underlying25 cellsS8 rfl rfl (by kernel_rfl) (by kernel_rfl) hf with ⟨hcs, hx⟩ | ⟨a, len, cap, m, n, V0, V1, D0, D1, P0, P1, hcs, _, hl, hm, hmm, hx, hcell⟩
  · simp [Value.cells] at hcs
    obtain ⟨rfl, rfl, rfl⟩ := hcs
    exact ⟨none, [], 0, rfl, fun j q hq => by simp at hq, by simp⟩
  · simp [Value.cells] at hcs
    obtain ⟨rfl, rfl, rfl⟩ := hcs
    simp only [Prod.mk.injEq] at hx
    obtain ⟨rfl, _⟩ := hx
    simp only [if_true] at hmm
    subst hmm
    have hw : m * 16 ≤ reachBytes := by
      refine hk _ ?_
      rw [DataW.weights, Tryd.underlying22]
      simp only [bytesS8]
      have e : ((List.range len0).map fun i => (DataW.agg [D0 i, D1 i] : DataW H)).length + ((List.range (m - len0)).map fun j => (DataW.agg [D0 (len0 + j), D1 (len0 + j)] : DataW H)).length = m := by simp; omega
      rw [e]
      exact List.mem_cons_self
    have hr : reachBytes = 140737488351232 := rfl
    refine ⟨some a, (List.range len0).map fun i => (zof (V0 i), zof (V1 i)), m, by simp, fun j q hq => ?_, by simp; omega⟩
    have hj : j < len0 := by have := (List.getElem?_eq_some_iff.1 hq).1; simpa using this
    rw [List.getElem?_map, List.getElem?_range hj] at hq
    simp only [Option.map_some, Option.some.injEq] at hq
    obtain ⟨c0, c1, t0, t1⟩ := hcell j (by omega)
    obtain ⟨b, hb, _, _⟩ := DataW.trod_int Tryd.underlying3 t0
    obtain ⟨e, he, _, _⟩ := DataW.trod_int Tryd.underlying3 t1
    simp only [List.cons.injEq, and_true] at hb he
    rw [hb] at c0
    rw [he] at c1
    subst hq
    rw [hb, he]
    refine ⟨a, rfl, ?_, c0, c1⟩
    have := block_lt_of_cell c0
    rwa [addr_block] at this
end Go.Proofs.YtdmaiodckialmaaDoor
