import Derived.Test.YthoakchdlidemaaDoorPkPM5
import Derived.Test.YthoakchdlidemaaDoorPkO2
import Derived.Deep.CutRange
import Derived.Deep.DeepCutAuto
import Derived.Test.YthoakchdlidemaaDoorPkFR2
import Derived.Lib.SmallJoins
/- Layer 14, the law: SpanRuns -/
namespace Go.Proofs.YthoakchdlidemaaDoor
open Go.RowKit Go.Shelf
namespace Spn
set_option maxRecDepth 100000 in
set_option maxHeartbeats 8000000 in
theorem runs14_any (sz at' mn c : Int) (so : List UInt8) (w : World) (s1 : -9223372036854775808 ≤ sz) (s2 : sz ≤ 9223372036854775807) (t1 : -9223372036854775808 ≤ at') (t2 : at' ≤ 9223372036854775807) (m1 : -9223372036854775808 ≤ mn) (m2 : mn ≤ 9223372036854775807) (Z : Tb w) :
    Calls Tryd.prog 3 #[.int .i64 sz, .int .i64 at', .int .i64 mn, .int .i64 c, sv so] w fun r w' => r = .returned (.bool true) ∧ Below w.heap.size w w' := by
  have i0 := known14_any w Z
  have HZ := hid Z
  have hT := Z.lt
  obtain ⟨p, hp, hp'⟩ := pk_nat' sz 1099511627776 (by omega)
  have j1 := fun w' => pick_any sz 1099511627776 s1 s2 (by omega) (by omega) w'
  rw [show ((1099511627776 : Nat) : Int) = 1099511627776 from rfl] at hp
  rw [hp] at j1
  obtain ⟨n, hn⟩ : ∃ n : Nat, n = p + 1 := ⟨_, rfl⟩
  have hnw : IntKind.i64.wrap (1 + (p : Int)) = (n : Int) := by rw [IntKind.wrap_i64]; omega
  obtain ⟨b, hb, hb'⟩ := pk_nat' at' n (by omega)
  have j2 := fun w' => pick_any at' n t1 t2 (by omega) (by omega) w'
  rw [hb] at j2
  obtain ⟨d0, hd0⟩ : ∃ d0 : Nat, n - b = d0 := ⟨_, rfl⟩
  have hdw : IntKind.i64.wrap ((n : Int) - (b : Int)) = (d0 : Int) := by rw [IntKind.wrap_i64]; omega
  obtain ⟨d, hd⟩ : ∃ d : Nat, min 300 d0 = d := ⟨_, rfl⟩
  have hmin : min (300 : Int) (d0 : Int) = (d : Int) := by omega
  obtain ⟨x, hx, hx'⟩ := pk_nat' mn d (by omega)
  have j3 := fun w' => pick_any mn d m1 m2 (by omega) (by omega) w'
  rw [hx] at j3
  obtain ⟨m, hm⟩ : ∃ m : Nat, m = x + 1 := ⟨_, rfl⟩
  have hmw : IntKind.i64.wrap (1 + (x : Int)) = (m : Int) := by rw [IntKind.wrap_i64]; omega
  obtain ⟨e, he⟩ : ∃ e : Nat, e = b + m := ⟨_, rfl⟩
  have hew : IntKind.i64.wrap ((b : Int) + (m : Int)) = (e : Int) := by rw [IntKind.wrap_i64]; omega
  have hm1 : 1 ≤ m := by omega
  have hm3 : m ≤ 300 := by omega
  have hen : e ≤ n := by omega
  have hbe : b < e := by omega
  have hn40 : n ≤ 1099511627776 := by omega
  have HE := hid he
  obtain ⟨val, RS⟩ := rs_is (n := n) (b := b) (e := e) hbe hen hn40 (by omega) (H := lfl (fun i => IntKind.i64.wrap (c + (i : Int))) (Tree.runF n 0 n b e).length) (L := lfl (fun i => wrap64 (wrap64 (c - 1) - (i : Int))) m) (lfl_hs _ _) (lfl_hs _ _) (lfl_len _ _) (by rw [lfl_len]; omega)
  have jR := fun w' => run8_any (n : Int) (b : Int) (e : Int) w'
  rw [show runE (n : Int) (b : Int) (e : Int) = 0 by unfold runE; rw [if_pos (by omega), if_pos (by omega)], show runL (n : Int) (b : Int) (e : Int) = Tree.runF n 0 n b e by unfold runL; rw [if_pos (by unfold runE; rw [if_pos (by omega), if_pos (by omega)]), Int.toNat_natCast, Int.toNat_natCast, Int.toNat_natCast]] at jR
  have jC := fun w' hZ => cover_ok 0 b w' (by omega) (by omega) hZ
  simp only [show ((0 : Nat) : Int) = 0 from rfl] at jC
  obtain ⟨T, hTT⟩ : ∃ T, (Tree.runF n 0 n b e).length = T := ⟨_, rfl⟩
  obtain ⟨kC, hkC⟩ : ∃ k, (covL 0 b).length = k := ⟨_, rfl⟩
  obtain ⟨kE, hkE⟩ : ∃ k, (covL 0 e).length = k := ⟨_, rfl⟩
  rw [hTT, hkC, hkE] at RS
  have HTT := hid hTT
  have HkC := hid hkC
  have HkE := hid hkE
  have hle := RS.le
  have ht81 := RS.t81
  have he81 := RS.e81
  have HRS := hid RS
  clear Z hp hp' hn hb hb' hd0 hd hx hx' hm he hTT hkC hkE RS
  go_enter Tryd.func3, Tryd.ntmps3
  go_wp2_with (go_at_call 4; fail)
  with_reducible refine i0.mono ?_
  rintro r w1 ⟨rfl, b1⟩
  have B1 := hid b1
  clear i0 b1
  go_wp2_with (first
    | (go_at_call 5; (first
        | ((with_reducible refine (j1 _).mono ?_); rintro r w4' ⟨rfl, h0⟩; have h0 := h0.symm; subst h0)
        | ((with_reducible refine (j2 _).mono ?_); rintro r w4' ⟨rfl, h0⟩; have h0 := h0.symm; subst h0)
        | ((with_reducible refine (j3 _).mono ?_); rintro r w4' ⟨rfl, h0⟩; have h0 := h0.symm; subst h0)))
    | (go_at_call 6; fail))
  with_reducible refine (jR _).mono ?_
  rintro r w2 ⟨b2, v2, rfl, o2, f2⟩
  obtain ⟨a2, c2, rfl, q1, q2⟩ := OwnM.shape o2
  have B2 := hid (B1.out.trans (b2.mono B1.out.size))
  have O2 := hid o2
  have F2 : Hid (∀ k, (Value.slice a2 (Tree.runF n 0 n b e).length c2).ownBlock = some k → w.heap.size ≤ k) := fun k hk => Nat.le_trans B1.out.size (f2 k hk)
  rw [HTT.out] at q1 F2 ⊢
  clear jR b2 o2 f2 B1 j1 j2 j3
  go_wp2_with (go_at_call 7; fail)
  with_reducible refine (jC _ (HZ.out.below B2.out hT)).mono ?_
  rintro r w3 ⟨b3, v3, rfl, o3, _⟩
  obtain ⟨a3, c3, rfl, _, _⟩ := OwnM.shape o3
  have B3 := hid (B2.out.trans (b3.mono B2.out.size))
  have O3 := hid (O2.out.below b3)
  have l3 := hid b3.size
  have zw3 := hid B3.out.size
  have L2 : Hid (∀ k, (Value.slice a2 T c2).ownBlock = some k → k < w3.heap.size) := fun k hk => by
    have h5 := O2.out
    rw [HTT.out] at h5
    rcases h5 with ⟨h, _⟩ | ⟨g, cap, h, _, _, _, _, _, h6⟩
    · rw [h] at hk; cases hk
    · rw [h] at hk; cases hk; exact Nat.lt_of_lt_of_le h6 b3.size
  rw [HkC.out]
  clear jC b3 o3 B2 O2
  have ba := (Below.refl w3.heap.size w3).alloc (Nat.le_refl _) (.cells #[.int .i64 (n : Int), .int .i64 (b : Int), .int .i64 (e : Int), .slice none 0 0] 35)
  have R4 := hid (RnI.new w3 (n : Int) (b : Int) (e : Int) (.slice none 0 0))
  have B4 := hid (B3.out.trans (ba.mono B3.out.size))
  have O4 := hid (O3.out.below ba)
  have hq7 : ¬ (T : Int) < (kC : Int) := by omega
  have hq8 : decide (T < kC) = false := by simp; omega
  have hq9 : decide ((T : Int) < (kC : Int)) = false := by simp; omega
  clear ba B3 O3
  go_upto_region 10 with fail
  generalize w3.alloc (.cells #[.int .i64 (n : Int), .int .i64 (b : Int), .int .i64 (e : Int), .slice none 0 0] 35) = w4 at *
  have z4 : w3.heap.size < w4.heap.size := lt_of_heap R4.out
  go_wp2
  go_loopw [20] (fun i w' => ∃ (j : Nat) (v : Value), j ≤ T ∧ i = .int .i64 (j : Int) ∧ Hid (RnI w' w3.heap.size (n : Int) (b : Int) (e : Int) v) ∧ Hid (OwnM 1 w' v (lfl (fun i => IntKind.i64.wrap (c + (i : Int))) j).length (svs (lfl (fun i => IntKind.i64.wrap (c + (i : Int))) j))) ∧ Hid (∀ b, v.ownBlock = some b → w4.heap.size ≤ b) ∧ Hid (Keep (fun k => k = w3.heap.size) w4 w')) (fun i _ => T - (intOf i).toNat)
  case atStart => exact ⟨0, .slice none 0 0, by omega, rfl, R4, OwnM.nil 1 _, fun b hb => (by cases hb), Keep.refl _ _⟩
  case round =>
    obtain ⟨j, v, hj, rfl, hV, hO, hF, hK⟩ := hrel
    by_cases hjT : j < T
    · have b0 : (j : Int) < (T : Int) := by omega
      have iL := lleaf_at (IntKind.i64.wrap (c + (j : Int))) _ rfl wr.drew
      have hnx := hid (lfl_snoc (fun i => IntKind.i64.wrap (c + (i : Int))) j)
      have hll : (lfl (fun i => IntKind.i64.wrap (c + (i : Int))) j).length ≤ 8000000000000 := by rw [lfl_len]; omega
      generalize lf (IntKind.i64.wrap (c + (j : Int))) = rr at *
      generalize lfl (fun i => IntKind.i64.wrap (c + (i : Int))) j = X at *
      rw [show sv rr = Value.string ⟨rr.toArray⟩ from rfl] at iL
      have x0 : wr.drew.cell? ⟨w3.heap.size, 3, none⟩ = some v := hV.out.c3
      have f0 : wr.drew.frozen? ⟨w3.heap.size, 3, none⟩ = false := frozen_of_row _ _ 3 _ _ hV.out
      go_upto_region 13 with fail
      go_region_law (first
        | (refine step_call14 rfl 8 #[.int .i64 (IntKind.i64.wrap (c + (j : Int)))] (by kernel_rfl) (fun v w6 => v = .string ⟨rr.toArray⟩ ∧ Below wr.heap.size wr w6) (iL.mono fun e w6 h => ⟨_, h.1, rfl, drewBelow8 h.2⟩) ?_; rintro v6 w6 ⟨rfl, b6⟩; have J6 := hV.out.below b6; have x1 := J6.c3; obtain ⟨v7, w7, hap, hO7, hG7⟩ := append_tx14 w6 v X rr (hO.out.below b6) hll; obtain ⟨a7, c7, hv7, _, _, _⟩ := ownM_at hO7; obtain ⟨pp, hpp⟩ : ∃ p, (X ++ [rr]).length = p := ⟨_, rfl⟩; rw [hpp] at hv7; clear hpp; subst hv7; rw [show sv rr = Value.string ⟨rr.toArray⟩ from rfl] at hap; have x1a : (w6.alloc (.cells #[.string ⟨rr.toArray⟩] 9)).cell? ⟨w3.heap.size, 3, none⟩ = some v := (J6.below ((Below.refl _ _).alloc (Nat.le_refl _) _)).c3; have J7 : RnI w7 w3.heap.size (n : Int) (b : Int) (e : Int) v := (hG7.old w3.heap.size (lt_of_heap J6) (fun h => by have := hF.out _ h; omega)).trans J6; have x7 := J7.c3; have f7 : w7.frozen? ⟨w3.heap.size, 3, none⟩ = false := frozen_of_row _ _ 3 _ _ J7)
        | (refine step_append_run rfl _ _ 33 rfl _ _ _ w7 rfl rfl hap ?_))
      all_goals
        have hk6 := hK.out.size
        have hv7 : ∀ b, (Value.slice a7 pp c7).ownBlock = some b → w4.heap.size ≤ b := fun b hb => by
          rcases hG7.alt with h | ⟨h, _⟩
          · rw [h] at hb; exact hF.out b hb
          · have := h b hb; have := b6.size; omega
        have k6 := hK.out.trans (Keep.ofBelow (S := fun k => k = w3.heap.size) b6) (fun _ _ e => e)
        have k7 : Keep (fun k => k = w3.heap.size) w4 w7 := ⟨hG7.os.trans k6.os, hG7.tape.trans k6.tape, hG7.output.trans k6.output, Nat.le_trans k6.size hG7.size, fun k hk hs => (hG7.old k (Nat.lt_of_lt_of_le hk k6.size) (fun h => by have := hF.out k h; omega)).trans (k6.block k hk hs)⟩
        have K8 := hid (k7.trans (Keep.ofSet (S := fun k => k = w3.heap.size) w7 w3.heap.size 3 (.slice a7 pp c7) rfl) (fun _ _ e => e))
        have J8 := hid (J7.set3' (.slice a7 pp c7))
        have O8 := hid (OwnM.keepS hO7 (Keep.ofSet (S := fun k => k = w3.heap.size) w7 w3.heap.size 3 (.slice a7 pp c7) rfl) (fun k hk e => by have := hv7 k hk; omega))
        have V8 := hid hv7
        rw [← hnx.out] at O8
        clear hap hO7 hG7 J6 J7 x1 x1a x7 f7 b6 k6 k7 hv7 hO hF hK hV hnx x0 f0
        go_wp2
        exact ⟨⟨j + 1, _, by omega, by go_num, J8, O8, V8, K8⟩, by simp [intOf]; omega⟩
    · obtain rfl : j = T := by omega
      have b0 : ¬ (j : Int) < (j : Int) := by omega
      have hK5 := hid hK.out
      have BW : Hid (Below w.heap.size w wr) := B4.out.trans (keep_below14 hK.out B4.out.size (fun k hk => by have := zw3.out; omega))
      obtain ⟨aH, cH, hvH, hatH, hcH1, hcH2⟩ := ownM_at hO.out
      rw [lfl_len] at hvH hcH1
      subst hvH
      have R5 := hid hV.out
      have A5 := hid hatH
      have O5 := hid (OwnM.keep O4.out hK.out (fun k hk e => by have h5 := hk; rw [HTT.out] at h5; have := L2.out k h5; omega))
      have F5 := hid hF.out
      clear hV hO hF hK hatH O4 R4 B4
      have iL := fun (x : Int) w' => lleaf_at x (lf x) rfl w'
      obtain ⟨w5, hw5⟩ : ∃ w5, w5 = wr := ⟨_, rfl⟩
      subst hw5
      go_wp2
      go_loopw [21, 22] (fun v i w' => ∃ t : Nat, t ≤ m ∧ i = .int .i64 (t : Int) ∧ Hid (OwnM 1 w' v (lfl (fun i => wrap64 (wrap64 (c - 1) - (i : Int))) t).length (svs (lfl (fun i => wrap64 (wrap64 (c - 1) - (i : Int))) t))) ∧ Hid (∀ b, v.ownBlock = some b → w5.heap.size ≤ b) ∧ Hid (Below w5.heap.size w5 w')) (fun _ i _ => m - (intOf i).toNat)
      case atStart => exact ⟨0, by omega, rfl, OwnM.nil 1 _, fun b hb => (by cases hb), Below.refl _ _⟩
      case round =>
        obtain ⟨t, ht, rfl, hO, hF, hB⟩ := hrel
        by_cases htm : t < m
        · have d0 : (t : Int) < (m : Int) := by omega
          have iL' := iL (wrap64 (wrap64 (c - 1) - (t : Int)))
          have hnx := hid (lfl_snoc (fun i => wrap64 (wrap64 (c - 1) - (i : Int))) t)
          have hll : (lfl (fun i => wrap64 (wrap64 (c - 1) - (i : Int))) t).length ≤ 8000000000000 := by rw [lfl_len]; omega
          generalize lf (wrap64 (wrap64 (c - 1) - (t : Int))) = rr at *
          generalize lfl (fun i => wrap64 (wrap64 (c - 1) - (i : Int))) t = X at *
          simp only [show sv rr = Value.string ⟨rr.toArray⟩ from rfl] at iL'
          go_wp2_with (first
            | (go_at_call 8; (with_reducible refine (iL' _).mono ?_); rintro r w6 ⟨rfl, b6⟩; obtain ⟨v7, w7, hap, hO7, hG7⟩ := append_tx14 w6 _ X rr (hO.out.below b6) hll; rw [show sv rr = Value.string ⟨rr.toArray⟩ from rfl] at hap)
            | (at_builtin; refine Lib.wpList_append_run _ rfl _ _ 33 33 rfl _ _ rfl rfl _ _ hap ?_; clear hap))
          obtain ⟨f7, b7⟩ := grow_fresh (B := w5.heap.size) hG7 (Nat.le_trans hB.out.size b6.size) hF.out
          have P1 := hid hO7
          rw [← hnx.out] at P1
          have P2 := hid f7
          have P3 := hid (hB.out.trans ((b6.mono hB.out.size).trans b7))
          exact ⟨⟨t + 1, by omega, by go_num, P1, P2, P3⟩, by simp [intOf]; omega⟩
        · obtain rfl : t = m := by omega
          have d0 : ¬ (t : Int) < (t : Int) := by omega
          obtain ⟨aL, cL, hvL, hatL, hcL1, hcL2⟩ := ownM_at hO.out
          rw [lfl_len] at hvL hcL1
          subst hvL
          obtain ⟨w6, hw6⟩ : ∃ w6, w6 = wr := ⟨_, rfl⟩
          subst hw6
          have R6 := hid (R5.out.below hB.out)
          have AH6 := hid (A5.out.below hB.out (Nat.le_refl _))
          have AL6 := hid hatL
          have O6 := hid (O5.out.below hB.out)
          have B6 := hid (BW.out.trans (hB.out.mono BW.out.size))
          obtain ⟨H, hH⟩ : ∃ H, lfl (fun i => IntKind.i64.wrap (c + (i : Int))) j = H := ⟨_, rfl⟩
          obtain ⟨LL, hLL⟩ : ∃ LL, lfl (fun i => wrap64 (wrap64 (c - 1) - (i : Int))) t = LL := ⟨_, rfl⟩
          have HRS' : Hid (Rs n b e kC kE j H LL val) := by unfold Hid; rw [← hH, ← hLL]; exact HRS.out
          have hHl := HRS'.out.hl
          have hLl : LL.length = t := by rw [← hLL, lfl_len]
          unfold Hid at AH6 AL6
          rw [hH] at AH6
          rw [hLL] at AL6
          have AH6 := hid AH6
          have AL6 := hid AL6
          have l5 := hid hB.out.size
          clear hO hF hB hatL R5 A5 O5 BW hH hLL HRS
          have jRt := root14_any HRS'.out.o (by omega) (by omega) aH aL cH cL w6 AH6.out AL6.out (HZ.out.below B6.out hT)
          rw [hHl, hLl, HRS'.out.re, show sv (val (0, n)) = Value.string ⟨(val (0, n)).toArray⟩ from rfl] at jRt
          have u0 := R6.out.c0
          have u1 := R6.out.c1
          have u2 := R6.out.c2
          have u3 := R6.out.c3
          obtain ⟨vr, hvr⟩ : ∃ vr, val (0, n) = vr := ⟨_, rfl⟩
          have Hvr := hid hvr
          rw [hvr] at jRt
          clear hvr
          go_wp2_with (go_at_call 9; fail)
          with_reducible refine jRt.mono ?_
          rintro r w7 ⟨rfl, b7⟩
          have R7 := hid (R6.out.below b7)
          have AH7 := hid (AH6.out.below b7 (Nat.le_refl _))
          have AL7 := hid (AL6.out.below b7 (Nat.le_refl _))
          have O7 := hid (O6.out.below b7)
          have B7 := hid (B6.out.trans (b7.mono B6.out.size))
          have l6 := hid b7.size
          have jCm := Compact_any (b : Int) LL aL cL w7 (by omega) (by omega) (by omega) AL7.out (HZ.out.below B7.out hT).t
          rw [HRS'.out.cE, Int.toNat_natCast, hLl] at jCm
          rw [show (b : Int) + (t : Int) = (e : Int) by have := HE.out; omega] at jCm
          clear jRt b7 R6 AH6 AL6 O6 B6 u0 u1 u2 u3
          go_wp2_with (go_at_call 10; fail)
          with_reducible refine jCm.mono ?_
          rintro r w8 ⟨b8, hr8⟩
          rw [if_pos rfl] at hr8
          obtain ⟨v8, rfl, o8⟩ := hr8
          obtain ⟨a8, c8, hv8, hat8, _, _⟩ := Own.at o8
          subst hv8
          obtain ⟨CM, hCM⟩ : ∃ CM, Cut.cmp LL b = CM := ⟨_, rfl⟩
          rw [hCM] at hat8 ⊢
          have HCM := hid hCM
          obtain ⟨qM, hqM⟩ : ∃ q, CM.length = q := ⟨_, rfl⟩
          have HqM := hid hqM
          have hq81 : qM ≤ 81 := by rw [← hqM, ← hCM, Cut.cmp_length]; exact Cut.cut_len (by have := HE.out; omega) (by omega)
          rw [hqM]
          have bR := (Below.refl w8.heap.size w8).alloc (Nat.le_refl _) (.cells #[.int .i64 (b : Int), .int .i64 (e : Int), .slice a8 qM c8] 40)
          have b9 := b8.trans (bR.mono b8.size)
          have M9 := hid (Rg.new w8 (b : Int) (e : Int) (.slice a8 qM c8))
          have A9 := hid (hat8.below bR (Nat.le_refl _))
          have R9 := hid (R7.out.below b9)
          have AH9 := hid (AH7.out.below b9 (Nat.le_refl _))
          have AL9 := hid (AL7.out.below b9 (Nat.le_refl _))
          have O9 := hid (O7.out.below b9)
          have B9 := hid (B7.out.trans (b9.mono B7.out.size))
          have l8 := hid b8.size
          clear jCm b8 o8 hat8 bR R7 AH7 AL7 O7 B7 b9 hCM hqM
          go_upto_region 21 with fail
          generalize w8.alloc (.cells #[.int .i64 (b : Int), .int .i64 (e : Int), .slice a8 qM c8] 40) = w9 at *
          have hjE := HRS'.out.jE
          have hjl := HRS'.out.jl
          have hfo := HRS'.out.fo
          rw [HCM.out] at hjE hjl hfo
          obtain ⟨M, hM⟩ : ∃ M, Cut.joinH 0 b e (H.take kC) CM = M := ⟨_, rfl⟩
          rw [hM] at hjl hfo
          have Hfo := hid hfo
          have Hjl := hid hjl
          obtain ⟨jA, jB⟩ := join_both14 w9 (HZ.out.below B9.out hT) 0 b e (H.take kC) CM M aH a8 kC qM kE cH c8 (by rw [List.length_take]; omega) HqM.out hjl (by omega) (by omega) (AH9.out.take kC) A9.out (by rw [show ((0 : Nat) : Int) = 0 from rfl]; exact hjE) hM
          simp only [show ((0 : Nat) : Int) = 0 from rfl] at jA jB
          have mkS : ∀ W, Below w9.heap.size w9 W → W.cell? ⟨w3.heap.size, 3, none⟩ = some (.slice aH j cH) ∧ W.cell? ⟨w8.heap.size, 0, none⟩ = some (.int .i64 (b : Int)) ∧ W.cell? ⟨w8.heap.size, 1, none⟩ = some (.int .i64 (e : Int)) ∧ W.cell? ⟨w8.heap.size, 2, none⟩ = some (.slice a8 qM c8) := fun W hb => ⟨(R9.out.below hb).c3, (M9.out.below hb).c0, (M9.out.below hb).c1, (M9.out.below hb).c2⟩
          have e9 := mkS w9 (Below.refl _ w9)
          have e9a := mkS _ ((Below.refl w9.heap.size w9).alloc (Nat.le_refl _) (.cells #[Value.int .i64 0, .int .i64 0, .slice none 0 0] 40))
          have y1 : (0 : Int) ≤ (kC : Int) := by omega
          have y2 : (kC : Int) ≤ (cH : Int) := by omega
          clear hjE hjl hfo hM
          go_cut [27, 28] (fun v27 v28 w' => ∃ (g : Nat) (a : Option Addr) (k : Nat), v27 = .pointer (some ⟨g, 0, none⟩) ∧ v28 = .int .i64 0 ∧ Hid (Jv w9 w' g 0 (e : Int) a kE k M))
          case first =>
            go_region_held3 (fun W => W.cell? ⟨w3.heap.size, 3, none⟩ = some (.slice aH j cH) ∧ W.cell? ⟨w8.heap.size, 0, none⟩ = some (.int .i64 (b : Int)) ∧ W.cell? ⟨w8.heap.size, 1, none⟩ = some (.int .i64 (e : Int)) ∧ W.cell? ⟨w8.heap.size, 2, none⟩ = some (.slice a8 qM c8)) (first | exact e9 | exact e9a | exact eN | exact eZ | exact eJ) (first
              | (go_at_call 11; refine jA.mono ?_; rintro e w10 ⟨a10, k10, rfl, hB10, H10⟩; have eN := mkS _ hB10.out; have eZ := mkS _ (hB10.out.alloc hB10.out.size (.cells #[Value.int .i64 0, .int .i64 0, .slice none 0 0] 40)); have eJ := mkS _ H10.out.bel)
              | (go_at_call 11; refine jB.mono ?_; rintro e w10 ⟨a10, k10, rfl, hB10, H10, R10⟩; have eN := mkS _ hB10.out; have d0 := R10.c0; have d1 := R10.c1; have d2 := R10.c2; have f0 : w10.frozen? ⟨w9.heap.size, 0, none⟩ = false := frozen_of_row _ _ _ _ _ R10; have f1 : w10.frozen? ⟨w9.heap.size, 1, none⟩ = false := frozen_of_row _ _ _ _ _ R10; have f2 : w10.frozen? ⟨w9.heap.size, 2, none⟩ = false := frozen_of_row _ _ _ _ _ R10; have eJ := mkS _ H10.out.bel))
            all_goals
              clear mkS jA jB
              go_wp2_with fail
              go_meet
              exact ⟨_, _, _, rfl, rfl, H10⟩
          case rest =>
            obtain ⟨gx, ax, cx, rfl, rfl, HJ⟩ := hcut
            have l9 : Hid (w8.heap.size < w9.heap.size) := lt_of_heap M9.out
            go_step
            exact runs_tail HZ hT hen hbe hn40 HkC HkE he81 q1 q2 zw3 z4 HTT hle ht81 F2 L2 hcH1 hcH2 F5 hK5 hew hm1 hm3 HE hcL1 hcL2 HRS' hHl hLl l5 Hvr l6 HCM HqM hq81 l8 R9 AH9 AL9 O9 B9 Hfo Hjl y1 y2 HJ l9 _ _ _ _ _ _ _ _ _ _ _ _ _ _ _ _ _ _ _ _ _ _ _ _ _ _ _ _ _ _ _ _ _ _ _ _ _ _ _ _ _ _ _ _ _ _ _ _ _ _ _ _ _ _ _ _ _ _ _ _ _ _ _ _ _ _ _ _ _ _ _ _ _ _ _ _ _ _ _ _ _ _ _ _ _ _ _ _ _ _ _ _ _ _ _ _ _ _ _ _ _ _ _ _ _ _ _ _ _ _ _ _ _ _ _ _ _ _ _ _ _ _ _ _ _ _ _ _ _ _ _ _ _ _ _ _ _ _ _ _ _ _ _ _ _ _ _ _ _ _ _ _ _ _ _ _ _ _ _ _ _ _ _ _ _ _ _ _ _ _ _ _ _ _ _ _ _ _ _ _ _ _ _ _ _ _ _ _ _ _ _ _ _ _ _ _ _ _ _ _ _ _ _ _ _ _ _ _ _ _ _ _ _ _ _ _ _ _ _ _ _ _ _ _ _ _ _ _ _ _ _ _ _ _ _ _ _ _ _ _ _
end Spn
end Go.Proofs.YthoakchdlidemaaDoor

namespace Go.Proofs.YthoakchdlidemaaDoor
open Go.ChangeShapes Go.WideShapes Go.ChangeAt Go.RowKit
theorem gDB : Tryd.prog.globalNamed "math/bits.deBruijn64tab" = some 1 := by kernel_rfl
theorem gDBType : (Tryd.prog.globals[1]?).map (·.type) = some 131 := by kernel_rfl
theorem cells64b : Tryd.prog.cellsOf 131 = 64 := by kernel_rfl
theorem cells1b : Tryd.prog.cellsOf 5 = 1 := by kernel_rfl
def four : List (String × DataW Unit) := [("math/bits.deBruijn32tab", Rows.laid_math_bits_deBruijn32tab), ("math/bits.deBruijn64tab", Rows.laid_math_bits_deBruijn64tab), ("scrivener/digest.start", Rows.laid_scrivener_digest_start), ("scrivener/digest.rounds", Rows.laid_scrivener_digest_rounds)]
theorem tb_of {W : World} (h : laidMet Tryd.prog four W) : Tb W := by
  have h1 := laidMet.tail h
  have h2 : Lib.TabIs Tryd.prog W "math/bits.deBruijn64tab" .u8 (Lib.deBruijn64tab.map Int.ofNat) :=
    Lib.tabIs_of_head gDB gDBType Tryd.underlying131 Tryd.underlying5 cells1b cells64b (show laidMet Tryd.prog (("math/bits.deBruijn64tab", Lib.tabData .u8 (Lib.deBruijn64tab.map Int.ofNat)) :: _) W from h1)
  refine ⟨tabs_of (laidMet.tail h1), fun j hj => ?_⟩
  have := h2.cell gDB j (by rw [List.length_map]; exact hj)
  rw [this]
  simp [List.getD_eq_getElem?_getD]
  rw [List.getElem?_eq_getElem (show j < Lib.deBruijn64tab.length from hj)]; simp
/-- A WORLD FOR THE WITNESS: all four tables laid. -/
noncomputable def laidWorld5 (os : Os) : World :=
  { laidWorld os with
    heap := ((laidWorld os).heap.modify 0 (fillObj (Lib.deBruijn32tab.map fun n => Value.int .u8 (Int.ofNat n)).toArray)).modify 1 (fillObj (Lib.deBruijn64tab.map fun n => Value.int .u8 (Int.ofNat n)).toArray) }
end Go.Proofs.YthoakchdlidemaaDoor

namespace Go.Proofs.YthoakchdlidemaaDoor
open Go.ChangeShapes Go.WideShapes Go.ChangeAt Go.RowKit
theorem bytesS : Tryd.prog.bytesOf 9 = 16 := by kernel_rfl
set_option maxRecDepth 100000 in
/-- a slice of texts among the arguments, by its weight -/
theorem open_atF {H : Type} {enc : TypeId × Value → H} {W : World} {base : Nat} {v : Value} {d : DataW H} {p : List MemPlace}
    (hval : Value.okWide Tryd.prog W .any base 33 v) (hd : DataW.Trod enc Tryd.prog W 0 (fun _ => true) true 33 v d p) (hk : ∀ x ∈ DataW.weights Tryd.prog 33 d, x ≤ reachBytes) :
    ∃ a l cap, v = .slice a l.length cap ∧ At W a l ∧ l.length ≤ cap ∧ cap ≤ 9223372036854775807 ∧ l.length ≤ 8796093021952 := by
  obtain ⟨a0, len0, cap0, rfl⟩ := okWide_slice Tryd.underlying33 hval
  obtain ⟨fuel, hf⟩ := hd
  rcases open_strings Tryd.underlying33 Tryd.underlying9 cellsS hf with ⟨hcs, hx⟩ | ⟨a, len, cap, ss, hcs, _, hl, hm, hz, hx, hcell, hsz⟩
  · simp [Value.cells] at hcs
    obtain ⟨rfl, rfl, rfl⟩ := hcs
    exact ⟨none, [], 0, rfl, At.nil _ _, by simp, by omega, by simp⟩
  · simp [Value.cells] at hcs
    obtain ⟨rfl, rfl, rfl⟩ := hcs
    simp only [Prod.mk.injEq] at hx
    obtain ⟨rfl, _⟩ := hx
    simp only [if_true] at hz
    have hlen : ((ss.take len0).map (·.data.toList)).length = len0 := by simp; omega
    have hw : cap0 * 16 ≤ reachBytes := by
      refine hk _ ?_
      rw [DataW.weights, Tryd.underlying33]
      simp only [bytesS]
      have e : (strs (H := H) (ss.take len0)).length + (strs (H := H) (ss.drop len0)).length = cap0 := by simp [strs]; omega
      rw [e]
      exact List.mem_cons_self
    have hr : reachBytes = 140737488351232 := rfl
    refine ⟨some a, (ss.take len0).map (·.data.toList), cap0, by rw [hlen], fun j p hp => ?_, by omega, hm, by omega⟩
    rw [List.getElem?_map, Option.map_eq_some_iff] at hp
    obtain ⟨s, hs, rfl⟩ := hp
    rw [List.getElem?_take] at hs
    split at hs
    · have hj := (List.getElem?_eq_some_iff.1 hs).1
      have hc := hcell j hj
      rw [List.getD_eq_getElem?_getD, hs] at hc
      refine ⟨a, rfl, ?_, hc⟩
      have := block_lt_of_cell hc
      rwa [addr_block] at this
    · cases hs
theorem weights_head {H : Type} {P : Program} {t : TypeId} {ts : List TypeId} {d : DataW H} {r : List (DataW H)} (h : (DataW.weightsEach P (t :: ts) (d :: r)).all (· ≤ reachBytes) = true) : ∀ x ∈ DataW.weights P t d, x ≤ reachBytes := fun x hx => by
  have := List.all_eq_true.1 h x (by rw [DataW.weightsEach]; exact List.mem_append_left _ hx)
  simpa using this
theorem weights_mem {H : Type} {P : Program} {e : TypeId} {d : DataW H} {x : Nat} : ∀ {l : List (DataW H)}, d ∈ l → x ∈ DataW.weights P e d → x ∈ DataW.weightsAll P e l
  | [], h, _ => by cases h
  | f :: r, h, hx => by
    rw [DataW.weightsAll]
    rcases List.mem_cons.1 h with rfl | h
    · exact List.mem_append_left _ hx
    · exact List.mem_append_right _ (weights_mem h hx)
theorem weights_tail {H : Type} {P : Program} {t : TypeId} {ts : List TypeId} {d : DataW H} {r : List (DataW H)} (h : (DataW.weightsEach P (t :: ts) (d :: r)).all (· ≤ reachBytes) = true) : (DataW.weightsEach P ts r).all (· ≤ reachBytes) = true := by
  rw [List.all_eq_true] at h ⊢
  exact fun x hx => h x (by rw [DataW.weightsEach]; exact List.mem_append_right _ hx)
set_option maxRecDepth 100000 in
/-- a slice of texts among the arguments, by its weight, and by its texts' -/
theorem open_atG {H : Type} {enc : TypeId × Value → H} {W : World} {base : Nat} {v : Value} {d : DataW H} {p : List MemPlace}
    (hval : Value.okWide Tryd.prog W .any base 33 v) (hd : DataW.Trod enc Tryd.prog W 0 (fun _ => true) true 33 v d p) (hk : ∀ x ∈ DataW.weights Tryd.prog 33 d, x ≤ reachBytes) :
    ∃ a l cap, v = .slice a l.length cap ∧ At W a l ∧ l.length ≤ cap ∧ cap ≤ 9223372036854775807 ∧ l.length ≤ 8796093021952 ∧ ∀ q ∈ l, q.length ≤ 140737488351232 := by
  obtain ⟨a0, len0, cap0, rfl⟩ := okWide_slice Tryd.underlying33 hval
  obtain ⟨fuel, hf⟩ := hd
  rcases open_strings Tryd.underlying33 Tryd.underlying9 cellsS hf with ⟨hcs, hx⟩ | ⟨a, len, cap, ss, hcs, _, hl, hm, hz, hx, hcell, hsz⟩
  · simp [Value.cells] at hcs
    obtain ⟨rfl, rfl, rfl⟩ := hcs
    exact ⟨none, [], 0, rfl, At.nil _ _, by simp, by omega, by simp, by simp⟩
  · simp [Value.cells] at hcs
    obtain ⟨rfl, rfl, rfl⟩ := hcs
    simp only [Prod.mk.injEq] at hx
    obtain ⟨rfl, _⟩ := hx
    simp only [if_true] at hz
    have hlen : ((ss.take len0).map (·.data.toList)).length = len0 := by simp; omega
    have hr : reachBytes = 140737488351232 := rfl
    have hw : cap0 * 16 ≤ reachBytes := by
      refine hk _ ?_
      rw [DataW.weights, Tryd.underlying33]
      simp only [bytesS]
      have e : (strs (H := H) (ss.take len0)).length + (strs (H := H) (ss.drop len0)).length = cap0 := by simp [strs]; omega
      rw [e]
      exact List.mem_cons_self
    have hq : ∀ s ∈ ss.take len0, s.data.toList.length ≤ reachBytes := fun s hs => by
      refine hk _ ?_
      rw [DataW.weights, Tryd.underlying33]
      refine List.mem_cons_of_mem _ (List.mem_append_left _ (weights_mem (d := .lit (.string s.data.toList)) ?_ ?_))
      · unfold strs
        exact List.mem_map.2 ⟨s, hs, rfl⟩
      · simp [DataW.weights]
    refine ⟨some a, (ss.take len0).map (·.data.toList), cap0, by rw [hlen], fun j p hp => ?_, by omega, hm, by omega, fun q hq' => ?_⟩
    rotate_left
    · obtain ⟨s, hs, rfl⟩ := List.mem_map.1 hq'
      have := hq s hs
      omega
    rw [List.getElem?_map, Option.map_eq_some_iff] at hp
    obtain ⟨s, hs, rfl⟩ := hp
    rw [List.getElem?_take] at hs
    split at hs
    · have hj := (List.getElem?_eq_some_iff.1 hs).1
      have hc := hcell j hj
      rw [List.getD_eq_getElem?_getD, hs] at hc
      refine ⟨a, rfl, ?_, hc⟩
      have := block_lt_of_cell hc
      rwa [addr_block] at this
    · cases hs
set_option maxRecDepth 100000 in
/-- a text among the arguments, by its weight -/
theorem open_strG {H : Type} {enc : TypeId × Value → H} {W : World} {base : Nat} {v : Value} {d : DataW H} {p : List MemPlace}
    (hval : Value.okWide Tryd.prog W .any base 9 v) (hd : DataW.Trod enc Tryd.prog W 0 (fun _ => true) true 9 v d p) (hk : ∀ x ∈ DataW.weights Tryd.prog 9 d, x ≤ reachBytes) :
    ∃ s : List UInt8, v = sv s ∧ s.length ≤ 140737488351232 := by
  obtain ⟨s0, rfl, rfl, rfl, hs0⟩ := ChangeMaps.open_string Tryd.underlying9 hval hd
  have hr : reachBytes = 140737488351232 := rfl
  have := hk s0.data.toList.length (by simp [DataW.weights])
  exact ⟨s0.data.toList, sv_eta s0, by omega⟩
end Go.Proofs.YthoakchdlidemaaDoor

namespace Go.Proofs.YthoakchdlidemaaDoor
open Go.ChangeShapes Go.WideShapes Go.ChangeAt Go.RowKit
theorem bytesI : Tryd.prog.bytesOf 3 = 8 := by kernel_rfl
end Go.Proofs.YthoakchdlidemaaDoor
