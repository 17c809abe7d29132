import Derived.Test.YtblmaokonhdjaaaGreatDoorPkPL1
import Derived.BigRegion
import Derived.Deep.CutRange
import Derived.Deep.DeepCutAuto
import Derived.Deep.RegionHeld3
/- Layer 14, the law: turned -/
namespace Go.Proofs.YtblmaokonhdjaaaGreatDoor
open Go.RowKit Go.Shelf
namespace Spn
set_option maxRecDepth 100000 in
set_option maxHeartbeats 8000000 in
theorem turned14_any (n x y : Int) (rt : List UInt8) {w0 w : World} {gh gl nH nL : Nat} (Z : Tb w0) (T0 : Tw w0 w gh gl nH nL) (hnH : nH ≤ 8796093021952) (hnL : nL ≤ 8796093021952) (aR : Option Addr) (cR : Nat) :
    Calls Tryz.prog 33 #[rn n x y (.slice aR nH cR), .slice (some ⟨gh, 0, none⟩) (nH + 8) (nH + 8), .slice (some ⟨gl, 0, none⟩) nL (nL + 8), sv rt] w fun r w' => r = .returned (.bool true) ∧ Below w0.heap.size w0 w' ∧ Keep (Bt gh gl) w w' := by
  have W1 := RnI.new w n x y (.slice aR nH cR)
  have b1 := (Below.refl w.heap.size w).alloc (Nat.le_refl _) (.cells #[.int .i64 n, .int .i64 x, .int .i64 y, .slice aR nH cR] 24)
  obtain ⟨w1, hw1⟩ : ∃ w1, w.alloc (.cells #[.int .i64 n, .int .i64 x, .int .i64 y, .slice aR nH cR] 24) = w1 := ⟨_, rfl⟩
  rw [hw1] at W1 b1
  have T1 := T0.below b1
  obtain ⟨q, hq⟩ : ∃ q, w.heap.size = q := ⟨_, rfl⟩
  rw [hq] at W1
  have hqg : gh < q ∧ gl < q := by rw [← hq]; exact T0.lt
  have s1 : w1.heap.size = q + 1 := by rw [← hw1, size_alloc, hq]
  have k0 := W1.c0
  have k1 := W1.c1
  have k2 := W1.c2
  have k3 := W1.c3
  have HW1 := hid hw1
  have HQ := hid hq
  have HG := hid hqg
  have HS1 := hid s1
  have HZ := hid Z
  have HT1 := hid T1
  have HR1 := hid W1
  have HB1 := hid b1
  have y1 : (nH : Int) ≤ (nH : Int) + 8 := by omega
  rw [show sv rt = Value.string ⟨rt.toArray⟩ from rfl]
  have SI : Hid (∀ w', Below w1.heap.size w1 w' → RnI w' q n x y (.slice aR nH cR)) := fun w' hb => W1.below hb
  clear Z T0 W1 b1 hw1 hq hqg s1 T1
  go_enter Tryz.func33, Tryz.ntmps33
  go_upto_region 2 with fail
  rw [HW1.out, HQ.out]
  go_cut [10] (fun v10 w' => v10 = .pointer (some ⟨q + 1, 0, none⟩) ∧ Hid (RnI w' (q + 1) n x y (.slice (some ⟨gh, 0, none⟩) nH (nH + 8))) ∧ Hid (Below w1.heap.size w1 w'))
  case first =>
    have MK : Hid (∀ w', Below w1.heap.size w1 w' → w'.cell? ⟨q, 0, none⟩ = some (.int .i64 n) ∧ w'.cell? ⟨q, 1, none⟩ = some (.int .i64 x) ∧ w'.cell? ⟨q, 2, none⟩ = some (.int .i64 y)) := fun w' hb => ⟨(SI.out _ hb).c0, (SI.out _ hb).c1, (SI.out _ hb).c2⟩
    have X0 := MK.out w1 (Below.refl _ _)
    have BA := hid ((Below.refl w1.heap.size w1).drew.alloc (Nat.le_refl _) (.cells #[.int .i64 0, .int .i64 0, .int .i64 0, .slice none 0 0] 24))
    have XA := MK.out _ BA.out
    have BS := hid ((Below.refl w1.heap.size w1).alloc (Nat.le_refl _) (.cells #[.int .i64 n, .int .i64 x, .int .i64 y, .slice (some ⟨gh, 0, none⟩) nH (nH + 8)] 24)).drew
    have XS := MK.out _ BS.out
    go_region_held3 (fun W => W.cell? ⟨q, 0, none⟩ = some (.int .i64 n) ∧ W.cell? ⟨q, 1, none⟩ = some (.int .i64 x) ∧ W.cell? ⟨q, 2, none⟩ = some (.int .i64 y)) (first | exact X0 | exact XA | exact XS) (fail)
    go_wp2
    go_meet
    refine ⟨by rw [HS1.out], ?_, BS⟩
    rw [← HS1.out]
    exact (RnI.new w1 n x y _).drew
  case rest =>
    revert wc
    intro w2 hcut
    obtain ⟨rfl, HC, HB2⟩ := hcut
    have HR2 := hid (SI.out _ HB2.out)
    have HK0 : Hid (Keep (Bt gh gl) w w2) := Keep.ofBelow (S := Bt gh gl) (HB1.out.trans (HB2.out.mono HB1.out.size))
    have HT2 := hid (HT1.out.below HB2.out)
    have HK2 : Hid (Keep (Bt gh gl) w2 w2) := Keep.refl _ _
    clear k0 k1 k2 k3 HT1 HR1 SI HB2 HW1 HQ y1
    go_wp2
    go_loopw [11] (fun i w' => ∃ j : Nat, j ≤ 2 ∧ i = .int .i64 (j : Int) ∧ Hid (Tw w0 w' gh gl nH nL) ∧ Hid (Keep (Bt gh gl) w2 w')) (fun i _ => 2 - (intOf i).toNat)
    case atStart => exact ⟨0, by omega, rfl, HT2, HK2⟩
    case round =>
      clear HT2 HK2
      obtain ⟨j, hj, rfl, TJ, KJ⟩ := hrel
      by_cases hj2 : j < 2
      · have z1 : (j : Int) < 2 := by omega
        have hj2' := hid hj2
        go_wp2
        go_loopw [12] (fun i w' => ∃ t : Nat, t ≤ 2 ∧ i = .int .i64 (t : Int) ∧ Hid (Tw w0 w' gh gl nH nL) ∧ Hid (Keep (Bt gh gl) w2 w')) (fun i _ => 2 - (intOf i).toNat)
        case atStart => exact ⟨0, by omega, rfl, TJ, KJ⟩
        case round =>
          clear TJ KJ
          obtain ⟨t, ht, rfl, TT, KT⟩ := hrel
          by_cases ht2 : t < 2
          · have z2 : (t : Int) < 2 := by omega
            have ht2' := hid ht2
            obtain ⟨A, C, a1, a2, R1, R2⟩ := TT.out.ex
            have Ah := row_at R1
            have Al := row_at R2
            have hlt := TT.out.lt
            obtain ⟨v13, w5, hap5, O5, b5⟩ := append_at wr (some ⟨gh, 0, none⟩) (nH + 8) A Ah (by omega)
            obtain ⟨a13, c13, rfl, AT5, q1, q2, f5⟩ := own_at14 O5
            have Al5 := Al.below b5 (Nat.le_refl _)
            obtain ⟨v14, w6, hap6, O6, b6⟩ := append_at w5 (some ⟨gl, 0, none⟩) (nL + 8) C Al5 (by omega)
            obtain ⟨a14, c14, rfl, AT6, q3, q4, f6⟩ := own_at14 O6
            obtain ⟨w7, hw7⟩ : ∃ w7, w6.alloc (.cells #[.int .i64 n, .int .i64 x, .int .i64 y, .slice a13 A.length c13] 24) = w7 := ⟨_, rfl⟩
            have b7 : Below w6.heap.size w6 w7 := by rw [← hw7]; exact (Below.refl _ _).alloc (Nat.le_refl _) _
            have D7 : RnI w7 w6.heap.size n x y (.slice a13 A.length c13) := by rw [← hw7]; exact RnI.new w6 n x y _
            have z5 := b5.size
            have z6 := b6.size
            have z7 := b7.size
            have bw6 : Below wr.heap.size wr w6 := b5.trans (b6.mono z5)
            have bw : Below wr.heap.size wr w7 := bw6.trans (b7.mono bw6.size)
            have hqn : ¬ Bt gh gl q := fun e => by have := HG.out; rcases e with e | e <;> omega
            have hqn1 : ¬ Bt gh gl (q + 1) := fun e => by have := HG.out; rcases e with e | e <;> omega
            have Rr := HR2.out.keep KT.out hqn
            have Rc := HC.out.keep KT.out hqn1
            have Rr6 := Rr.below bw6
            have Rc7 := Rc.below bw
            have T7 := TT.out.below bw
            obtain ⟨tx, htx⟩ := rotO_is n x y A C
            have Ah7 := Ah.below bw (Nat.le_refl _)
            have Al7 := Al.below bw (Nat.le_refl _)
            have A5 := (AT5.below b6 (Nat.le_refl _)).below b7 (Nat.le_refl _)
            have A6 := AT6.below b7 (Nat.le_refl _)
            have Z7 : Tb w7 := HZ.out.below T7.bl HZ.out.lt
            have iS := hid fun (w' : World) (hb : Below w7.heap.size w7 w') => root14_any htx (by omega) (by omega) (some ⟨gh, 0, none⟩) (some ⟨gl, 0, none⟩) (nH + 8) (nL + 8) w' (Ah7.below hb (Nat.le_refl _)) (Al7.below hb (Nat.le_refl _)) (Z7.below hb Z7.lt)
            have iR := hid fun (w' : World) (hb : Below w7.heap.size w7 w') => rroot14_any htx (by omega) (by omega) a13 a14 c13 c14 q1 q2 q3 q4 w' (A5.below hb (Nat.le_refl _)) (A6.below hb (Nat.le_refl _))
            have iSc := hid fun (w' : World) (hb : Below w7.heap.size w7 w') => check14_any htx rt (by omega) (by omega) (some ⟨gh, 0, none⟩) (some ⟨gl, 0, none⟩) (nH + 8) (nL + 8) w' (Ah7.below hb (Nat.le_refl _)) (Al7.below hb (Nat.le_refl _)) (Z7.below hb Z7.lt)
            have iRc := hid fun (w' : World) (hb : Below w7.heap.size w7 w') => rcheck14_any htx rt (by omega) (by omega) a13 a14 c13 c14 q1 q2 q3 q4 w' (A5.below hb (Nat.le_refl _)) (A6.below hb (Nat.le_refl _))
            have f0 := Rr6.c0
            have f1 := Rr6.c1
            have f2 := Rr6.c2
            have MD : Hid (∀ w', Below w7.heap.size w7 w' → (w'.cell? ⟨w6.heap.size, 0, none⟩ = some (.int .i64 n) ∧ w'.cell? ⟨w6.heap.size, 1, none⟩ = some (.int .i64 x) ∧ w'.cell? ⟨w6.heap.size, 2, none⟩ = some (.int .i64 y) ∧ w'.cell? ⟨w6.heap.size, 3, none⟩ = some (.slice a13 A.length c13)) ∧ w'.cell? ⟨q + 1, 0, none⟩ = some (.int .i64 n) ∧ w'.cell? ⟨q + 1, 1, none⟩ = some (.int .i64 x) ∧ w'.cell? ⟨q + 1, 2, none⟩ = some (.int .i64 y) ∧ w'.cell? ⟨q + 1, 3, none⟩ = some (.slice (some ⟨gh, 0, none⟩) nH (nH + 8))) := fun w' hb => ⟨⟨(D7.below hb).c0, (D7.below hb).c1, (D7.below hb).c2, (D7.below hb).c3⟩, (Rc7.below hb).c0, (Rc7.below hb).c1, (Rc7.below hb).c2, (Rc7.below hb).c3⟩
            rw [a1] at hap5 hw7 MD iS iR iSc iRc
            rw [a2] at hap6 iS iR iSc iRc
            have HW7 := hid hw7
            have F5 : Hid (∀ x, a13 = some x → x.block ≠ gh ∧ x.block ≠ gl) := fun x hx => by have := f5 x hx; omega
            have F6 : Hid (∀ x, a14 = some x → x.block ≠ gh ∧ x.block ≠ gl) := fun x hx => by have := f6 x hx; omega
            have T7 := hid T7
            have KW : Hid (Keep (Bt gh gl) w2 w7) := Keep.bl KT.out bw
            have A5 := hid A5
            have A6 := hid A6
            have y1 : (nH : Int) ≤ (nH : Int) + 8 := by omega
            generalize rotE n x y A C = E at *
            generalize chkO E tx rt = Ec at *
            rw [show sv tx = Value.string ⟨tx.toArray⟩ from rfl] at iS iR
            rw [show sv rt = Value.string ⟨rt.toArray⟩ from rfl] at iSc iRc
            generalize (ByteArray.mk tx.toArray) = TX at *
            generalize (ByteArray.mk rt.toArray) = RT at *
            have htt : (TX.toList == TX.toList) = true := beq_self_eq_true _
            clear R1 R2 Ah Al O5 b5 Al5 O6 b6 hw7 b7 D7 z5 z6 z7 bw6 bw hqn hqn1 Rr Rc Rr6 Rc7 Ah7 Al7 AT5 AT6 Z7 f5 f6 TT KT hlt htx q1 q2 q3 q4
            go_upto_if 60 with (first | ((with_reducible show wpList _ _ _ (Oper.mk _ (Op.call { callee := Callee.builtin Builtin.append, args := _, argTypes := #[22, 22] }) _ _ _ _ :: _) _ _); (refine Lib.wpList_append_run _ rfl _ _ 22 22 rfl _ _ rfl rfl _ _ hap5 ?_); clear hap5) | ((with_reducible show wpList _ _ _ (Oper.mk _ (Op.call { callee := Callee.builtin Builtin.append, args := _, argTypes := #[22, 22] }) _ _ _ _ :: _) _ _); (refine Lib.wpList_append_run _ rfl _ _ 22 22 rfl _ _ rfl rfl _ _ hap6 ?_); clear hap6))
            rw [HW7.out]
            clear f0 f1 f2
            go_cut [16, 17, 18, 19, 20, 21] (fun v16 _ _ _ _ _ w' => v16 = .bool true ∧ Hid (Below w7.heap.size w7 w'))
            case first =>
              obtain ⟨⟨d0, d1, d2, d3⟩, c0, c1, c2, c3⟩ := MD.out w7 (Below.refl _ _)
              have B7 := hid (Below.refl w7.heap.size w7)
              by_cases hj0 : j = 0
              · have u1 : ((j : Int) == 0) = true := by simp; omega
                have u2 : decide ((j : Int) = 0) = true := decide_eq_true (by omega)
                clear hj0 iSc iRc
                go_upto_region 15 with (go_at_call 28; (with_reducible refine (iR.out _ B7.out).mono ?_); rintro r w8 ⟨rfl, b8⟩)
                obtain ⟨⟨d0, d1, d2, d3⟩, c0, c1, c2, c3⟩ := MD.out w8 b8
                have B8 := hid b8
                clear b8
                go_wp2_with (go_at_call 26; (with_reducible refine (iS.out _ B8.out).mono ?_); rintro r w9 ⟨rfl, b9⟩; have B9 := hid (B8.out.trans (b9.mono B8.out.size)); clear b9)
                go_meet
                exact ⟨rfl, B9⟩
              · have u1 : ((j : Int) == 0) = false := by simp; omega
                have u2 : decide ((j : Int) = 0) = false := decide_eq_false (by omega)
                clear hj0 iS iR
                go_upto_region 18 with (go_at_call 32; (with_reducible refine (iRc.out _ B7.out).mono ?_); rintro r w8 ⟨rfl, b8⟩)
                obtain ⟨⟨d0, d1, d2, d3⟩, c0, c1, c2, c3⟩ := MD.out w8 b8
                have B8 := hid b8
                clear b8
                go_wp2_with (go_at_call 29; (with_reducible refine (iSc.out _ B8.out).mono ?_); rintro r w9 ⟨rfl, b9⟩; have B9 := hid (B8.out.trans (b9.mono B8.out.size)); clear b9)
                go_meet
                exact ⟨rfl, B9⟩
            case rest =>
              revert wc
              intro w8 hcut
              obtain ⟨rfl, B8⟩ := hcut
              have T8 := hid (T7.out.below B8.out)
              have K8 : Hid (Keep (Bt gh gl) w8 w8) := Keep.refl _ _
              have KW8 := hid (Keep.bl KW.out B8.out)
              have AT5 := hid (A5.out.below B8.out (Nat.le_refl _))
              have AT6 := hid (A6.out.below B8.out (Nat.le_refl _))
              clear iS iR iSc iRc MD T7 A5 A6 KW B8 HW7
              go_wp2
              go_loopw [22] (fun i w' => ∃ k : Nat, k ≤ nH ∧ i = .int .i64 (k : Int) ∧ Hid (Tw w0 w' gh gl nH nL) ∧ Hid (Keep (Bt gh gl) w8 w')) (fun i _ => nH - (intOf i).toNat)
              case atStart => exact ⟨0, Nat.zero_le _, rfl, T8, K8⟩
              case round =>
                obtain ⟨k, hk, rfl, TK, KK⟩ := hrel
                by_cases hk1 : k < nH
                · obtain ⟨x13, hx13⟩ := AT5.out.pos (by rw [a1]; omega)
                  obtain ⟨m, hm⟩ : ∃ m, nH - 1 - k = m := ⟨_, rfl⟩
                  have hmI : (nH : Int) - 1 - (k : Int) = (m : Int) := by omega
                  have hm1 : m < nH := by omega
                  have AK := at_kept AT5.out KK.out F5.out
                  subst hx13
                  obtain ⟨s, hs0, hs⟩ := AK.cell m (by rw [a1]; exact hm1)
                  obtain ⟨⟨po, hpo⟩, hfz⟩ := TK.out.cellH hk1
                  have hsv : sv s.data.toList = .string s := by unfold sv; cases s; simp
                  have T' := TK.out.setH hk1 s.data.toList
                  have K' := keep_bt KK.out (g := gh) (i := k) (.inl rfl) (sv s.data.toList)
                  rw [hsv] at T' K'
                  have T' := hid T'
                  have K' := hid K'
                  have hk' := hid hk1
                  have y1 : (k : Int) < (nH : Int) := by omega
                  have y2 : (0 : Int) ≤ (m : Int) := by omega
                  have y3 : (m : Int) < (nH : Int) := by omega
                  have y4 : (0 : Int) ≤ (k : Int) := by omega
                  clear hs0 AK TK KK hm hk hm1
                  go_wp2
                  exact ⟨⟨k + 1, hk'.out, by go_num, T', K'⟩, by have := hk'.out; simp [RowKit.intOf]; omega⟩
                · obtain rfl : nH = k := by omega
                  have y1 : ¬ (nH : Int) < (nH : Int) := by omega
                  go_wp2
                  go_loopw [23] (fun i w' => ∃ k : Nat, k ≤ nL ∧ i = .int .i64 (k : Int) ∧ Hid (Tw w0 w' gh gl nH nL) ∧ Hid (Keep (Bt gh gl) w8 w')) (fun i _ => nL - (intOf i).toNat)
                  case atStart => exact ⟨0, Nat.zero_le _, rfl, TK, KK⟩
                  case round =>
                    obtain ⟨k, hk, rfl, TK, KK⟩ := hrel
                    by_cases hk1 : k < nL
                    · obtain ⟨x13, hx13⟩ := AT6.out.pos (by rw [a2]; omega)
                      obtain ⟨m, hm⟩ : ∃ m, nL - 1 - k = m := ⟨_, rfl⟩
                      have hmI : (nL : Int) - 1 - (k : Int) = (m : Int) := by omega
                      have hm1 : m < nL := by omega
                      have AK := at_kept AT6.out KK.out F6.out
                      subst hx13
                      obtain ⟨s, hs0, hs⟩ := AK.cell m (by rw [a2]; exact hm1)
                      obtain ⟨⟨po, hpo⟩, hfz⟩ := TK.out.cellL hk1
                      have hsv : sv s.data.toList = .string s := by unfold sv; cases s; simp
                      have T' := TK.out.setL hk1 s.data.toList
                      have K' := keep_bt KK.out (g := gl) (i := k) (.inr rfl) (sv s.data.toList)
                      rw [hsv] at T' K'
                      have T' := hid T'
                      have K' := hid K'
                      have hk' := hid hk1
                      have y1 : (k : Int) < (nL : Int) := by omega
                      have y2 : (0 : Int) ≤ (m : Int) := by omega
                      have y3 : (m : Int) < (nL : Int) := by omega
                      have y4 : (0 : Int) ≤ (k : Int) := by omega
                      clear hs0 AK TK KK hm hk hm1
                      go_wp2
                      exact ⟨⟨k + 1, hk'.out, by go_num, T', K'⟩, by have := hk'.out; simp [RowKit.intOf]; omega⟩
                    · obtain rfl : nL = k := by omega
                      have y1 : ¬ (nL : Int) < (nL : Int) := by omega
                      have KF := hid (KW8.out.trans KK.out fun _ _ e => e)
                      go_wp2
                      exact ⟨⟨t + 1, ht2'.out, by go_num, TK, KF⟩, by have := ht2'.out; simp [RowKit.intOf]; omega⟩
          · obtain rfl : t = 2 := by omega
            have z2 : ¬ ((2 : Nat) : Int) < 2 := by omega
            go_wp2
            exact ⟨⟨j + 1, hj2'.out, by go_num, TT, KT⟩, by have := hj2'.out; simp [RowKit.intOf]; omega⟩
      · have z1 : ¬ (j : Int) < 2 := by omega
        go_wp2
        go_ret
        exact ⟨rfl, TJ.out.bl, HK0.out.trans KJ.out fun _ _ e => e⟩
end Spn
end Go.Proofs.YtblmaokonhdjaaaGreatDoor
