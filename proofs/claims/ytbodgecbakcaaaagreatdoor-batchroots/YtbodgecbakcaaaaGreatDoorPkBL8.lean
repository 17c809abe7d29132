import Derived.Test.YtbodgecbakcaaaaGreatDoorPkBL6
import Derived.BigRegion
import Derived.Deep.CutRange
import Derived.Deep.CutBlock
import Derived.Deep.DeepCutAuto
import Derived.Deep.RegionHeld3
/- Layer 12, the law: turned (written by genBL8.py) -/
namespace Go.Proofs.YtbodgecbakcaaaaGreatDoor
open Go.RowKit Go.Shelf
namespace Bat
theorem An.ps_len {n : Int} {cs : List Int} {H L : List (List UInt8)} {t : List UInt8} {ps : List (List (List UInt8))} (a : An n cs H L t ps) : ps.length ≤ 1000 ∧ ∀ p ∈ ps, p.length ≤ 1099511627776 := by
  by_cases h : knE n cs H L = 0
  · obtain ⟨m, is, val, rfl, rfl, hb, V, x1, x2, rfl, rfl⟩ := a.ok h
    have n2 := hb.n2
    have l2 := hb.l2
    rw [ix_len] at l2
    exact ⟨by unfold paths; rw [List.length_map]; omega, fun p hp => Nat.le_trans (paths_len p hp) (by omega)⟩
  · rw [(a.bad h).2]
    exact ⟨by simp, fun p hp => by simp at hp⟩
theorem own_atM {w : World} {v : Value} {p : List (List UInt8)} (h : OwnM 1 w v p.length (svs p)) : ∃ a c, v = .slice a p.length c ∧ At w a p ∧ ∀ x, a = some x → x.block < w.heap.size := by
  obtain ⟨a, c, e, _, _⟩ := h.shape
  refine ⟨a, c, e, fun j x hx => ?_, fun x hx => h.lt _ (by rw [e, hx]; rfl)⟩
  obtain ⟨g, c', e1, h1, h2⟩ := h.cell (j := j) (u := sv x) (by simp [svs, hx])
  rw [e] at e1
  injection e1 with e1
  exact ⟨⟨g, 0, none⟩, e1, h2, by rw [Addr.add_mid, Nat.zero_add]; exact h1⟩
theorem keep_bl {S : Nat → Prop} {w w' w'' : World} (h : Keep S w w') (hb : Below w'.heap.size w' w'') : Keep S w w'' := h.trans (Keep.ofBelow (S := S) hb) fun _ _ e => e
theorem atI_kept {w w' : World} {a : Option Addr} {l : List Int} {S : Nat → Prop} (h : AtI w a l) (hk : Keep S w w') (hd : ∀ x, a = some x → ¬ S x.block) : AtI w' a l := fun j p hp => by
  obtain ⟨x, rfl, h1, h2⟩ := h j p hp
  exact ⟨x, rfl, Nat.lt_of_lt_of_le h1 hk.size, (World.cell?_of_block (a := x.add j) (by rw [addr_block]; exact hk.block x.block h1 (hd x rfl))).trans h2⟩
set_option maxRecDepth 100000 in
set_option maxHeartbeats 8000000 in
theorem turned12_any (n : Int) (cs : List Int) (rt : List UInt8) {w0 w : World} {gh gl nH nL : Nat} (Z : Tabs w0) (T0 : Tw w0 w gh gl nH nL) (hnH : nH ≤ 8796093021952) (hnL : nL ≤ 8796093021952) (aI aR : Option Addr) (cI cR nc : Nat) (hnc : cs.length = nc) (hlc : nc ≤ 17592186043904) (hic : ∀ c ∈ cs, -9223372036854775808 ≤ c ∧ c ≤ 9223372036854775807) (hI : AtI w0 aI cs) :
    Calls Tryz.prog 28 #[bt n (.slice aI nc cI) (.slice aR nH cR), .slice (some ⟨gh, 0, none⟩) (nH + 8) (nH + 8), .slice (some ⟨gl, 0, none⟩) nL (nL + 8), sv rt] w fun r w' => r = .returned (.bool true) ∧ Below w0.heap.size w0 w' ∧ Keep (Bt gh gl) w w' := by
  have W1 := BtI.new w n (.slice aI nc cI) (.slice aR nH cR)
  have b1 := (Below.refl w.heap.size w).alloc (Nat.le_refl _) (.cells #[.int .i64 n, .slice aI nc cI, .slice aR nH cR] 25)
  obtain ⟨w1, hw1⟩ : ∃ w1, w.alloc (.cells #[.int .i64 n, .slice aI nc cI, .slice aR nH cR] 25) = w1 := ⟨_, rfl⟩
  rw [hw1] at W1 b1
  have T1 := T0.below b1
  obtain ⟨q, hq⟩ : ∃ q, w.heap.size = q := ⟨_, rfl⟩
  rw [hq] at W1
  have hqg : gh < q ∧ gl < q := by rw [← hq]; exact T0.lt
  have s1 : w1.heap.size = q + 1 := by rw [← hw1, size_alloc, hq]
  have hI1 : AtI w1 aI cs := hI.below T1.bl (Nat.le_refl _)
  have hIx : ∀ x, aI = some x → cs ≠ [] → x.block < w0.heap.size := fun x hx hne => by
    obtain ⟨p, hp⟩ : ∃ p, cs[0]? = some p := ⟨_, List.getElem?_eq_getElem (List.length_pos_iff.2 hne)⟩
    obtain ⟨y, hy, h1, _⟩ := hI 0 p hp
    rw [hx] at hy
    obtain rfl := Option.some.inj hy
    exact h1
  have k0 := W1.c0
  have k1 := W1.c1
  have k2 := W1.c2
  have HW1 := hid hw1
  have HQ := hid hq
  have HG := hid hqg
  have HS1 := hid s1
  have HZ := hid Z
  have HT1 := hid T1
  have HR1 := hid W1
  have HB1 := hid b1
  have HI0 := hid hI
  have HI1 := hid hI1
  have HNC := hid hnc
  have HIC := hid hic
  have y1 : (nH : Int) ≤ (nH : Int) + 8 := by omega
  rw [show sv rt = Value.string ⟨rt.toArray⟩ from rfl]
  have SI : Hid (∀ w', Below w1.heap.size w1 w' → BtI w' q n (.slice aI nc cI) (.slice aR nH cR)) := fun w' hb => W1.below hb
  clear Z T0 W1 b1 hw1 hq hqg s1 T1 hI hI1 hIx hic
  go_enter Tryz.func28, Tryz.ntmps28
  go_upto_region 2 with fail
  rw [HW1.out, HQ.out]
  clear k0 k1 k2
  obtain ⟨a2, kk2, w2, a3, kk3, w3, hap2, hap3, b2, b3, rz3, C2, C3⟩ := copy_both12 w1 aI cI nc cs n (.slice (some ⟨gh, 0, none⟩) nH (nH + 8)) HI1.out HNC.out hlc
  have hnc' := hnc
  clear hnc hnc'
  have MK : Hid (∀ w', Below w1.heap.size w1 w' → w'.cell? ⟨q, 0, none⟩ = some (.int .i64 n) ∧ w'.cell? ⟨q, 1, none⟩ = some (.slice aI nc cI)) := fun w' hb => ⟨(SI.out _ hb).c0, (SI.out _ hb).c1⟩
  have az := (Below.refl w1.heap.size w1).alloc (Nat.le_refl _) (.cells #[Value.int .i64 0, .slice none 0 0, .slice none 0 0] 25)
  have x1 := MK.out w1 (Below.refl _ _)
  have x2 := MK.out w2 b2
  have x3 := MK.out w3 b3
  have x4 := MK.out _ az
  have x5 := MK.out (w2.alloc (.cells #[Value.int .i64 0, .slice none 0 0, .slice none 0 0] 25)) (b2.trans (((Below.refl w2.heap.size w2).alloc (Nat.le_refl _) (.cells #[Value.int .i64 0, .slice none 0 0, .slice none 0 0] 25)).mono b2.size))
  have x6 := MK.out _ C2.2.2.1
  have x7 := MK.out _ C3.2.2.1
  have EQ := hid (bt_three rz3 n (.slice a3 nc kk3) (.slice (some ⟨gh, 0, none⟩) nH (nH + 8)))
  rw [← EQ.out] at x7
  have d0 := rz3.c0
  have d1 := rz3.c1
  have d2 := rz3.c2
  have f0 : w3.frozen? ⟨w1.heap.size, 0, none⟩ = false := frozen_of_row _ _ _ _ _ rz3
  have f1 : w3.frozen? ⟨w1.heap.size, 1, none⟩ = false := frozen_of_row _ _ _ _ _ rz3
  have f2 : w3.frozen? ⟨w1.heap.size, 2, none⟩ = false := frozen_of_row _ _ _ _ _ rz3
  have HC2 := hid C2
  have HC3 := hid C3
  clear az b2 b3 C2 C3 rz3
  go_cut [10] (fun v10 w' => ∃ g a k, v10 = .pointer (some ⟨g, 0, none⟩) ∧ Hid (CpB w1 w' g n a nc k (.slice (some ⟨gh, 0, none⟩) nH (nH + 8)) cs))
  case first =>
    go_region_held3 (fun W => W.cell? ⟨q, 0, none⟩ = some (.int .i64 n) ∧ W.cell? ⟨q, 1, none⟩ = some (.slice aI nc cI)) (first | exact x1 | exact x2 | exact x3 | exact x4 | exact x5 | exact x6 | exact x7) (first
      | (refine step_append_run rfl _ _ 22 rfl (.slice none 0 0) (.slice aI nc cI) _ w2 rfl rfl hap2 ?_)
      | (refine step_append_run rfl _ _ 22 rfl (.slice none 0 0) (.slice aI nc cI) _ w3 rfl rfl hap3 ?_))
    all_goals
      go_wp2_with fail
      go_meet
      first
        | exact ⟨_, _, _, rfl, HC2⟩
        | (rw [EQ.out]; exact ⟨_, _, _, rfl, HC3⟩)
  case rest =>
    clear x1 x2 x3 x4 x5 x6 x7 HC2 HC3 EQ d0 d1 d2 f0 f1 f2 hap2 hap3 MK
    revert wc
    clear w2 w3 a2 kk2 a3 kk3
    intro w2 hcut
    obtain ⟨g2, a2, kk2, rfl, HCP⟩ := hcut
    have HG1 := HCP.out.1
    have HC := hid HCP.out.2.1
    have HB2 := hid HCP.out.2.2.1
    have HA2 := hid HCP.out.2.2.2.1
    have HAx : Hid (∀ x, a2 = some x → q + 1 ≤ x.block) := fun x hx => by have := HCP.out.2.2.2.2 x hx; rw [HS1.out] at this; exact this
    rw [HS1.out] at HG1
    have HG1 := hid HG1
    have HR2 := hid (SI.out _ HB2.out)
    have HK0 : Hid (Keep (Bt gh gl) w w2) := Keep.ofBelow (S := Bt gh gl) (HB1.out.trans (HB2.out.mono HB1.out.size))
    have HT2 := hid (HT1.out.below HB2.out)
    have HK2 : Hid (Keep (Bt gh gl) w2 w2) := Keep.refl _ _
    clear HCP HT1 HR1 SI HB2 HW1 HQ y1 HI1
    go_wp2
    go_loopw [11] (fun i w' => ∃ j : Nat, j ≤ 3 ∧ i = .int .i64 (j : Int) ∧ Hid (Tw w0 w' gh gl nH nL) ∧ Hid (Keep (Bt gh gl) w2 w')) (fun i _ => 3 - (intOf i).toNat)
    case atStart => exact ⟨0, by omega, rfl, HT2, HK2⟩
    case round =>
      clear HT2 HK2
      obtain ⟨j, hj, rfl, TJ, KJ⟩ := hrel
      by_cases hj2 : j < 3
      · have z1 : (j : Int) < 3 := by omega
        have hj2' := hid hj2
        go_wp2
        go_loopw [12] (fun i w' => ∃ t : Nat, t ≤ 2 ∧ i = .int .i64 (t : Int) ∧ Hid (Tw w0 w' gh gl nH nL) ∧ Hid (Keep (Bt gh gl) w2 w')) (fun i _ => 2 - (intOf i).toNat)
        case atStart => exact ⟨0, by omega, rfl, TJ, KJ⟩
        case round =>
          clear TJ KJ
          obtain ⟨t, ht, rfl, TT, KT⟩ := hrel
          by_cases ht2 : t < 2
          · have z2 : (t : Int) < 2 := by omega
            have ht2' := hid ht2
            obtain ⟨A, C, a1, a2', R1, R2⟩ := TT.out.ex
            have Ah := row_at R1
            have Al := row_at R2
            have hlt := TT.out.lt
            obtain ⟨v13, w5, hap5, O5, b5⟩ := append_at wr (some ⟨gh, 0, none⟩) (nH + 8) A Ah (by omega)
            obtain ⟨a13, c13, rfl, AT5, q1, q2, f5⟩ := own_at12 O5
            have Al5 := Al.below b5 (Nat.le_refl _)
            obtain ⟨v14, w6, hap6, O6, b6⟩ := append_at w5 (some ⟨gl, 0, none⟩) (nL + 8) C Al5 (by omega)
            obtain ⟨a14, c14, rfl, AT6, q3, q4, f6⟩ := own_at12 O6
            obtain ⟨w7, hw7⟩ : ∃ w7, w6.alloc (.cells #[.int .i64 n, .slice aI nc cI, .slice a13 A.length c13] 25) = w7 := ⟨_, rfl⟩
            have b7 : Below w6.heap.size w6 w7 := by rw [← hw7]; exact (Below.refl _ _).alloc (Nat.le_refl _) _
            have D7 : BtI w7 w6.heap.size n (.slice aI nc cI) (.slice a13 A.length c13) := by rw [← hw7]; exact BtI.new w6 n _ _
            have z5 := b5.size
            have z6 := b6.size
            have z7 := b7.size
            have bw6 : Below wr.heap.size wr w6 := b5.trans (b6.mono z5)
            have bw : Below wr.heap.size wr w7 := bw6.trans (b7.mono bw6.size)
            have hqn : ¬ Bt gh gl q := fun e => by have := HG.out; rcases e with e | e <;> omega
            have hqn1 : ¬ Bt gh gl g2 := fun e => by have := HG.out; have := HG1.out; rcases e with e | e <;> omega
            have Rr := HR2.out.keep KT.out hqn
            have Rc := HC.out.keep KT.out hqn1
            have Rr6 := Rr.below bw6
            have Rc7 := Rc.below bw
            have T7 := TT.out.below bw
            have hA2 : AtI w7 a2 cs := (atI_kept HA2.out KT.out fun x hx e => by have := HAx.out x hx; have := HG.out; rcases e with e | e <;> omega).below bw (Nat.le_refl _)
            have hI7 : AtI w7 aI cs := HI0.out.below T7.bl (Nat.le_refl _)
            obtain ⟨tx, ps, han⟩ := an12 n cs A C
            have Ah7 := Ah.below bw (Nat.le_refl _)
            have Al7 := Al.below bw (Nat.le_refl _)
            have A5 := (AT5.below b6 (Nat.le_refl _)).below b7 (Nat.le_refl _)
            have A6 := AT6.below b7 (Nat.le_refl _)
            have Z7 : Tabs w7 := HZ.out.below T7.bl HZ.out.lt
            have lcs : cs.length ≤ 140737488355328 := by rw [HNC.out]; omega
            have ARP : Ar w7 n cs A C a2 (some ⟨gh, 0, none⟩) (some ⟨gl, 0, none⟩) (nH + 8) (nL + 8) := ⟨lcs, HIC.out, by omega, by omega, by omega, by omega, hA2, Ah7, Al7⟩
            have ARD : Ar w7 n cs A C aI a13 a14 c13 c14 := ⟨lcs, HIC.out, q1, q2, q3, q4, hI7, A5, A6⟩
            have iS := hid fun (w' : World) (hb : Below w7.heap.size w7 w') => root12_an (ARP.below hb) han (Z7.below hb Z7.lt) kk2
            have iR := hid fun (w' : World) (hb : Below w7.heap.size w7 w') => rroot12_an (ARD.below hb) han cI
            have iSc := hid fun (w' : World) (hb : Below w7.heap.size w7 w') => check12_an (ARP.below hb) han (Z7.below hb Z7.lt) kk2 rt
            have iRc := hid fun (w' : World) (hb : Below w7.heap.size w7 w') => rcheck12_an (ARD.below hb) han cI rt
            have iSe := hid fun (w' : World) (hb : Below w7.heap.size w7 w') => expand12_an (ARP.below hb) han (Z7.below hb Z7.lt) kk2
            have iRe := hid fun (w' : World) (hb : Below w7.heap.size w7 w') => rexpand12_an (ARD.below hb) han cI
            have hps : ps.length ≤ 1000 ∧ ∀ p ∈ ps, p.length ≤ 1099511627776 := An.ps_len han
            have f0 := Rr6.c0
            have f1 := Rr6.c1
            have MD : Hid (∀ w', Below w7.heap.size w7 w' → (w'.cell? ⟨w6.heap.size, 0, none⟩ = some (.int .i64 n) ∧ w'.cell? ⟨w6.heap.size, 1, none⟩ = some (.slice aI nc cI) ∧ w'.cell? ⟨w6.heap.size, 2, none⟩ = some (.slice a13 A.length c13)) ∧ w'.cell? ⟨g2, 0, none⟩ = some (.int .i64 n) ∧ w'.cell? ⟨g2, 1, none⟩ = some (.slice a2 nc kk2) ∧ w'.cell? ⟨g2, 2, none⟩ = some (.slice (some ⟨gh, 0, none⟩) nH (nH + 8))) := fun w' hb => ⟨⟨(D7.below hb).c0, (D7.below hb).c1, (D7.below hb).c2⟩, (Rc7.below hb).c0, (Rc7.below hb).c1, (Rc7.below hb).c2⟩
            rw [a1] at hap5 hw7 MD iS iR iSc iRc iSe iRe
            rw [a2'] at hap6 iS iR iSc iRc iSe iRe
            rw [HNC.out] at iS iR iSc iRc iSe iRe
            have HW7 := hid hw7
            have F5 : Hid (∀ x, a13 = some x → x.block ≠ gh ∧ x.block ≠ gl) := fun x hx => by have := f5 x hx; omega
            have F6 : Hid (∀ x, a14 = some x → x.block ≠ gh ∧ x.block ≠ gl) := fun x hx => by have := f6 x hx; omega
            have T7 := hid T7
            have KW : Hid (Keep (Bt gh gl) w2 w7) := keep_bl KT.out bw
            have A5 := hid A5
            have A6 := hid A6
            have y1 : (nH : Int) ≤ (nH : Int) + 8 := by omega
            generalize knE n cs A C = E at *
            generalize ckE n cs A C tx rt = Ec at *
            rw [show sv tx = Value.string ⟨tx.toArray⟩ from rfl] at iS iR
            rw [show sv rt = Value.string ⟨rt.toArray⟩ from rfl] at iSc iRc
            generalize (ByteArray.mk tx.toArray) = TX at *
            generalize (ByteArray.mk rt.toArray) = RT at *
            have htt : (TX.toList == TX.toList) = true := beq_self_eq_true _
            have hps := hid hps
            clear R1 R2 Ah Al O5 b5 Al5 O6 b6 hw7 b7 D7 z5 z6 z7 bw6 bw hqn hqn1 Rr Rc Rr6 Rc7 Ah7 Al7 AT5 AT6 Z7 f5 f6 TT KT hlt han q1 q2 q3 q4 hA2 hI7 lcs ARP ARD
            go_upto_block 4 with (first | ((with_reducible show wpList _ _ _ (Oper.mk _ (Op.call { callee := Callee.builtin Builtin.append, args := _, argTypes := #[23, 23] }) _ _ _ _ :: _) _ _); (refine Lib.wpList_append_run _ rfl _ _ 23 23 rfl _ _ rfl rfl _ _ hap5 ?_); clear hap5) | ((with_reducible show wpList _ _ _ (Oper.mk _ (Op.call { callee := Callee.builtin Builtin.append, args := _, argTypes := #[23, 23] }) _ _ _ _ :: _) _ _); (refine Lib.wpList_append_run _ rfl _ _ 23 23 rfl _ _ rfl rfl _ _ hap6 ?_); clear hap6))
            rw [HW7.out]
            clear f0 f1
            go_cut [16, 17, 18, 19, 20, 21, 22, 23, 24, 25, 26] from 62 to 135 (fun v16 _ _ _ _ _ _ _ _ _ _ w' => v16 = .bool true ∧ Hid (Below w7.heap.size w7 w'))
            case first =>
              obtain ⟨⟨d0, d1, d2⟩, c0, c1, c2⟩ := MD.out w7 (Below.refl _ _)
              have B7 := hid (Below.refl w7.heap.size w7)
              by_cases hj0 : j = 0
              · have u1 : ((j : Int) == 0) = true := by simp; omega
                have u2 : decide ((j : Int) = 0) = true := decide_eq_true (by omega)
                clear hj0 iSc iRc iSe iRe
                go_wp2_with (go_at_call 20; fail)
                with_reducible refine (iR.out _ B7.out).mono ?_
                rintro r w8 ⟨rfl, b8⟩
                obtain ⟨⟨d0, d1, d2⟩, c0, c1, c2⟩ := MD.out w8 b8
                have B8 := hid b8
                clear b8
                go_wp2_with (go_at_call 19; (with_reducible refine (iS.out _ B8.out).mono ?_); rintro r w9 ⟨rfl, b9⟩; have B9 := hid (B8.out.trans (b9.mono B8.out.size)); clear b9)
                go_meet
                exact ⟨rfl, B9⟩
              · have u1 : ((j : Int) == 0) = false := by simp; omega
                have u2 : decide ((j : Int) = 0) = false := decide_eq_false (by omega)
                by_cases hj1 : j = 1
                · have u3 : ((j : Int) == 1) = true := by simp; omega
                  have u4 : decide ((j : Int) = 1) = true := decide_eq_true (by omega)
                  clear hj0 hj1 iS iR iSe iRe
                  go_wp2_with (go_at_call 23; fail)
                  with_reducible refine (iRc.out _ B7.out).mono ?_
                  rintro r w8 ⟨rfl, b8⟩
                  obtain ⟨⟨d0, d1, d2⟩, c0, c1, c2⟩ := MD.out w8 b8
                  have B8 := hid b8
                  clear b8
                  go_wp2_with (go_at_call 16; (with_reducible refine (iSc.out _ B8.out).mono ?_); rintro r w9 ⟨rfl, b9⟩; have B9 := hid (B8.out.trans (b9.mono B8.out.size)); clear b9)
                  go_meet
                  exact ⟨rfl, B9⟩
                · have u3 : ((j : Int) == 1) = false := by simp; omega
                  have u4 : decide ((j : Int) = 1) = false := decide_eq_false (by omega)
                  clear hj0 hj1 iS iR iSc iRc
                  go_wp2_with (go_at_call 21; fail)
                  with_reducible refine (iRe.out _ B7.out).mono ?_
                  rintro r w8 ⟨vq, rfl, L8, b8⟩
                  obtain ⟨⟨d0, d1, d2⟩, c0, c1, c2⟩ := MD.out w8 b8
                  have B8 := hid b8
                  have L8 := hid L8
                  clear b8
                  go_wp2_with (go_at_call 14; fail)
                  with_reducible refine (iSe.out _ B8.out).mono ?_
                  rintro r w9 ⟨vp, rfl, L9, b9⟩
                  have B9 := hid (B8.out.trans (b9.mono B8.out.size))
                  have L8 := L8.out.below b9
                  obtain ⟨us, ρ1, l1, l2, _⟩ := L9
                  obtain ⟨vs, ρ2, m1, m2, _⟩ := L8
                  obtain ⟨ap, cp, e1, _, _⟩ := l2.shape
                  obtain ⟨aq, cq, e2, _, _⟩ := m2.shape
                  subst e1
                  subst e2
                  have hul := l1.len
                  have hvl := m1.len
                  obtain ⟨N, hN⟩ : ∃ N, ps.length = N := ⟨_, rfl⟩
                  rw [hN] at hul hvl
                  have HUL := hid hul
                  have HVL := hid hvl
                  have HL1 := hid l1
                  have HM1 := hid m1
                  have cellp : Hid (∀ (k : Nat) (u : Value), us[k]? = some u → ∃ g, ap = some ⟨g, 0, none⟩ ∧ w9.cell? ⟨g, k, none⟩ = some u) := fun k u hu => by
                    obtain ⟨g, c, e, h1, _⟩ := l2.cell hu
                    injection e with e _ _
                    exact ⟨g, e, h1⟩
                  have cellq : Hid (∀ (k : Nat) (u : Value), vs[k]? = some u → ∃ g, aq = some ⟨g, 0, none⟩ ∧ w9.cell? ⟨g, k, none⟩ = some u) := fun k u hu => by
                    obtain ⟨g, c, e, h1, _⟩ := m2.cell hu
                    injection e with e _ _
                    exact ⟨g, e, h1⟩
                  have nN : N ≤ 1000 := by rw [← hN]; exact hps.out.1
                  have HN := hid hN
                  have hEE : (E == E) = true := by simp
                  have hNN : ((N : Int) == (N : Int)) = true := by simp
                  rw [hul, hvl]
                  clear b9 l1 l2 m1 m2 hul hvl hN
                  go_wp2
                  go_loopw [16, 26] (fun o i w' => ∃ k : Nat, k ≤ N ∧ i = .int .i64 (k : Int) ∧ o = .bool true ∧ Hid (Below w9.heap.size w9 w' ∧ w'.heap = w9.heap)) (fun _ i _ => N - (intOf i).toNat)
                  case atStart => exact ⟨0, by omega, rfl, rfl, Below.refl _ _, rfl⟩
                  case round =>
                    obtain ⟨k, hk, rfl, rfl, hw'⟩ := hrel
                    have hwq := hw'.out
                    obtain ⟨hwb, hwh⟩ := hwq
                    have hcell : ∀ p : Addr, wr.cell? p = w9.cell? p := fun p => World.cell?_of_block (w := w9) (by rw [hwh])
                    have HWB := hid hwb
                    have HWH := hid hwh
                    have hcell := hid hcell
                    clear hwb hw'
                    by_cases hkN : k < N
                    · have b0 : (k : Int) < (N : Int) := by omega
                      have HK1 := hid (show k + 1 ≤ N from hkN)
                      have b0' : decide ((k : Int) < (N : Int)) = true := decide_eq_true b0
                      have k0 : (0 : Int) ≤ (k : Int) := by omega
                      obtain ⟨u, hu⟩ : ∃ u, us[k]? = some u := ⟨_, List.getElem?_eq_getElem (by rw [HUL.out]; exact hkN)⟩
                      obtain ⟨v, hv⟩ : ∃ v, vs[k]? = some v := ⟨_, List.getElem?_eq_getElem (by rw [HVL.out]; exact hkN)⟩
                      obtain ⟨p, hp⟩ : ∃ p, ps[k]? = some p := ⟨_, List.getElem?_eq_getElem (by rw [HN.out]; exact hkN)⟩
                      obtain ⟨g1, rfl, c1⟩ := cellp.out k u hu
                      obtain ⟨g3, rfl, c3⟩ := cellq.out k v hv
                      have o1 := (HL1.out.own k u p hu hp).1
                      have o3 := (HM1.out.own k v p hv hp).1
                      have hpl := hps.out.2 p (List.mem_of_getElem? hp)
                      obtain ⟨ua, uc, rfl, u1', u2'⟩ := own_atM o1
                      obtain ⟨va, vc, rfl, v1', v2'⟩ := own_atM o3
                      have c1 := (hcell.out ⟨g1, k, none⟩).trans c1
                      have c3 := (hcell.out ⟨g3, k, none⟩).trans c3
                      have A1 := u1'.heap hwh
                      have A3 := v1'.heap hwh
                      have hs := fun w'' (e : w''.heap = wr.heap) => same_yes p ua va uc vc w'' (A1.heap e) (A3.heap e) (by omega)
                      obtain ⟨pn, hpn⟩ : ∃ n, p.length = n := ⟨_, rfl⟩
                      rw [hpn] at c1 c3 hs
                      clear o1 o3 A1 A3 hu hv hp hpl u1' v1' u2' v2' hpn hwh
                      go_wp2
                      go_region_held3 (fun w' => w'.cell? ⟨g1, k, none⟩ = some (.slice ua pn uc) ∧ w'.cell? ⟨g3, k, none⟩ = some (.slice va pn vc)) (first | exact e4 | exact ⟨c1, c3⟩)
                        (first | (go_at_call 24; (with_reducible refine (hs wr.drew rfl).mono ?_); rintro e wz ⟨rfl, hw2, hh2'⟩; have hh2 : wz.heap = wr.heap := hh2'; have hq : ∀ p : Addr, wz.cell? p = wr.cell? p := (fun p => World.cell?_of_block (w := wr) (by rw [hh2])); have e4 := And.intro ((hq ⟨g1, k, none⟩).trans c1) ((hq ⟨g3, k, none⟩).trans c3); have hq := hid hq; have hh2 := hid hh2; clear hh2'))
                      go_wp2
                      exact ⟨⟨k + 1, HK1.out, by go_num, rfl, hid ⟨HWB.out.trans (((Below.refl wr.heap.size wr).drew.trans hw2).mono HWB.out.size), hh2.out.trans HWH.out⟩⟩, by have := HK1.out; simp [RowKit.intOf]; omega⟩
                    · obtain rfl : N = k := by omega
                      have b0 : ¬ (N : Int) < (N : Int) := by omega
                      have b0' : decide ((N : Int) < (N : Int)) = false := decide_eq_false b0
                      have BF := hid (B9.out.trans (HWB.out.mono B9.out.size))
                      clear hwh
                      go_wp2
                      go_meet
                      exact ⟨rfl, BF⟩
            case rest =>
              revert wc
              intro w8 hcut
              obtain ⟨rfl, B8⟩ := hcut
              have T8 := hid (T7.out.below B8.out)
              have K8 : Hid (Keep (Bt gh gl) w8 w8) := Keep.refl _ _
              have KW8 := hid (keep_bl KW.out B8.out)
              have AT5 := hid (A5.out.below B8.out (Nat.le_refl _))
              have AT6 := hid (A6.out.below B8.out (Nat.le_refl _))
              have a2 := a2'
              clear iS iR iSc iRc iSe iRe MD T7 A5 A6 KW B8 HW7 hps htt
              go_wp2
              go_loopw [27] (fun i w' => ∃ k : Nat, k ≤ nH ∧ i = .int .i64 (k : Int) ∧ Hid (Tw w0 w' gh gl nH nL) ∧ Hid (Keep (Bt gh gl) w8 w')) (fun i _ => nH - (intOf i).toNat)
              case atStart => exact ⟨0, Nat.zero_le _, rfl, T8, K8⟩
              case round =>
                obtain ⟨k, hk, rfl, TK, KK⟩ := hrel
                by_cases hk1 : k < nH
                · obtain ⟨x13, hx13⟩ := AT5.out.pos (by rw [a1]; omega)
                  obtain ⟨m, hm⟩ : ∃ m, nH - 1 - k = m := ⟨_, rfl⟩
                  have hmI : (nH : Int) - 1 - (k : Int) = (m : Int) := by omega
                  have hm1 : m < nH := by omega
                  have AK := at_kept AT5.out KK.out F5.out
                  subst hx13
                  obtain ⟨s, hs0, hs⟩ := AK.cell m (by rw [a1]; exact hm1)
                  obtain ⟨⟨po, hpo⟩, hfz⟩ := TK.out.cellH hk1
                  have hsv : sv s.data.toList = .string s := by unfold sv; cases s; simp
                  have T' := TK.out.setH hk1 s.data.toList
                  have K' := keep_bt KK.out (g := gh) (i := k) (.inl rfl) (sv s.data.toList)
                  rw [hsv] at T' K'
                  have T' := hid T'
                  have K' := hid K'
                  have hk' := hid hk1
                  have y1 : (k : Int) < (nH : Int) := by omega
                  have y2 : (0 : Int) ≤ (m : Int) := by omega
                  have y3 : (m : Int) < (nH : Int) := by omega
                  have y4 : (0 : Int) ≤ (k : Int) := by omega
                  clear hs0 AK TK KK hm hk hm1
                  go_wp2
                  exact ⟨⟨k + 1, hk'.out, by go_num, T', K'⟩, by have := hk'.out; simp [RowKit.intOf]; omega⟩
                · obtain rfl : nH = k := by omega
                  have y1 : ¬ (nH : Int) < (nH : Int) := by omega
                  go_wp2
                  go_loopw [28] (fun i w' => ∃ k : Nat, k ≤ nL ∧ i = .int .i64 (k : Int) ∧ Hid (Tw w0 w' gh gl nH nL) ∧ Hid (Keep (Bt gh gl) w8 w')) (fun i _ => nL - (intOf i).toNat)
                  case atStart => exact ⟨0, Nat.zero_le _, rfl, TK, KK⟩
                  case round =>
                    obtain ⟨k, hk, rfl, TK, KK⟩ := hrel
                    by_cases hk1 : k < nL
                    · obtain ⟨x13, hx13⟩ := AT6.out.pos (by rw [a2]; omega)
                      obtain ⟨m, hm⟩ : ∃ m, nL - 1 - k = m := ⟨_, rfl⟩
                      have hmI : (nL : Int) - 1 - (k : Int) = (m : Int) := by omega
                      have hm1 : m < nL := by omega
                      have AK := at_kept AT6.out KK.out F6.out
                      subst hx13
                      obtain ⟨s, hs0, hs⟩ := AK.cell m (by rw [a2]; exact hm1)
                      obtain ⟨⟨po, hpo⟩, hfz⟩ := TK.out.cellL hk1
                      have hsv : sv s.data.toList = .string s := by unfold sv; cases s; simp
                      have T' := TK.out.setL hk1 s.data.toList
                      have K' := keep_bt KK.out (g := gl) (i := k) (.inr rfl) (sv s.data.toList)
                      rw [hsv] at T' K'
                      have T' := hid T'
                      have K' := hid K'
                      have hk' := hid hk1
                      have y1 : (k : Int) < (nL : Int) := by omega
                      have y2 : (0 : Int) ≤ (m : Int) := by omega
                      have y3 : (m : Int) < (nL : Int) := by omega
                      have y4 : (0 : Int) ≤ (k : Int) := by omega
                      clear hs0 AK TK KK hm hk hm1
                      go_wp2
                      exact ⟨⟨k + 1, hk'.out, by go_num, T', K'⟩, by have := hk'.out; simp [RowKit.intOf]; omega⟩
                    · obtain rfl : nL = k := by omega
                      have y1 : ¬ (nL : Int) < (nL : Int) := by omega
                      have KF := hid (KW8.out.trans KK.out fun _ _ e => e)
                      go_wp2
                      exact ⟨⟨t + 1, ht2'.out, by go_num, TK, KF⟩, by have := ht2'.out; simp [RowKit.intOf]; omega⟩
          · obtain rfl : t = 2 := by omega
            have z2 : ¬ ((2 : Nat) : Int) < 2 := by omega
            go_wp2
            exact ⟨⟨j + 1, hj2'.out, by go_num, TT, KT⟩, by have := hj2'.out; simp [RowKit.intOf]; omega⟩
      · have z1 : ¬ (j : Int) < 3 := by omega
        go_wp2
        go_ret
        exact ⟨rfl, TJ.out.bl, HK0.out.trans KJ.out fun _ _ e => e⟩
end Bat
end Go.Proofs.YtbodgecbakcaaaaGreatDoor
