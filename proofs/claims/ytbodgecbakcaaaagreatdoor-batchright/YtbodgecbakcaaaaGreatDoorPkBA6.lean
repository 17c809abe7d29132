import Derived.Test.YtbodgecbakcaaaaGreatDoorPkBA4
import Derived.Test.YtbodgecbakcaaaaGreatDoorPkBR10
import Derived.Test.YtbodgecbakcaaaaGreatDoorPkBL2
import Derived.Deep.RegionHeld3
import Derived.Deep.RegionLaw
/- Layer 12, the law: asks: its end (written by genBA6.py) -/
namespace Go.Proofs.YtbodgecbakcaaaaGreatDoor
open Go.RowKit Go.Shelf
namespace Bat
noncomputable def asksE : Code := ((Tryz.f6.body.bind (fromX 44)).getD .skip)
set_option maxRecDepth 1000000 in
set_option maxHeartbeats 8000000 in
theorem asks_44 {w wr : World} {q gi gh gl X : Nat} {n : Int} {cs : List Int} {aI aH : Option Addr} {nI nH nL cI cH : Nat} (S : Sa w wr q gi gh gl X n cs aI aH nI nH nL cI cH) {vf vw : Value} {us cc : List Value} {Ls : List (List (List UInt8))} {oa : Option Addr} {on oc : Nat} {ns : List Value} {Is : List (List Value)} (cx : Cx wr X vf vw us cc Ls (.slice oa on oc) ns Is)
    (hnI : nI ≤ 17592186043904) (hnH : nH ≤ 8796093021952) (hnL : nL ≤ 8796093021952) (hic : ∀ c ∈ cs, -9223372036854775808 ≤ c ∧ c ≤ 9223372036854775807) (hI : cs.length = nI) (hAI : AtI w aI cs) (Z : Tabs w) {rt : List UInt8} {RT : ByteArray} (hRT : (ByteArray.mk rt.toArray) = RT) (hul : us.length ≤ 1000) (hnl : ns.length = 3) (aL : Option Addr) (cL : Nat) (u0 u4 u5 u6 u12 u13 u14 u15 u16 u17 u18 u19 u20 u21 u22 u23 u24 u25 u26 u27 u28 u29 u30 u31 u32 u33 u34 u35 u36 u37 u38 u39 u40 u41 u42 u43 u44 u45 u46 u47 u48 u49 u50 u51 u52 u53 u54 u55 u56 u57 u58 u59 u60 u61 u62 u63 u64 u65 u66 u67 u68 u69 u70 u71 u72 u73 u74 u75 u76 u77 u78 u79 u80 u81 u82 u83 u84 u85 u86 u87 u88 u89 u90 u91 u92 u93 u94 u95 u96 u97 u98 u99 u100 u101 u102 u103 u104 u105 u106 u107 u108 u109 u110 u111 u112 u113 u114 u115 u116 u117 u118 u119 u120 u121 u122 u123 u124 u125 u126 u127 u128 u129 u130 u131 u132 u133 u134 u135 u136 u137 u138 u139 u140 u141 u142 u143 u144 u145 u146 u147 u148 u149 u150 u151 u152 u153 u154 u155 u156 u157 u158 u159 u160 u161 u162 u163 u164 u165 u166 u167 u168 u169 u170 u171 u172 u173 u174 u175 u176 u177 u178 u179 u180 u181 u182 u183 u184 u185 u186 u187 u188 u189 u190 u191 u192 u193 u194 u195 u196 u197 u198 u199 u200 u201 u202 u203 u204 u205 u206 u207 u208 u209 u210 u211 u212 u213 u214 u215 u216 u217 u218 u219 u220 u221 u222 u223 u224 u225 u226 u227 u228 u229 u230 u231 u232 u233 u234 u235 u236 u237 u238 u239 u240 u241 u242 u243 u244 u245 u246 u247 u248 u249 u250 u251 u252 u253 u254 u255 u256 u257 u258 u259 u260 u261 u262 u263 u264 u265 u266 u267 u268 u269 u270 u271 u272 u273 u274 u275 u276 u277 u278 u279 u280 u281 : Value) :
    Code.wp Tryz.prog asksE (bodyPost Tryz.prog Tryz.f6 fun r w' => r = .returned (.bool true) ∧ Below w.heap.size w w') ⟨#[u0, .slice aL nL cL, .string RT, .pointer (some ⟨q, 0, none⟩), u4, u5, u6, .slice (some ⟨gi, 0, none⟩) (nI + 8) (nI + 8), .slice (some ⟨gh, 0, none⟩) (nH + 8) (nH + 8), .slice (some ⟨gl, 0, none⟩) (nL + 8) (nL + 8), .pointer (some ⟨X, 0, none⟩), .slice oa on oc, u12, u13, u14, u15, u16, u17, u18, u19, u20, u21, u22, u23, u24, u25, u26, u27, u28, u29, u30, u31, u32, u33, u34, u35, u36, u37, u38, u39, u40, u41, u42, u43, u44, u45, u46, u47, u48, u49, u50, u51, u52, u53, u54, u55, u56, u57, u58, u59, u60, u61, u62, u63, u64, u65, u66, u67, u68, u69, u70, u71, u72, u73, u74, u75, u76, u77, u78, u79, u80, u81, u82, u83, u84, u85, u86, u87, u88, u89, u90, u91, u92, u93, u94, u95, u96, u97, u98, u99, u100, u101, u102, u103, u104, u105, u106, u107, u108, u109, u110, u111, u112, u113, u114, u115, u116, u117, u118, u119, u120, u121, u122, u123, u124, u125, u126, u127, u128, u129, u130, u131, u132, u133, u134, u135, u136, u137, u138, u139, u140, u141, u142, u143, u144, u145, u146, u147, u148, u149, u150, u151, u152, u153, u154, u155, u156, u157, u158, u159, u160, u161, u162, u163, u164, u165, u166, u167, u168, u169, u170, u171, u172, u173, u174, u175, u176, u177, u178, u179, u180, u181, u182, u183, u184, u185, u186, u187, u188, u189, u190, u191, u192, u193, u194, u195, u196, u197, u198, u199, u200, u201, u202, u203, u204, u205, u206, u207, u208, u209, u210, u211, u212, u213, u214, u215, u216, u217, u218, u219, u220, u221, u222, u223, u224, u225, u226, u227, u228, u229, u230, u231, u232, u233, u234, u235, u236, u237, u238, u239, u240, u241, u242, u243, u244, u245, u246, u247, u248, u249, u250, u251, u252, u253, u254, u255, u256, u257, u258, u259, u260, u261, u262, u263, u264, u265, u266, u267, u268, u269, u270, u271, u272, u273, u274, u275, u276, u277, u278, u279, u280, u281], []⟩ wr := by
  conv => arg 2; whnf
  have SJ := hid S
  have CJ := hid cx
  have HIC := hid hic
  have HnI := hid hI
  have HAI := hid hAI
  have HZ := hid Z
  have HRT := hid hRT
  clear S cx hic hI hAI Z hRT
  have Rr := SJ.out.bt
  have X0 : wr.cell? ⟨q, 0, none⟩ = some (.int .i64 n) ∧ wr.cell? ⟨q, 1, none⟩ = some (.slice aI nI cI) ∧ wr.cell? ⟨q, 2, none⟩ = some (.slice aH nH cH) := ⟨Rr.c0, Rr.c1, Rr.c2⟩
  have hqn : Hid (¬ Bt gh gl q) := fun e => by
    have := SJ.out.n1
    rcases e with e | e <;> omega
  have iT := turned12_any n cs rt (w := wr.drew) HZ.out (SJ.out.tw.below (Below.refl _ _).drew) (by omega) (by omega) aI aH cI cH nI HnI.out (by omega) HIC.out HAI.out
  rw [show sv rt = Value.string ⟨rt.toArray⟩ from rfl, HRT.out] at iT
  have y2 : (nL : Int) ≤ (nL : Int) + 8 := by omega
  have HRr := hid Rr
  clear Rr
  go_upto_region 44 with fail
  dsimp only
  go_cut [35] (fun v35 w' => v35 = .bool true ∧ Hid (Keep (Bt gh gl) wr w') ∧ Hid (Below w.heap.size w w'))
  case first =>
    go_region_held3 (fun W => W.cell? ⟨q, 0, none⟩ = some (.int .i64 n) ∧ W.cell? ⟨q, 1, none⟩ = some (.slice aI nI cI) ∧ W.cell? ⟨q, 2, none⟩ = some (.slice aH nH cH)) (first | exact X0 | exact X9) (first | (go_at_call 28; (refine iT.mono ?_); rintro r w9 ⟨rfl, b9, k9⟩; have B9 := hid b9; have R9 := HRr.out.keep ((Keep.ofBelow (S := Bt gh gl) (Below.refl _ wr).drew).trans k9 (fun _ _ e => e)) hqn.out; have X9 : w9.cell? ⟨q, 0, none⟩ = some (.int .i64 n) ∧ w9.cell? ⟨q, 1, none⟩ = some (.slice aI nI cI) ∧ w9.cell? ⟨q, 2, none⟩ = some (.slice aH nH cH) := ⟨R9.c0, R9.c1, R9.c2⟩; have K9 := hid ((Keep.ofBelow (S := Bt gh gl) (Below.refl _ wr).drew).trans k9 (fun _ _ e => e)); clear b9 k9 R9))
    go_wp2
    go_meet
    exact ⟨rfl, K9, B9⟩
  case rest =>
    revert wc
    intro wt hcut
    obtain ⟨rfl, KT, BT⟩ := hcut
    have CT : Cx wt X vf vw us cc Ls (.slice oa on oc) ns Is := CJ.out.same KT.out.size fun k h1 h2 => KT.out.block k h2 fun e => by
      have e1 := SJ.out.l3
      have e2 := SJ.out.l4
      rcases e with e | e <;> omega
    have iT2 := CT.still (by omega)
    have hX0 : w.heap.size ≤ X := by have := SJ.out.lw; have := SJ.out.l1; omega
    have hon : on = 3 := by
      obtain ⟨_, _, e, _⟩ := CT.nm.lst.shape
      injection e with _ e _
      omega
    have hge := hid CT.ge
    clear CT KT SJ CJ iT X0
    go_upto_region 46 with (go_at_call 29; (with_reducible refine iT2.mono ?_); rintro r w9 ⟨rfl, o9, b9⟩)
    have iO := o9.owned (by omega) (by omega)
    rw [hon] at iO
    have B9 := hid (BT.out.trans (b9.mono hX0))
    clear b9 o9
    go_wp2_with (go_at_call 30; (with_reducible refine iO.mono ?_); rintro r w10 ⟨rfl, k10⟩)
    go_ret
    exact ⟨rfl, B9.out.trans (keep_below k10 B9.out.size fun k e => Nat.le_trans hX0 (hge.out k (.inr e)))⟩
end Bat
end Go.Proofs.YtbodgecbakcaaaaGreatDoor

/- Layer 12, the law: asks (written by genBA5.py) -/
namespace Go.Proofs.YtbodgecbakcaaaaGreatDoor
open Go.RowKit Go.Shelf
namespace Bat
set_option maxRecDepth 100000 in
set_option maxHeartbeats 16000000 in
theorem asks12_any (n : Int) (rt : List UInt8) (cs : List Int) (H L : List (List UInt8)) (hnI : cs.length ≤ 17592186043904) (hnH : H.length ≤ 8796093021952) (hnL : L.length ≤ 8796093021952) (hic : ∀ c ∈ cs, -9223372036854775808 ≤ c ∧ c ≤ 9223372036854775807) (aI aH aL : Option Addr) (cI cH cL : Nat) (w : World) (hAI : AtI w aI cs) (hAH : At w aH H) (hAL : At w aL L) (Z : Tabs w) :
    Calls Tryz.prog 6 #[bt n (.slice aI cs.length cI) (.slice aH H.length cH), .slice aL L.length cL, sv rt] w fun r w' => r = .returned (.bool true) ∧ Below w.heap.size w w' := by
  have W1 := BtI.new w n (.slice aI cs.length cI) (.slice aH H.length cH)
  have b1 := (Below.refl w.heap.size w).alloc (Nat.le_refl _) (.cells #[.int .i64 n, .slice aI cs.length cI, .slice aH H.length cH] 25)
  obtain ⟨w1, hw1⟩ : ∃ w1, w.alloc (.cells #[.int .i64 n, .slice aI cs.length cI, .slice aH H.length cH] 25) = w1 := ⟨_, rfl⟩
  rw [hw1] at W1 b1
  obtain ⟨q, hq⟩ : ∃ q, w.heap.size = q := ⟨_, rfl⟩
  rw [hq] at W1
  have s1 : w1.heap.size = q + 1 := by rw [← hw1, size_alloc, hq]
  have i0 := lentInts12_any cs aI cI w1 (by omega) (hAI.below b1 (Nat.le_refl _))
  have I1 := hid fun (w' : World) (hb : Below w.heap.size w w') => lent_any H aH cH w' hnH (hAH.below hb (Nat.le_refl _))
  have I2 := hid fun (w' : World) (hb : Below w.heap.size w w') => lent_any L aL cL w' hnL (hAL.below hb (Nat.le_refl _))
  have k1 := W1.c1
  obtain ⟨nI, hnIe⟩ : ∃ nI, cs.length = nI := ⟨_, rfl⟩
  obtain ⟨nH, hnHe⟩ : ∃ nH, H.length = nH := ⟨_, rfl⟩
  obtain ⟨nL, hnLe⟩ : ∃ nL, L.length = nL := ⟨_, rfl⟩
  rw [hnIe] at W1 hw1 i0 k1 hnI ⊢
  rw [hnHe] at W1 hw1 I1 hnH ⊢
  rw [hnLe] at I2 hnL ⊢
  have HnI := hid hnIe
  have HnH := hid hnHe
  have HnL := hid hnLe
  have HIC := hid hic
  have HW1 := hid hw1
  have HQ := hid hq
  have HZ := hid Z
  have HAI := hid hAI
  have HAH := hid hAH
  have HAL := hid hAL
  have HR1 := hid W1
  have HB1 := hid b1
  have HS1 := hid s1
  obtain ⟨RT, hRT⟩ : ∃ RT, (ByteArray.mk rt.toArray) = RT := ⟨_, rfl⟩
  rw [show sv rt = Value.string ⟨rt.toArray⟩ from rfl, hRT]
  have HRT := hid hRT
  clear hRT hnIe hnHe hnLe Z hAI hAH hAL W1 b1 hw1 hq s1 hic
  go_enter Tryz.func6, Tryz.ntmps6
  go_upto_region 1 with fail
  rw [HW1.out, HQ.out]
  go_upto_region 2 with (go_at_call 17; (with_reducible refine i0.mono ?_); rintro r w2 ⟨rfl, R2, b2⟩)
  have B2 := hid (HB1.out.trans (b2.mono HB1.out.size))
  have HR2 := hid (HR1.out.below b2)
  have k2 := HR2.out.c2
  have i1 := I1.out w2 B2.out
  have HGi := hid R2
  have hg1 : Hid (w1.heap.size < w2.heap.size) := R2.lt
  clear i0 I1 k1 R2
  go_upto_region 3 with (go_at_call 18; (with_reducible refine i1.mono ?_); rintro r w3 ⟨rfl, R3, b3⟩)
  have B3 := hid (B2.out.trans (b3.mono B2.out.size))
  have i2 := I2.out w3 B3.out
  have HR3 := hid (HR2.out.below b3)
  have HGi3 : Hid (RowZ w3 w1.heap.size (cs ++ List.replicate 8 (-71))) := HGi.out.below b3 HGi.out.lt
  have R3' := hid R3
  have hg2 : Hid (w2.heap.size < w3.heap.size) := R3.lt
  clear i1 I2 k2 R3 HR2 HGi b2
  go_upto_region 4 with (go_at_call 18; (with_reducible refine i2.mono ?_); rintro r w4 ⟨rfl, R4, b4⟩)
  obtain ⟨gi, hgi⟩ : ∃ gi, w1.heap.size = gi := ⟨_, rfl⟩
  obtain ⟨gh, hgh⟩ : ∃ gh, w2.heap.size = gh := ⟨_, rfl⟩
  obtain ⟨gl, hgl⟩ : ∃ gl, w3.heap.size = gl := ⟨_, rfl⟩
  obtain ⟨X, hX⟩ : ∃ X, w4.heap.size = X := ⟨_, rfl⟩
  obtain ⟨w5, hw5⟩ : ∃ w5, w4.alloc (.cells #[.slice none 0 0, .slice none 0 0, .slice none 0 0, .slice none 0 0, .slice none 0 0] 51) = w5 := ⟨_, rfl⟩
  have b5 : Below w4.heap.size w4 w5 := by rw [← hw5]; exact (Below.refl _ _).alloc (Nat.le_refl _) _
  have B4 := B3.out.trans (b4.mono B3.out.size)
  have B5 := B4.trans (b5.mono B4.size)
  have hs5 : w5.heap.size = X + 1 := by rw [← hw5, size_alloc, hX]
  have SA : Hid (Sa w w5 q gi gh gl X n cs aI aH nI nH nL cI cH) := by
    have e1 := HS1.out
    have e2 := hg1.out
    have e3 := hg2.out
    have e4 := HQ.out
    have e5 : w3.heap.size < w4.heap.size := R4.lt
    refine ⟨⟨B5, by omega, by omega, by omega, H, L, HnH.out, HnL.out, ?_, ?_⟩, ?_, (HR3.out.below b4).below b5, by omega, by omega, by omega, by omega, by omega, by omega, by omega, by omega⟩
    · rw [← hgh]
      have x1 := R3'.out.below b4 R3'.out.lt
      exact x1.below b5 x1.lt
    · rw [← hgl]
      exact R4.below b5 R4.lt
    · rw [← hgi]
      have x1 := HGi3.out.below b4 HGi3.out.lt
      exact x1.below b5 x1.lt
  have CA : Hid (Cx w5 X (.slice none 0 0) (.slice none 0 0) [] [] [] (.slice none 0 0) [] []) := by
    refine ⟨Bk.nil ?_, Om.nil _, fun k e => ?_, fun k _ e => ?_⟩
    · rw [← hw5, ← hX]; exact heap_alloc_new w4 _
    · rcases e with e | ⟨j, v, e, _⟩
      · cases e
      · simp at e
    · rcases e with e | ⟨j, v, e, _⟩
      · cases e
      · simp at e
  have HW5 := hid hw5
  have HX4 := hid hX
  clear i2 b3 b4 b5 R4 R3' HR3 HB1 B2 B3 B4 B5 HW1 HR1 hg1 hg2 HS1 HGi3 hs5 hw5 hX
  rw [hgi, hgh, hgl]
  clear hgi hgh hgl
  go_upto_region 5 with fail
  rw [HW5.out, HX4.out]
  clear HW5 HX4
  go_wp2
  go_loopw [11, 12] (fun vo i w' => ∃ (j : Nat) (oa : Option Addr) (on oc : Nat) (vf vw : Value) (us cc : List Value) (Ls : List (List (List UInt8))) (ns : List Value) (Is : List (List Value)), j ≤ 3 ∧ vo = .slice oa on oc ∧ i = .int .i64 (j : Int) ∧ Hid (Sa w w' q gi gh gl X n cs aI aH nI nH nL cI cH) ∧ Hid (Cx w' X vf vw us cc Ls (.slice oa on oc) ns Is) ∧ us.length ≤ 256 * j ∧ ns.length = j) (fun _ i _ => 3 - (intOf i).toNat)
  case atStart => exact ⟨0, none, 0, 0, _, _, _, _, _, _, _, by omega, rfl, rfl, SA, CA, by simp, rfl⟩
  case round =>
    clear SA CA
    obtain ⟨j, oa, on, oc, vf, vw, us, cc, Ls, ns, Is, hj, rfl, rfl, SJ, CJ, hul, hnl⟩ := hrel
    by_cases hj3 : j < 3
    · have z1 : (j : Int) < 3 := by omega
      have hj3' := hid hj3
      go_upto_if 52 with fail
      go_cut [13, 14] (fun _ _ w' => Hid (Sa w w' q gi gh gl X n cs aI aH nI nH nL cI cH) ∧ Hid (Cx w' X vf vw us cc Ls (.slice oa on oc) ns Is))
      case first =>
        by_cases hj2 : j = 2
        · have u1 : ((j : Int) == 2) = true := by simp; omega
          have u2 : decide ((j : Int) = 2) = true := decide_eq_true (by omega)
          clear hj2
          go_wp2
          go_loopw [13] (fun i w' => ∃ k : Nat, k ≤ nH ∧ i = .int .i64 (k : Int) ∧ Hid (Sa w w' q gi gh gl X n cs aI aH nI nH nL cI cH) ∧ Hid (Cx w' X vf vw us cc Ls (.slice oa on oc) ns Is)) (fun i _ => nH - (intOf i).toNat)
          case atStart => exact ⟨0, Nat.zero_le _, rfl, SJ, CJ⟩
          case round =>
            obtain ⟨k, hk, rfl, SK, CK⟩ := hrel
            have r3 := SK.out.bt.c2
            by_cases hk1 : k < nH
            · have AK := HAH.out.below SK.out.tw.bl (Nat.le_refl _)
              obtain ⟨x13, hx13⟩ := AK.pos (by rw [HnH.out]; omega)
              obtain ⟨m, hm⟩ : ∃ m, nH - 1 - k = m := ⟨_, rfl⟩
              have hmI : (nH : Int) - 1 - (k : Int) = (m : Int) := by omega
              have hm1 : m < nH := by omega
              subst hx13
              obtain ⟨s, hs0, hs⟩ := AK.cell m (by rw [HnH.out]; exact hm1)
              obtain ⟨⟨po, hpo⟩, hfz⟩ := SK.out.tw.cellH hk1
              have hsv : sv s.data.toList = .string s := by unfold sv; cases s; simp
              have T' := SK.out.setH hk1 s.data.toList
              have K' := CK.out.set (g := gh) SK.out.l3 k (sv s.data.toList)
              rw [hsv] at T' K'
              have T' := hid T'
              have K' := hid K'
              have hk' := hid hk1
              have y1 : (k : Int) < (nH : Int) := by omega
              have y2 : (0 : Int) ≤ (m : Int) := by omega
              have y3 : (m : Int) < (nH : Int) := by omega
              have y4 : (0 : Int) ≤ (k : Int) := by omega
              clear hs0 AK SK CK hm hk hm1
              go_wp2
              exact ⟨⟨k + 1, hk'.out, by go_num, T', K'⟩, by have := hk'.out; simp [RowKit.intOf]; omega⟩
            · obtain rfl : nH = k := by omega
              have y1 : ¬ (nH : Int) < (nH : Int) := by omega
              go_wp2
              clear r3
              go_loopw [14] (fun i w' => ∃ k : Nat, k ≤ nL ∧ i = .int .i64 (k : Int) ∧ Hid (Sa w w' q gi gh gl X n cs aI aH nI nH nL cI cH) ∧ Hid (Cx w' X vf vw us cc Ls (.slice oa on oc) ns Is)) (fun i _ => nL - (intOf i).toNat)
              case atStart => exact ⟨0, Nat.zero_le _, rfl, SK, CK⟩
              case round =>
                obtain ⟨k, hk, rfl, SK, CK⟩ := hrel
                by_cases hk1 : k < nL
                · have AK := HAL.out.below SK.out.tw.bl (Nat.le_refl _)
                  obtain ⟨x13, hx13⟩ := AK.pos (by rw [HnL.out]; omega)
                  obtain ⟨m, hm⟩ : ∃ m, nL - 1 - k = m := ⟨_, rfl⟩
                  have hmI : (nL : Int) - 1 - (k : Int) = (m : Int) := by omega
                  have hm1 : m < nL := by omega
                  subst hx13
                  obtain ⟨s, hs0, hs⟩ := AK.cell m (by rw [HnL.out]; exact hm1)
                  obtain ⟨⟨po, hpo⟩, hfz⟩ := SK.out.tw.cellL hk1
                  have hsv : sv s.data.toList = .string s := by unfold sv; cases s; simp
                  have T' := SK.out.setL hk1 s.data.toList
                  have K' := CK.out.set (g := gl) SK.out.l4 k (sv s.data.toList)
                  rw [hsv] at T' K'
                  have T' := hid T'
                  have K' := hid K'
                  have hk' := hid hk1
                  have y1 : (k : Int) < (nL : Int) := by omega
                  have y2 : (0 : Int) ≤ (m : Int) := by omega
                  have y3 : (m : Int) < (nL : Int) := by omega
                  have y4 : (0 : Int) ≤ (k : Int) := by omega
                  clear hs0 AK SK CK hm hk hm1
                  go_wp2
                  exact ⟨⟨k + 1, hk'.out, by go_num, T', K'⟩, by have := hk'.out; simp [RowKit.intOf]; omega⟩
                · obtain rfl : nL = k := by omega
                  have y1 : ¬ (nL : Int) < (nL : Int) := by omega
                  go_wp2
                  go_meet
                  exact ⟨SK, CK⟩
        · have u1 : ((j : Int) == 2) = false := by simp; omega
          have u2 : decide ((j : Int) = 2) = false := decide_eq_false (by omega)
          clear hj2
          go_wp2
          go_meet
          exact ⟨SJ, CJ⟩
      case rest =>
        obtain ⟨ST, CT⟩ := hcut
        revert wc
        intro wa ST CT
        clear SJ CJ
        go_step
        refine asks_18 ST.out CT.out hnI hnH hnL HIC.out HnI.out HAI.out HZ.out HRT.out (by omega) (by omega) aL cL _ _ _ _ _ _ _ _ _ _ _ _ _ _ _ _ _ _ _ _ _ _ _ _ _ _ _ _ _ _ _ _ _ _ _ _ _ _ _ _ _ _ _ _ _ _ _ _ _ _ _ _ _ _ _ _ _ _ _ _ _ _ _ _ _ _ _ _ _ _ _ _ _ _ _ _ _ _ _ _ _ _ _ _ _ _ _ _ _ _ _ _ _ _ _ _ _ _ _ _ _ _ _ _ _ _ _ _ _ _ _ _ _ _ _ _ _ _ _ _ _ _ _ _ _ _ _ _ _ _ _ _ _ _ _ _ _ _ _ _ _ _ _ _ _ _ _ _ _ _ _ _ _ _ _ _ _ _ _ _ _ _ _ _ _ _ _ _ _ _ _ _ _ _ _ _ _ _ _ _ _ _ _ _ _ _ _ _ _ _ _ _ _ _ _ _ _ _ _ _ _ _ _ _ _ _ _ _ _ _ _ _ _ _ _ _ _ _ _ _ _ _ _ _ _ _ _ _ _ _ _ _ _ _ _ _ _ _ _ _ _ _ _ _ _ _ _ _ _ _ _ _ _ _ _ _ _ _ _ _ _ _ _ _ _ _ _ _ _ _ _ _ _ _ _ ?_
        intro vo1 _ _ _ _ _ _ _ _ _ _ _ _ _ _ _ _ _ _ _ _ _ _ _ _ _ _ _ _ _ _ _ _ _ _ _ _ _ _ _ _ _ _ _ _ _ _ _ _ _ _ _ _ _ _ _ _ _ _ _ _ _ _ _ _ _ _ _ _ _ _ _ _ _ _ _ _ _ _ _ _ _ _ _ _ _ _ _ _ _ _ _ _ _ _ _ _ _ _ _ _ _ _ _ _ _ _ _ _ _ _ _ _ _ _ _ _ _ _ _ _ _ _ _ _ _ _ _ _ _ _ _ _ _ _ _ _ _ _ _ _ _ _ _ _ _ _ _ _ _ _ _ _ _ _ _ _ _ _ _ _ _ _ _ _ _ _ _ _ _ _ _ _ _ _ _ _ _ _ _ _ _ _ _ _ _ _ _ _ _ _ _ _ _ _ _ wE vf' vw' us' cc' Ls' ns' Is' SE cxE hulE hnlE
        obtain ⟨oa1, oc1, hvo, _⟩ := cxE.nm.lst.shape
        subst hvo
        have CXE := hid cxE
        have HSE := hid SE
        have hul1 : us'.length ≤ 256 * (j + 1) := by omega
        clear SE cxE ST CT
        go_wp2
        exact ⟨⟨j + 1, oa1, _, oc1, vf', vw', us', cc', Ls', ns', Is', hj3'.out, rfl, by go_num, HSE, CXE, hul1, by omega⟩, by have := hj3'.out; simp [RowKit.intOf]; omega⟩
    · have z1 : ¬ (j : Int) < 3 := by omega
      obtain rfl : j = 3 := by omega
      go_upto_if 48 with fail
      go_step
      go_step
      go_step
      go_step
      go_step
      go_step
      exact asks_44 SJ.out CJ.out hnI hnH hnL HIC.out HnI.out HAI.out HZ.out HRT.out (by omega) hnl aL cL _ _ _ _ _ _ _ _ _ _ _ _ _ _ _ _ _ _ _ _ _ _ _ _ _ _ _ _ _ _ _ _ _ _ _ _ _ _ _ _ _ _ _ _ _ _ _ _ _ _ _ _ _ _ _ _ _ _ _ _ _ _ _ _ _ _ _ _ _ _ _ _ _ _ _ _ _ _ _ _ _ _ _ _ _ _ _ _ _ _ _ _ _ _ _ _ _ _ _ _ _ _ _ _ _ _ _ _ _ _ _ _ _ _ _ _ _ _ _ _ _ _ _ _ _ _ _ _ _ _ _ _ _ _ _ _ _ _ _ _ _ _ _ _ _ _ _ _ _ _ _ _ _ _ _ _ _ _ _ _ _ _ _ _ _ _ _ _ _ _ _ _ _ _ _ _ _ _ _ _ _ _ _ _ _ _ _ _ _ _ _ _ _ _ _ _ _ _ _ _ _ _ _ _ _ _ _ _ _ _ _ _ _ _ _ _ _ _ _ _ _ _ _ _ _ _ _ _ _ _ _ _ _ _ _ _ _ _ _ _ _ _ _ _ _ _ _ _ _ _ _ _ _ _ _ _ _ _ _ _ _ _ _ _ _ _ _ _ _ _ _ _ _ _
end Bat
end Go.Proofs.YtbodgecbakcaaaaGreatDoor

/- Layer 12, the law: BatchRoots -/
namespace Go.Proofs.YtbodgecbakcaaaaGreatDoor
open Go.RowKit Go.Shelf
namespace Bat
set_option maxRecDepth 100000 in
set_option maxHeartbeats 4000000 in
theorem roots12_law (n : Int) (rt : List UInt8) (cs : List Int) (H L : List (List UInt8)) (hnI : cs.length ≤ 17592186043904) (hnH : H.length ≤ 8796093021952) (hnL : L.length ≤ 8796093021952) (hic : ∀ c ∈ cs, -9223372036854775808 ≤ c ∧ c ≤ 9223372036854775807) (aI aH aL : Option Addr) (cI cH cL : Nat) (w : World) (hAI : AtI w aI cs) (hAH : At w aH H) (hAL : At w aL L) (Z : Tb w) :
    Calls Tryz.prog 3 #[bt n (.slice aI cs.length cI) (.slice aH H.length cH), .slice aL L.length cL, sv rt] w fun r w' => r = .returned (.bool true) ∧ Below w.heap.size w w' := by
  have W1 := BtI.new w n (.slice aI cs.length cI) (.slice aH H.length cH)
  have b1 := (Below.refl w.heap.size w).alloc (Nat.le_refl _) (.cells #[.int .i64 n, .slice aI cs.length cI, .slice aH H.length cH] 25)
  have i1 := known12_any _ (Z.below b1 Z.lt)
  have I2 := hid fun (w' : World) (hb : Below w.heap.size w w') => asks12_any n rt cs H L hnI hnH hnL hic aI aH aL cI cH cL w' (hAI.below hb (Nat.le_refl _)) (hAH.below hb (Nat.le_refl _)) (hAL.below hb (Nat.le_refl _)) (Z.below hb Z.lt).t
  generalize cs.length = nI at *
  generalize H.length = nH at *
  generalize L.length = nL at *
  rw [show sv rt = Value.string ⟨rt.toArray⟩ from rfl] at *
  have HR1 := hid W1
  have HB1 := hid b1
  clear W1 b1 hAI hAH hAL Z hic
  go_enter Tryz.func3, Tryz.ntmps3
  go_upto_region 2 with (go_at_call 5; (with_reducible refine i1.mono ?_); rintro r w2 ⟨rfl, b2⟩)
  have B2 := hid (HB1.out.trans (b2.mono HB1.out.size))
  have R2 := HR1.out.below b2
  have c0 := R2.c0
  have c1 := R2.c1
  have c2 := R2.c2
  have i2 := I2.out w2 B2.out
  clear b2 R2 i1 I2 HR1 HB1
  go_wp2_with (go_at_call 6; (with_reducible refine i2.mono ?_); rintro r w3 ⟨rfl, b3⟩; have B3 := hid (B2.out.trans (b3.mono B2.out.size)); clear b3)
  go_ret
  exact ⟨rfl, B3.out⟩
end Bat
end Go.Proofs.YtbodgecbakcaaaaGreatDoor

namespace Go.Proofs.YtbodgecbakcaaaaGreatDoor
open Go.RowKit Go.Shelf
namespace Bat
theorem step_append12 {P : Program} {ops : Array Oper} {o : Oper} {a : Act} {w : World} {K : Act → World → Prop} {Q : Exit → Act → World → Prop} {E : Prop}
    (hg : o.guard = none) (s x : Operand) (t : TypeId) (hop : o.op = Op.call { callee := Callee.builtin Builtin.append, args := #[s, x], argTypes := #[t, t] })
    (v1 v2 v' : Value) (w' : World) (hs : a.eval s = v1) (hx : a.eval x = v2) (hrun : (Builtin.append_ #[t, t] o.type #[v1, v2]).run P w = .ok v' w') (hK : K (a.put o.dst v') w') :
    if Region.wanted o (yielded ops a.tmps) = true then Oper.wp P o a w K Q else E := by
  have hw : Region.wanted o (yielded ops a.tmps) = true := by simp [Region.wanted, hg]
  rw [if_pos hw]
  unfold Oper.wp
  simp [execOp, hop, resolve, invoke, builtin, hs, hx, hrun, Result.andThen]
  exact hK
theorem step_call12 {P : Program} {ops : Array Oper} {o : Oper} {a : Act} {w : World} {K : Act → World → Prop} {Q : Exit → Act → World → Prop} {E : Prop}
    (hg : o.guard = none) (f : FuncId) (args : Array Value) (he : (execOp a.eval o).run P w = .ok (.enter f args) w)
    (R : Value → World → Prop) (hc : Calls P f args w fun e w' => ∃ v, e = .returned v ∧ R v w') (hK : ∀ v w', R v w' → K (a.put o.dst v) w') :
    if Region.wanted o (yielded ops a.tmps) = true then Oper.wp P o a w K Q else E := by
  have hw : Region.wanted o (yielded ops a.tmps) = true := by simp [Region.wanted, hg]
  rw [if_pos hw]
  unfold Oper.wp
  rw [he, Oper.upon_enter]
  refine hc.mono ?_
  rintro e w' ⟨v, rfl, h⟩
  exact hK v w' h
end Bat
end Go.Proofs.YtbodgecbakcaaaaGreatDoor
