import Derived.Test.YtbodgecbakcaaaaGreatDoorPkBA3
import Derived.Test.YtbodgecbakcaaaaGreatDoorPkSP18
import Derived.Test.YtbodgecbakcaaaaGreatDoorPkO23
/- Layer 12, the law: asks, from its first call on (written by genBA3.py) -/
namespace Go.Proofs.YtbodgecbakcaaaaGreatDoor
open Go.RowKit Go.Shelf
namespace Bat
noncomputable def asksT : Code := ((Tryz.f6.body.bind (fromX 22)).getD .skip)
set_option maxRecDepth 1000000 in
set_option maxHeartbeats 8000000 in
theorem asks_22 {w6 w8 : World} {n E z1 z2 z3 : Int} {nI nH nL gi gh gl gc gd cI c15 c16 : Nat} {aI a15 a16 : Option Addr} {TX RT BX : ByteArray} {ps : List (List (List UInt8))} (X : Ax w6 w8 n E z1 z2 z3 nI nH nL gi gh gl gc gd cI c15 c16 aI a15 a16 TX RT BX ps) (_hnL : nL ≤ 8796093021952) (aL : Option Addr) (cL N : Nat) (hN : ps.length = N) (u0 u3 u4 u5 u6 u7 u8 u10 u11 u12 u13 u14 u15 u19 u20 u21 u22 u23 u24 u25 u26 u27 u28 u29 u30 u31 u32 u33 u34 u35 u36 u37 u38 u39 u40 u41 u42 u43 u44 u45 u46 u47 u48 u49 u50 u51 u52 u53 u54 u55 u56 u57 u58 u59 u60 u61 u62 u63 u64 u65 u66 u67 u68 u69 u70 u71 u72 u73 u74 u75 u76 u77 u78 u79 u80 u81 u82 u83 u84 u85 u86 u87 u88 u89 u90 u91 u92 u93 u94 u95 u96 u97 u98 u99 u100 u101 u102 u103 u104 u105 u106 u107 u108 u109 u110 u111 u112 u113 u114 u115 u116 u117 u118 u119 u120 u121 u122 u123 u124 u125 u126 u127 u128 u129 u130 u131 u132 u133 u134 u135 u136 u137 u138 u139 u140 u141 u142 u143 u144 u145 u146 u147 u148 u149 u150 u151 u152 u153 u154 u155 u156 u157 u158 u159 u160 u161 u162 u163 u164 u165 u166 u167 u168 u169 u170 u171 u172 u173 u174 u175 u176 u177 u178 u179 u180 u181 u182 u183 u184 u185 u186 u187 u188 u189 u190 u191 u192 u193 u194 u195 u196 u197 u198 u199 u200 u201 u202 u203 u204 u205 u206 u207 u208 u209 u210 u211 u212 u213 u214 u215 u216 u217 u218 u219 u220 u221 u222 u223 u224 u225 u226 u227 u228 u229 u230 u231 u232 u233 u234 u235 u236 u237 u238 u239 u240 u241 u242 u243 u244 u245 u246 u247 u248 u249 u250 u251 u252 u253 u254 u255 u256 u257 u258 u259 u260 u261 u262 u263 u264 u265 u266 u267 u268 u269 u270 u271 u272 u273 u274 u275 u276 u277 u278 u279 u280 u281 : Value) (Q : Exit → Act → World → Prop)
    (hK : ∀ (ap : Option Addr) (cp : Nat) (aq : Option Addr) (cq : Nat) (c120 c121 c122 c123 c124 c125 c126 c127 c128 c129 c130 c131 c132 c133 c134 c135 c136 c137 c138 c139 c140 c141 c142 c143 c144 c145 c146 c147 c148 c149 c150 c151 c152 c153 c154 c155 c156 c157 c158 c159 c160 c161 c162 c163 c164 c165 c166 c167 c168 c169 c170 c171 c172 c173 c174 c175 c176 c177 c178 c179 c180 c181 c182 c183 c184 c185 c186 c187 c188 c189 c190 c191 c192 c193 c194 c195 c196 c197 c198 c199 c200 c201 c202 c203 c204 c205 c206 c207 c208 c209 c210 c211 c212 c213 c214 c215 c216 : Value) (w' : World), Below w8.heap.size w8 w' → LL w8.heap.size w' (.slice ap N cp) ps → LL w8.heap.size w' (.slice aq N cq) ps → Code.wp Tryz.prog asksB Q ⟨#[u0, .slice aL nL cL, .string RT, u3, u4, u5, u6, u7, u8, .slice (some ⟨gl, 0, none⟩) (nL + 8) (nL + 8), u10, u11, u12, u13, u14, u15, .slice a16 nL c16, .pointer (some ⟨gc, 0, none⟩), .pointer (some ⟨gd, 0, none⟩), .string TX, .int .i64 E, .string TX, .int .i64 E, .int .i64 z1, .int .i64 z2, .slice ap N cp, .int .i64 E, .slice aq N cq, .int .i64 E, .int .i64 z3, u30, u31, u32, u33, u34, u35, u36, u37, u38, u39, u40, u41, u42, u43, u44, u45, u46, u47, u48, u49, u50, u51, u52, u53, u54, u55, u56, u57, u58, u59, u60, u61, u62, u63, u64, u65, u66, u67, u68, u69, u70, u71, u72, u73, u74, u75, u76, u77, u78, u79, u80, u81, u82, u83, u84, u85, u86, u87, u88, u89, u90, u91, u92, u93, u94, u95, u96, u97, u98, u99, u100, u101, u102, u103, u104, u105, u106, u107, u108, u109, u110, u111, u112, u113, u114, u115, u116, u117, u118, u119, c120, c121, c122, c123, c124, c125, c126, c127, c128, c129, c130, c131, c132, c133, c134, c135, c136, c137, c138, c139, c140, c141, c142, c143, c144, c145, c146, c147, c148, c149, c150, c151, c152, c153, c154, c155, c156, c157, c158, c159, c160, c161, c162, c163, c164, c165, c166, c167, c168, c169, c170, c171, c172, c173, c174, c175, c176, c177, c178, c179, c180, c181, c182, c183, c184, c185, c186, c187, c188, c189, c190, c191, c192, c193, c194, c195, c196, c197, c198, c199, c200, c201, c202, c203, c204, c205, c206, c207, c208, c209, c210, c211, c212, c213, c214, c215, c216, u217, u218, u219, u220, u221, u222, u223, u224, u225, u226, u227, u228, u229, u230, u231, u232, u233, u234, u235, u236, u237, u238, u239, u240, u241, u242, u243, u244, u245, u246, u247, u248, u249, u250, u251, u252, u253, u254, u255, u256, u257, u258, u259, u260, u261, u262, u263, u264, u265, u266, u267, u268, u269, u270, u271, u272, u273, u274, u275, u276, u277, u278, u279, u280, u281], []⟩ w') :
    Code.wp Tryz.prog asksT Q ⟨#[u0, .slice aL nL cL, .string RT, u3, u4, u5, u6, u7, u8, .slice (some ⟨gl, 0, none⟩) (nL + 8) (nL + 8), u10, u11, u12, u13, u14, u15, .slice a16 nL c16, .pointer (some ⟨gc, 0, none⟩), .pointer (some ⟨gd, 0, none⟩), u19, u20, u21, u22, u23, u24, u25, u26, u27, u28, u29, u30, u31, u32, u33, u34, u35, u36, u37, u38, u39, u40, u41, u42, u43, u44, u45, u46, u47, u48, u49, u50, u51, u52, u53, u54, u55, u56, u57, u58, u59, u60, u61, u62, u63, u64, u65, u66, u67, u68, u69, u70, u71, u72, u73, u74, u75, u76, u77, u78, u79, u80, u81, u82, u83, u84, u85, u86, u87, u88, u89, u90, u91, u92, u93, u94, u95, u96, u97, u98, u99, u100, u101, u102, u103, u104, u105, u106, u107, u108, u109, u110, u111, u112, u113, u114, u115, u116, u117, u118, u119, u120, u121, u122, u123, u124, u125, u126, u127, u128, u129, u130, u131, u132, u133, u134, u135, u136, u137, u138, u139, u140, u141, u142, u143, u144, u145, u146, u147, u148, u149, u150, u151, u152, u153, u154, u155, u156, u157, u158, u159, u160, u161, u162, u163, u164, u165, u166, u167, u168, u169, u170, u171, u172, u173, u174, u175, u176, u177, u178, u179, u180, u181, u182, u183, u184, u185, u186, u187, u188, u189, u190, u191, u192, u193, u194, u195, u196, u197, u198, u199, u200, u201, u202, u203, u204, u205, u206, u207, u208, u209, u210, u211, u212, u213, u214, u215, u216, u217, u218, u219, u220, u221, u222, u223, u224, u225, u226, u227, u228, u229, u230, u231, u232, u233, u234, u235, u236, u237, u238, u239, u240, u241, u242, u243, u244, u245, u246, u247, u248, u249, u250, u251, u252, u253, u254, u255, u256, u257, u258, u259, u260, u261, u262, u263, u264, u265, u266, u267, u268, u269, u270, u271, u272, u273, u274, u275, u276, u277, u278, u279, u280, u281], []⟩ w8 := by
  conv => arg 2; whnf
  have HX := hid X
  have UP := hid X.up
  have MV := hid X.mv
  have iS := hid X.iS
  have iR := hid X.iR
  have iC1 := hid X.iC1
  have iC2 := hid X.iC2
  have iC3 := hid X.iC3
  have iE := hid X.iE
  have iF := hid X.iF
  have iB := hid X.iB
  have HK := hid hK
  have HN := hid hN
  clear X hK hN
  have y2 : (nL : Int) ≤ (nL : Int) + 8 := by omega
  have B0 := hid (Below.refl w8.heap.size w8)
  go_upto_region 22 with fail
  dsimp only
  go_cut [19, 20] from 120 to 216 (fun v19 v20 w' => (v19 = .string TX ∧ v20 = .int .i64 E) ∧ Hid (Below w8.heap.size w8 w'))
  case first =>
    have X0 := MV.out _ B0.out
    go_region_held3 (fun W => (W.cell? ⟨gc, 0, none⟩ = some (.int .i64 n) ∧ W.cell? ⟨gc, 1, none⟩ = some (.slice (some ⟨gi, 0, none⟩) nI (nI + 8)) ∧ W.cell? ⟨gc, 2, none⟩ = some (.slice (some ⟨gh, 0, none⟩) nH (nH + 8))) ∧ W.cell? ⟨gd, 0, none⟩ = some (.int .i64 n) ∧ W.cell? ⟨gd, 1, none⟩ = some (.slice aI nI cI) ∧ W.cell? ⟨gd, 2, none⟩ = some (.slice a15 nH c15)) (first | exact X0 | exact XX) (first
      | (go_at_call 19; (refine (iS.out _ (UP.out _ B0.out.drew)).mono ?_); rintro r wx ⟨rfl, bx⟩; have BX1 := hid (B0.out.drew.trans (bx.mono B0.out.drew.size)); have XX := MV.out _ BX1.out; clear bx))
    go_wp2
    go_meet
    exact ⟨⟨rfl, rfl⟩, BX1⟩
  case rest =>
    revert wc
    intro w9 hcut
    obtain ⟨⟨rfl, rfl⟩, B9⟩ := hcut
    obtain ⟨⟨c0, c1, c2⟩, d0, d1, d2⟩ := MV.out _ B9.out
    go_upto_region 24 with (go_at_call 20; (with_reducible refine (iR.out _ (UP.out _ B9.out)).mono ?_); rintro r w10 ⟨rfl, b10⟩)
    have B10 := hid (B9.out.trans (b10.mono B9.out.size))
    clear b10 c0 c1 c2 d0 d1 d2 B9
    go_cut [23] from 120 to 216 (fun v23 w' => v23 = .int .i64 z1 ∧ Hid (Below w8.heap.size w8 w'))
    case first =>
      have X0 := MV.out _ B10.out
      go_region_held3 (fun W => (W.cell? ⟨gc, 0, none⟩ = some (.int .i64 n) ∧ W.cell? ⟨gc, 1, none⟩ = some (.slice (some ⟨gi, 0, none⟩) nI (nI + 8)) ∧ W.cell? ⟨gc, 2, none⟩ = some (.slice (some ⟨gh, 0, none⟩) nH (nH + 8))) ∧ W.cell? ⟨gd, 0, none⟩ = some (.int .i64 n) ∧ W.cell? ⟨gd, 1, none⟩ = some (.slice aI nI cI) ∧ W.cell? ⟨gd, 2, none⟩ = some (.slice a15 nH c15)) (first | exact X0 | exact XX) (first
        | (go_at_call 16; (refine (iC1.out _ (UP.out _ B10.out.drew)).mono ?_); rintro r wx ⟨rfl, bx⟩; have BX1 := hid (B10.out.drew.trans (bx.mono B10.out.drew.size)); have XX := MV.out _ BX1.out; clear bx))
      go_wp2
      go_meet
      exact ⟨rfl, BX1⟩
    case rest =>
      revert wc
      intro w11 hcut
      obtain ⟨rfl, B11⟩ := hcut
      go_upto_region 25 with fail
      go_cut [24] from 120 to 216 (fun v24 w' => v24 = .int .i64 z2 ∧ Hid (Below w8.heap.size w8 w'))
      case first =>
        have X0 := MV.out _ B11.out
        go_region_held3 (fun W => (W.cell? ⟨gc, 0, none⟩ = some (.int .i64 n) ∧ W.cell? ⟨gc, 1, none⟩ = some (.slice (some ⟨gi, 0, none⟩) nI (nI + 8)) ∧ W.cell? ⟨gc, 2, none⟩ = some (.slice (some ⟨gh, 0, none⟩) nH (nH + 8))) ∧ W.cell? ⟨gd, 0, none⟩ = some (.int .i64 n) ∧ W.cell? ⟨gd, 1, none⟩ = some (.slice aI nI cI) ∧ W.cell? ⟨gd, 2, none⟩ = some (.slice a15 nH c15)) (first | exact X0 | exact XX) (first
          | (go_at_call 16; (refine (iC2.out _ (UP.out _ B11.out.drew)).mono ?_); rintro r wx ⟨rfl, bx⟩; have BX1 := hid (B11.out.drew.trans (bx.mono B11.out.drew.size)); have XX := MV.out _ BX1.out; clear bx))
        go_wp2
        go_meet
        exact ⟨rfl, BX1⟩
      case rest =>
        revert wc
        intro w12 hcut
        obtain ⟨rfl, B12⟩ := hcut
        go_upto_region 26 with fail
        go_cut [25, 26] from 120 to 216 (fun v25 v26 w' => ((∃ ap cp, v25 = .slice ap N cp) ∧ v26 = .int .i64 E ∧ Hid (LL w8.heap.size w' v25 ps)) ∧ Hid (Below w8.heap.size w8 w'))
        case first =>
          have X0 := MV.out _ B12.out
          go_region_held3 (fun W => (W.cell? ⟨gc, 0, none⟩ = some (.int .i64 n) ∧ W.cell? ⟨gc, 1, none⟩ = some (.slice (some ⟨gi, 0, none⟩) nI (nI + 8)) ∧ W.cell? ⟨gc, 2, none⟩ = some (.slice (some ⟨gh, 0, none⟩) nH (nH + 8))) ∧ W.cell? ⟨gd, 0, none⟩ = some (.int .i64 n) ∧ W.cell? ⟨gd, 1, none⟩ = some (.slice aI nI cI) ∧ W.cell? ⟨gd, 2, none⟩ = some (.slice a15 nH c15)) (first | exact X0 | exact XX) (first
            | (go_at_call 14; (refine (iE.out _ (UP.out _ B12.out.drew)).mono ?_); rintro r wx ⟨vx, rfl, lx, bx⟩; have hsx := lx.shape; rw [HN.out] at hsx; have LX := hid (lx.mono B12.out.drew.size); have BX1 := hid (B12.out.drew.trans (bx.mono B12.out.drew.size)); have XX := MV.out _ BX1.out; clear bx lx))
          go_wp2
          go_meet
          exact ⟨⟨hsx, rfl, LX⟩, BX1⟩
        case rest =>
          revert wc
          intro w13 hcut
          obtain ⟨⟨⟨ap, cp, rfl⟩, rfl, L13⟩, B13⟩ := hcut
          obtain ⟨⟨c0, c1, c2⟩, d0, d1, d2⟩ := MV.out _ B13.out
          go_upto_region 28 with (go_at_call 21; (with_reducible refine (iF.out _ (UP.out _ B13.out)).mono ?_); rintro r w14 ⟨vx, rfl, lx, b14⟩; obtain ⟨aq, cq, rfl⟩ := lx.shape; rw [HN.out] at lx ⊢)
          have L14 := hid (L13.out.below b14)
          have M14 := hid (lx.mono B13.out.size)
          have B14 := hid (B13.out.trans (b14.mono B13.out.size))
          clear b14 c0 c1 c2 d0 d1 d2 B13 lx L13
          go_cut [29] from 120 to 216 (fun v29 w' => (v29 = .int .i64 z3 ∧ Hid (LL w8.heap.size w' (.slice ap N cp) ps) ∧ Hid (LL w8.heap.size w' (.slice aq N cq) ps)) ∧ Hid (Below w8.heap.size w8 w'))
          case first =>
            have X0 := MV.out _ B14.out
            go_region_held3 (fun W => (W.cell? ⟨gc, 0, none⟩ = some (.int .i64 n) ∧ W.cell? ⟨gc, 1, none⟩ = some (.slice (some ⟨gi, 0, none⟩) nI (nI + 8)) ∧ W.cell? ⟨gc, 2, none⟩ = some (.slice (some ⟨gh, 0, none⟩) nH (nH + 8))) ∧ W.cell? ⟨gd, 0, none⟩ = some (.int .i64 n) ∧ W.cell? ⟨gd, 1, none⟩ = some (.slice aI nI cI) ∧ W.cell? ⟨gd, 2, none⟩ = some (.slice a15 nH c15)) (first | exact X0 | exact XX | exact XY) (first
              | (go_at_call 22; (refine (iB.out _).mono ?_); rintro r wy ⟨rfl, by_⟩; have BY := hid (B14.out.drew.trans (by_.mono B14.out.drew.size)); have XY := MV.out _ BY.out)
              | (go_at_call 16; (refine (iC3.out _ (UP.out _ BY.out)).mono ?_); rintro r wx ⟨rfl, bx⟩; have BZ := (Below.refl _ _).drew.trans (by_.trans (bx.mono by_.size)); have BX1 := hid (BY.out.trans (bx.mono BY.out.size)); have XX := MV.out _ BX1.out))
            go_wp2
            go_meet
            exact ⟨⟨rfl, hid (L14.out.below BZ), hid (M14.out.below BZ)⟩, BX1⟩
          case rest =>
            revert wc
            intro w15 hcut
            obtain ⟨⟨rfl, L15, M15⟩, B15⟩ := hcut
            clear L14 M14
            go_upto_region 29 with fail
            refine wpx_normal (asks_29 HX.out B15.out _ _ _ _ _ _ _ _ _ _ _ _ _ _ _ _ _ _ _ _ _ _ _ _ _ _ _ _ _ _ _ _ _ _ _ _ _ _ _ _ _ _ _ _ _ _ _ _ _ _ _ _ _ _ _ _ _ _ _ _ _ _ _ _ _ _ _ _ _ _ _ _ _ _ _ _ _ _ _ _ _ _ _ _ _ _ _ _ _ _ _ _ _ _ _ _ _ _ _ _ _ _ _ _ _ _ _ _ _ _ _ _ _ _ _ _ _ _ _ _ _ _ _ _ _ _ _ _ _ _ _ _ _ _ _ _ _ _ _ _ _ _ _ _ _ _ _ _ _ _ _ _ _ _ _ _ _ _ _ _ _ _ _ _ _ _ _ _ _ _ _ _ _ _ _ _ _ _ _ _ _ _ _ _ _ _ _ _ _ _ _ _ _ _ _ _ _ _ _ _ _ _ _ _ _ _ _ _ _ _ _ _ _ _ _ _ _ _ _ _ _ _ _ _ _ _ _ _ _ _ _ _ _ _ _ _ _ _ _ _ _ _ _ _ _ _ _ _ _ _ _ _ _ _ _ _ _ _ _ _ _ _ _ _ _ _ _ _ _ ?_)
            intro _ _ _ _ _ _ _ _ _ _ _ _ _ _ _ _ _ _ _ _ _ _ _ _ _ _ _ _ _ _ _ _ _ _ _ _ _ _ _ _ _ _ _ _ wE bE
            have LE := hid (L15.out.below bE)
            have ME := hid (M15.out.below bE)
            have BE := hid (B15.out.trans (bE.mono B15.out.size))
            clear bE L15 M15 B15
            go_step
            go_step
            go_step
            go_step
            go_step
            go_step
            exact HK.out ap cp aq cq _ _ _ _ _ _ _ _ _ _ _ _ _ _ _ _ _ _ _ _ _ _ _ _ _ _ _ _ _ _ _ _ _ _ _ _ _ _ _ _ _ _ _ _ _ _ _ _ _ _ _ _ _ _ _ _ _ _ _ _ _ _ _ _ _ _ _ _ _ _ _ _ _ _ _ _ _ _ _ _ _ _ _ _ _ _ _ _ _ _ _ _ _ _ _ _ _ _ BE.out LE.out ME.out
end Bat
end Go.Proofs.YtbodgecbakcaaaaGreatDoor

/- THE PLAIN MATHEMATICS OF LAYER 12: counts, and going up -/
namespace Go.Proofs.YtbodgecbakcaaaaGreatDoor
namespace Bat
open Tree
theorem D_dg {n : Nat} (h1 : 1 ≤ n) : (D n 0).length = dg (n - 1) := by
  by_cases h : n = 1
  · subst h; rw [D_one 0 (by omega)]; simp [dg]
  · have hne : n - 1 ≠ 0 := by omega
    have e1 := Nat.log2_self_le hne
    have e2 := Nat.lt_log2_self (n := n - 1)
    rw [D_zero (n - 1).log2 n (by omega) (by omega)]
    unfold dg
    rw [if_neg hne]
theorem wit_allM {is : List Nat} {n : Nat} (h : ∀ i ∈ is, i < n) : wit is 0 n = is := by
  unfold wit
  rw [List.filter_eq_self]
  intro i hi
  simp [h i hi]
theorem told_few {is : List Nat} {n : Nat} (h1 : 1 ≤ n) (hp : is.Pairwise (· < ·)) (hi : ∀ i ∈ is, i < n) (h0 : is ≠ []) : (othF n 0 n is).length + is.length ≤ n ∧ (othF n 0 n is).length ≤ is.length * dg (n - 1) := by
  have hw := wit_allM hi
  have c1 := oth_count is (hp.imp fun h => by omega) n 0 n (Nat.le_refl _) h1
  obtain ⟨i, hm⟩ := List.exists_mem_of_ne_nil _ h0
  have c2 := oth_most is n 0 n (Nat.le_refl _) h1 (tch_mem.2 ⟨i, hm, by omega, by have := hi i hm; omega⟩)
  rw [Nat.zero_add, hw] at c1 c2
  rw [D_dg h1] at c2
  exact ⟨c1, c2⟩
theorem up_val {is : List Nat} {val : Nat × Nat → T} (hv : ∀ b m, 2 ≤ m → tch is b (b + m) = true → val (b, b + m) = nd (val (b, b + sp m)) (val (b + sp m, b + m))) {i : Nat} (hi : i ∈ is) :
    ∀ (f b m : Nat), 1 ≤ m → m ≤ f → b ≤ i → i < b + m → Tree.upd (val (i, i + 1)) (D m (i - b)) ((pthF f b m i).map val) = val (b, b + m)
  | 0, b, m, h1, h2, _, _ => by omega
  | f + 1, b, m, h1, h2, hb, hbm => by
    by_cases hm : m < 2
    · obtain rfl : m = 1 := by omega
      obtain rfl : i = b := by omega
      rw [pthF_small (by omega), D_one _ (by omega)]
      rfl
    · have s1 := sp_lt (n := m) (by omega)
      have s2 := sp_pos (n := m) (by omega)
      have htc : tch is b (b + m) = true := tch_mem.2 ⟨i, hi, hb, hbm⟩
      rw [hv b m (by omega) htc]
      by_cases hl : i < b + sp m
      · rw [pthF_left (by omega) hl, D_left (by omega) (by omega), List.map_append, List.map_singleton, upd_snoc _ _ _ _ _ (by rw [List.length_map, pthF_len f b (sp m) i (by omega) hb]), up_val hv hi f b (sp m) (by omega) (by omega) hb hl]
        rfl
      · have ih := up_val hv hi f (b + sp m) (m - sp m) (by omega) (by omega) (by omega) (by omega)
        rw [show b + sp m + (m - sp m) = b + m by omega, show i - (b + sp m) = i - b - sp m by omega] at ih
        rw [pthF_right (by omega) hl, D_right (by omega) (by omega), List.map_append, List.map_singleton, upd_snoc _ _ _ _ _ (by rw [List.length_map, pthF_len f (b + sp m) (m - sp m) i (by omega) (by omega), show i - (b + sp m) = i - b - sp m by omega]), ih]
        rfl
structure Cls (is : List Nat) (n : Nat) (p : Nat × Nat → Prop) : Prop where
  nn : ∀ b m, 2 ≤ m → tch is b (b + m) = true → p (b, b + sp m) → p (b + sp m, b + m) → p (b, b + m)
  tt : ∀ s ∈ othF n 0 n is, p s
  ll : ∀ i ∈ is, p (i, i + 1)
theorem Cls.down {is : List Nat} {n : Nat} {p : Nat × Nat → Prop} (h : Cls is n p) : ∀ (f b m : Nat), 1 ≤ m → m ≤ f → (∀ s ∈ othF f b m is, p s) → p (b, b + m)
  | 0, b, m, h1, h2, _ => by omega
  | f + 1, b, m, h1, h2, ho => by
    cases ht : tch is b (b + m) with
    | false => exact ho _ (by rw [othF_no ht]; exact List.mem_singleton.2 rfl)
    | true =>
      by_cases hm : m < 2
      · obtain rfl : m = 1 := by omega
        obtain ⟨i, hi, h4, h5⟩ := tch_mem.1 ht
        obtain rfl : i = b := by omega
        exact h.ll i hi
      · have s1 := sp_lt (n := m) (by omega)
        have s2 := sp_pos (n := m) (by omega)
        rw [othF_two ht (by omega)] at ho
        have q2 := h.down f (b + sp m) (m - sp m) (by omega) (by omega) (fun s hs => ho s (List.mem_append_right _ hs))
        rw [show b + sp m + (m - sp m) = b + m by omega] at q2
        exact h.nn b m (by omega) ht (h.down f b (sp m) (by omega) (by omega) (fun s hs => ho s (List.mem_append_left _ hs))) q2
end Bat
end Go.Proofs.YtbodgecbakcaaaaGreatDoor

/- Layer 12, the law: asks: a turn (written by genBA6.py) -/
namespace Go.Proofs.YtbodgecbakcaaaaGreatDoor
open Go.RowKit Go.Shelf
namespace Bat
theorem val_len12 {val : Nat × Nat → List UInt8} {is : List Nat} {m : Nat} {H L : List (List UInt8)} (V : Val is m H L val) (hm : 1 ≤ m) (h1 : hsB8 H = true) (h2 : hsB8 L = true) : (val (0, m)).length = 32 := by
  have e : ∀ {l : List (List UInt8)}, hsB8 l = true → ∀ x ∈ l, x.length = 32 := fun {l} h x hx => by
    unfold hsB8 at h
    have := List.all_eq_true.1 h _ hx
    simpa using this
  have C : Cls is m (fun s => (val s).length = 32) := ⟨fun b m h2 ht p1 p2 => by rw [V.n b m h2 ht]; exact Tree.nd_length p1 p2, fun s hs => e h1 _ (by rw [V.h]; exact List.mem_map.2 ⟨s, hs, rfl⟩), fun i hi => e h2 _ (by rw [V.l]; exact List.mem_map.2 ⟨i, hi, rfl⟩)⟩
  have r32 := C.down m 0 m hm (Nat.le_refl _) C.tt
  rwa [Nat.zero_add] at r32
theorem An.t_len {n : Int} {cs : List Int} {H L : List (List UInt8)} {t : List UInt8} {ps : List (List (List UInt8))} (a : An n cs H L t ps) : t.length ≤ 4611686018427387904 := by
  by_cases h : knE n cs H L = 0
  · obtain ⟨m, is, val, rfl, rfl, hb, V, x1, x2, rfl, rfl⟩ := a.ok h
    have n1 := hb.n1
    have := val_len12 V (by omega) x1 x2
    omega
  · rw [(a.bad h).1]
    exact Nat.zero_le _
noncomputable def asksM : Code := ((Tryz.f6.body.bind (fromX 18)).getD .skip)
set_option maxRecDepth 1000000 in
set_option maxHeartbeats 8000000 in
theorem asks_18 {w wa : World} {q gi gh gl X : Nat} {n : Int} {cs : List Int} {aI aH : Option Addr} {nI nH nL cI cH : Nat} (S : Sa w wa q gi gh gl X n cs aI aH nI nH nL cI cH) {vf vw : Value} {us cc : List Value} {Ls : List (List (List UInt8))} {oa : Option Addr} {on oc : Nat} {ns : List Value} {Is : List (List Value)} (cx : Cx wa X vf vw us cc Ls (.slice oa on oc) ns Is)
    (hnI : nI ≤ 17592186043904) (hnH : nH ≤ 8796093021952) (hnL : nL ≤ 8796093021952) (hic : ∀ c ∈ cs, -9223372036854775808 ≤ c ∧ c ≤ 9223372036854775807) (hI : cs.length = nI) (hAI : AtI w aI cs) (Z : Tabs w) {rt : List UInt8} {RT : ByteArray} (hRT : (ByteArray.mk rt.toArray) = RT) (hul : us.length ≤ 768) (hnl : ns.length ≤ 1000) (aL : Option Addr) (cL : Nat) (u0 u4 u5 u6 u12 u13 u14 u15 u16 u17 u18 u19 u20 u21 u22 u23 u24 u25 u26 u27 u28 u29 u30 u31 u32 u33 u34 u35 u36 u37 u38 u39 u40 u41 u42 u43 u44 u45 u46 u47 u48 u49 u50 u51 u52 u53 u54 u55 u56 u57 u58 u59 u60 u61 u62 u63 u64 u65 u66 u67 u68 u69 u70 u71 u72 u73 u74 u75 u76 u77 u78 u79 u80 u81 u82 u83 u84 u85 u86 u87 u88 u89 u90 u91 u92 u93 u94 u95 u96 u97 u98 u99 u100 u101 u102 u103 u104 u105 u106 u107 u108 u109 u110 u111 u112 u113 u114 u115 u116 u117 u118 u119 u120 u121 u122 u123 u124 u125 u126 u127 u128 u129 u130 u131 u132 u133 u134 u135 u136 u137 u138 u139 u140 u141 u142 u143 u144 u145 u146 u147 u148 u149 u150 u151 u152 u153 u154 u155 u156 u157 u158 u159 u160 u161 u162 u163 u164 u165 u166 u167 u168 u169 u170 u171 u172 u173 u174 u175 u176 u177 u178 u179 u180 u181 u182 u183 u184 u185 u186 u187 u188 u189 u190 u191 u192 u193 u194 u195 u196 u197 u198 u199 u200 u201 u202 u203 u204 u205 u206 u207 u208 u209 u210 u211 u212 u213 u214 u215 u216 u217 u218 u219 u220 u221 u222 u223 u224 u225 u226 u227 u228 u229 u230 u231 u232 u233 u234 u235 u236 u237 u238 u239 u240 u241 u242 u243 u244 u245 u246 u247 u248 u249 u250 u251 u252 u253 u254 u255 u256 u257 u258 u259 u260 u261 u262 u263 u264 u265 u266 u267 u268 u269 u270 u271 u272 u273 u274 u275 u276 u277 u278 u279 u280 u281 : Value) (Q : Exit → Act → World → Prop)
    (hQ : ∀ (vo1 c6 c15 c16 c17 c18 c19 c20 c21 c22 c23 c24 c25 c26 c27 c28 c29 c30 c31 c32 c33 c34 c90 c91 c92 c93 c94 c95 c96 c97 c98 c99 c100 c101 c102 c103 c104 c105 c106 c107 c108 c109 c110 c111 c112 c113 c114 c115 c116 c117 c118 c119 c120 c121 c122 c123 c124 c125 c126 c127 c128 c129 c130 c131 c132 c133 c134 c135 c136 c137 c138 c139 c140 c141 c142 c143 c144 c145 c146 c147 c148 c149 c150 c151 c152 c153 c154 c155 c156 c157 c158 c159 c160 c161 c162 c163 c164 c165 c166 c167 c168 c169 c170 c171 c172 c173 c174 c175 c176 c177 c178 c179 c180 c181 c182 c183 c184 c185 c186 c187 c188 c189 c190 c191 c192 c193 c194 c195 c196 c197 c198 c199 c200 c201 c202 c203 c204 c205 c206 c207 c208 c209 c210 c211 c212 c213 c214 c215 c216 c217 c218 c219 c220 c221 c222 c223 c224 c225 c226 c227 c228 c229 c230 c231 c232 c233 c234 c235 c236 c237 c238 c239 c240 c241 c242 c243 c244 c245 c246 c247 c248 c249 c250 c251 c252 c253 c254 c255 c256 c257 c258 c259 c260 c261 c262 c263 : Value) (w' : World) (vf' vw' : Value) (us' cc' : List Value) (Ls' : List (List (List UInt8))) (ns' : List Value) (Is' : List (List Value)), Sa w w' q gi gh gl X n cs aI aH nI nH nL cI cH → Cx w' X vf' vw' us' cc' Ls' vo1 ns' Is' → us'.length ≤ us.length + 256 → ns'.length = ns.length + 1 → Q .normal ⟨#[u0, .slice aL nL cL, .string RT, .pointer (some ⟨q, 0, none⟩), u4, u5, c6, .slice (some ⟨gi, 0, none⟩) (nI + 8) (nI + 8), .slice (some ⟨gh, 0, none⟩) (nH + 8) (nH + 8), .slice (some ⟨gl, 0, none⟩) (nL + 8) (nL + 8), .pointer (some ⟨X, 0, none⟩), vo1, u12, u13, u14, c15, c16, c17, c18, c19, c20, c21, c22, c23, c24, c25, c26, c27, c28, c29, c30, c31, c32, c33, c34, u35, u36, u37, u38, u39, u40, u41, u42, u43, u44, u45, u46, u47, u48, u49, u50, u51, u52, u53, u54, u55, u56, u57, u58, u59, u60, u61, u62, u63, u64, u65, u66, u67, u68, u69, u70, u71, u72, u73, u74, u75, u76, u77, u78, u79, u80, u81, u82, u83, u84, u85, u86, u87, u88, u89, c90, c91, c92, c93, c94, c95, c96, c97, c98, c99, c100, c101, c102, c103, c104, c105, c106, c107, c108, c109, c110, c111, c112, c113, c114, c115, c116, c117, c118, c119, c120, c121, c122, c123, c124, c125, c126, c127, c128, c129, c130, c131, c132, c133, c134, c135, c136, c137, c138, c139, c140, c141, c142, c143, c144, c145, c146, c147, c148, c149, c150, c151, c152, c153, c154, c155, c156, c157, c158, c159, c160, c161, c162, c163, c164, c165, c166, c167, c168, c169, c170, c171, c172, c173, c174, c175, c176, c177, c178, c179, c180, c181, c182, c183, c184, c185, c186, c187, c188, c189, c190, c191, c192, c193, c194, c195, c196, c197, c198, c199, c200, c201, c202, c203, c204, c205, c206, c207, c208, c209, c210, c211, c212, c213, c214, c215, c216, c217, c218, c219, c220, c221, c222, c223, c224, c225, c226, c227, c228, c229, c230, c231, c232, c233, c234, c235, c236, c237, c238, c239, c240, c241, c242, c243, c244, c245, c246, c247, c248, c249, c250, c251, c252, c253, c254, c255, c256, c257, c258, c259, c260, c261, c262, c263, u264, u265, u266, u267, u268, u269, u270, u271, u272, u273, u274, u275, u276, u277, u278, u279, u280, u281], []⟩ w') :
    Code.wp Tryz.prog asksM Q ⟨#[u0, .slice aL nL cL, .string RT, .pointer (some ⟨q, 0, none⟩), u4, u5, u6, .slice (some ⟨gi, 0, none⟩) (nI + 8) (nI + 8), .slice (some ⟨gh, 0, none⟩) (nH + 8) (nH + 8), .slice (some ⟨gl, 0, none⟩) (nL + 8) (nL + 8), .pointer (some ⟨X, 0, none⟩), .slice oa on oc, u12, u13, u14, u15, u16, u17, u18, u19, u20, u21, u22, u23, u24, u25, u26, u27, u28, u29, u30, u31, u32, u33, u34, u35, u36, u37, u38, u39, u40, u41, u42, u43, u44, u45, u46, u47, u48, u49, u50, u51, u52, u53, u54, u55, u56, u57, u58, u59, u60, u61, u62, u63, u64, u65, u66, u67, u68, u69, u70, u71, u72, u73, u74, u75, u76, u77, u78, u79, u80, u81, u82, u83, u84, u85, u86, u87, u88, u89, u90, u91, u92, u93, u94, u95, u96, u97, u98, u99, u100, u101, u102, u103, u104, u105, u106, u107, u108, u109, u110, u111, u112, u113, u114, u115, u116, u117, u118, u119, u120, u121, u122, u123, u124, u125, u126, u127, u128, u129, u130, u131, u132, u133, u134, u135, u136, u137, u138, u139, u140, u141, u142, u143, u144, u145, u146, u147, u148, u149, u150, u151, u152, u153, u154, u155, u156, u157, u158, u159, u160, u161, u162, u163, u164, u165, u166, u167, u168, u169, u170, u171, u172, u173, u174, u175, u176, u177, u178, u179, u180, u181, u182, u183, u184, u185, u186, u187, u188, u189, u190, u191, u192, u193, u194, u195, u196, u197, u198, u199, u200, u201, u202, u203, u204, u205, u206, u207, u208, u209, u210, u211, u212, u213, u214, u215, u216, u217, u218, u219, u220, u221, u222, u223, u224, u225, u226, u227, u228, u229, u230, u231, u232, u233, u234, u235, u236, u237, u238, u239, u240, u241, u242, u243, u244, u245, u246, u247, u248, u249, u250, u251, u252, u253, u254, u255, u256, u257, u258, u259, u260, u261, u262, u263, u264, u265, u266, u267, u268, u269, u270, u271, u272, u273, u274, u275, u276, u277, u278, u279, u280, u281], []⟩ wa := by
  conv => arg 2; whnf
  have ST := hid S
  have CT := hid cx
  have HIC := hid hic
  have HnI := hid hI
  have HAI := hid hAI
  have HZ := hid Z
  have HRT := hid hRT
  have HQQ := hid hQ
  clear S cx hic hI hAI Z hRT hQ
  obtain ⟨A, C, a1, a2, R1, R2⟩ := ST.out.tw.ex
  have Ah := row_at R1
  have Al := row_at R2
  obtain ⟨v15, w5, hap5, O5, b5⟩ := append_at wa (some ⟨gh, 0, none⟩) (nH + 8) A Ah (by omega)
  obtain ⟨a15, c15, rfl, AT5, q1, q2, _⟩ := own_at12 O5
  have Al5 := Al.below b5 (Nat.le_refl _)
  obtain ⟨v16, w6, hap6, O6, b6⟩ := append_at w5 (some ⟨gl, 0, none⟩) (nL + 8) C Al5 (by omega)
  obtain ⟨a16, c16, rfl, AT6, q3, q4, _⟩ := own_at12 O6
  have z5 := b5.size
  have z6 := b6.size
  have bw6 : Below wa.heap.size wa w6 := b5.trans (b6.mono z5)
  have S5 := ST.out.below b5
  have S6 := ST.out.below bw6
  have C6 := CT.out.below bw6
  have oh := own_m1 (O5.below b6 (Nat.le_refl _))
  have om := own_m1 O6
  rw [svs_length] at oh om
  have fh : Fv X vf vw us cc (.slice oa on oc) ns (.slice a15 A.length c15) := CT.out.fresh fun k hk => O5.ge k hk
  have fm : Fv X vf vw us cc (.slice oa on oc) ns (.slice a16 C.length c16) := CT.out.fresh fun k hk => Nat.le_trans z5 (O6.ge k hk)
  obtain ⟨tx, ps, htx⟩ := an12 n cs A C
  have Ah6 := Ah.below bw6 (Nat.le_refl _)
  have Al6 := Al.below bw6 (Nat.le_refl _)
  have A5 := AT5.below b6 (Nat.le_refl _)
  have AI6 : AtI w6 aI cs := HAI.out.below S6.tw.bl (Nat.le_refl _)
  have AG6 : AtI w6 (some ⟨gi, 0, none⟩) cs := fun j p hp => S6.row.at j p (by rw [List.getElem?_append_left (List.getElem?_eq_some_iff.1 hp).1]; exact hp)
  have Z6 : Tabs w6 := HZ.out.below S6.tw.bl HZ.out.lt
  have htl := htx.t_len
  have few := htx.ps_few
  have AC : Ar w6 n cs A C (some ⟨gi, 0, none⟩) (some ⟨gh, 0, none⟩) (some ⟨gl, 0, none⟩) (nH + 8) (nL + 8) := ⟨by rw [HnI.out]; omega, HIC.out, by omega, by omega, by omega, by omega, AG6, Ah6, Al6⟩
  have AD : Ar w6 n cs A C aI a15 a16 c15 c16 := ⟨by rw [HnI.out]; omega, HIC.out, q1, q2, q3, q4, AI6, A5, AT6⟩
  have iB := hid fun (w' : World) => bent12_any tx htl w'
  have iS := hid fun (w' : World) (hb : Below w6.heap.size w6 w') => root12_an (AC.below hb) htx (Z6.below hb Z6.lt) (nI + 8)
  have iR := hid fun (w' : World) (hb : Below w6.heap.size w6 w') => rroot12_an (AD.below hb) htx cI
  have iE := hid fun (w' : World) (hb : Below w6.heap.size w6 w') => expand12_an (AC.below hb) htx (Z6.below hb Z6.lt) (nI + 8)
  have iF := hid fun (w' : World) (hb : Below w6.heap.size w6 w') => rexpand12_an (AD.below hb) htx cI
  have iSc := hid fun (r : List UInt8) (w' : World) (hb : Below w6.heap.size w6 w') => check12_an (AC.below hb) htx (Z6.below hb Z6.lt) (nI + 8) r
  have iRc := hid fun (r : List UInt8) (w' : World) (hb : Below w6.heap.size w6 w') => rcheck12_an (AD.below hb) htx cI r
  rw [HnI.out, a1, a2] at iS iR iE iF iSc iRc
  rw [a1] at hap5
  rw [a2] at hap6
  have iC1 := hid fun w' hb => iSc.out rt w' hb
  have iC2 := hid fun w' hb => iSc.out tx w' hb
  have iC3 := hid fun w' hb => iSc.out (bnt tx) w' hb
  have iD1 := hid fun w' hb => iRc.out rt w' hb
  have iD2 := hid fun w' hb => iRc.out tx w' hb
  have iD3 := hid fun w' hb => iRc.out (bnt tx) w' hb
  have RA6 := hid (R1.below bw6 R1.lt)
  have RC6 := hid (R2.below bw6 R2.lt)
  have HA := hid a1
  have HC := hid a2
  have oh' : Hid (OwnM 1 w6 (.slice a15 nH c15) A.length (svs A)) := by rw [← a1]; exact oh
  have om' : Hid (OwnM 1 w6 (.slice a16 nL c16) C.length (svs C)) := by rw [← a2]; exact om
  have fh' : Hid (Fv X vf vw us cc (.slice oa on oc) ns (.slice a15 nH c15)) := by rw [← a1]; exact fh
  have fm' : Hid (Fv X vf vw us cc (.slice oa on oc) ns (.slice a16 nL c16)) := by rw [← a2]; exact fm
  have few' := hid few
  clear iSc iRc AC AD
  generalize knE n cs A C = E at *
  generalize ckE n cs A C tx rt = z1' at *
  generalize ckE n cs A C tx tx = z2' at *
  generalize ckE n cs A C tx (bnt tx) = z3' at *
  rw [show sv tx = Value.string ⟨tx.toArray⟩ from rfl] at iS iR iC2 iD2 iB
  rw [show sv rt = Value.string ⟨rt.toArray⟩ from rfl, HRT.out] at iC1 iD1
  rw [show sv (bnt tx) = Value.string ⟨(bnt tx).toArray⟩ from rfl] at iC3 iD3 iB
  generalize (ByteArray.mk (bnt tx).toArray) = BX at *
  generalize (ByteArray.mk tx.toArray) = TX at *
  obtain ⟨N, hN⟩ : ∃ N, ps.length = N := ⟨_, rfl⟩
  have HN := hid hN
  have HS6 := hid S6
  have HC6 := hid C6
  have y0 : (nI : Int) ≤ (nI : Int) + 8 := by omega
  have y1 : (nH : Int) ≤ (nH : Int) + 8 := by omega
  have y2 : (nL : Int) ≤ (nL : Int) + 8 := by omega
  have g3 := ST.out.bt.c2
  clear R1 R2 Ah Al O5 b5 Al5 O6 b6 z5 z6 S5 Ah6 Al6 A5 AT5 AT6 Z6 ST CT htx q1 q2 q3 q4 htl a1 a2 few S6 C6 oh om fh fm AI6 AG6 hN
  go_upto_region 20 with (first | ((with_reducible show wpList _ _ _ (Oper.mk _ (Op.call { callee := Callee.builtin Builtin.append, args := _, argTypes := #[23, 23] }) _ _ _ _ :: _) _ _); (refine Lib.wpList_append_run _ rfl _ _ 23 23 rfl _ _ rfl rfl _ _ hap5 ?_); clear hap5) | ((with_reducible show wpList _ _ _ (Oper.mk _ (Op.call { callee := Callee.builtin Builtin.append, args := _, argTypes := #[23, 23] }) _ _ _ _ :: _) _ _); (refine Lib.wpList_append_run _ rfl _ _ 23 23 rfl _ _ rfl rfl _ _ hap6 ?_); clear hap6))
  clear g3
  obtain ⟨gc, hgc⟩ : ∃ gc, w6.heap.size = gc := ⟨_, rfl⟩
  have HGC := hid hgc
  clear hgc
  go_cut [17] from 101 to 113 (fun v17 w' => v17 = .pointer (some ⟨gc, 0, none⟩) ∧ Hid (BtI w' gc n (.slice (some ⟨gi, 0, none⟩) nI (nI + 8)) (.slice (some ⟨gh, 0, none⟩) nH (nH + 8))) ∧ Hid (Below w6.heap.size w6 w'))
  case first =>
    have MK : Hid (∀ w', Below w6.heap.size w6 w' → w'.cell? ⟨q, 0, none⟩ = some (.int .i64 n) ∧ w'.cell? ⟨q, 1, none⟩ = some (.slice aI nI cI) ∧ w'.cell? ⟨q, 2, none⟩ = some (.slice aH nH cH)) := fun w' hb => ⟨(HS6.out.below hb).bt.c0, (HS6.out.below hb).bt.c1, (HS6.out.below hb).bt.c2⟩
    have X0 := MK.out w6 (Below.refl _ _)
    have BA := hid ((Below.refl w6.heap.size w6).drew.alloc (Nat.le_refl _) (.cells #[.int .i64 0, .slice none 0 0, .slice none 0 0] 25))
    have XA := MK.out _ BA.out
    have BS := hid ((Below.refl w6.heap.size w6).alloc (Nat.le_refl _) (.cells #[.int .i64 n, .slice (some ⟨gi, 0, none⟩) nI (nI + 8), .slice (some ⟨gh, 0, none⟩) nH (nH + 8)] 25)).drew
    have XS := MK.out _ BS.out
    go_region_held3 (fun W => W.cell? ⟨q, 0, none⟩ = some (.int .i64 n) ∧ W.cell? ⟨q, 1, none⟩ = some (.slice aI nI cI) ∧ W.cell? ⟨q, 2, none⟩ = some (.slice aH nH cH)) (first | exact X0 | exact XA | exact XS) (fail)
    go_wp2
    go_meet
    refine ⟨by rw [HGC.out], ?_, BS⟩
    rw [← HGC.out]
    exact (BtI.new w6 n _ _)
  case rest =>
    revert wc
    intro w7 hcut
    obtain ⟨rfl, HC7, HB7⟩ := hcut
    obtain ⟨gd, hgd⟩ : ∃ gd, w7.heap.size = gd := ⟨_, rfl⟩
    obtain ⟨w8, hw8⟩ : ∃ w8, w7.alloc (.cells #[.int .i64 n, .slice aI nI cI, .slice a15 nH c15] 25) = w8 := ⟨_, rfl⟩
    have b8 : Below w7.heap.size w7 w8 := by rw [← hw8]; exact (Below.refl _ _).alloc (Nat.le_refl _) _
    have D8 : BtI w8 gd n (.slice aI nI cI) (.slice a15 nH c15) := by rw [← hw8, ← hgd]; exact BtI.new w7 n _ _
    have C8 := HC7.out.below b8
    have B68 : Hid (Below w6.heap.size w6 w8) := HB7.out.trans (b8.mono HB7.out.size)
    have MV : Hid (∀ w', Below w8.heap.size w8 w' → (w'.cell? ⟨gc, 0, none⟩ = some (.int .i64 n) ∧ w'.cell? ⟨gc, 1, none⟩ = some (.slice (some ⟨gi, 0, none⟩) nI (nI + 8)) ∧ w'.cell? ⟨gc, 2, none⟩ = some (.slice (some ⟨gh, 0, none⟩) nH (nH + 8))) ∧ w'.cell? ⟨gd, 0, none⟩ = some (.int .i64 n) ∧ w'.cell? ⟨gd, 1, none⟩ = some (.slice aI nI cI) ∧ w'.cell? ⟨gd, 2, none⟩ = some (.slice a15 nH c15)) := fun w' hb => ⟨⟨(C8.below hb).c0, (C8.below hb).c1, (C8.below hb).c2⟩, (D8.below hb).c0, (D8.below hb).c1, (D8.below hb).c2⟩
    have UP : Hid (∀ w', Below w8.heap.size w8 w' → Below w6.heap.size w6 w') := fun w' hb => B68.out.trans (hb.mono B68.out.size)
    have S7 := HS6.out.below HB7.out
    have f0 := S7.bt.c0
    have f1 := S7.bt.c1
    have HW8 := hid hw8
    have HGD := hid hgd
    have AX : Hid (Ax w6 w8 n E z1' z2' z3' nI nH nL gi gh gl gc gd cI c15 c16 aI a15 a16 TX RT BX ps) := ⟨UP.out, MV.out, iS.out, iR.out, iC1.out, iC2.out, iC3.out, iD1.out, iD2.out, iD3.out, iE.out, iF.out, iB.out⟩
    have HB68 := B68
    clear hgd hw8 b8 D8 C8 HC7 HB7 S7 HGC UP MV iS iR iC1 iC2 iC3 iD1 iD2 iD3 iB iE iF bw6 B68
    go_upto_region 21 with fail
    go_cut [18] from 114 to 119 (fun v18 w' => v18 = .pointer (some ⟨gd, 0, none⟩) ∧ w' = w8)
    case first =>
      go_wp2
      go_meet
      exact ⟨by rw [HGD.out], HW8.out⟩
    case rest =>
      obtain ⟨rfl, hwc⟩ := hcut
      subst hwc
      clear f0 f1 HW8 HGD
      go_step
      refine asks_22 AX.out hnL aL cL N HN.out _ _ _ _ _ _ _ _ _ _ _ _ _ _ _ _ _ _ _ _ _ _ _ _ _ _ _ _ _ _ _ _ _ _ _ _ _ _ _ _ _ _ _ _ _ _ _ _ _ _ _ _ _ _ _ _ _ _ _ _ _ _ _ _ _ _ _ _ _ _ _ _ _ _ _ _ _ _ _ _ _ _ _ _ _ _ _ _ _ _ _ _ _ _ _ _ _ _ _ _ _ _ _ _ _ _ _ _ _ _ _ _ _ _ _ _ _ _ _ _ _ _ _ _ _ _ _ _ _ _ _ _ _ _ _ _ _ _ _ _ _ _ _ _ _ _ _ _ _ _ _ _ _ _ _ _ _ _ _ _ _ _ _ _ _ _ _ _ _ _ _ _ _ _ _ _ _ _ _ _ _ _ _ _ _ _ _ _ _ _ _ _ _ _ _ _ _ _ _ _ _ _ _ _ _ _ _ _ _ _ _ _ _ _ _ _ _ _ _ _ _ _ _ _ _ _ _ _ _ _ _ _ _ _ _ _ _ _ _ _ _ _ _ _ _ _ _ _ _ _ _ _ _ _ _ _ _ _ _ _ _ _ _ _ _ _ _ _ _ _ _ _ _ _ _ _ _ ?_
      intro ap cp aq cq _ _ _ _ _ _ _ _ _ _ _ _ _ _ _ _ _ _ _ _ _ _ _ _ _ _ _ _ _ _ _ _ _ _ _ _ _ _ _ _ _ _ _ _ _ _ _ _ _ _ _ _ _ _ _ _ _ _ _ _ _ _ _ _ _ _ _ _ _ _ _ _ _ _ _ _ _ _ _ _ _ _ _ _ _ _ _ _ _ _ _ _ _ _ _ _ _ w31 b31 l31 m31
      have HS31 := (HS6.out.below HB68.out).below b31
      have B631 := HB68.out.trans (b31.mono HB68.out.size)
      have C31 := HC6.out.below B631
      obtain ⟨vs, vt, PQ⟩ := pq_of HC6.out B631 l31 HB68.out.size m31 HB68.out.size oh'.out fh'.out om'.out fm'.out few'.out
      have R31 := RA6.out.below B631 RA6.out.lt
      have Q31 := RC6.out.below B631 RC6.out.lt
      refine asks_31 HS31 C31 PQ HN.out R31 Q31 HA.out HC.out HAI.out HnI.out hnH hnL hnI (by omega) (by omega) _ _ _ _ _ _ _ _ _ _ _ _ _ _ _ _ _ _ _ _ _ _ _ _ _ _ _ _ _ _ _ _ _ _ _ _ _ _ _ _ _ _ _ _ _ _ _ _ _ _ _ _ _ _ _ _ _ _ _ _ _ _ _ _ _ _ _ _ _ _ _ _ _ _ _ _ _ _ _ _ _ _ _ _ _ _ _ _ _ _ _ _ _ _ _ _ _ _ _ _ _ _ _ _ _ _ _ _ _ _ _ _ _ _ _ _ _ _ _ _ _ _ _ _ _ _ _ _ _ _ _ _ _ _ _ _ _ _ _ _ _ _ _ _ _ _ _ _ _ _ _ _ _ _ _ _ _ _ _ _ _ _ _ _ _ _ _ _ _ _ _ _ _ _ _ _ _ _ _ _ _ _ _ _ _ _ _ _ _ _ _ _ _ _ _ _ _ _ _ _ _ _ _ _ _ _ _ _ _ _ _ _ _ _ _ _ _ _ _ _ _ _ _ _ _ _ _ _ _ _ _ _ _ _ _ _ _ _ _ _ _ _ _ _ _ _ _ _ _ _ _ _ _ _ _ _ _ _ _ _ _ _ _ _ _ _ _ _ _ _ _ _ _ ?_
      intro vo1 _ _ _ _ _ _ _ _ _ _ _ _ _ _ _ _ _ _ _ _ _ _ _ _ _ _ _ _ _ _ _ _ _ _ _ _ _ _ _ _ _ _ _ _ _ _ _ _ _ _ _ _ _ wE vf' vw' us' cc' Ls' cxE ulE bE
      exact HQQ.out vo1 _ _ _ _ _ _ _ _ _ _ _ _ _ _ _ _ _ _ _ _ _ _ _ _ _ _ _ _ _ _ _ _ _ _ _ _ _ _ _ _ _ _ _ _ _ _ _ _ _ _ _ _ _ _ _ _ _ _ _ _ _ _ _ _ _ _ _ _ _ _ _ _ _ _ _ _ _ _ _ _ _ _ _ _ _ _ _ _ _ _ _ _ _ _ _ _ _ _ _ _ _ _ _ _ _ _ _ _ _ _ _ _ _ _ _ _ _ _ _ _ _ _ _ _ _ _ _ _ _ _ _ _ _ _ _ _ _ _ _ _ _ _ _ _ _ _ _ _ _ _ _ _ _ _ _ _ _ _ _ _ _ _ _ _ _ _ _ _ _ _ _ _ _ _ _ _ _ _ _ _ _ _ _ _ _ _ _ _ _ _ _ _ _ _ _ wE vf' vw' us' cc' Ls' _ _ (HS31.belowX bE) cxE (by have := few'.out.1; have := HN.out; omega) (by rw [List.length_append]; rfl)
end Bat
end Go.Proofs.YtbodgecbakcaaaaGreatDoor
