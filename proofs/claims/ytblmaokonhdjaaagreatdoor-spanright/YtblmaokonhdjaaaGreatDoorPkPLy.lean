import Derived.Test.YtblmaokonhdjaaaGreatDoorPkPLx
/- Layer 14, the law: asks, from its first call on -/
namespace Go.Proofs.YtblmaokonhdjaaaGreatDoor
open Go.RowKit Go.Shelf
namespace Spn
noncomputable def asksT : Code := ((Tryz.f7.body.bind (fromX 19)).getD .skip)
set_option maxRecDepth 1000000 in
set_option maxHeartbeats 8000000 in
theorem asks_tail {w6 w8 : World} {n x y E z1 z2 z3 : Int} {nH nL gh gl gc gd c13 c14 : Nat} {a13 a14 : Option Addr} {TX RT BX : ByteArray} (X : Ax w6 w8 n x y E z1 z2 z3 nH nL gh gl gc gd c13 c14 a13 a14 TX RT BX) (_hnL : nL ≤ 8796093021952) (aL : Option Addr) (cL : Nat) (u0 u3 u4 u5 u6 u9 u10 u11 u16 u17 u18 u19 u20 u21 u22 u23 u24 u25 u26 u27 u28 u29 u30 u31 u32 u33 u34 u35 u36 u37 u38 u39 u40 u41 u42 u43 u44 u45 u46 u47 u48 u49 u50 u51 u52 u53 u54 u55 u56 u57 u58 u59 u60 u61 u62 u63 u64 u65 u66 u67 u68 u69 u70 u71 u72 u73 u74 u75 u76 u77 u78 u79 u80 u81 u82 u83 u84 u85 u86 u87 u88 u89 u90 u91 u92 u93 u94 u95 u96 u97 u98 u99 u100 u101 u102 u103 u104 u105 u106 u107 u108 u109 u110 u111 u112 u113 u114 u115 u116 u117 u118 u119 u120 u121 u122 u123 u124 u125 u126 u127 u128 u129 u130 u131 u132 u133 u134 u135 u136 u137 u138 u139 u140 u141 u142 u143 u144 u145 u146 u147 u148 u149 u150 u151 u152 u153 u154 u155 u156 u157 u158 u159 u160 u161 u162 u163 u164 u165 u166 u167 u168 u169 u170 u171 u172 u173 u174 u175 u176 u177 u178 u179 u180 u181 u182 u183 u184 u185 u186 u187 u188 u189 u190 u191 u192 u193 u194 u195 : Value) (Q : Exit → Act → World → Prop) (hQ : ∀ (c16 c17 c18 c19 c20 c21 c22 c23 c24 c104 c105 c106 c107 c108 c109 c110 c111 c112 c113 c114 c115 c116 c117 c118 c119 c120 c121 c122 c123 c124 c125 c126 c127 c128 c129 c130 c131 c132 c133 c134 c135 c136 c137 c138 c139 c140 c141 c142 c143 c144 c145 c146 c147 c148 c149 c150 c151 c152 c153 c154 c155 c156 c157 c158 c159 c160 c161 c162 c163 c164 c165 c166 c167 c168 c169 c170 c171 c172 c173 c174 c175 c176 c177 c178 c179 c180 c181 c182 c183 c184 c185 c186 c187 : Value) (w' : World), Below w8.heap.size w8 w' → Q .normal ⟨#[u0, .slice aL nL cL, .string RT, u3, u4, u5, u6, .slice (some ⟨gh, 0, none⟩) (nH + 8) (nH + 8), .slice (some ⟨gl, 0, none⟩) (nL + 8) (nL + 8), u9, u10, u11, .slice a13 nH c13, .slice a14 nL c14, .pointer (some ⟨gc, 0, none⟩), .pointer (some ⟨gd, 0, none⟩), c16, c17, c18, c19, c20, c21, c22, c23, c24, u25, u26, u27, u28, u29, u30, u31, u32, u33, u34, u35, u36, u37, u38, u39, u40, u41, u42, u43, u44, u45, u46, u47, u48, u49, u50, u51, u52, u53, u54, u55, u56, u57, u58, u59, u60, u61, u62, u63, u64, u65, u66, u67, u68, u69, u70, u71, u72, u73, u74, u75, u76, u77, u78, u79, u80, u81, u82, u83, u84, u85, u86, u87, u88, u89, u90, u91, u92, u93, u94, u95, u96, u97, u98, u99, u100, u101, u102, u103, c104, c105, c106, c107, c108, c109, c110, c111, c112, c113, c114, c115, c116, c117, c118, c119, c120, c121, c122, c123, c124, c125, c126, c127, c128, c129, c130, c131, c132, c133, c134, c135, c136, c137, c138, c139, c140, c141, c142, c143, c144, c145, c146, c147, c148, c149, c150, c151, c152, c153, c154, c155, c156, c157, c158, c159, c160, c161, c162, c163, c164, c165, c166, c167, c168, c169, c170, c171, c172, c173, c174, c175, c176, c177, c178, c179, c180, c181, c182, c183, c184, c185, c186, c187, u188, u189, u190, u191, u192, u193, u194, u195], []⟩ w') :
    Code.wp Tryz.prog asksT Q ⟨#[u0, .slice aL nL cL, .string RT, u3, u4, u5, u6, .slice (some ⟨gh, 0, none⟩) (nH + 8) (nH + 8), .slice (some ⟨gl, 0, none⟩) (nL + 8) (nL + 8), u9, u10, u11, .slice a13 nH c13, .slice a14 nL c14, .pointer (some ⟨gc, 0, none⟩), .pointer (some ⟨gd, 0, none⟩), u16, u17, u18, u19, u20, u21, u22, u23, u24, u25, u26, u27, u28, u29, u30, u31, u32, u33, u34, u35, u36, u37, u38, u39, u40, u41, u42, u43, u44, u45, u46, u47, u48, u49, u50, u51, u52, u53, u54, u55, u56, u57, u58, u59, u60, u61, u62, u63, u64, u65, u66, u67, u68, u69, u70, u71, u72, u73, u74, u75, u76, u77, u78, u79, u80, u81, u82, u83, u84, u85, u86, u87, u88, u89, u90, u91, u92, u93, u94, u95, u96, u97, u98, u99, u100, u101, u102, u103, u104, u105, u106, u107, u108, u109, u110, u111, u112, u113, u114, u115, u116, u117, u118, u119, u120, u121, u122, u123, u124, u125, u126, u127, u128, u129, u130, u131, u132, u133, u134, u135, u136, u137, u138, u139, u140, u141, u142, u143, u144, u145, u146, u147, u148, u149, u150, u151, u152, u153, u154, u155, u156, u157, u158, u159, u160, u161, u162, u163, u164, u165, u166, u167, u168, u169, u170, u171, u172, u173, u174, u175, u176, u177, u178, u179, u180, u181, u182, u183, u184, u185, u186, u187, u188, u189, u190, u191, u192, u193, u194, u195], []⟩ w8 := by
  conv => arg 2; whnf
  have HX := hid X
  have UP := hid X.up
  have MV := hid X.mv
  have iS := hid X.iS
  have iR := hid X.iR
  have iC1 := hid X.iC1
  have iC2 := hid X.iC2
  have iC3 := hid X.iC3
  have iB := hid X.iB
  have iKh := hid X.iKh
  have iKl := hid X.iKl
  have HQ := hid hQ
  clear X hQ
  have y2 : (nL : Int) ≤ (nL : Int) + 8 := by omega
  have B0 := hid (Below.refl w8.heap.size w8)
  go_upto_region 19 with fail
  dsimp only
  go_cut [16, 17] from 104 to 187 (fun v16 v17 w' => (v16 = .string TX ∧ v17 = .int .i64 E) ∧ Hid (Below w8.heap.size w8 w'))
  case first =>
    have X0 := MV.out _ B0.out
    go_region_held3 (fun W => (W.cell? ⟨gc, 0, none⟩ = some (.int .i64 n) ∧ W.cell? ⟨gc, 1, none⟩ = some (.int .i64 x) ∧ W.cell? ⟨gc, 2, none⟩ = some (.int .i64 y) ∧ W.cell? ⟨gc, 3, none⟩ = some (.slice (some ⟨gh, 0, none⟩) nH (nH + 8))) ∧ W.cell? ⟨gd, 0, none⟩ = some (.int .i64 n) ∧ W.cell? ⟨gd, 1, none⟩ = some (.int .i64 x) ∧ W.cell? ⟨gd, 2, none⟩ = some (.int .i64 y) ∧ W.cell? ⟨gd, 3, none⟩ = some (.slice a13 nH c13)) (first | exact X0 | exact XX) (first
      | (go_at_call 26; (refine (iS.out _ (UP.out _ B0.out.drew)).mono ?_); rintro r wx ⟨rfl, bx⟩; have BX1 := hid (B0.out.drew.trans (bx.mono B0.out.drew.size)); have XX := MV.out _ BX1.out; clear bx))
    go_wp2
    go_meet
    exact ⟨⟨rfl, rfl⟩, BX1⟩
  case rest =>
    revert wc
    intro w9 hcut
    obtain ⟨⟨rfl, rfl⟩, B9⟩ := hcut
    obtain ⟨⟨c0, c1, c2, c3⟩, d0, d1, d2, d3⟩ := MV.out _ B9.out
    go_upto_region 21 with (go_at_call 28; (with_reducible refine (iR.out _ (UP.out _ B9.out)).mono ?_); rintro r w10 ⟨rfl, b10⟩)
    have B10 := hid (B9.out.trans (b10.mono B9.out.size))
    clear b10 c0 c1 c2 c3 d0 d1 d2 d3 B9
    go_cut [20] from 104 to 187 (fun v20 w' => v20 = .int .i64 z1 ∧ Hid (Below w8.heap.size w8 w'))
    case first =>
      have X0 := MV.out _ B10.out
      go_region_held3 (fun W => (W.cell? ⟨gc, 0, none⟩ = some (.int .i64 n) ∧ W.cell? ⟨gc, 1, none⟩ = some (.int .i64 x) ∧ W.cell? ⟨gc, 2, none⟩ = some (.int .i64 y) ∧ W.cell? ⟨gc, 3, none⟩ = some (.slice (some ⟨gh, 0, none⟩) nH (nH + 8))) ∧ W.cell? ⟨gd, 0, none⟩ = some (.int .i64 n) ∧ W.cell? ⟨gd, 1, none⟩ = some (.int .i64 x) ∧ W.cell? ⟨gd, 2, none⟩ = some (.int .i64 y) ∧ W.cell? ⟨gd, 3, none⟩ = some (.slice a13 nH c13)) (first | exact X0 | exact XX) (first
        | (go_at_call 29; (refine (iC1.out _ (UP.out _ B10.out.drew)).mono ?_); rintro r wx ⟨rfl, bx⟩; have BX1 := hid (B10.out.drew.trans (bx.mono B10.out.drew.size)); have XX := MV.out _ BX1.out; clear bx))
      go_wp2
      go_meet
      exact ⟨rfl, BX1⟩
    case rest =>
      revert wc
      intro w11 hcut
      obtain ⟨rfl, B11⟩ := hcut
      go_upto_region 22 with fail
      go_cut [21] from 104 to 187 (fun v21 w' => v21 = .int .i64 z2 ∧ Hid (Below w8.heap.size w8 w'))
      case first =>
        have X0 := MV.out _ B11.out
        go_region_held3 (fun W => (W.cell? ⟨gc, 0, none⟩ = some (.int .i64 n) ∧ W.cell? ⟨gc, 1, none⟩ = some (.int .i64 x) ∧ W.cell? ⟨gc, 2, none⟩ = some (.int .i64 y) ∧ W.cell? ⟨gc, 3, none⟩ = some (.slice (some ⟨gh, 0, none⟩) nH (nH + 8))) ∧ W.cell? ⟨gd, 0, none⟩ = some (.int .i64 n) ∧ W.cell? ⟨gd, 1, none⟩ = some (.int .i64 x) ∧ W.cell? ⟨gd, 2, none⟩ = some (.int .i64 y) ∧ W.cell? ⟨gd, 3, none⟩ = some (.slice a13 nH c13)) (first | exact X0 | exact XX) (first
          | (go_at_call 29; (refine (iC2.out _ (UP.out _ B11.out.drew)).mono ?_); rintro r wx ⟨rfl, bx⟩; have BX1 := hid (B11.out.drew.trans (bx.mono B11.out.drew.size)); have XX := MV.out _ BX1.out; clear bx))
        go_wp2
        go_meet
        exact ⟨rfl, BX1⟩
      case rest =>
        revert wc
        intro w12 hcut
        obtain ⟨rfl, B12⟩ := hcut
        have ih := iKh.out _ (UP.out _ B12.out)
        go_upto_region 24 with (go_at_call 30; (with_reducible refine ih.mono ?_); rintro r w13 ⟨rfl, b13, _⟩)
        have B13 := hid (B12.out.trans (b13.mono B12.out.size))
        have il := iKl.out _ (UP.out _ B13.out)
        clear b13 ih B12
        go_upto_region 25 with (go_at_call 30; (with_reducible refine il.mono ?_); rintro r w14 ⟨rfl, b14, _⟩)
        have B14 := hid (B13.out.trans (b14.mono B13.out.size))
        clear b14 il B13
        go_cut [24] from 104 to 187 (fun v24 w' => v24 = .int .i64 z3 ∧ Hid (Below w8.heap.size w8 w'))
        case first =>
          have X0 := MV.out _ B14.out
          go_region_held3 (fun W => (W.cell? ⟨gc, 0, none⟩ = some (.int .i64 n) ∧ W.cell? ⟨gc, 1, none⟩ = some (.int .i64 x) ∧ W.cell? ⟨gc, 2, none⟩ = some (.int .i64 y) ∧ W.cell? ⟨gc, 3, none⟩ = some (.slice (some ⟨gh, 0, none⟩) nH (nH + 8))) ∧ W.cell? ⟨gd, 0, none⟩ = some (.int .i64 n) ∧ W.cell? ⟨gd, 1, none⟩ = some (.int .i64 x) ∧ W.cell? ⟨gd, 2, none⟩ = some (.int .i64 y) ∧ W.cell? ⟨gd, 3, none⟩ = some (.slice a13 nH c13)) (first | exact X0 | exact XX | exact XY) (first
            | (go_at_call 31; (refine (iB.out _).mono ?_); rintro r wy ⟨rfl, bx⟩; have BY := hid (B14.out.drew.trans (bx.mono B14.out.drew.size)); have XY := MV.out _ BY.out; clear bx)
            | (go_at_call 29; (refine (iC3.out _ (UP.out _ BY.out)).mono ?_); rintro r wx ⟨rfl, bx⟩; have BX1 := hid (BY.out.trans (bx.mono BY.out.size)); have XX := MV.out _ BX1.out; clear bx))
          go_wp2
          go_meet
          exact ⟨rfl, BX1⟩
        case rest =>
          revert wc
          intro w15 hcut
          obtain ⟨rfl, B15⟩ := hcut
          go_upto_region 26 with fail
          refine wpx_normal (asks_26 HX.out B15.out _ _ _ _ _ _ _ _ _ _ _ _ _ _ _ _ _ _ _ _ _ _ _ _ _ _ _ _ _ _ _ _ _ _ _ _ _ _ _ _ _ _ _ _ _ _ _ _ _ _ _ _ _ _ _ _ _ _ _ _ _ _ _ _ _ _ _ _ _ _ _ _ _ _ _ _ _ _ _ _ _ _ _ _ _ _ _ _ _ _ _ _ _ _ _ _ _ _ _ _ _ _ _ _ _ _ _ _ _ _ _ _ _ _ _ _ _ _ _ _ _ _ _ _ _ _ _ _ _ _ _ _ _ _ _ _ _ _ _ _ _ _ _ _ _ _ _ _ _ _ _ _ _ _ _ _ _ _ _ _ _ _ _ _ _ _ _ _ _ _ _ _ _ _ _ _ _ _ _ _ _ _ _ _ _ ?_)
          intro _ _ _ _ _ _ _ _ _ _ _ _ _ _ _ _ _ _ _ _ _ _ _ _ _ _ _ _ _ _ _ _ _ _ _ _ _ _ _ _ wE bE
          have BE := hid bE
          clear bE
          go_wp2
          exact HQ.out _ _ _ _ _ _ _ _ _ _ _ _ _ _ _ _ _ _ _ _ _ _ _ _ _ _ _ _ _ _ _ _ _ _ _ _ _ _ _ _ _ _ _ _ _ _ _ _ _ _ _ _ _ _ _ _ _ _ _ _ _ _ _ _ _ _ _ _ _ _ _ _ _ _ _ _ _ _ _ _ _ _ _ _ _ _ _ _ _ _ _ _ _ _ BE.out
end Spn
end Go.Proofs.YtblmaokonhdjaaaGreatDoor

/- Layer 14, the law: asks -/
namespace Go.Proofs.YtblmaokonhdjaaaGreatDoor
open Go.RowKit Go.Shelf
namespace Spn
theorem nd_le (a b : List UInt8) : (Tree.nd a b).length ≤ 32 := by
  unfold Tree.nd
  split
  · rw [Sha.sha_length]; omega
  · exact Nat.zero_le _
theorem rotO_len {n x y : Int} {H L : List (List UInt8)} {t : List UInt8} (h : rotO n x y H L t) : t.length ≤ 32 := by
  rcases h with ⟨_, rfl⟩ | ⟨h, val, V, rfl⟩
  · exact Nat.zero_le _
  · obtain ⟨n', x', y', rfl, rfl, rfl, h1, h2, h3, h4, h5, h6, h7, h8⟩ := rotE_zero h
    simp only [Int.toNat_natCast] at V ⊢
    by_cases hn : n' = 1
    · subst hn
      obtain rfl : x' = 0 := by omega
      have := val_leaf V (j := 0) (by omega)
      rw [Nat.zero_add, Nat.zero_add] at this
      have hm := List.mem_of_getElem? this
      unfold hsB8 at h8
      have := List.all_eq_true.1 h8 _ hm
      simp only [beq_iff_eq] at this
      omega
    · have := val_node V h1 0 n' (by omega) (by omega) (by omega)
      rw [Nat.zero_add] at this
      rw [this]
      exact nd_le _ _
set_option maxRecDepth 100000 in
set_option maxHeartbeats 16000000 in
theorem asks14_any (n x y : Int) (rt : List UInt8) (H L : List (List UInt8)) (hnH : H.length ≤ 8796093021952) (hnL : L.length ≤ 8796093021952) (aH aL : Option Addr) (cH cL : Nat) (w : World) (hAH : At w aH H) (hAL : At w aL L) (Z : Tb w) :
    Calls Tryz.prog 7 #[rn n x y (.slice aH H.length cH), .slice aL L.length cL, sv rt] w fun r w' => r = .returned (.bool true) ∧ Below w.heap.size w w' := by
  have W1 := RnI.new w n x y (.slice aH H.length cH)
  have b1 := (Below.refl w.heap.size w).alloc (Nat.le_refl _) (.cells #[.int .i64 n, .int .i64 x, .int .i64 y, .slice aH H.length cH] 24)
  obtain ⟨w1, hw1⟩ : ∃ w1, w.alloc (.cells #[.int .i64 n, .int .i64 x, .int .i64 y, .slice aH H.length cH] 24) = w1 := ⟨_, rfl⟩
  rw [hw1] at W1 b1
  obtain ⟨q, hq⟩ : ∃ q, w.heap.size = q := ⟨_, rfl⟩
  rw [hq] at W1
  have s1 : w1.heap.size = q + 1 := by rw [← hw1, size_alloc, hq]
  have i1 := lent_any H aH cH w1 hnH (hAH.below b1 (Nat.le_refl _))
  have I2 := hid fun (w' : World) (hb : Below w.heap.size w w') => lent_any L aL cL w' hnL (hAL.below hb (Nat.le_refl _))
  have k3 := W1.c3
  obtain ⟨nH, hnHe⟩ : ∃ nH, H.length = nH := ⟨_, rfl⟩
  obtain ⟨nL, hnLe⟩ : ∃ nL, L.length = nL := ⟨_, rfl⟩
  rw [hnHe] at W1 hw1 i1 k3 hnH ⊢
  rw [hnLe] at I2 hnL ⊢
  have HnH := hid hnHe
  have HnL := hid hnLe
  have HW1 := hid hw1
  have HQ := hid hq
  have HZ := hid Z
  have HAH := hid hAH
  have HAL := hid hAL
  have HR1 := hid W1
  have HB1 := hid b1
  have HS1 := hid s1
  obtain ⟨RT, hRT⟩ : ∃ RT, (ByteArray.mk rt.toArray) = RT := ⟨_, rfl⟩
  rw [show sv rt = Value.string ⟨rt.toArray⟩ from rfl, hRT]
  have HRT := hid hRT
  clear hRT hnHe hnLe Z hAH hAL W1 b1 hw1 hq s1
  go_enter Tryz.func7, Tryz.ntmps7
  go_upto_region 1 with fail
  rw [HW1.out, HQ.out]
  go_upto_region 2 with (go_at_call 27; (with_reducible refine i1.mono ?_); rintro r w2 ⟨rfl, R2, b2⟩)
  have B2 := hid (HB1.out.trans (b2.mono HB1.out.size))
  have i2 := I2.out w2 B2.out
  have HR2 := hid (HR1.out.below b2)
  have R2' := hid R2
  have hg1 : Hid (w1.heap.size < w2.heap.size) := R2.lt
  clear i1 I2 k3 R2
  go_upto_region 3 with (go_at_call 27; (with_reducible refine i2.mono ?_); rintro r w3 ⟨rfl, R3, b3⟩)
  obtain ⟨gh, hgh⟩ : ∃ gh, w1.heap.size = gh := ⟨_, rfl⟩
  obtain ⟨gl, hgl⟩ : ∃ gl, w2.heap.size = gl := ⟨_, rfl⟩
  have HR3 := hid (HR2.out.below b3)
  have TS : Hid (Tw w w3 gh gl nH nL) := by
    have e1 := B2.out.size
    have e2 := HB1.out.size
    have e3 := hg1.out
    refine ⟨B2.out.trans (b3.mono e1), by omega, by omega, by omega, H, L, HnH.out, HnL.out, ?_, ?_⟩
    · rw [← hgh]; exact R2'.out.below b3 (R2'.out.lt)
    · rw [← hgl]; exact R3
  have hqn : Hid (¬ Bt gh gl q) := fun e => by
    have e1 := HS1.out
    have e3 := hg1.out
    rcases e with e | e <;> omega
  have KS : Hid (Keep (Bt gh gl) w3 w3) := Keep.refl _ _
  rw [hgh, hgl]
  clear i2 b2 b3 R3 R2' hgh hgl HR2 HB1 B2 HW1 HR1 hg1 HS1
  go_wp2
  go_loopw [9] (fun i w' => ∃ j : Nat, j ≤ 2 ∧ i = .int .i64 (j : Int) ∧ Hid (Tw w w' gh gl nH nL) ∧ Hid (Keep (Bt gh gl) w3 w')) (fun i _ => 2 - (intOf i).toNat)
  case atStart => exact ⟨0, by omega, rfl, TS, KS⟩
  case round =>
    clear TS KS
    obtain ⟨j, hj, rfl, TJ, KJ⟩ := hrel
    by_cases hj2 : j < 2
    · have z1 : (j : Int) < 2 := by omega
      have hj2' := hid hj2
      go_upto_if 35 with fail
      go_cut [10, 11] (fun _ _ w' => Hid (Tw w w' gh gl nH nL) ∧ Hid (Keep (Bt gh gl) w3 w'))
      case first =>
        by_cases hj1 : j = 1
        · have u1 : ((j : Int) == 1) = true := by simp; omega
          have u2 : decide ((j : Int) = 1) = true := decide_eq_true (by omega)
          clear hj1
          go_wp2
          go_loopw [10] (fun i w' => ∃ k : Nat, k ≤ nH ∧ i = .int .i64 (k : Int) ∧ Hid (Tw w w' gh gl nH nL) ∧ Hid (Keep (Bt gh gl) w3 w')) (fun i _ => nH - (intOf i).toNat)
          case atStart => exact ⟨0, Nat.zero_le _, rfl, TJ, KJ⟩
          case round =>
            obtain ⟨k, hk, rfl, TK, KK⟩ := hrel
            have r3 := (HR3.out.keep KK.out hqn.out).c3
            by_cases hk1 : k < nH
            · have AK := HAH.out.below TK.out.bl (Nat.le_refl _)
              obtain ⟨x13, hx13⟩ := AK.pos (by rw [HnH.out]; omega)
              obtain ⟨m, hm⟩ : ∃ m, nH - 1 - k = m := ⟨_, rfl⟩
              have hmI : (nH : Int) - 1 - (k : Int) = (m : Int) := by omega
              have hm1 : m < nH := by omega
              subst hx13
              obtain ⟨s, hs0, hs⟩ := AK.cell m (by rw [HnH.out]; exact hm1)
              obtain ⟨⟨po, hpo⟩, hfz⟩ := TK.out.cellH hk1
              have hsv : sv s.data.toList = .string s := by unfold sv; cases s; simp
              have T' := TK.out.setH hk1 s.data.toList
              have K' := keep_bt KK.out (g := gh) (i := k) (.inl rfl) (sv s.data.toList)
              rw [hsv] at T' K'
              have T' := hid T'
              have K' := hid K'
              have hk' := hid hk1
              have y1 : (k : Int) < (nH : Int) := by omega
              have y2 : (0 : Int) ≤ (m : Int) := by omega
              have y3 : (m : Int) < (nH : Int) := by omega
              have y4 : (0 : Int) ≤ (k : Int) := by omega
              clear hs0 AK TK KK hm hk hm1
              go_wp2
              exact ⟨⟨k + 1, hk'.out, by go_num, T', K'⟩, by have := hk'.out; simp [RowKit.intOf]; omega⟩
            · obtain rfl : nH = k := by omega
              have y1 : ¬ (nH : Int) < (nH : Int) := by omega
              go_wp2
              clear r3
              go_loopw [11] (fun i w' => ∃ k : Nat, k ≤ nL ∧ i = .int .i64 (k : Int) ∧ Hid (Tw w w' gh gl nH nL) ∧ Hid (Keep (Bt gh gl) w3 w')) (fun i _ => nL - (intOf i).toNat)
              case atStart => exact ⟨0, Nat.zero_le _, rfl, TK, KK⟩
              case round =>
                obtain ⟨k, hk, rfl, TK, KK⟩ := hrel
                by_cases hk1 : k < nL
                · have AK := HAL.out.below TK.out.bl (Nat.le_refl _)
                  obtain ⟨x13, hx13⟩ := AK.pos (by rw [HnL.out]; omega)
                  obtain ⟨m, hm⟩ : ∃ m, nL - 1 - k = m := ⟨_, rfl⟩
                  have hmI : (nL : Int) - 1 - (k : Int) = (m : Int) := by omega
                  have hm1 : m < nL := by omega
                  subst hx13
                  obtain ⟨s, hs0, hs⟩ := AK.cell m (by rw [HnL.out]; exact hm1)
                  obtain ⟨⟨po, hpo⟩, hfz⟩ := TK.out.cellL hk1
                  have hsv : sv s.data.toList = .string s := by unfold sv; cases s; simp
                  have T' := TK.out.setL hk1 s.data.toList
                  have K' := keep_bt KK.out (g := gl) (i := k) (.inr rfl) (sv s.data.toList)
                  rw [hsv] at T' K'
                  have T' := hid T'
                  have K' := hid K'
                  have hk' := hid hk1
                  have y1 : (k : Int) < (nL : Int) := by omega
                  have y2 : (0 : Int) ≤ (m : Int) := by omega
                  have y3 : (m : Int) < (nL : Int) := by omega
                  have y4 : (0 : Int) ≤ (k : Int) := by omega
                  clear hs0 AK TK KK hm hk hm1
                  go_wp2
                  exact ⟨⟨k + 1, hk'.out, by go_num, T', K'⟩, by have := hk'.out; simp [RowKit.intOf]; omega⟩
                · obtain rfl : nL = k := by omega
                  have y1 : ¬ (nL : Int) < (nL : Int) := by omega
                  go_wp2
                  go_meet
                  exact ⟨TK, KK⟩
        · have u1 : ((j : Int) == 1) = false := by simp; omega
          have u2 : decide ((j : Int) = 1) = false := decide_eq_false (by omega)
          clear hj1
          go_wp2
          go_meet
          exact ⟨TJ, KJ⟩
      case rest =>
        obtain ⟨TT, KT⟩ := hcut
        revert wc
        intro wa TT KT
        clear TJ KJ
        obtain ⟨A, C, a1, a2, R1, R2⟩ := TT.out.ex
        have Ah := row_at R1
        have Al := row_at R2
        have hlt := TT.out.lt
        obtain ⟨v13, w5, hap5, O5, b5⟩ := append_at wa (some ⟨gh, 0, none⟩) (nH + 8) A Ah (by omega)
        obtain ⟨a13, c13, rfl, AT5, q1, q2, _⟩ := own_at14 O5
        have Al5 := Al.below b5 (Nat.le_refl _)
        obtain ⟨v14, w6, hap6, O6, b6⟩ := append_at w5 (some ⟨gl, 0, none⟩) (nL + 8) C Al5 (by omega)
        obtain ⟨a14, c14, rfl, AT6, q3, q4, _⟩ := own_at14 O6
        have z5 := b5.size
        have z6 := b6.size
        have bw6 : Below wa.heap.size wa w6 := b5.trans (b6.mono z5)
        have Rr := HR3.out.keep KT.out hqn.out
        have Rr5 := Rr.below b5
        have HR6 := hid (Rr.below bw6)
        have T6 := TT.out.below bw6
        obtain ⟨tx, htx⟩ := rotO_is n x y A C
        have Ah6 := Ah.below bw6 (Nat.le_refl _)
        have Al6 := Al.below bw6 (Nat.le_refl _)
        have A5 := AT5.below b6 (Nat.le_refl _)
        have Z6 : Tb w6 := HZ.out.below T6.bl HZ.out.lt
        have htl : tx.length ≤ 4611686018427387904 := by have := rotO_len htx; omega
        have iB := hid fun (w' : World) => bent14_any tx htl w'
        have iS := hid fun (w' : World) (hb : Below w6.heap.size w6 w') => root14_any htx (by omega) (by omega) (some ⟨gh, 0, none⟩) (some ⟨gl, 0, none⟩) (nH + 8) (nL + 8) w' (Ah6.below hb (Nat.le_refl _)) (Al6.below hb (Nat.le_refl _)) (Z6.below hb Z6.lt)
        have iR := hid fun (w' : World) (hb : Below w6.heap.size w6 w') => rroot14_any htx (by omega) (by omega) a13 a14 c13 c14 q1 q2 q3 q4 w' (A5.below hb (Nat.le_refl _)) (AT6.below hb (Nat.le_refl _))
        have iSc := hid fun (r : List UInt8) (w' : World) (hb : Below w6.heap.size w6 w') => check14_any htx r (by omega) (by omega) (some ⟨gh, 0, none⟩) (some ⟨gl, 0, none⟩) (nH + 8) (nL + 8) w' (Ah6.below hb (Nat.le_refl _)) (Al6.below hb (Nat.le_refl _)) (Z6.below hb Z6.lt)
        have iRc := hid fun (r : List UInt8) (w' : World) (hb : Below w6.heap.size w6 w') => rcheck14_any htx r (by omega) (by omega) a13 a14 c13 c14 q1 q2 q3 q4 w' (A5.below hb (Nat.le_refl _)) (AT6.below hb (Nat.le_refl _))
        have iKh := hid fun (w' : World) (hb : Below w6.heap.size w6 w') => kept_yes A gh a13 c13 w' (by omega) ((R1.below bw6 R1.lt).below hb (R1.below bw6 R1.lt).lt) (A5.below hb (Nat.le_refl _))
        have iKl := hid fun (w' : World) (hb : Below w6.heap.size w6 w') => kept_yes C gl a14 c14 w' (by omega) ((R2.below bw6 R2.lt).below hb (R2.below bw6 R2.lt).lt) (AT6.below hb (Nat.le_refl _))
        rw [a1] at hap5 iS iR iSc iRc iKh
        rw [a2] at hap6 iS iR iSc iRc iKl
        have iC1 := hid fun w' hb => iSc.out rt w' hb
        have iC2 := hid fun w' hb => iSc.out tx w' hb
        have iC3 := hid fun w' hb => iSc.out (bnt tx) w' hb
        have iD1 := hid fun w' hb => iRc.out rt w' hb
        have iD2 := hid fun w' hb => iRc.out tx w' hb
        have iD3 := hid fun w' hb => iRc.out (bnt tx) w' hb
        clear iSc iRc
        generalize rotE n x y A C = E at *
        generalize chkO E tx rt = z1' at *
        generalize chkO E tx tx = z2' at *
        generalize chkO E tx (bnt tx) = z3' at *
        rw [show sv tx = Value.string ⟨tx.toArray⟩ from rfl] at iS iR iC2 iD2 iB
        rw [show sv rt = Value.string ⟨rt.toArray⟩ from rfl, HRT.out] at iC1 iD1
        rw [show sv (bnt tx) = Value.string ⟨(bnt tx).toArray⟩ from rfl] at iC3 iD3 iB
        generalize (ByteArray.mk (bnt tx).toArray) = BX at *
        generalize (ByteArray.mk tx.toArray) = TX at *
        have htt : (TX.toList == TX.toList) = true := beq_self_eq_true _
        have htn : (TX.toList != TX.toList) = false := by simp
        have T6 := hid T6
        have KW : Hid (Keep (Bt gh gl) w3 w6) := Keep.bl KT.out bw6
        have y1 : (nH : Int) ≤ (nH : Int) + 8 := by omega
        have y2 : (nL : Int) ≤ (nL : Int) + 8 := by omega
        have f3 := Rr.c3
        clear R1 R2 Ah Al O5 b5 Al5 O6 b6 z5 z6 bw6 Rr Rr5 Ah6 Al6 A5 AT5 AT6 Z6 TT KT hlt htx q1 q2 q3 q4 htl a1 a2
        go_upto_region 17 with (first | ((with_reducible show wpList _ _ _ (Oper.mk _ (Op.call { callee := Callee.builtin Builtin.append, args := _, argTypes := #[22, 22] }) _ _ _ _ :: _) _ _); (refine Lib.wpList_append_run _ rfl _ _ 22 22 rfl _ _ rfl rfl _ _ hap5 ?_); clear hap5) | ((with_reducible show wpList _ _ _ (Oper.mk _ (Op.call { callee := Callee.builtin Builtin.append, args := _, argTypes := #[22, 22] }) _ _ _ _ :: _) _ _); (refine Lib.wpList_append_run _ rfl _ _ 22 22 rfl _ _ rfl rfl _ _ hap6 ?_); clear hap6))
        clear f3
        obtain ⟨gc, hgc⟩ : ∃ gc, w6.heap.size = gc := ⟨_, rfl⟩
        have HGC := hid hgc
        clear hgc
        go_cut [14] (fun v14 w' => v14 = .pointer (some ⟨gc, 0, none⟩) ∧ Hid (RnI w' gc n x y (.slice (some ⟨gh, 0, none⟩) nH (nH + 8))) ∧ Hid (Below w6.heap.size w6 w'))
        case first =>
          have MK : Hid (∀ w', Below w6.heap.size w6 w' → w'.cell? ⟨q, 0, none⟩ = some (.int .i64 n) ∧ w'.cell? ⟨q, 1, none⟩ = some (.int .i64 x) ∧ w'.cell? ⟨q, 2, none⟩ = some (.int .i64 y) ∧ w'.cell? ⟨q, 3, none⟩ = some (.slice aH nH cH)) := fun w' hb => ⟨(HR6.out.below hb).c0, (HR6.out.below hb).c1, (HR6.out.below hb).c2, (HR6.out.below hb).c3⟩
          have X0 := MK.out w6 (Below.refl _ _)
          have BA := hid ((Below.refl w6.heap.size w6).drew.alloc (Nat.le_refl _) (.cells #[.int .i64 0, .int .i64 0, .int .i64 0, .slice none 0 0] 24))
          have XA := MK.out _ BA.out
          have BS := hid ((Below.refl w6.heap.size w6).alloc (Nat.le_refl _) (.cells #[.int .i64 n, .int .i64 x, .int .i64 y, .slice (some ⟨gh, 0, none⟩) nH (nH + 8)] 24)).drew
          have XS := MK.out _ BS.out
          go_region_held3 (fun W => W.cell? ⟨q, 0, none⟩ = some (.int .i64 n) ∧ W.cell? ⟨q, 1, none⟩ = some (.int .i64 x) ∧ W.cell? ⟨q, 2, none⟩ = some (.int .i64 y) ∧ W.cell? ⟨q, 3, none⟩ = some (.slice aH nH cH)) (first | exact X0 | exact XA | exact XS) (fail)
          go_wp2
          go_meet
          refine ⟨by rw [HGC.out], ?_, BS⟩
          rw [← HGC.out]
          exact (RnI.new w6 n x y _).drew
        case rest =>
          revert wc
          intro w7 hcut
          obtain ⟨rfl, HC7, HB7⟩ := hcut
          obtain ⟨gd, hgd⟩ : ∃ gd, w7.heap.size = gd := ⟨_, rfl⟩
          obtain ⟨w8, hw8⟩ : ∃ w8, w7.alloc (.cells #[.int .i64 n, .int .i64 x, .int .i64 y, .slice a13 nH c13] 24) = w8 := ⟨_, rfl⟩
          have b8 : Below w7.heap.size w7 w8 := by rw [← hw8]; exact (Below.refl _ _).alloc (Nat.le_refl _) _
          have D8 : RnI w8 gd n x y (.slice a13 nH c13) := by rw [← hw8, ← hgd]; exact RnI.new w7 n x y _
          have C8 := HC7.out.below b8
          have B68 : Hid (Below w6.heap.size w6 w8) := HB7.out.trans (b8.mono HB7.out.size)
          have MV : Hid (∀ w', Below w8.heap.size w8 w' → (w'.cell? ⟨gc, 0, none⟩ = some (.int .i64 n) ∧ w'.cell? ⟨gc, 1, none⟩ = some (.int .i64 x) ∧ w'.cell? ⟨gc, 2, none⟩ = some (.int .i64 y) ∧ w'.cell? ⟨gc, 3, none⟩ = some (.slice (some ⟨gh, 0, none⟩) nH (nH + 8))) ∧ w'.cell? ⟨gd, 0, none⟩ = some (.int .i64 n) ∧ w'.cell? ⟨gd, 1, none⟩ = some (.int .i64 x) ∧ w'.cell? ⟨gd, 2, none⟩ = some (.int .i64 y) ∧ w'.cell? ⟨gd, 3, none⟩ = some (.slice a13 nH c13)) := fun w' hb => ⟨⟨(C8.below hb).c0, (C8.below hb).c1, (C8.below hb).c2, (C8.below hb).c3⟩, (D8.below hb).c0, (D8.below hb).c1, (D8.below hb).c2, (D8.below hb).c3⟩
          have UP : Hid (∀ w', Below w8.heap.size w8 w' → Below w6.heap.size w6 w') := fun w' hb => B68.out.trans (hb.mono B68.out.size)
          have Rr7 := HR6.out.below HB7.out
          have f0 := Rr7.c0
          have f1 := Rr7.c1
          have f2 := Rr7.c2
          have HW8 := hid hw8
          have HGD := hid hgd
          have T8 : Hid (Tw w w8 gh gl nH nL) := T6.out.below B68.out
          have KW8 : Hid (Keep (Bt gh gl) w3 w8) := Keep.bl KW.out B68.out
          have AX : Hid (Ax w6 w8 n x y E z1' z2' z3' nH nL gh gl gc gd c13 c14 a13 a14 TX RT BX) := ⟨UP.out, MV.out, iS.out, iR.out, iC1.out, iC2.out, iC3.out, iD1.out, iD2.out, iD3.out, iB.out, iKh.out, iKl.out⟩
          clear hgd hw8 b8 D8 C8 HC7 HB7 Rr7 HR6 T6 KW B68 HGC UP MV iS iR iC1 iC2 iC3 iD1 iD2 iD3 iB iKh iKl
          go_upto_region 18 with fail
          go_cut [15] (fun v15 w' => v15 = .pointer (some ⟨gd, 0, none⟩) ∧ w' = w8)
          case first =>
            go_wp2
            go_meet
            exact ⟨by rw [HGD.out], HW8.out⟩
          case rest =>
            obtain ⟨rfl, hwc⟩ := hcut
            subst hwc
            clear f0 f1 f2 HW8 HGD htt htn
            go_step
            refine asks_tail AX.out hnL aL cL _ _ _ _ _ _ _ _ _ _ _ _ _ _ _ _ _ _ _ _ _ _ _ _ _ _ _ _ _ _ _ _ _ _ _ _ _ _ _ _ _ _ _ _ _ _ _ _ _ _ _ _ _ _ _ _ _ _ _ _ _ _ _ _ _ _ _ _ _ _ _ _ _ _ _ _ _ _ _ _ _ _ _ _ _ _ _ _ _ _ _ _ _ _ _ _ _ _ _ _ _ _ _ _ _ _ _ _ _ _ _ _ _ _ _ _ _ _ _ _ _ _ _ _ _ _ _ _ _ _ _ _ _ _ _ _ _ _ _ _ _ _ _ _ _ _ _ _ _ _ _ _ _ _ _ _ _ _ _ _ _ _ _ _ _ _ _ _ _ _ _ _ _ _ _ _ _ _ _ _ _ _ _ _ _ _ _ _ _ ?_
            intro _ _ _ _ _ _ _ _ _ _ _ _ _ _ _ _ _ _ _ _ _ _ _ _ _ _ _ _ _ _ _ _ _ _ _ _ _ _ _ _ _ _ _ _ _ _ _ _ _ _ _ _ _ _ _ _ _ _ _ _ _ _ _ _ _ _ _ _ _ _ _ _ _ _ _ _ _ _ _ _ _ _ _ _ _ _ _ _ _ _ _ _ _ wE bE
            have TF := hid (T8.out.below bE)
            have KF : Hid (Keep (Bt gh gl) w3 wE) := Keep.bl KW8.out bE
            clear bE AX T8 KW8
            dsimp only
            go_wp2
            exact ⟨⟨j + 1, hj2'.out, by go_num, TF, KF⟩, by have := hj2'.out; simp [RowKit.intOf]; omega⟩
    · have z1 : ¬ (j : Int) < 2 := by omega
      have Rr := HR3.out.keep KJ.out hqn.out
      have X0 : wr.cell? ⟨q, 0, none⟩ = some (.int .i64 n) ∧ wr.cell? ⟨q, 1, none⟩ = some (.int .i64 x) ∧ wr.cell? ⟨q, 2, none⟩ = some (.int .i64 y) ∧ wr.cell? ⟨q, 3, none⟩ = some (.slice aH nH cH) := ⟨Rr.c0, Rr.c1, Rr.c2, Rr.c3⟩
      have iT := turned14_any n x y rt (w := wr.drew) HZ.out (TJ.out.below (Below.refl _ _).drew) hnH hnL aH cH
      rw [show sv rt = Value.string ⟨rt.toArray⟩ from rfl, HRT.out] at iT
      have y2 : (nL : Int) ≤ (nL : Int) + 8 := by omega
      have HRr := hid Rr
      clear Rr
      go_wp2
      go_region_held3 (fun W => W.cell? ⟨q, 0, none⟩ = some (.int .i64 n) ∧ W.cell? ⟨q, 1, none⟩ = some (.int .i64 x) ∧ W.cell? ⟨q, 2, none⟩ = some (.int .i64 y) ∧ W.cell? ⟨q, 3, none⟩ = some (.slice aH nH cH)) (first | exact X0 | exact X9) (first | (go_at_call 33; (refine iT.mono ?_); rintro r w9 ⟨rfl, b9, k9⟩; have B9 := hid b9; have R9 := HRr.out.drew.keep k9 hqn.out; have X9 : w9.cell? ⟨q, 0, none⟩ = some (.int .i64 n) ∧ w9.cell? ⟨q, 1, none⟩ = some (.int .i64 x) ∧ w9.cell? ⟨q, 2, none⟩ = some (.int .i64 y) ∧ w9.cell? ⟨q, 3, none⟩ = some (.slice aH nH cH) := ⟨R9.c0, R9.c1, R9.c2, R9.c3⟩; clear b9 k9 R9))
      go_wp2
      go_ret
      exact ⟨rfl, B9.out⟩
end Spn
end Go.Proofs.YtblmaokonhdjaaaGreatDoor
