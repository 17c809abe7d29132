import Derived.Test.YtbodgecbakcaaaaGreatDoorPkBA2
/- Layer 12, the law: asks: what its calls answer; its last test (written by genBA3.py) -/
namespace Go.Proofs.YtbodgecbakcaaaaGreatDoor
open Go.RowKit Go.Shelf
namespace Bat
theorem pq_of {w8 w : World} {X : Nat} {vf vw : Value} {us cc : List Value} {Ls : List (List (List UInt8))} {vo : Value} {ns : List Value} {Is : List (List Value)} (cx : Cx w8 X vf vw us cc Ls vo ns Is) (hb : Below w8.heap.size w8 w) {B B2 : Nat} {vp vq v15 v16 : Value} {ps : List (List (List UInt8))} {A C : List (List UInt8)} (lp : LL B w vp ps) (hB : w8.heap.size ≤ B) (lq : LL B2 w vq ps) (hB2 : w8.heap.size ≤ B2)
    (oh : OwnM 1 w8 v15 A.length (svs A)) (fh : Fv X vf vw us cc vo ns v15) (om : OwnM 1 w8 v16 C.length (svs C)) (fm : Fv X vf vw us cc vo ns v16) (few : ps.length ≤ 256 ∧ ∀ p ∈ ps, p.length ≤ 1000) :
    ∃ vs vt, Pq w X vf vw us cc vo ns vp vq v15 v16 vs vt ps A C := by
  obtain ⟨vs, ρ, a1, a2, a3⟩ := lp
  obtain ⟨vt, σ, b1, b2, b3⟩ := lq
  have gp : ∀ (i : Nat) (u : Value) (p : List (List UInt8)), vs[i]? = some u → ps[i]? = some p → ∀ b, u.ownBlock = some b → B ≤ b := fun i u p hu hp b hb => by
    have h1 := (a1.own i u p hu hp).2 b hb
    refine Nat.le_of_not_lt fun hlt => ?_
    rw [a1.lo b hlt] at h1
    omega
  have gq : ∀ (i : Nat) (u : Value) (p : List (List UInt8)), vt[i]? = some u → ps[i]? = some p → ∀ b, u.ownBlock = some b → B2 ≤ b := fun i u p hu hp b hb => by
    have h1 := (b1.own i u p hu hp).2 b hb
    refine Nat.le_of_not_lt fun hlt => ?_
    rw [b1.lo b hlt] at h1
    omega
  have hpp : ∀ (i : Nat) (u : Value), vs[i]? = some u → ∃ p, ps[i]? = some p := fun i u hu => ⟨_, List.getElem?_eq_getElem (by have := (List.getElem?_eq_some_iff.1 hu).1; have := a1.len; omega)⟩
  have hX := cx.lx
  refine ⟨vs, vt, ⟨a2, cx.fresh fun b hb => Nat.le_trans hB (a3 b hb).1, fun b hb => by have := (a3 b hb).1; omega, fun i u b hu hb e => ?_, b2, cx.fresh fun b hb => Nat.le_trans hB2 (b3 b hb).1, a1.len, b1.len, fun i u p hu hp => ⟨(a1.own i u p hu hp).1, cx.fresh fun b hb => Nat.le_trans hB (gp i u p hu hp b hb), fun b hb => by have := gp i u p hu hp b hb; omega⟩, fun i u p hu hp => ⟨(b1.own i u p hu hp).1, cx.fresh fun b hb => Nat.le_trans hB2 (gq i u p hu hp b hb)⟩, fun i j u v b hu hv h1 h2 => ?_, oh.below hb, fh, om.below hb, fm, few⟩⟩
  · obtain ⟨p, hp⟩ := hpp i u hu
    have h1 := (a1.own i u p hu hp).2 b hb
    rw [(a3 b e).2] at h1
    omega
  · obtain ⟨p, hp⟩ := hpp i u hu
    obtain ⟨p', hp'⟩ := hpp j v hv
    have e1 := (a1.own i u p hu hp).2 b h1
    have e2 := (a1.own j v p' hv hp').2 b h2
    omega
theorem LL.shape {B : Nat} {w : World} {v : Value} {ps : List (List (List UInt8))} (h : LL B w v ps) : ∃ a c, v = .slice a ps.length c := by
  obtain ⟨vs, ρ, a1, a2, _⟩ := h
  obtain ⟨a, c, e, _⟩ := a2.shape
  exact ⟨a, c, by rw [e, a1.len]⟩
structure Ax (w6 w8 : World) (n E z1 z2 z3 : Int) (nI nH nL gi gh gl gc gd cI c15 c16 : Nat) (aI a15 a16 : Option Addr) (TX RT BX : ByteArray) (ps : List (List (List UInt8))) : Prop where
  up : ∀ w', Below w8.heap.size w8 w' → Below w6.heap.size w6 w'
  mv : ∀ w', Below w8.heap.size w8 w' → (w'.cell? ⟨gc, 0, none⟩ = some (.int .i64 n) ∧ w'.cell? ⟨gc, 1, none⟩ = some (.slice (some ⟨gi, 0, none⟩) nI (nI + 8)) ∧ w'.cell? ⟨gc, 2, none⟩ = some (.slice (some ⟨gh, 0, none⟩) nH (nH + 8))) ∧ w'.cell? ⟨gd, 0, none⟩ = some (.int .i64 n) ∧ w'.cell? ⟨gd, 1, none⟩ = some (.slice aI nI cI) ∧ w'.cell? ⟨gd, 2, none⟩ = some (.slice a15 nH c15)
  iS : ∀ w', Below w6.heap.size w6 w' → Calls Tryz.prog 19 #[bt n (.slice (some ⟨gi, 0, none⟩) nI (nI + 8)) (.slice (some ⟨gh, 0, none⟩) nH (nH + 8)), .slice (some ⟨gl, 0, none⟩) nL (nL + 8)] w' fun r w'' => r = .returned (.tuple #[.string TX, .int .i64 E]) ∧ Below w'.heap.size w' w''
  iR : ∀ w', Below w6.heap.size w6 w' → Calls Tryz.prog 20 #[bt n (.slice aI nI cI) (.slice a15 nH c15), .slice a16 nL c16] w' fun r w'' => r = .returned (.tuple #[.string TX, .int .i64 E]) ∧ Below w'.heap.size w' w''
  iC1 : ∀ w', Below w6.heap.size w6 w' → Calls Tryz.prog 16 #[bt n (.slice (some ⟨gi, 0, none⟩) nI (nI + 8)) (.slice (some ⟨gh, 0, none⟩) nH (nH + 8)), .slice (some ⟨gl, 0, none⟩) nL (nL + 8), .string RT] w' fun r w'' => r = .returned (.int .i64 z1) ∧ Below w'.heap.size w' w''
  iC2 : ∀ w', Below w6.heap.size w6 w' → Calls Tryz.prog 16 #[bt n (.slice (some ⟨gi, 0, none⟩) nI (nI + 8)) (.slice (some ⟨gh, 0, none⟩) nH (nH + 8)), .slice (some ⟨gl, 0, none⟩) nL (nL + 8), .string TX] w' fun r w'' => r = .returned (.int .i64 z2) ∧ Below w'.heap.size w' w''
  iC3 : ∀ w', Below w6.heap.size w6 w' → Calls Tryz.prog 16 #[bt n (.slice (some ⟨gi, 0, none⟩) nI (nI + 8)) (.slice (some ⟨gh, 0, none⟩) nH (nH + 8)), .slice (some ⟨gl, 0, none⟩) nL (nL + 8), .string BX] w' fun r w'' => r = .returned (.int .i64 z3) ∧ Below w'.heap.size w' w''
  iD1 : ∀ w', Below w6.heap.size w6 w' → Calls Tryz.prog 23 #[bt n (.slice aI nI cI) (.slice a15 nH c15), .slice a16 nL c16, .string RT] w' fun r w'' => r = .returned (.int .i64 z1) ∧ Below w'.heap.size w' w''
  iD2 : ∀ w', Below w6.heap.size w6 w' → Calls Tryz.prog 23 #[bt n (.slice aI nI cI) (.slice a15 nH c15), .slice a16 nL c16, .string TX] w' fun r w'' => r = .returned (.int .i64 z2) ∧ Below w'.heap.size w' w''
  iD3 : ∀ w', Below w6.heap.size w6 w' → Calls Tryz.prog 23 #[bt n (.slice aI nI cI) (.slice a15 nH c15), .slice a16 nL c16, .string BX] w' fun r w'' => r = .returned (.int .i64 z3) ∧ Below w'.heap.size w' w''
  iE : ∀ w', Below w6.heap.size w6 w' → Calls Tryz.prog 14 #[bt n (.slice (some ⟨gi, 0, none⟩) nI (nI + 8)) (.slice (some ⟨gh, 0, none⟩) nH (nH + 8)), .slice (some ⟨gl, 0, none⟩) nL (nL + 8)] w' fun r w'' => ∃ v, r = .returned (.tuple #[v, .int .i64 E]) ∧ LL w'.heap.size w'' v ps ∧ Below w'.heap.size w' w''
  iF : ∀ w', Below w6.heap.size w6 w' → Calls Tryz.prog 21 #[bt n (.slice aI nI cI) (.slice a15 nH c15), .slice a16 nL c16] w' fun r w'' => ∃ v, r = .returned (.tuple #[v, .int .i64 E]) ∧ LL w'.heap.size w'' v ps ∧ Below w'.heap.size w' w''
  iB : ∀ w', Calls Tryz.prog 22 #[.string TX] w' fun r w'' => r = .returned (.string BX) ∧ Below w'.heap.size w' w''
noncomputable def asksR : Code := (match Tryz.f6.body.bind (fromX 29) with | some (.seq (.seq c _) _) => c | _ => .skip)
set_option maxRecDepth 1000000 in
set_option maxHeartbeats 8000000 in
theorem asks_29 {w6 w8 : World} {n E z1 z2 z3 : Int} {nI nH nL gi gh gl gc gd cI c15 c16 : Nat} {aI a15 a16 : Option Addr} {TX RT BX : ByteArray} {ps : List (List (List UInt8))} (X : Ax w6 w8 n E z1 z2 z3 nI nH nL gi gh gl gc gd cI c15 c16 aI a15 a16 TX RT BX ps) {ap aq : Option Addr} {N cp cq : Nat} {w15 : World} (b15 : Below w8.heap.size w8 w15) (u0 u1 u3 u4 u5 u6 u7 u8 u9 u10 u11 u12 u13 u14 u15 u17 u30 u31 u32 u33 u34 u35 u36 u37 u38 u39 u40 u41 u42 u43 u44 u45 u46 u47 u48 u49 u50 u51 u52 u53 u54 u55 u56 u57 u58 u59 u60 u61 u62 u63 u64 u65 u66 u67 u68 u69 u70 u71 u72 u73 u74 u75 u76 u77 u78 u79 u80 u81 u82 u83 u84 u85 u86 u87 u88 u89 u90 u91 u92 u93 u94 u95 u96 u97 u98 u99 u100 u101 u102 u103 u104 u105 u106 u107 u108 u109 u110 u111 u112 u113 u114 u115 u116 u117 u118 u119 u120 u121 u122 u123 u124 u125 u126 u127 u128 u129 u130 u131 u132 u133 u134 u135 u136 u137 u138 u139 u140 u141 u142 u143 u144 u145 u146 u147 u148 u149 u150 u151 u152 u153 u154 u155 u156 u157 u158 u159 u160 u161 u162 u163 u164 u165 u166 u167 u168 u169 u170 u171 u172 u173 u174 u175 u176 u177 u178 u179 u180 u181 u182 u183 u184 u185 u186 u187 u188 u189 u190 u191 u192 u193 u194 u195 u196 u197 u198 u199 u200 u201 u202 u203 u204 u205 u206 u207 u208 u209 u210 u211 u212 u213 u214 u215 u216 u217 u218 u219 u220 u221 u222 u223 u224 u225 u226 u227 u228 u229 u230 u231 u232 u233 u234 u235 u236 u237 u238 u239 u240 u241 u242 u243 u244 u245 u246 u247 u248 u249 u250 u251 u252 u253 u254 u255 u256 u257 u258 u259 u260 u261 u262 u263 u264 u265 u266 u267 u268 u269 u270 u271 u272 u273 u274 u275 u276 u277 u278 u279 u280 u281 : Value) (Q : Act → World → Prop) (hQ : ∀ (c172 c173 c174 c175 c176 c177 c178 c179 c180 c181 c182 c183 c184 c185 c186 c187 c188 c189 c190 c191 c192 c193 c194 c195 c196 c197 c198 c199 c200 c201 c202 c203 c204 c205 c206 c207 c208 c209 c210 c211 c212 c213 c214 c215 : Value) (w' : World), Below w15.heap.size w15 w' → Q ⟨#[u0, u1, .string RT, u3, u4, u5, u6, u7, u8, u9, u10, u11, u12, u13, u14, u15, .slice a16 nL c16, u17, .pointer (some ⟨gd, 0, none⟩), .string TX, .int .i64 E, .string TX, .int .i64 E, .int .i64 z1, .int .i64 z2, .slice ap N cp, .int .i64 E, .slice aq N cq, .int .i64 E, .int .i64 z3, u30, u31, u32, u33, u34, u35, u36, u37, u38, u39, u40, u41, u42, u43, u44, u45, u46, u47, u48, u49, u50, u51, u52, u53, u54, u55, u56, u57, u58, u59, u60, u61, u62, u63, u64, u65, u66, u67, u68, u69, u70, u71, u72, u73, u74, u75, u76, u77, u78, u79, u80, u81, u82, u83, u84, u85, u86, u87, u88, u89, u90, u91, u92, u93, u94, u95, u96, u97, u98, u99, u100, u101, u102, u103, u104, u105, u106, u107, u108, u109, u110, u111, u112, u113, u114, u115, u116, u117, u118, u119, u120, u121, u122, u123, u124, u125, u126, u127, u128, u129, u130, u131, u132, u133, u134, u135, u136, u137, u138, u139, u140, u141, u142, u143, u144, u145, u146, u147, u148, u149, u150, u151, u152, u153, u154, u155, u156, u157, u158, u159, u160, u161, u162, u163, u164, u165, u166, u167, u168, u169, u170, u171, c172, c173, c174, c175, c176, c177, c178, c179, c180, c181, c182, c183, c184, c185, c186, c187, c188, c189, c190, c191, c192, c193, c194, c195, c196, c197, c198, c199, c200, c201, c202, c203, c204, c205, c206, c207, c208, c209, c210, c211, c212, c213, c214, c215, .bool false, u217, u218, u219, u220, u221, u222, u223, u224, u225, u226, u227, u228, u229, u230, u231, u232, u233, u234, u235, u236, u237, u238, u239, u240, u241, u242, u243, u244, u245, u246, u247, u248, u249, u250, u251, u252, u253, u254, u255, u256, u257, u258, u259, u260, u261, u262, u263, u264, u265, u266, u267, u268, u269, u270, u271, u272, u273, u274, u275, u276, u277, u278, u279, u280, u281], []⟩ w') :
    Code.wp Tryz.prog asksR (Exit.then Q (fun _ _ _ => False)) ⟨#[u0, u1, .string RT, u3, u4, u5, u6, u7, u8, u9, u10, u11, u12, u13, u14, u15, .slice a16 nL c16, u17, .pointer (some ⟨gd, 0, none⟩), .string TX, .int .i64 E, .string TX, .int .i64 E, .int .i64 z1, .int .i64 z2, .slice ap N cp, .int .i64 E, .slice aq N cq, .int .i64 E, .int .i64 z3, u30, u31, u32, u33, u34, u35, u36, u37, u38, u39, u40, u41, u42, u43, u44, u45, u46, u47, u48, u49, u50, u51, u52, u53, u54, u55, u56, u57, u58, u59, u60, u61, u62, u63, u64, u65, u66, u67, u68, u69, u70, u71, u72, u73, u74, u75, u76, u77, u78, u79, u80, u81, u82, u83, u84, u85, u86, u87, u88, u89, u90, u91, u92, u93, u94, u95, u96, u97, u98, u99, u100, u101, u102, u103, u104, u105, u106, u107, u108, u109, u110, u111, u112, u113, u114, u115, u116, u117, u118, u119, u120, u121, u122, u123, u124, u125, u126, u127, u128, u129, u130, u131, u132, u133, u134, u135, u136, u137, u138, u139, u140, u141, u142, u143, u144, u145, u146, u147, u148, u149, u150, u151, u152, u153, u154, u155, u156, u157, u158, u159, u160, u161, u162, u163, u164, u165, u166, u167, u168, u169, u170, u171, u172, u173, u174, u175, u176, u177, u178, u179, u180, u181, u182, u183, u184, u185, u186, u187, u188, u189, u190, u191, u192, u193, u194, u195, u196, u197, u198, u199, u200, u201, u202, u203, u204, u205, u206, u207, u208, u209, u210, u211, u212, u213, u214, u215, u216, u217, u218, u219, u220, u221, u222, u223, u224, u225, u226, u227, u228, u229, u230, u231, u232, u233, u234, u235, u236, u237, u238, u239, u240, u241, u242, u243, u244, u245, u246, u247, u248, u249, u250, u251, u252, u253, u254, u255, u256, u257, u258, u259, u260, u261, u262, u263, u264, u265, u266, u267, u268, u269, u270, u271, u272, u273, u274, u275, u276, u277, u278, u279, u280, u281], []⟩ w15 := by
  conv => arg 2; whnf
  have UP := hid fun w' (hb : Below w15.heap.size w15 w') => X.up w' (b15.trans (hb.mono b15.size))
  have MV := hid fun w' (hb : Below w15.heap.size w15 w') => X.mv w' (b15.trans (hb.mono b15.size))
  have iD1 := hid X.iD1
  have iD2 := hid X.iD2
  have iD3 := hid X.iD3
  have iB := hid X.iB
  have HQ := hid hQ
  have B15 := hid (Below.refl w15.heap.size w15)
  clear X hQ b15
  have htt : (TX.toList == TX.toList) = true := beq_self_eq_true _
  have htn : (TX.toList != TX.toList) = false := by simp
  have n0 : (E != E) = false := by simp
  have n1 : (z1 != z1) = false := by simp
  have n2 : (z2 != z2) = false := by simp
  have n3 : (z3 != z3) = false := by simp
  have n4 : ((N : Int) != (N : Int)) = false := by simp
  have X0 := MV.out _ B15.out
  dsimp only
  refine wp_region_held_drew (S := (fun W => (W.cell? ⟨gc, 0, none⟩ = some (.int .i64 n) ∧ W.cell? ⟨gc, 1, none⟩ = some (.slice (some ⟨gi, 0, none⟩) nI (nI + 8)) ∧ W.cell? ⟨gc, 2, none⟩ = some (.slice (some ⟨gh, 0, none⟩) nH (nH + 8))) ∧ W.cell? ⟨gd, 0, none⟩ = some (.int .i64 n) ∧ W.cell? ⟨gd, 1, none⟩ = some (.slice aI nI cI) ∧ W.cell? ⟨gd, 2, none⟩ = some (.slice a15 nH c15))) (by kernel_rfl) X0 (fun hHeld => ?_)
  refine wpAnyH_take (i := 0) (oi := ⟨some 172, _, _, _, _, _⟩) (v := ?vm0) rfl (by kernel_rfl) (by kernel_rfl) (by kernel_rfl) (fun _ _ _ h => h) (Or.inl ⟨by rfl, ?hym0⟩) (by assumption) ?restm0
  case hym0 => (intro w hSw; (try dsimp only at hSw); go_simp <;> (try with_reducible rfl))
  try simp only [Act.put, List.setIfInBounds_toArray, List.set_cons_zero, List.set_cons_succ]
  refine wpAnyH_take (i := 1) (oi := ⟨some 173, _, _, _, _, _⟩) (v := ?vm1) rfl (by kernel_rfl) (by kernel_rfl) (by kernel_rfl) (fun _ _ _ h => h) (Or.inl ⟨by rfl, ?hym1⟩) (by assumption) ?restm1
  case hym1 => (intro w hSw; (try dsimp only at hSw); go_simp <;> (try with_reducible rfl))
  try simp only [Act.put, List.setIfInBounds_toArray, List.set_cons_zero, List.set_cons_succ]
  refine wpAnyH_take (i := 2) (oi := ⟨some 174, _, _, _, _, _⟩) (v := ?vm2) rfl (by kernel_rfl) (by kernel_rfl) (by kernel_rfl) (fun _ _ _ h => h) (Or.inl ⟨by rfl, ?hym2⟩) (by assumption) ?restm2
  case hym2 => (intro w hSw; (try dsimp only at hSw); go_simp <;> (try with_reducible rfl))
  try simp only [Act.put, List.setIfInBounds_toArray, List.set_cons_zero, List.set_cons_succ]
  refine wpAnyH_take (i := 3) (oi := ⟨some 175, _, _, _, _, _⟩) (v := ?vm3) rfl (by kernel_rfl) (by kernel_rfl) (by kernel_rfl) (fun _ _ _ h => h) (Or.inl ⟨by rfl, ?hym3⟩) (by assumption) ?restm3
  case hym3 => (intro w hSw; (try dsimp only at hSw); go_simp <;> (try with_reducible rfl))
  try simp only [Act.put, List.setIfInBounds_toArray, List.set_cons_zero, List.set_cons_succ]
  refine wpAnyH_take (i := 4) (oi := ⟨some 176, _, _, _, _, _⟩) (v := ?vm4) rfl (by kernel_rfl) (by kernel_rfl) (by kernel_rfl) (fun _ _ _ h => h) (Or.inl ⟨by rfl, ?hym4⟩) (by assumption) ?restm4
  case hym4 => (intro w hSw; (try dsimp only at hSw); go_simp <;> (try with_reducible rfl))
  try simp only [Act.put, List.setIfInBounds_toArray, List.set_cons_zero, List.set_cons_succ]
  refine wpAnyH_take (i := 5) (oi := ⟨some 177, _, _, _, _, _⟩) (v := ?vm5) rfl (by kernel_rfl) (by kernel_rfl) (by kernel_rfl) (fun _ _ _ h => h) (Or.inl ⟨by rfl, ?hym5⟩) (by assumption) ?restm5
  case hym5 => (intro w hSw; (try dsimp only at hSw); go_simp <;> (try with_reducible rfl))
  try simp only [Act.put, List.setIfInBounds_toArray, List.set_cons_zero, List.set_cons_succ]
  refine wpAnyH_take (i := 6) (oi := ⟨some 178, _, _, _, _, _⟩) (v := ?vm6) rfl (by kernel_rfl) (by kernel_rfl) (by kernel_rfl) (fun _ _ _ h => h) (Or.inl ⟨by rfl, ?hym6⟩) (by assumption) ?restm6
  case hym6 => (intro w hSw; (try dsimp only at hSw); go_simp <;> (try with_reducible rfl))
  try simp only [Act.put, List.setIfInBounds_toArray, List.set_cons_zero, List.set_cons_succ]
  refine wpAnyH_take (i := 7) (oi := ⟨some 179, _, _, _, _, _⟩) (v := ?vm7) rfl (by kernel_rfl) (by kernel_rfl) (by kernel_rfl) (fun _ _ _ h => h) (Or.inl ⟨by rfl, ?hym7⟩) (by assumption) ?restm7
  case hym7 => (intro w hSw; (try dsimp only at hSw); go_simp <;> (try with_reducible rfl))
  try simp only [Act.put, List.setIfInBounds_toArray, List.set_cons_zero, List.set_cons_succ]
  refine wpAnyH_take (i := 8) (oi := ⟨some 180, _, _, _, _, _⟩) (v := ?vm8) rfl (by kernel_rfl) (by kernel_rfl) (by kernel_rfl) (fun _ _ _ h => h) (Or.inl ⟨by rfl, ?hym8⟩) (by assumption) ?restm8
  case hym8 => (intro w hSw; (try dsimp only at hSw); go_simp <;> (try with_reducible rfl))
  try simp only [Act.put, List.setIfInBounds_toArray, List.set_cons_zero, List.set_cons_succ]
  refine wpAnyH_take (i := 9) (oi := ⟨some 181, _, _, _, _, _⟩) (v := ?vm9) rfl (by kernel_rfl) (by kernel_rfl) (by kernel_rfl) (fun _ _ _ h => h) (Or.inl ⟨by rfl, ?hym9⟩) (by assumption) ?restm9
  case hym9 => (intro w hSw; (try dsimp only at hSw); go_simp <;> (try with_reducible rfl))
  try simp only [Act.put, List.setIfInBounds_toArray, List.set_cons_zero, List.set_cons_succ]
  refine wpAnyH_take (i := 10) (oi := ⟨some 182, _, _, _, _, _⟩) (v := ?vm10) rfl (by kernel_rfl) (by kernel_rfl) (by kernel_rfl) (fun _ _ _ h => h) (Or.inl ⟨by rfl, ?hym10⟩) (by assumption) ?restm10
  case hym10 => (intro w hSw; (try dsimp only at hSw); go_simp <;> (try with_reducible rfl))
  try simp only [Act.put, List.setIfInBounds_toArray, List.set_cons_zero, List.set_cons_succ]
  refine wpAnyH_take (i := 11) (oi := ⟨some 183, _, _, _, _, _⟩) (v := ?vm11) rfl (by kernel_rfl) (by kernel_rfl) (by kernel_rfl) (fun _ _ _ h => h) (Or.inl ⟨by rfl, ?hym11⟩) (by assumption) ?restm11
  case hym11 => (intro w hSw; (try dsimp only at hSw); go_simp <;> (try with_reducible rfl))
  try simp only [Act.put, List.setIfInBounds_toArray, List.set_cons_zero, List.set_cons_succ]
  refine wpAnyH_take (i := 12) (oi := ⟨some 184, _, _, _, _, _⟩) (v := ?vm12) rfl (by kernel_rfl) (by kernel_rfl) (by kernel_rfl) (fun _ _ _ h => h) (Or.inl ⟨by rfl, ?hym12⟩) (by assumption) ?restm12
  case hym12 => (intro w hSw; (try dsimp only at hSw); go_simp <;> (try with_reducible rfl))
  try simp only [Act.put, List.setIfInBounds_toArray, List.set_cons_zero, List.set_cons_succ]
  refine wpAnyH_ready (rs := [13]) (by kernel_rfl) (by simp) ?_
  refine AllReadyH.cons (o := ⟨some 185, _, _, _, _, _⟩) rfl (fun K hK => ?_) AllReadyH.nil
  go_simp
  go_at_call 23
  refine (iD1.out _ (UP.out _ B15.out.drew)).mono ?_
  rintro r wx ⟨rfl, bx⟩
  have Q1 := hid (B15.out.drew.trans (bx.mono B15.out.drew.size))
  have X1 := MV.out _ Q1.out
  clear bx
  clear hHeld
  refine hK.out _ _ ?hSm13 (fun hHeld => ?restm13)
  case hSm13 => exact X1
  clear hK K
  try simp only [Act.put, List.setIfInBounds_toArray, List.set_cons_zero, List.set_cons_succ]
  refine wpAnyH_take (i := 14) (oi := ⟨some 186, _, _, _, _, _⟩) (v := ?vm14) rfl (by kernel_rfl) (by kernel_rfl) (by kernel_rfl) (fun _ _ _ h => h) (Or.inl ⟨by rfl, ?hym14⟩) (by assumption) ?restm14
  case hym14 => (intro w hSw; (try dsimp only at hSw); go_simp <;> (try with_reducible rfl))
  try simp only [Act.put, List.setIfInBounds_toArray, List.set_cons_zero, List.set_cons_succ]
  refine wpAnyH_take (i := 15) (oi := ⟨some 187, _, _, _, _, _⟩) (v := ?vm15) rfl (by kernel_rfl) (by kernel_rfl) (by kernel_rfl) (fun _ _ _ h => h) (Or.inl ⟨by rfl, ?hym15⟩) (by assumption) ?restm15
  case hym15 => (intro w hSw; (try dsimp only at hSw); go_simp <;> (try with_reducible rfl))
  try simp only [Act.put, List.setIfInBounds_toArray, List.set_cons_zero, List.set_cons_succ]
  refine wpAnyH_take (i := 16) (oi := ⟨some 188, _, _, _, _, _⟩) (v := ?vm16) rfl (by kernel_rfl) (by kernel_rfl) (by kernel_rfl) (fun _ _ _ h => h) (Or.inl ⟨by rfl, ?hym16⟩) (by assumption) ?restm16
  case hym16 => (intro w hSw; (try dsimp only at hSw); go_simp <;> (try with_reducible rfl))
  try simp only [Act.put, List.setIfInBounds_toArray, List.set_cons_zero, List.set_cons_succ]
  refine wpAnyH_take (i := 17) (oi := ⟨some 189, _, _, _, _, _⟩) (v := ?vm17) rfl (by kernel_rfl) (by kernel_rfl) (by kernel_rfl) (fun _ _ _ h => h) (Or.inl ⟨by rfl, ?hym17⟩) (by assumption) ?restm17
  case hym17 => (intro w hSw; (try dsimp only at hSw); go_simp <;> (try with_reducible rfl))
  try simp only [Act.put, List.setIfInBounds_toArray, List.set_cons_zero, List.set_cons_succ]
  refine wpAnyH_take (i := 18) (oi := ⟨some 190, _, _, _, _, _⟩) (v := ?vm18) rfl (by kernel_rfl) (by kernel_rfl) (by kernel_rfl) (fun _ _ _ h => h) (Or.inl ⟨by rfl, ?hym18⟩) (by assumption) ?restm18
  case hym18 => (intro w hSw; (try dsimp only at hSw); go_simp <;> (try with_reducible rfl))
  try simp only [Act.put, List.setIfInBounds_toArray, List.set_cons_zero, List.set_cons_succ]
  refine wpAnyH_take (i := 19) (oi := ⟨some 191, _, _, _, _, _⟩) (v := ?vm19) rfl (by kernel_rfl) (by kernel_rfl) (by kernel_rfl) (fun _ _ _ h => h) (Or.inl ⟨by rfl, ?hym19⟩) (by assumption) ?restm19
  case hym19 => (intro w hSw; (try dsimp only at hSw); go_simp <;> (try with_reducible rfl))
  try simp only [Act.put, List.setIfInBounds_toArray, List.set_cons_zero, List.set_cons_succ]
  refine wpAnyH_take (i := 20) (oi := ⟨some 192, _, _, _, _, _⟩) (v := ?vm20) rfl (by kernel_rfl) (by kernel_rfl) (by kernel_rfl) (fun _ _ _ h => h) (Or.inl ⟨by rfl, ?hym20⟩) (by assumption) ?restm20
  case hym20 => (intro w hSw; (try dsimp only at hSw); go_simp <;> (try with_reducible rfl))
  try simp only [Act.put, List.setIfInBounds_toArray, List.set_cons_zero, List.set_cons_succ]
  refine wpAnyH_ready (rs := [21]) (by kernel_rfl) (by simp) ?_
  refine AllReadyH.cons (o := ⟨some 193, _, _, _, _, _⟩) rfl (fun K hK => ?_) AllReadyH.nil
  go_simp
  go_at_call 23
  refine (iD2.out _ (UP.out _ Q1.out)).mono ?_
  rintro r wy ⟨rfl, bx⟩
  have Q2 := hid (Q1.out.trans (bx.mono Q1.out.size))
  have X2 := MV.out _ Q2.out
  clear bx
  clear hHeld
  refine hK.out _ _ ?hSm21 (fun hHeld => ?restm21)
  case hSm21 => exact X2
  clear hK K
  try simp only [Act.put, List.setIfInBounds_toArray, List.set_cons_zero, List.set_cons_succ]
  refine wpAnyH_take (i := 22) (oi := ⟨some 194, _, _, _, _, _⟩) (v := ?vm22) rfl (by kernel_rfl) (by kernel_rfl) (by kernel_rfl) (fun _ _ _ h => h) (Or.inl ⟨by rfl, ?hym22⟩) (by assumption) ?restm22
  case hym22 => (intro w hSw; (try dsimp only at hSw); go_simp <;> (try with_reducible rfl))
  try simp only [Act.put, List.setIfInBounds_toArray, List.set_cons_zero, List.set_cons_succ]
  refine wpAnyH_take (i := 23) (oi := ⟨some 195, _, _, _, _, _⟩) (v := ?vm23) rfl (by kernel_rfl) (by kernel_rfl) (by kernel_rfl) (fun _ _ _ h => h) (Or.inl ⟨by rfl, ?hym23⟩) (by assumption) ?restm23
  case hym23 => (intro w hSw; (try dsimp only at hSw); go_simp <;> (try with_reducible rfl))
  try simp only [Act.put, List.setIfInBounds_toArray, List.set_cons_zero, List.set_cons_succ]
  refine wpAnyH_take (i := 24) (oi := ⟨some 196, _, _, _, _, _⟩) (v := ?vm24) rfl (by kernel_rfl) (by kernel_rfl) (by kernel_rfl) (fun _ _ _ h => h) (Or.inl ⟨by rfl, ?hym24⟩) (by assumption) ?restm24
  case hym24 => (intro w hSw; (try dsimp only at hSw); go_simp <;> (try with_reducible rfl))
  try simp only [Act.put, List.setIfInBounds_toArray, List.set_cons_zero, List.set_cons_succ]
  refine wpAnyH_take (i := 25) (oi := ⟨some 197, _, _, _, _, _⟩) (v := ?vm25) rfl (by kernel_rfl) (by kernel_rfl) (by kernel_rfl) (fun _ _ _ h => h) (Or.inl ⟨by rfl, ?hym25⟩) (by assumption) ?restm25
  case hym25 => (intro w hSw; (try dsimp only at hSw); go_simp <;> (try with_reducible rfl))
  try simp only [Act.put, List.setIfInBounds_toArray, List.set_cons_zero, List.set_cons_succ]
  refine wpAnyH_take (i := 26) (oi := ⟨some 198, _, _, _, _, _⟩) (v := ?vm26) rfl (by kernel_rfl) (by kernel_rfl) (by kernel_rfl) (fun _ _ _ h => h) (Or.inl ⟨by rfl, ?hym26⟩) (by assumption) ?restm26
  case hym26 => (intro w hSw; (try dsimp only at hSw); go_simp <;> (try with_reducible rfl))
  try simp only [Act.put, List.setIfInBounds_toArray, List.set_cons_zero, List.set_cons_succ]
  refine wpAnyH_take (i := 27) (oi := ⟨some 199, _, _, _, _, _⟩) (v := ?vm27) rfl (by kernel_rfl) (by kernel_rfl) (by kernel_rfl) (fun _ _ _ h => h) (Or.inl ⟨by rfl, ?hym27⟩) (by assumption) ?restm27
  case hym27 => (intro w hSw; (try dsimp only at hSw); go_simp <;> (try with_reducible rfl))
  try simp only [Act.put, List.setIfInBounds_toArray, List.set_cons_zero, List.set_cons_succ]
  refine wpAnyH_take (i := 28) (oi := ⟨some 200, _, _, _, _, _⟩) (v := ?vm28) rfl (by kernel_rfl) (by kernel_rfl) (by kernel_rfl) (fun _ _ _ h => h) (Or.inl ⟨by rfl, ?hym28⟩) (by assumption) ?restm28
  case hym28 => (intro w hSw; (try dsimp only at hSw); go_simp <;> (try with_reducible rfl))
  try simp only [Act.put, List.setIfInBounds_toArray, List.set_cons_zero, List.set_cons_succ]
  refine wpAnyH_ready (rs := [29]) (by kernel_rfl) (by simp) ?_
  refine AllReadyH.cons (o := ⟨some 201, _, _, _, _, _⟩) rfl (fun K hK => ?_) AllReadyH.nil
  go_simp
  go_at_call 22
  refine (iB.out _).mono ?_
  rintro r wz ⟨rfl, bx⟩
  have Q3 := hid (Q2.out.trans (bx.mono Q2.out.size))
  have X3 := MV.out _ Q3.out
  clear bx
  clear hHeld
  refine hK.out _ _ ?hSm29 (fun hHeld => ?restm29)
  case hSm29 => exact X3
  clear hK K
  try simp only [Act.put, List.setIfInBounds_toArray, List.set_cons_zero, List.set_cons_succ]
  refine wpAnyH_ready (rs := [30]) (by kernel_rfl) (by simp) ?_
  refine AllReadyH.cons (o := ⟨some 202, _, _, _, _, _⟩) rfl (fun K hK => ?_) AllReadyH.nil
  go_simp
  go_at_call 23
  refine (iD3.out _ (UP.out _ Q3.out)).mono ?_
  rintro r wv ⟨rfl, bx⟩
  have Q4 := hid (Q3.out.trans (bx.mono Q3.out.size))
  have X4 := MV.out _ Q4.out
  clear bx
  clear hHeld
  refine hK.out _ _ ?hSm30 (fun hHeld => ?restm30)
  case hSm30 => exact X4
  clear hK K
  try simp only [Act.put, List.setIfInBounds_toArray, List.set_cons_zero, List.set_cons_succ]
  refine wpAnyH_take (i := 31) (oi := ⟨some 203, _, _, _, _, _⟩) (v := ?vm31) rfl (by kernel_rfl) (by kernel_rfl) (by kernel_rfl) (fun _ _ _ h => h) (Or.inl ⟨by rfl, ?hym31⟩) (by assumption) ?restm31
  case hym31 => (intro w hSw; (try dsimp only at hSw); go_simp <;> (try with_reducible rfl))
  try simp only [Act.put, List.setIfInBounds_toArray, List.set_cons_zero, List.set_cons_succ]
  refine wpAnyH_take (i := 32) (oi := ⟨some 204, _, _, _, _, _⟩) (v := ?vm32) rfl (by kernel_rfl) (by kernel_rfl) (by kernel_rfl) (fun _ _ _ h => h) (Or.inl ⟨by rfl, ?hym32⟩) (by assumption) ?restm32
  case hym32 => (intro w hSw; (try dsimp only at hSw); go_simp <;> (try with_reducible rfl))
  try simp only [Act.put, List.setIfInBounds_toArray, List.set_cons_zero, List.set_cons_succ]
  refine wpAnyH_take (i := 33) (oi := ⟨some 205, _, _, _, _, _⟩) (v := ?vm33) rfl (by kernel_rfl) (by kernel_rfl) (by kernel_rfl) (fun _ _ _ h => h) (Or.inl ⟨by rfl, ?hym33⟩) (by assumption) ?restm33
  case hym33 => (intro w hSw; (try dsimp only at hSw); go_simp <;> (try with_reducible rfl))
  try simp only [Act.put, List.setIfInBounds_toArray, List.set_cons_zero, List.set_cons_succ]
  refine wpAnyH_take (i := 34) (oi := ⟨some 206, _, _, _, _, _⟩) (v := ?vm34) rfl (by kernel_rfl) (by kernel_rfl) (by kernel_rfl) (fun _ _ _ h => h) (Or.inl ⟨by rfl, ?hym34⟩) (by assumption) ?restm34
  case hym34 => (intro w hSw; (try dsimp only at hSw); go_simp <;> (try with_reducible rfl))
  try simp only [Act.put, List.setIfInBounds_toArray, List.set_cons_zero, List.set_cons_succ]
  refine wpAnyH_take (i := 35) (oi := ⟨some 207, _, _, _, _, _⟩) (v := ?vm35) rfl (by kernel_rfl) (by kernel_rfl) (by kernel_rfl) (fun _ _ _ h => h) (Or.inl ⟨by rfl, ?hym35⟩) (by assumption) ?restm35
  case hym35 => (intro w hSw; (try dsimp only at hSw); go_simp <;> (try with_reducible rfl))
  try simp only [Act.put, List.setIfInBounds_toArray, List.set_cons_zero, List.set_cons_succ]
  refine wpAnyH_take (i := 36) (oi := ⟨some 208, _, _, _, _, _⟩) (v := ?vm36) rfl (by kernel_rfl) (by kernel_rfl) (by kernel_rfl) (fun _ _ _ h => h) (Or.inl ⟨by rfl, ?hym36⟩) (by assumption) ?restm36
  case hym36 => (intro w hSw; (try dsimp only at hSw); go_simp <;> (try with_reducible rfl))
  try simp only [Act.put, List.setIfInBounds_toArray, List.set_cons_zero, List.set_cons_succ]
  refine wpAnyH_take (i := 37) (oi := ⟨some 209, _, _, _, _, _⟩) (v := ?vm37) rfl (by kernel_rfl) (by kernel_rfl) (by kernel_rfl) (fun _ _ _ h => h) (Or.inl ⟨by rfl, ?hym37⟩) (by assumption) ?restm37
  case hym37 => (intro w hSw; (try dsimp only at hSw); go_simp <;> (try with_reducible rfl))
  try simp only [Act.put, List.setIfInBounds_toArray, List.set_cons_zero, List.set_cons_succ]
  refine wpAnyH_take (i := 38) (oi := ⟨some 210, _, _, _, _, _⟩) (v := ?vm38) rfl (by kernel_rfl) (by kernel_rfl) (by kernel_rfl) (fun _ _ _ h => h) (Or.inl ⟨by rfl, ?hym38⟩) (by assumption) ?restm38
  case hym38 => (intro w hSw; (try dsimp only at hSw); go_simp <;> (try with_reducible rfl))
  try simp only [Act.put, List.setIfInBounds_toArray, List.set_cons_zero, List.set_cons_succ]
  refine wpAnyH_take (i := 39) (oi := ⟨some 211, _, _, _, _, _⟩) (v := ?vm39) rfl (by kernel_rfl) (by kernel_rfl) (by kernel_rfl) (fun _ _ _ h => h) (Or.inl ⟨by rfl, ?hym39⟩) (by assumption) ?restm39
  case hym39 => (intro w hSw; (try dsimp only at hSw); go_simp <;> (try with_reducible rfl))
  try simp only [Act.put, List.setIfInBounds_toArray, List.set_cons_zero, List.set_cons_succ]
  refine wpAnyH_take (i := 40) (oi := ⟨some 212, _, _, _, _, _⟩) (v := ?vm40) rfl (by kernel_rfl) (by kernel_rfl) (by kernel_rfl) (fun _ _ _ h => h) (Or.inl ⟨by rfl, ?hym40⟩) (by assumption) ?restm40
  case hym40 => (intro w hSw; (try dsimp only at hSw); go_simp <;> (try with_reducible rfl))
  try simp only [Act.put, List.setIfInBounds_toArray, List.set_cons_zero, List.set_cons_succ]
  refine wpAnyH_take (i := 41) (oi := ⟨some 213, _, _, _, _, _⟩) (v := ?vm41) rfl (by kernel_rfl) (by kernel_rfl) (by kernel_rfl) (fun _ _ _ h => h) (Or.inl ⟨by rfl, ?hym41⟩) (by assumption) ?restm41
  case hym41 => (intro w hSw; (try dsimp only at hSw); go_simp <;> (try with_reducible rfl))
  try simp only [Act.put, List.setIfInBounds_toArray, List.set_cons_zero, List.set_cons_succ]
  refine wpAnyH_take (i := 42) (oi := ⟨some 214, _, _, _, _, _⟩) (v := ?vm42) rfl (by kernel_rfl) (by kernel_rfl) (by kernel_rfl) (fun _ _ _ h => h) (Or.inl ⟨by rfl, ?hym42⟩) (by assumption) ?restm42
  case hym42 => (intro w hSw; (try dsimp only at hSw); go_simp <;> (try with_reducible rfl))
  try simp only [Act.put, List.setIfInBounds_toArray, List.set_cons_zero, List.set_cons_succ]
  refine wpAnyH_take (i := 43) (oi := ⟨some 215, _, _, _, _, _⟩) (v := ?vm43) rfl (by kernel_rfl) (by kernel_rfl) (by kernel_rfl) (fun _ _ _ h => h) (Or.inl ⟨by rfl, ?hym43⟩) (by assumption) ?restm43
  case hym43 => (intro w hSw; (try dsimp only at hSw); go_simp <;> (try with_reducible rfl))
  try simp only [Act.put, List.setIfInBounds_toArray, List.set_cons_zero, List.set_cons_succ]
  refine wpAnyH_take (i := 44) (oi := ⟨some 216, _, _, _, _, _⟩) (v := ?vm44) rfl (by kernel_rfl) (by kernel_rfl) (by kernel_rfl) (fun _ _ _ h => h) (Or.inl ⟨by rfl, ?hym44⟩) (by assumption) ?restm44
  case hym44 => (intro w hSw; (try dsimp only at hSw); go_simp <;> (try with_reducible rfl))
  try simp only [Act.put, List.setIfInBounds_toArray, List.set_cons_zero, List.set_cons_succ]
  refine wpAnyH_done (by kernel_rfl) ?_ _
  clear hHeld
  exact HQ.out _ _ _ _ _ _ _ _ _ _ _ _ _ _ _ _ _ _ _ _ _ _ _ _ _ _ _ _ _ _ _ _ _ _ _ _ _ _ _ _ _ _ _ _ _ Q4.out
end Bat
end Go.Proofs.YtbodgecbakcaaaaGreatDoor
