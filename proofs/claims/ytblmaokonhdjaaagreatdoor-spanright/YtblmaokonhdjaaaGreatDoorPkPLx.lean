import Derived.Test.YtblmaokonhdjaaaGreatDoorPkPL10
/- Layer 14, the law: asks: what its calls answer; its last test -/
namespace Go.Proofs.YtblmaokonhdjaaaGreatDoor
open Go.RowKit Go.Shelf
namespace Spn
def startsX (n : Nat) : Code → Bool
  | .region m _ _ => m == n
  | .seq a _ => startsX n a
  | _ => false
def fromX (n : Nat) : Code → Option Code
  | .seq a b => if startsX n a then some (.seq a b) else (match fromX n a with | some c => some c | none => fromX n b)
  | .block _ c => fromX n c
  | .loop c => fromX n c
  | .scope c => fromX n c
  | .cond _ a b => (match fromX n a with | some c => some c | none => fromX n b)
  | .region m x d => if m == n then some (.region m x d) else none
  | _ => none
theorem wpx_normal {P : Program} {s : Code} {Q : Exit → Act → World → Prop} {a : Act} {w : World} (h : s.wp P (Exit.then (fun a w => Q .normal a w) (fun _ _ _ => False)) a w) : s.wp P Q a w := by
  refine wp_mono h ?_
  intro e a' w' hq
  cases e <;> first | exact hq | exact hq.elim
/-- all that asks' calls answer -/
structure Ax (w6 w8 : World) (n x y E z1 z2 z3 : Int) (nH nL gh gl gc gd c13 c14 : Nat) (a13 a14 : Option Addr) (TX RT BX : ByteArray) : Prop where
  up : ∀ w', Below w8.heap.size w8 w' → Below w6.heap.size w6 w'
  mv : ∀ w', Below w8.heap.size w8 w' → (w'.cell? ⟨gc, 0, none⟩ = some (.int .i64 n) ∧ w'.cell? ⟨gc, 1, none⟩ = some (.int .i64 x) ∧ w'.cell? ⟨gc, 2, none⟩ = some (.int .i64 y) ∧ w'.cell? ⟨gc, 3, none⟩ = some (.slice (some ⟨gh, 0, none⟩) nH (nH + 8))) ∧ w'.cell? ⟨gd, 0, none⟩ = some (.int .i64 n) ∧ w'.cell? ⟨gd, 1, none⟩ = some (.int .i64 x) ∧ w'.cell? ⟨gd, 2, none⟩ = some (.int .i64 y) ∧ w'.cell? ⟨gd, 3, none⟩ = some (.slice a13 nH c13)
  iS : ∀ w', Below w6.heap.size w6 w' → Calls Tryz.prog 26 #[rn n x y (.slice (some ⟨gh, 0, none⟩) nH (nH + 8)), .slice (some ⟨gl, 0, none⟩) nL (nL + 8)] w' fun r w'' => r = .returned (.tuple #[.string TX, .int .i64 E]) ∧ Below w'.heap.size w' w''
  iR : ∀ w', Below w6.heap.size w6 w' → Calls Tryz.prog 28 #[rn n x y (.slice a13 nH c13), .slice a14 nL c14] w' fun r w'' => r = .returned (.tuple #[.string TX, .int .i64 E]) ∧ Below w'.heap.size w' w''
  iC1 : ∀ w', Below w6.heap.size w6 w' → Calls Tryz.prog 29 #[rn n x y (.slice (some ⟨gh, 0, none⟩) nH (nH + 8)), .slice (some ⟨gl, 0, none⟩) nL (nL + 8), .string RT] w' fun r w'' => r = .returned (.int .i64 z1) ∧ Below w'.heap.size w' w''
  iC2 : ∀ w', Below w6.heap.size w6 w' → Calls Tryz.prog 29 #[rn n x y (.slice (some ⟨gh, 0, none⟩) nH (nH + 8)), .slice (some ⟨gl, 0, none⟩) nL (nL + 8), .string TX] w' fun r w'' => r = .returned (.int .i64 z2) ∧ Below w'.heap.size w' w''
  iC3 : ∀ w', Below w6.heap.size w6 w' → Calls Tryz.prog 29 #[rn n x y (.slice (some ⟨gh, 0, none⟩) nH (nH + 8)), .slice (some ⟨gl, 0, none⟩) nL (nL + 8), .string BX] w' fun r w'' => r = .returned (.int .i64 z3) ∧ Below w'.heap.size w' w''
  iD1 : ∀ w', Below w6.heap.size w6 w' → Calls Tryz.prog 32 #[rn n x y (.slice a13 nH c13), .slice a14 nL c14, .string RT] w' fun r w'' => r = .returned (.int .i64 z1) ∧ Below w'.heap.size w' w''
  iD2 : ∀ w', Below w6.heap.size w6 w' → Calls Tryz.prog 32 #[rn n x y (.slice a13 nH c13), .slice a14 nL c14, .string TX] w' fun r w'' => r = .returned (.int .i64 z2) ∧ Below w'.heap.size w' w''
  iD3 : ∀ w', Below w6.heap.size w6 w' → Calls Tryz.prog 32 #[rn n x y (.slice a13 nH c13), .slice a14 nL c14, .string BX] w' fun r w'' => r = .returned (.int .i64 z3) ∧ Below w'.heap.size w' w''
  iB : ∀ w', Calls Tryz.prog 31 #[.string TX] w' fun r w'' => r = .returned (.string BX) ∧ Below w'.heap.size w' w''
  iKh : ∀ w', Below w6.heap.size w6 w' → Calls Tryz.prog 30 #[.slice (some ⟨gh, 0, none⟩) (nH + 8) (nH + 8), .slice a13 nH c13] w' fun r w'' => r = .returned (.bool true) ∧ Below w'.heap.size w' w'' ∧ w''.heap = w'.heap
  iKl : ∀ w', Below w6.heap.size w6 w' → Calls Tryz.prog 30 #[.slice (some ⟨gl, 0, none⟩) (nL + 8) (nL + 8), .slice a14 nL c14] w' fun r w'' => r = .returned (.bool true) ∧ Below w'.heap.size w' w'' ∧ w''.heap = w'.heap
noncomputable def asksR : Code := (match Tryz.f7.body.bind (fromX 26) with | some (.seq c _) => c | _ => .skip)
set_option maxRecDepth 1000000 in
set_option maxHeartbeats 8000000 in
theorem asks_26 {w6 w8 : World} {n x y E z1 z2 z3 : Int} {nH nL gh gl gc gd c13 c14 : Nat} {a13 a14 : Option Addr} {TX RT BX : ByteArray} (X : Ax w6 w8 n x y E z1 z2 z3 nH nL gh gl gc gd c13 c14 a13 a14 TX RT BX) {w15 : World} (b15 : Below w8.heap.size w8 w15) (u0 u1 u3 u4 u5 u6 u7 u8 u9 u10 u11 u12 u14 u25 u26 u27 u28 u29 u30 u31 u32 u33 u34 u35 u36 u37 u38 u39 u40 u41 u42 u43 u44 u45 u46 u47 u48 u49 u50 u51 u52 u53 u54 u55 u56 u57 u58 u59 u60 u61 u62 u63 u64 u65 u66 u67 u68 u69 u70 u71 u72 u73 u74 u75 u76 u77 u78 u79 u80 u81 u82 u83 u84 u85 u86 u87 u88 u89 u90 u91 u92 u93 u94 u95 u96 u97 u98 u99 u100 u101 u102 u103 u104 u105 u106 u107 u108 u109 u110 u111 u112 u113 u114 u115 u116 u117 u118 u119 u120 u121 u122 u123 u124 u125 u126 u127 u128 u129 u130 u131 u132 u133 u134 u135 u136 u137 u138 u139 u140 u141 u142 u143 u144 u145 u146 u147 u148 u149 u150 u151 u152 u153 u154 u155 u156 u157 u158 u159 u160 u161 u162 u163 u164 u165 u166 u167 u168 u169 u170 u171 u172 u173 u174 u175 u176 u177 u178 u179 u180 u181 u182 u183 u184 u185 u186 u187 u188 u189 u190 u191 u192 u193 u194 u195 : Value) (Q : Act → World → Prop) (hQ : ∀ (c147 c148 c149 c150 c151 c152 c153 c154 c155 c156 c157 c158 c159 c160 c161 c162 c163 c164 c165 c166 c167 c168 c169 c170 c171 c172 c173 c174 c175 c176 c177 c178 c179 c180 c181 c182 c183 c184 c185 c186 : Value) (w' : World), Below w8.heap.size w8 w' → Q ⟨#[u0, u1, .string RT, u3, u4, u5, u6, u7, u8, u9, u10, u11, u12, .slice a14 nL c14, u14, .pointer (some ⟨gd, 0, none⟩), .string TX, .int .i64 E, .string TX, .int .i64 E, .int .i64 z1, .int .i64 z2, .bool true, .bool true, .int .i64 z3, u25, u26, u27, u28, u29, u30, u31, u32, u33, u34, u35, u36, u37, u38, u39, u40, u41, u42, u43, u44, u45, u46, u47, u48, u49, u50, u51, u52, u53, u54, u55, u56, u57, u58, u59, u60, u61, u62, u63, u64, u65, u66, u67, u68, u69, u70, u71, u72, u73, u74, u75, u76, u77, u78, u79, u80, u81, u82, u83, u84, u85, u86, u87, u88, u89, u90, u91, u92, u93, u94, u95, u96, u97, u98, u99, u100, u101, u102, u103, u104, u105, u106, u107, u108, u109, u110, u111, u112, u113, u114, u115, u116, u117, u118, u119, u120, u121, u122, u123, u124, u125, u126, u127, u128, u129, u130, u131, u132, u133, u134, u135, u136, u137, u138, u139, u140, u141, u142, u143, u144, u145, u146, c147, c148, c149, c150, c151, c152, c153, c154, c155, c156, c157, c158, c159, c160, c161, c162, c163, c164, c165, c166, c167, c168, c169, c170, c171, c172, c173, c174, c175, c176, c177, c178, c179, c180, c181, c182, c183, c184, c185, c186, .bool false, u188, u189, u190, u191, u192, u193, u194, u195], []⟩ w') :
    Code.wp Tryz.prog asksR (Exit.then Q (fun _ _ _ => False)) ⟨#[u0, u1, .string RT, u3, u4, u5, u6, u7, u8, u9, u10, u11, u12, .slice a14 nL c14, u14, .pointer (some ⟨gd, 0, none⟩), .string TX, .int .i64 E, .string TX, .int .i64 E, .int .i64 z1, .int .i64 z2, .bool true, .bool true, .int .i64 z3, u25, u26, u27, u28, u29, u30, u31, u32, u33, u34, u35, u36, u37, u38, u39, u40, u41, u42, u43, u44, u45, u46, u47, u48, u49, u50, u51, u52, u53, u54, u55, u56, u57, u58, u59, u60, u61, u62, u63, u64, u65, u66, u67, u68, u69, u70, u71, u72, u73, u74, u75, u76, u77, u78, u79, u80, u81, u82, u83, u84, u85, u86, u87, u88, u89, u90, u91, u92, u93, u94, u95, u96, u97, u98, u99, u100, u101, u102, u103, u104, u105, u106, u107, u108, u109, u110, u111, u112, u113, u114, u115, u116, u117, u118, u119, u120, u121, u122, u123, u124, u125, u126, u127, u128, u129, u130, u131, u132, u133, u134, u135, u136, u137, u138, u139, u140, u141, u142, u143, u144, u145, u146, u147, u148, u149, u150, u151, u152, u153, u154, u155, u156, u157, u158, u159, u160, u161, u162, u163, u164, u165, u166, u167, u168, u169, u170, u171, u172, u173, u174, u175, u176, u177, u178, u179, u180, u181, u182, u183, u184, u185, u186, u187, u188, u189, u190, u191, u192, u193, u194, u195], []⟩ w15 := by
  conv => arg 2; whnf
  have UP := hid X.up
  have MV := hid X.mv
  have iD1 := hid X.iD1
  have iD2 := hid X.iD2
  have iD3 := hid X.iD3
  have iB := hid X.iB
  have HQ := hid hQ
  have B15 := hid b15
  clear X hQ b15
  have htt : (TX.toList == TX.toList) = true := beq_self_eq_true _
  have htn : (TX.toList != TX.toList) = false := by simp
  have n0 : (E != E) = false := by simp
  have n1 : (z1 != z1) = false := by simp
  have n2 : (z2 != z2) = false := by simp
  have n3 : (z3 != z3) = false := by simp
  have X0 := MV.out _ B15.out
  dsimp only
  refine wp_region_held_drew (S := (fun W => (W.cell? ⟨gc, 0, none⟩ = some (.int .i64 n) ∧ W.cell? ⟨gc, 1, none⟩ = some (.int .i64 x) ∧ W.cell? ⟨gc, 2, none⟩ = some (.int .i64 y) ∧ W.cell? ⟨gc, 3, none⟩ = some (.slice (some ⟨gh, 0, none⟩) nH (nH + 8))) ∧ W.cell? ⟨gd, 0, none⟩ = some (.int .i64 n) ∧ W.cell? ⟨gd, 1, none⟩ = some (.int .i64 x) ∧ W.cell? ⟨gd, 2, none⟩ = some (.int .i64 y) ∧ W.cell? ⟨gd, 3, none⟩ = some (.slice a13 nH c13))) (by kernel_rfl) X0 (fun hHeld => ?_)
  refine wpAnyH_take (i := 0) (oi := ⟨some 147, _, _, _, _, _⟩) (v := ?vm0) rfl (by kernel_rfl) (by kernel_rfl) (by kernel_rfl) (fun _ _ _ h => h) (Or.inl ⟨by rfl, ?hym0⟩) (by assumption) ?restm0
  case hym0 => (intro w hSw; (try dsimp only at hSw); go_simp <;> (try with_reducible rfl))
  try simp only [Act.put, List.setIfInBounds_toArray, List.set_cons_zero, List.set_cons_succ]
  refine wpAnyH_take (i := 1) (oi := ⟨some 148, _, _, _, _, _⟩) (v := ?vm1) rfl (by kernel_rfl) (by kernel_rfl) (by kernel_rfl) (fun _ _ _ h => h) (Or.inl ⟨by rfl, ?hym1⟩) (by assumption) ?restm1
  case hym1 => (intro w hSw; (try dsimp only at hSw); go_simp <;> (try with_reducible rfl))
  try simp only [Act.put, List.setIfInBounds_toArray, List.set_cons_zero, List.set_cons_succ]
  refine wpAnyH_take (i := 2) (oi := ⟨some 149, _, _, _, _, _⟩) (v := ?vm2) rfl (by kernel_rfl) (by kernel_rfl) (by kernel_rfl) (fun _ _ _ h => h) (Or.inl ⟨by rfl, ?hym2⟩) (by assumption) ?restm2
  case hym2 => (intro w hSw; (try dsimp only at hSw); go_simp <;> (try with_reducible rfl))
  try simp only [Act.put, List.setIfInBounds_toArray, List.set_cons_zero, List.set_cons_succ]
  refine wpAnyH_take (i := 3) (oi := ⟨some 150, _, _, _, _, _⟩) (v := ?vm3) rfl (by kernel_rfl) (by kernel_rfl) (by kernel_rfl) (fun _ _ _ h => h) (Or.inl ⟨by rfl, ?hym3⟩) (by assumption) ?restm3
  case hym3 => (intro w hSw; (try dsimp only at hSw); go_simp <;> (try with_reducible rfl))
  try simp only [Act.put, List.setIfInBounds_toArray, List.set_cons_zero, List.set_cons_succ]
  refine wpAnyH_take (i := 4) (oi := ⟨some 151, _, _, _, _, _⟩) (v := ?vm4) rfl (by kernel_rfl) (by kernel_rfl) (by kernel_rfl) (fun _ _ _ h => h) (Or.inl ⟨by rfl, ?hym4⟩) (by assumption) ?restm4
  case hym4 => (intro w hSw; (try dsimp only at hSw); go_simp <;> (try with_reducible rfl))
  try simp only [Act.put, List.setIfInBounds_toArray, List.set_cons_zero, List.set_cons_succ]
  refine wpAnyH_take (i := 5) (oi := ⟨some 152, _, _, _, _, _⟩) (v := ?vm5) rfl (by kernel_rfl) (by kernel_rfl) (by kernel_rfl) (fun _ _ _ h => h) (Or.inl ⟨by rfl, ?hym5⟩) (by assumption) ?restm5
  case hym5 => (intro w hSw; (try dsimp only at hSw); go_simp <;> (try with_reducible rfl))
  try simp only [Act.put, List.setIfInBounds_toArray, List.set_cons_zero, List.set_cons_succ]
  refine wpAnyH_take (i := 6) (oi := ⟨some 153, _, _, _, _, _⟩) (v := ?vm6) rfl (by kernel_rfl) (by kernel_rfl) (by kernel_rfl) (fun _ _ _ h => h) (Or.inl ⟨by rfl, ?hym6⟩) (by assumption) ?restm6
  case hym6 => (intro w hSw; (try dsimp only at hSw); go_simp <;> (try with_reducible rfl))
  try simp only [Act.put, List.setIfInBounds_toArray, List.set_cons_zero, List.set_cons_succ]
  refine wpAnyH_take (i := 7) (oi := ⟨some 154, _, _, _, _, _⟩) (v := ?vm7) rfl (by kernel_rfl) (by kernel_rfl) (by kernel_rfl) (fun _ _ _ h => h) (Or.inl ⟨by rfl, ?hym7⟩) (by assumption) ?restm7
  case hym7 => (intro w hSw; (try dsimp only at hSw); go_simp <;> (try with_reducible rfl))
  try simp only [Act.put, List.setIfInBounds_toArray, List.set_cons_zero, List.set_cons_succ]
  refine wpAnyH_take (i := 8) (oi := ⟨some 155, _, _, _, _, _⟩) (v := ?vm8) rfl (by kernel_rfl) (by kernel_rfl) (by kernel_rfl) (fun _ _ _ h => h) (Or.inl ⟨by rfl, ?hym8⟩) (by assumption) ?restm8
  case hym8 => (intro w hSw; (try dsimp only at hSw); go_simp <;> (try with_reducible rfl))
  try simp only [Act.put, List.setIfInBounds_toArray, List.set_cons_zero, List.set_cons_succ]
  refine wpAnyH_take (i := 9) (oi := ⟨some 156, _, _, _, _, _⟩) (v := ?vm9) rfl (by kernel_rfl) (by kernel_rfl) (by kernel_rfl) (fun _ _ _ h => h) (Or.inl ⟨by rfl, ?hym9⟩) (by assumption) ?restm9
  case hym9 => (intro w hSw; (try dsimp only at hSw); go_simp <;> (try with_reducible rfl))
  try simp only [Act.put, List.setIfInBounds_toArray, List.set_cons_zero, List.set_cons_succ]
  refine wpAnyH_take (i := 10) (oi := ⟨some 157, _, _, _, _, _⟩) (v := ?vm10) rfl (by kernel_rfl) (by kernel_rfl) (by kernel_rfl) (fun _ _ _ h => h) (Or.inl ⟨by rfl, ?hym10⟩) (by assumption) ?restm10
  case hym10 => (intro w hSw; (try dsimp only at hSw); go_simp <;> (try with_reducible rfl))
  try simp only [Act.put, List.setIfInBounds_toArray, List.set_cons_zero, List.set_cons_succ]
  refine wpAnyH_take (i := 11) (oi := ⟨some 158, _, _, _, _, _⟩) (v := ?vm11) rfl (by kernel_rfl) (by kernel_rfl) (by kernel_rfl) (fun _ _ _ h => h) (Or.inl ⟨by rfl, ?hym11⟩) (by assumption) ?restm11
  case hym11 => (intro w hSw; (try dsimp only at hSw); go_simp <;> (try with_reducible rfl))
  try simp only [Act.put, List.setIfInBounds_toArray, List.set_cons_zero, List.set_cons_succ]
  refine wpAnyH_take (i := 12) (oi := ⟨some 159, _, _, _, _, _⟩) (v := ?vm12) rfl (by kernel_rfl) (by kernel_rfl) (by kernel_rfl) (fun _ _ _ h => h) (Or.inl ⟨by rfl, ?hym12⟩) (by assumption) ?restm12
  case hym12 => (intro w hSw; (try dsimp only at hSw); go_simp <;> (try with_reducible rfl))
  try simp only [Act.put, List.setIfInBounds_toArray, List.set_cons_zero, List.set_cons_succ]
  refine wpAnyH_take (i := 13) (oi := ⟨some 160, _, _, _, _, _⟩) (v := ?vm13) rfl (by kernel_rfl) (by kernel_rfl) (by kernel_rfl) (fun _ _ _ h => h) (Or.inl ⟨by rfl, ?hym13⟩) (by assumption) ?restm13
  case hym13 => (intro w hSw; (try dsimp only at hSw); go_simp <;> (try with_reducible rfl))
  try simp only [Act.put, List.setIfInBounds_toArray, List.set_cons_zero, List.set_cons_succ]
  refine wpAnyH_take (i := 14) (oi := ⟨some 161, _, _, _, _, _⟩) (v := ?vm14) rfl (by kernel_rfl) (by kernel_rfl) (by kernel_rfl) (fun _ _ _ h => h) (Or.inl ⟨by rfl, ?hym14⟩) (by assumption) ?restm14
  case hym14 => (intro w hSw; (try dsimp only at hSw); go_simp <;> (try with_reducible rfl))
  try simp only [Act.put, List.setIfInBounds_toArray, List.set_cons_zero, List.set_cons_succ]
  refine wpAnyH_take (i := 15) (oi := ⟨some 162, _, _, _, _, _⟩) (v := ?vm15) rfl (by kernel_rfl) (by kernel_rfl) (by kernel_rfl) (fun _ _ _ h => h) (Or.inl ⟨by rfl, ?hym15⟩) (by assumption) ?restm15
  case hym15 => (intro w hSw; (try dsimp only at hSw); go_simp <;> (try with_reducible rfl))
  try simp only [Act.put, List.setIfInBounds_toArray, List.set_cons_zero, List.set_cons_succ]
  refine wpAnyH_take (i := 16) (oi := ⟨some 163, _, _, _, _, _⟩) (v := ?vm16) rfl (by kernel_rfl) (by kernel_rfl) (by kernel_rfl) (fun _ _ _ h => h) (Or.inl ⟨by rfl, ?hym16⟩) (by assumption) ?restm16
  case hym16 => (intro w hSw; (try dsimp only at hSw); go_simp <;> (try with_reducible rfl))
  try simp only [Act.put, List.setIfInBounds_toArray, List.set_cons_zero, List.set_cons_succ]
  refine wpAnyH_take (i := 17) (oi := ⟨some 164, _, _, _, _, _⟩) (v := ?vm17) rfl (by kernel_rfl) (by kernel_rfl) (by kernel_rfl) (fun _ _ _ h => h) (Or.inl ⟨by rfl, ?hym17⟩) (by assumption) ?restm17
  case hym17 => (intro w hSw; (try dsimp only at hSw); go_simp <;> (try with_reducible rfl))
  try simp only [Act.put, List.setIfInBounds_toArray, List.set_cons_zero, List.set_cons_succ]
  refine wpAnyH_take (i := 18) (oi := ⟨some 165, _, _, _, _, _⟩) (v := ?vm18) rfl (by kernel_rfl) (by kernel_rfl) (by kernel_rfl) (fun _ _ _ h => h) (Or.inl ⟨by rfl, ?hym18⟩) (by assumption) ?restm18
  case hym18 => (intro w hSw; (try dsimp only at hSw); go_simp <;> (try with_reducible rfl))
  try simp only [Act.put, List.setIfInBounds_toArray, List.set_cons_zero, List.set_cons_succ]
  refine wpAnyH_take (i := 19) (oi := ⟨some 166, _, _, _, _, _⟩) (v := ?vm19) rfl (by kernel_rfl) (by kernel_rfl) (by kernel_rfl) (fun _ _ _ h => h) (Or.inl ⟨by rfl, ?hym19⟩) (by assumption) ?restm19
  case hym19 => (intro w hSw; (try dsimp only at hSw); go_simp <;> (try with_reducible rfl))
  try simp only [Act.put, List.setIfInBounds_toArray, List.set_cons_zero, List.set_cons_succ]
  refine wpAnyH_take (i := 20) (oi := ⟨some 167, _, _, _, _, _⟩) (v := ?vm20) rfl (by kernel_rfl) (by kernel_rfl) (by kernel_rfl) (fun _ _ _ h => h) (Or.inl ⟨by rfl, ?hym20⟩) (by assumption) ?restm20
  case hym20 => (intro w hSw; (try dsimp only at hSw); go_simp <;> (try with_reducible rfl))
  try simp only [Act.put, List.setIfInBounds_toArray, List.set_cons_zero, List.set_cons_succ]
  refine wpAnyH_ready (rs := [21]) (by kernel_rfl) (by simp) ?_
  refine AllReadyH.cons (o := ⟨some 168, _, _, _, _, _⟩) rfl (fun K hK => ?_) AllReadyH.nil
  go_simp
  go_at_call 32
  refine (iD1.out _ (UP.out _ B15.out.drew)).mono ?_
  rintro r wx ⟨rfl, bx⟩
  have Q1 := hid (B15.out.drew.trans (bx.mono B15.out.drew.size))
  have X1 := MV.out _ Q1.out
  clear bx
  clear hHeld
  refine hK.out _ _ ?hSm21 (fun hHeld => ?restm21)
  case hSm21 => exact X1
  clear hK K
  try simp only [Act.put, List.setIfInBounds_toArray, List.set_cons_zero, List.set_cons_succ]
  refine wpAnyH_take (i := 22) (oi := ⟨some 169, _, _, _, _, _⟩) (v := ?vm22) rfl (by kernel_rfl) (by kernel_rfl) (by kernel_rfl) (fun _ _ _ h => h) (Or.inl ⟨by rfl, ?hym22⟩) (by assumption) ?restm22
  case hym22 => (intro w hSw; (try dsimp only at hSw); go_simp <;> (try with_reducible rfl))
  try simp only [Act.put, List.setIfInBounds_toArray, List.set_cons_zero, List.set_cons_succ]
  refine wpAnyH_take (i := 23) (oi := ⟨some 170, _, _, _, _, _⟩) (v := ?vm23) rfl (by kernel_rfl) (by kernel_rfl) (by kernel_rfl) (fun _ _ _ h => h) (Or.inl ⟨by rfl, ?hym23⟩) (by assumption) ?restm23
  case hym23 => (intro w hSw; (try dsimp only at hSw); go_simp <;> (try with_reducible rfl))
  try simp only [Act.put, List.setIfInBounds_toArray, List.set_cons_zero, List.set_cons_succ]
  refine wpAnyH_take (i := 24) (oi := ⟨some 171, _, _, _, _, _⟩) (v := ?vm24) rfl (by kernel_rfl) (by kernel_rfl) (by kernel_rfl) (fun _ _ _ h => h) (Or.inl ⟨by rfl, ?hym24⟩) (by assumption) ?restm24
  case hym24 => (intro w hSw; (try dsimp only at hSw); go_simp <;> (try with_reducible rfl))
  try simp only [Act.put, List.setIfInBounds_toArray, List.set_cons_zero, List.set_cons_succ]
  refine wpAnyH_take (i := 25) (oi := ⟨some 172, _, _, _, _, _⟩) (v := ?vm25) rfl (by kernel_rfl) (by kernel_rfl) (by kernel_rfl) (fun _ _ _ h => h) (Or.inl ⟨by rfl, ?hym25⟩) (by assumption) ?restm25
  case hym25 => (intro w hSw; (try dsimp only at hSw); go_simp <;> (try with_reducible rfl))
  try simp only [Act.put, List.setIfInBounds_toArray, List.set_cons_zero, List.set_cons_succ]
  refine wpAnyH_take (i := 26) (oi := ⟨some 173, _, _, _, _, _⟩) (v := ?vm26) rfl (by kernel_rfl) (by kernel_rfl) (by kernel_rfl) (fun _ _ _ h => h) (Or.inl ⟨by rfl, ?hym26⟩) (by assumption) ?restm26
  case hym26 => (intro w hSw; (try dsimp only at hSw); go_simp <;> (try with_reducible rfl))
  try simp only [Act.put, List.setIfInBounds_toArray, List.set_cons_zero, List.set_cons_succ]
  refine wpAnyH_take (i := 27) (oi := ⟨some 174, _, _, _, _, _⟩) (v := ?vm27) rfl (by kernel_rfl) (by kernel_rfl) (by kernel_rfl) (fun _ _ _ h => h) (Or.inl ⟨by rfl, ?hym27⟩) (by assumption) ?restm27
  case hym27 => (intro w hSw; (try dsimp only at hSw); go_simp <;> (try with_reducible rfl))
  try simp only [Act.put, List.setIfInBounds_toArray, List.set_cons_zero, List.set_cons_succ]
  refine wpAnyH_take (i := 28) (oi := ⟨some 175, _, _, _, _, _⟩) (v := ?vm28) rfl (by kernel_rfl) (by kernel_rfl) (by kernel_rfl) (fun _ _ _ h => h) (Or.inl ⟨by rfl, ?hym28⟩) (by assumption) ?restm28
  case hym28 => (intro w hSw; (try dsimp only at hSw); go_simp <;> (try with_reducible rfl))
  try simp only [Act.put, List.setIfInBounds_toArray, List.set_cons_zero, List.set_cons_succ]
  refine wpAnyH_ready (rs := [29]) (by kernel_rfl) (by simp) ?_
  refine AllReadyH.cons (o := ⟨some 176, _, _, _, _, _⟩) rfl (fun K hK => ?_) AllReadyH.nil
  go_simp
  go_at_call 32
  refine (iD2.out _ (UP.out _ Q1.out)).mono ?_
  rintro r wy ⟨rfl, bx⟩
  have Q2 := hid (Q1.out.trans (bx.mono Q1.out.size))
  have X2 := MV.out _ Q2.out
  clear bx
  clear hHeld
  refine hK.out _ _ ?hSm29 (fun hHeld => ?restm29)
  case hSm29 => exact X2
  clear hK K
  try simp only [Act.put, List.setIfInBounds_toArray, List.set_cons_zero, List.set_cons_succ]
  refine wpAnyH_take (i := 30) (oi := ⟨some 177, _, _, _, _, _⟩) (v := ?vm30) rfl (by kernel_rfl) (by kernel_rfl) (by kernel_rfl) (fun _ _ _ h => h) (Or.inl ⟨by rfl, ?hym30⟩) (by assumption) ?restm30
  case hym30 => (intro w hSw; (try dsimp only at hSw); go_simp <;> (try with_reducible rfl))
  try simp only [Act.put, List.setIfInBounds_toArray, List.set_cons_zero, List.set_cons_succ]
  refine wpAnyH_take (i := 31) (oi := ⟨some 178, _, _, _, _, _⟩) (v := ?vm31) rfl (by kernel_rfl) (by kernel_rfl) (by kernel_rfl) (fun _ _ _ h => h) (Or.inl ⟨by rfl, ?hym31⟩) (by assumption) ?restm31
  case hym31 => (intro w hSw; (try dsimp only at hSw); go_simp <;> (try with_reducible rfl))
  try simp only [Act.put, List.setIfInBounds_toArray, List.set_cons_zero, List.set_cons_succ]
  refine wpAnyH_take (i := 32) (oi := ⟨some 179, _, _, _, _, _⟩) (v := ?vm32) rfl (by kernel_rfl) (by kernel_rfl) (by kernel_rfl) (fun _ _ _ h => h) (Or.inl ⟨by rfl, ?hym32⟩) (by assumption) ?restm32
  case hym32 => (intro w hSw; (try dsimp only at hSw); go_simp <;> (try with_reducible rfl))
  try simp only [Act.put, List.setIfInBounds_toArray, List.set_cons_zero, List.set_cons_succ]
  refine wpAnyH_take (i := 33) (oi := ⟨some 180, _, _, _, _, _⟩) (v := ?vm33) rfl (by kernel_rfl) (by kernel_rfl) (by kernel_rfl) (fun _ _ _ h => h) (Or.inl ⟨by rfl, ?hym33⟩) (by assumption) ?restm33
  case hym33 => (intro w hSw; (try dsimp only at hSw); go_simp <;> (try with_reducible rfl))
  try simp only [Act.put, List.setIfInBounds_toArray, List.set_cons_zero, List.set_cons_succ]
  refine wpAnyH_take (i := 34) (oi := ⟨some 181, _, _, _, _, _⟩) (v := ?vm34) rfl (by kernel_rfl) (by kernel_rfl) (by kernel_rfl) (fun _ _ _ h => h) (Or.inl ⟨by rfl, ?hym34⟩) (by assumption) ?restm34
  case hym34 => (intro w hSw; (try dsimp only at hSw); go_simp <;> (try with_reducible rfl))
  try simp only [Act.put, List.setIfInBounds_toArray, List.set_cons_zero, List.set_cons_succ]
  refine wpAnyH_take (i := 35) (oi := ⟨some 182, _, _, _, _, _⟩) (v := ?vm35) rfl (by kernel_rfl) (by kernel_rfl) (by kernel_rfl) (fun _ _ _ h => h) (Or.inl ⟨by rfl, ?hym35⟩) (by assumption) ?restm35
  case hym35 => (intro w hSw; (try dsimp only at hSw); go_simp <;> (try with_reducible rfl))
  try simp only [Act.put, List.setIfInBounds_toArray, List.set_cons_zero, List.set_cons_succ]
  refine wpAnyH_take (i := 36) (oi := ⟨some 183, _, _, _, _, _⟩) (v := ?vm36) rfl (by kernel_rfl) (by kernel_rfl) (by kernel_rfl) (fun _ _ _ h => h) (Or.inl ⟨by rfl, ?hym36⟩) (by assumption) ?restm36
  case hym36 => (intro w hSw; (try dsimp only at hSw); go_simp <;> (try with_reducible rfl))
  try simp only [Act.put, List.setIfInBounds_toArray, List.set_cons_zero, List.set_cons_succ]
  refine wpAnyH_ready (rs := [37]) (by kernel_rfl) (by simp) ?_
  refine AllReadyH.cons (o := ⟨some 184, _, _, _, _, _⟩) rfl (fun K hK => ?_) AllReadyH.nil
  go_simp
  go_at_call 31
  refine (iB.out _).mono ?_
  rintro r wz ⟨rfl, bx⟩
  have Q3 := hid (Q2.out.trans (bx.mono Q2.out.size))
  have X3 := MV.out _ Q3.out
  clear bx
  clear hHeld
  refine hK.out _ _ ?hSm37 (fun hHeld => ?restm37)
  case hSm37 => exact X3
  clear hK K
  try simp only [Act.put, List.setIfInBounds_toArray, List.set_cons_zero, List.set_cons_succ]
  refine wpAnyH_ready (rs := [38]) (by kernel_rfl) (by simp) ?_
  refine AllReadyH.cons (o := ⟨some 185, _, _, _, _, _⟩) rfl (fun K hK => ?_) AllReadyH.nil
  go_simp
  go_at_call 32
  refine (iD3.out _ (UP.out _ Q3.out)).mono ?_
  rintro r wv ⟨rfl, bx⟩
  have Q4 := hid (Q3.out.trans (bx.mono Q3.out.size))
  have X4 := MV.out _ Q4.out
  clear bx
  clear hHeld
  refine hK.out _ _ ?hSm38 (fun hHeld => ?restm38)
  case hSm38 => exact X4
  clear hK K
  try simp only [Act.put, List.setIfInBounds_toArray, List.set_cons_zero, List.set_cons_succ]
  refine wpAnyH_take (i := 39) (oi := ⟨some 186, _, _, _, _, _⟩) (v := ?vm39) rfl (by kernel_rfl) (by kernel_rfl) (by kernel_rfl) (fun _ _ _ h => h) (Or.inl ⟨by rfl, ?hym39⟩) (by assumption) ?restm39
  case hym39 => (intro w hSw; (try dsimp only at hSw); go_simp <;> (try with_reducible rfl))
  try simp only [Act.put, List.setIfInBounds_toArray, List.set_cons_zero, List.set_cons_succ]
  refine wpAnyH_take (i := 40) (oi := ⟨some 187, _, _, _, _, _⟩) (v := ?vm40) rfl (by kernel_rfl) (by kernel_rfl) (by kernel_rfl) (fun _ _ _ h => h) (Or.inl ⟨by rfl, ?hym40⟩) (by assumption) ?restm40
  case hym40 => (intro w hSw; (try dsimp only at hSw); go_simp <;> (try with_reducible rfl))
  try simp only [Act.put, List.setIfInBounds_toArray, List.set_cons_zero, List.set_cons_succ]
  refine wpAnyH_done (by kernel_rfl) ?_ _
  clear hHeld
  exact HQ.out _ _ _ _ _ _ _ _ _ _ _ _ _ _ _ _ _ _ _ _ _ _ _ _ _ _ _ _ _ _ _ _ _ _ _ _ _ _ _ _ _ Q4.out
end Spn
end Go.Proofs.YtblmaokonhdjaaaGreatDoor
