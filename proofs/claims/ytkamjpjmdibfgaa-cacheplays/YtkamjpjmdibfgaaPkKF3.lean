import Derived.Test.YtkamjpjmdibfgaaPkKF1
import Derived.Laws.StructEq
import Derived.Test.YtkamjpjmdibfgaaPkKS6
import Derived.Deep.RegionHeld3
/- Layer 15: == of tallies and of rates -/
namespace Go.Proofs.Ytkamjpjmdibfgaa
open Go.RowKit Go.Maps
namespace Kc
theorem talU : Try.prog.underlying 42 = some (.struct (Try.prog.fieldsOf 42)) := by kernel_rfl
theorem talP : Try.prog.stoodInHeld 42 = false := by kernel_rfl
theorem talF : (Try.prog.fieldsOf 42).toList.map (fun f => (f.name == "_", f.type, f.offset)) = [(false, 3, 0), (false, 3, 1), (false, 3, 2), (false, 3, 3), (false, 3, 4), (false, 3, 5)] := by kernel_rfl
theorem six_fields {fs : List Field} {a b c d e g : Bool × TypeId × Nat} (h : fs.map (fun f => (f.name == "_", f.type, f.offset)) = [a, b, c, d, e, g]) : ∃ f1 f2 f3 f4 f5 f6 : Field, fs = [f1, f2, f3, f4, f5, f6] ∧ ((f1.name == "_") = a.1 ∧ f1.type = a.2.1 ∧ f1.offset = a.2.2) ∧ ((f2.name == "_") = b.1 ∧ f2.type = b.2.1 ∧ f2.offset = b.2.2) ∧ ((f3.name == "_") = c.1 ∧ f3.type = c.2.1 ∧ f3.offset = c.2.2) ∧ ((f4.name == "_") = d.1 ∧ f4.type = d.2.1 ∧ f4.offset = d.2.2) ∧ ((f5.name == "_") = e.1 ∧ f5.type = e.2.1 ∧ f5.offset = e.2.2) ∧ ((f6.name == "_") = g.1 ∧ f6.type = g.2.1 ∧ f6.offset = g.2.2) := by
  match fs, h with
  | [f1, f2, f3, f4, f5, f6], h =>
    simp only [List.map_cons, List.map_nil, List.cons.injEq, and_true] at h
    obtain ⟨h1, h2, h3, h4, h5, h6⟩ := h
    exact ⟨f1, f2, f3, f4, f5, f6, rfl, by rw [← h1]; exact ⟨rfl, rfl, rfl⟩, by rw [← h2]; exact ⟨rfl, rfl, rfl⟩, by rw [← h3]; exact ⟨rfl, rfl, rfl⟩, by rw [← h4]; exact ⟨rfl, rfl, rfl⟩, by rw [← h5]; exact ⟨rfl, rfl, rfl⟩, by rw [← h6]; exact ⟨rfl, rfl, rfl⟩⟩
theorem pt0 (a b c d e f : Value) (w : World) : (part 3 #[a, b, c, d, e, f] 0).run Try.prog w = .ok a w := by kernel_rfl
theorem pt1 (a b c d e f : Value) (w : World) : (part 3 #[a, b, c, d, e, f] 1).run Try.prog w = .ok b w := by kernel_rfl
theorem pt2 (a b c d e f : Value) (w : World) : (part 3 #[a, b, c, d, e, f] 2).run Try.prog w = .ok c w := by kernel_rfl
theorem pt3 (a b c d e f : Value) (w : World) : (part 3 #[a, b, c, d, e, f] 3).run Try.prog w = .ok d w := by kernel_rfl
theorem pt4 (a b c d e f : Value) (w : World) : (part 3 #[a, b, c, d, e, f] 4).run Try.prog w = .ok e w := by kernel_rfl
theorem pt5 (a b c d e f : Value) (w : World) : (part 3 #[a, b, c, d, e, f] 5).run Try.prog w = .ok f w := by kernel_rfl
theorem eq_tal (a b c d e f : Int) (w : World) : (binOp .eql 42 (.agg #[.int .i64 a, .int .i64 b, .int .i64 c, .int .i64 d, .int .i64 e, .int .i64 f]) (.agg #[.int .i64 a, .int .i64 b, .int .i64 c, .int .i64 d, .int .i64 e, .int .i64 f])).run Try.prog w = .ok (.bool true) w := by
  rw [run_eql_struct, run_equalIn_agg w 9999 _ _ _ talU talP]
  obtain ⟨f1, f2, f3, f4, f5, f6, hf, ⟨_, a2, a3⟩, ⟨_, b2, b3⟩, ⟨_, c2, c3⟩, ⟨_, d2, d3⟩, ⟨_, e2, e3⟩, _, g2, g3⟩ := six_fields talF
  rw [hf]
  simp only [Op.eqFields, a2, a3, b2, b3, c2, c3, d2, d3, e2, e3, g2, g3]
  simp only [Sem.run_ite, Sem.run_bind, pt0, pt1, pt2, pt3, pt4, pt5, Result.andThen_ok, run_equalIn_int w 9998 3 .i64 .i64 _ _ Try.underlying3, beq_self_eq_true]
  simp
theorem eq_rate {r : Nat} (h : Ieee.single.order r r = some .eq) (t : TypeId) (w : World) : (binOp .eql t (.float .f32 r) (.float .f32 r)).run Try.prog w = .ok (.bool true) w := by
  simp [binOp, Op.floatCmp, FloatKind.format, h]
end Kc
end Go.Proofs.Ytkamjpjmdibfgaa

/- Layer 15, the law: play: how both stand -/
namespace Go.Proofs.Ytkamjpjmdibfgaa
open Go.RowKit Go.Maps
namespace Kc
noncomputable def playR : Code := (match Try.f8.body.bind (fromR 32) with | some (.seq c _) => c | _ => .skip)
set_option maxRecDepth 1000000 in
set_option maxHeartbeats 8000000 in
theorem play_end {w : World} {a x q : Nat} {g : Option Nat} {B c : Nat} {v : Value} {L : List En} {f m o : Nat} (hC : Ch w a g B c L f m o) (hR : Rf w x B v L f m o) (hl : L.length ≤ 1000000) (ht : tot L ≤ 1000000000000) (hf : f ≤ 1000000000000) (hm : m ≤ 1000000000000) (hq : w.heap[q]? = some (.cells #[.pointer (some ⟨a, 0, none⟩), .pointer (some ⟨x, 0, none⟩)] 33 (0, 0)))
    (u0 u1 u3 u4 u6 u7 u8 u9 u10 u11 u12 u13 u14 u15 u16 u17 u18 u19 u20 u21 u22 u23 u24 u25 u26 u27 u28 u29 u30 u31 u32 u33 u34 u35 u36 u37 u38 u39 u40 u41 u42 u43 u44 u45 u46 u47 u48 u49 u50 u51 u52 u53 u54 u55 u56 u57 u58 u59 u60 u61 u62 u63 u64 u65 u66 u67 u68 u69 u70 u71 u72 u73 u74 u75 u76 u77 u78 u79 u80 u81 u82 u83 u84 u85 u86 u87 u88 u89 u90 u91 u92 u93 u94 u95 u96 u97 u98 u99 u100 u101 u102 u103 u104 u105 u106 u107 u108 u109 u110 u111 u112 u113 u114 u115 u116 u117 u118 u119 u120 u121 u122 u123 u124 u125 u126 u127 u128 u129 u130 u131 u132 u133 u134 u135 u136 u137 u138 u139 u140 u141 u142 u143 u144 u145 u146 u147 u148 u149 u150 u151 u152 u153 u154 u155 u156 u157 u158 u159 u160 u161 u162 u163 u164 u165 u166 u167 u168 u169 u170 u171 u172 : Value) (Q : Act → World → Prop) (hQ : ∀ (c154 c155 c156 c157 c158 c159 c160 c161 c162 c163 c164 c165 c166 c167 c168 c169 c170 c171 c172 : Value) (w' : World), Below w.heap.size w w' → Q ⟨#[u0, u1, .pointer (some ⟨q, 0, none⟩), u3, .bool true, .bool true, u6, u7, u8, u9, u10, u11, u12, u13, u14, u15, u16, u17, u18, u19, u20, u21, u22, u23, u24, u25, u26, u27, u28, u29, u30, u31, u32, u33, u34, u35, u36, u37, u38, u39, u40, u41, u42, u43, u44, u45, u46, u47, u48, u49, u50, u51, u52, u53, u54, u55, u56, u57, u58, u59, u60, u61, u62, u63, u64, u65, u66, u67, u68, u69, u70, u71, u72, u73, u74, u75, u76, u77, u78, u79, u80, u81, u82, u83, u84, u85, u86, u87, u88, u89, u90, u91, u92, u93, u94, u95, u96, u97, u98, u99, u100, u101, u102, u103, u104, u105, u106, u107, u108, u109, u110, u111, u112, u113, u114, u115, u116, u117, u118, u119, u120, u121, u122, u123, u124, u125, u126, u127, u128, u129, u130, u131, u132, u133, u134, u135, u136, u137, u138, u139, u140, u141, u142, u143, u144, u145, u146, u147, u148, u149, u150, u151, u152, u153, c154, c155, c156, c157, c158, c159, c160, c161, c162, c163, c164, c165, c166, c167, c168, c169, c170, c171, c172], []⟩ w') :
    Code.wp Try.prog playR (Exit.then Q (fun _ _ _ => False)) ⟨#[u0, u1, .pointer (some ⟨q, 0, none⟩), u3, u4, .bool true, u6, u7, u8, u9, u10, u11, u12, u13, u14, u15, u16, u17, u18, u19, u20, u21, u22, u23, u24, u25, u26, u27, u28, u29, u30, u31, u32, u33, u34, u35, u36, u37, u38, u39, u40, u41, u42, u43, u44, u45, u46, u47, u48, u49, u50, u51, u52, u53, u54, u55, u56, u57, u58, u59, u60, u61, u62, u63, u64, u65, u66, u67, u68, u69, u70, u71, u72, u73, u74, u75, u76, u77, u78, u79, u80, u81, u82, u83, u84, u85, u86, u87, u88, u89, u90, u91, u92, u93, u94, u95, u96, u97, u98, u99, u100, u101, u102, u103, u104, u105, u106, u107, u108, u109, u110, u111, u112, u113, u114, u115, u116, u117, u118, u119, u120, u121, u122, u123, u124, u125, u126, u127, u128, u129, u130, u131, u132, u133, u134, u135, u136, u137, u138, u139, u140, u141, u142, u143, u144, u145, u146, u147, u148, u149, u150, u151, u152, u153, u154, u155, u156, u157, u158, u159, u160, u161, u162, u163, u164, u165, u166, u167, u168, u169, u170, u171, u172], []⟩ w := by
  conv => arg 2; whnf
  obtain ⟨r, hr, hrr⟩ := rt_self f m hf hm
  have iA : ∀ w', Below w.heap.size w w' → Calls Try.prog 12 #[.pointer (some ⟨a, 0, none⟩)] w' fun r w'' => r = .returned (tal L.length (tot L) (pnd L) f m o) ∧ Below w'.heap.size w' w'' := fun w' b => tally_any (hC.below b)
  have iB : ∀ w', Below w.heap.size w w' → Calls Try.prog 21 #[.pointer (some ⟨x, 0, none⟩)] w' fun r w'' => r = .returned (tal L.length (tot L) (pnd L) f m o) ∧ Below w'.heap.size w' w'' := fun w' b => rtally_any (hR.below b) hl ht
  have iC : ∀ w', Below w.heap.size w w' → Calls Try.prog 22 #[.pointer (some ⟨a, 0, none⟩)] w' fun r' w'' => r' = .returned (.float .f32 r) ∧ Below w'.heap.size w' w'' := fun w' b => by
    rw [← hr]; exact rate_any (hC.below b) hf hm
  have iD : ∀ w', Below w.heap.size w w' → Calls Try.prog 23 #[.pointer (some ⟨x, 0, none⟩)] w' fun r' w'' => r' = .returned (.float .f32 r) ∧ Below w'.heap.size w' w'' := fun w' b => by
    rw [← hr]; exact rrate_any (hR.below b) hf hm
  have d0 : ∀ w', Below w.heap.size w w' → w'.cell? ⟨q, 0, none⟩ = some (.pointer (some ⟨a, 0, none⟩)) := fun w' b => by rw [cell_of_row _ _ _ _ _ _ ((b.block q (lt_of_heap hq)).trans hq)]; rfl
  have d1 : ∀ w', Below w.heap.size w w' → w'.cell? ⟨q, 1, none⟩ = some (.pointer (some ⟨x, 0, none⟩)) := fun w' b => by rw [cell_of_row _ _ _ _ _ _ ((b.block q (lt_of_heap hq)).trans hq)]; rfl
  unfold tal at iA iB
  generalize L.length = n4 at *
  generalize tot L = n5 at *
  generalize pnd L = n6 at *
  have HQ := hid hQ
  have mk : Hid (∀ w', Below w.heap.size w w' → w'.cell? ⟨q, 0, none⟩ = some (.pointer (some ⟨a, 0, none⟩)) ∧ w'.cell? ⟨q, 1, none⟩ = some (.pointer (some ⟨x, 0, none⟩))) := fun w' b => ⟨d0 w' b, d1 w' b⟩
  have iA := hid iA
  have iB := hid iB
  have iC := hid iC
  have iD := hid iD
  clear hQ hC hR hq hr d0 d1
  have hopT := eq_tal (n4 : Int) (n5 : Int) (n6 : Int) (f : Int) (m : Int) (o : Int)
  have hopR := eq_rate (r := r) hrr
  have HRR : Hid ((FloatKind.f32.format.order r r == some Ordering.eq) = true) := by show (Ieee.single.order r r == some Ordering.eq) = true; rw [hrr]; rfl
  clear hrr hl ht hf hm
  have B0 := hid (Below.refl w.heap.size w).drew
  have c0 := mk.out _ (Below.refl _ w)
  go_region_held3 (fun W => W.cell? ⟨q, 0, none⟩ = some (.pointer (some ⟨a, 0, none⟩)) ∧ W.cell? ⟨q, 1, none⟩ = some (.pointer (some ⟨x, 0, none⟩))) (first | exact c0 | exact c1 | exact c2 | exact c3 | exact c4)
    (first
    | (go_at_call 12; (refine (iA.out _ B0.out).mono ?_); rintro r1 w1 ⟨rfl, b1⟩; have B1 := hid (B0.out.trans (b1.mono B0.out.size)); have c1 := mk.out _ B1.out; clear b1)
    | (go_at_call 21; (refine (iB.out _ B1.out).mono ?_); rintro r2 w2 ⟨rfl, b2⟩; have B2 := hid (B1.out.trans (b2.mono B1.out.size)); have c2 := mk.out _ B2.out; clear b2)
    | (go_at_call 22; (refine (iC.out _ B2.out).mono ?_); rintro r3 w3 ⟨rfl, b3⟩; have B3 := hid (B2.out.trans (b3.mono B2.out.size)); have c3 := mk.out _ B3.out; clear b3)
    | (go_at_call 23; (refine (iD.out _ B3.out).mono ?_); rintro r4 w4 ⟨rfl, b4⟩; have B4 := hid (B3.out.trans (b4.mono B3.out.size)); have c4 := mk.out _ B4.out; clear b4))
  rw [HRR.out]
  exact HQ.out _ _ _ _ _ _ _ _ _ _ _ _ _ _ _ _ _ _ _ _ B4.out
end Kc
end Go.Proofs.Ytkamjpjmdibfgaa
