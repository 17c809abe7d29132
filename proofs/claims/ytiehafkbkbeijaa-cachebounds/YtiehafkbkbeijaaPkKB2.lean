import Derived.Test.YtiehafkbkbeijaaPkKB1
import Derived.Test.YtiehafkbkbeijaaPkKL4
import Derived.Deep.CutRange
import Derived.Deep.DeepCutAuto
import Derived.Deep.LoopGhost
/- Layer 15, CacheBounds: all keys asked for -/
namespace Go.Proofs.Ytiehafkbkbeijaa
open Go.RowKit Go.Maps
namespace Kc
noncomputable def bndT (n : Nat) : Code := ((Try.f4.body.bind (fromR n)).getD .skip)
/-- the cache, whatever is there, and the three lists -/
def Bj (w0 w : World) (a : Nat) (g : Option Nat) (B c o : Nat) (vk vv vp : Value) (K V : List (List UInt8)) (P : List Nat) : Prop := ∃ L f m, Bd w0 w a g B c L f m o vk vv vp K V P
set_option maxRecDepth 1000000 in
set_option maxHeartbeats 8000000 in
theorem bounds_48 {w0 wr : World} {a q gk gv gp ck cv cp N B c t : Nat} {g : Option Nat} {L : List En} {f m o : Nat} {K V : List (List UInt8)} {P : List Nat} (S : Bd w0 wr a g B (c) (L) (f) (m) (o) (.slice (some ⟨gk, 0, none⟩) N ck) (.slice (some ⟨gv, 0, none⟩) N cv) (.slice (some ⟨gp, 0, none⟩) N cp) K V P) (hN : K.length = N) (hc : c + N ≤ 1000000) (hKl : ∀ k ∈ K, k.length ≤ 9223372036854775807)
    (u0 u1 u2 u3 u4 u5 u8 u12 u15 u16 u17 u18 u19 u20 u21 u22 u23 u24 u25 u26 u27 u28 u29 u30 u31 u32 u33 u34 u35 u36 u37 u38 u39 u40 u41 u42 u43 u44 u45 u46 u47 u48 u49 u50 u51 u52 u53 u54 u55 u56 u57 u58 u59 u60 u61 u62 u63 u64 u65 u66 u67 u68 u69 u70 u71 u72 u73 u74 u75 u76 u77 u78 u79 u80 u81 u82 u83 u84 u85 u86 u87 u88 u89 u90 u91 u92 u93 u94 u95 u96 u97 u98 u99 u100 u101 u102 u103 u104 u105 u106 u107 u108 u109 u110 u111 u112 u113 u114 u115 u116 u117 u118 u119 u120 u121 u122 u123 u124 u125 u126 u127 u128 u129 u130 u131 u132 u133 u134 u135 u136 u137 u138 u139 u140 u141 u142 u143 u144 u145 u146 u147 u148 u149 u150 u151 u152 u153 u154 u155 u156 u157 u158 u159 u160 u161 u162 u163 u164 u165 u166 u167 u168 u169 u170 u171 u172 u173 u174 u175 u176 u177 u178 u179 u180 u181 u182 u183 u184 u185 u186 u187 u188 u189 u190 u191 u192 u193 u194 u195 u196 u197 u198 u199 u200 u201 u202 u203 u204 u205 u206 u207 u208 u209 u210 u211 u212 u213 u214 u215 u216 u217 u218 u219 u220 u221 u222 u223 u224 u225 u226 u227 u228 u229 u230 u231 u232 : Value) (Q : Exit → Act → World → Prop)
    (hQ : ∀ (c4 c23 c24 c25 c198 c199 c200 c201 c202 c203 c204 c205 c206 c207 c208 c209 c210 c211 c212 c213 c214 c215 c216 c217 c218 c219 c220 c221 c222 c223 c224 c225 c226 c227 c228 c229 c230 c231 c232 : Value) (w' : World) (L' : List En) (f' m' : Nat), Bd w0 w' a g B (c + N) (L') (f') (m') (o) (.slice (some ⟨gk, 0, none⟩) N ck) (.slice (some ⟨gv, 0, none⟩) N cv) (.slice (some ⟨gp, 0, none⟩) N cp) K V P → Q .normal ⟨#[u0, u1, u2, u3, c4, u5, .int .i64 (B : Int), .pointer (some ⟨a, 0, none⟩), u8, .slice (some ⟨gk, 0, none⟩) N ck, .slice (some ⟨gv, 0, none⟩) N cv, .slice (some ⟨gp, 0, none⟩) N cp, u12, .pointer (some ⟨q, 0, none⟩), .int .i64 (t : Int), u15, u16, u17, u18, u19, u20, u21, u22, c23, c24, c25, u26, u27, u28, u29, u30, u31, u32, u33, u34, u35, u36, u37, u38, u39, u40, u41, u42, u43, u44, u45, u46, u47, u48, u49, u50, u51, u52, u53, u54, u55, u56, u57, u58, u59, u60, u61, u62, u63, u64, u65, u66, u67, u68, u69, u70, u71, u72, u73, u74, u75, u76, u77, u78, u79, u80, u81, u82, u83, u84, u85, u86, u87, u88, u89, u90, u91, u92, u93, u94, u95, u96, u97, u98, u99, u100, u101, u102, u103, u104, u105, u106, u107, u108, u109, u110, u111, u112, u113, u114, u115, u116, u117, u118, u119, u120, u121, u122, u123, u124, u125, u126, u127, u128, u129, u130, u131, u132, u133, u134, u135, u136, u137, u138, u139, u140, u141, u142, u143, u144, u145, u146, u147, u148, u149, u150, u151, u152, u153, u154, u155, u156, u157, u158, u159, u160, u161, u162, u163, u164, u165, u166, u167, u168, u169, u170, u171, u172, u173, u174, u175, u176, u177, u178, u179, u180, u181, u182, u183, u184, u185, u186, u187, u188, u189, u190, u191, u192, u193, u194, u195, u196, u197, c198, c199, c200, c201, c202, c203, c204, c205, c206, c207, c208, c209, c210, c211, c212, c213, c214, c215, c216, c217, c218, c219, c220, c221, c222, c223, c224, c225, c226, c227, c228, c229, c230, c231, c232], []⟩ w') :
    Code.wp Try.prog (bndT 48) Q ⟨#[u0, u1, u2, u3, u4, u5, .int .i64 (B : Int), .pointer (some ⟨a, 0, none⟩), u8, .slice (some ⟨gk, 0, none⟩) N ck, .slice (some ⟨gv, 0, none⟩) N cv, .slice (some ⟨gp, 0, none⟩) N cp, u12, .pointer (some ⟨q, 0, none⟩), .int .i64 (t : Int), u15, u16, u17, u18, u19, u20, u21, u22, u23, u24, u25, u26, u27, u28, u29, u30, u31, u32, u33, u34, u35, u36, u37, u38, u39, u40, u41, u42, u43, u44, u45, u46, u47, u48, u49, u50, u51, u52, u53, u54, u55, u56, u57, u58, u59, u60, u61, u62, u63, u64, u65, u66, u67, u68, u69, u70, u71, u72, u73, u74, u75, u76, u77, u78, u79, u80, u81, u82, u83, u84, u85, u86, u87, u88, u89, u90, u91, u92, u93, u94, u95, u96, u97, u98, u99, u100, u101, u102, u103, u104, u105, u106, u107, u108, u109, u110, u111, u112, u113, u114, u115, u116, u117, u118, u119, u120, u121, u122, u123, u124, u125, u126, u127, u128, u129, u130, u131, u132, u133, u134, u135, u136, u137, u138, u139, u140, u141, u142, u143, u144, u145, u146, u147, u148, u149, u150, u151, u152, u153, u154, u155, u156, u157, u158, u159, u160, u161, u162, u163, u164, u165, u166, u167, u168, u169, u170, u171, u172, u173, u174, u175, u176, u177, u178, u179, u180, u181, u182, u183, u184, u185, u186, u187, u188, u189, u190, u191, u192, u193, u194, u195, u196, u197, u198, u199, u200, u201, u202, u203, u204, u205, u206, u207, u208, u209, u210, u211, u212, u213, u214, u215, u216, u217, u218, u219, u220, u221, u222, u223, u224, u225, u226, u227, u228, u229, u230, u231, u232], []⟩ wr := by
  conv => arg 2; whnf
  have HQ := hid hQ
  have HS := hid S
  have HN := hid hN
  have HK := hid hKl
  clear hQ S hN hKl
  have hN6 : N ≤ 1000000 := by omega
  go_wp2
  go_loopw [23] (fun i w' => ∃ j : Nat, j ≤ N ∧ i = .int .i64 (j : Int) ∧ Hid (Bj w0 w' a g B (c + j) o (.slice (some ⟨gk, 0, none⟩) N ck) (.slice (some ⟨gv, 0, none⟩) N cv) (.slice (some ⟨gp, 0, none⟩) N cp) K V P)) (fun i _ => N - (intOf i).toNat)
  case atStart => exact ⟨0, Nat.zero_le _, rfl, L, f, m, HS.out⟩
  case round =>
    obtain ⟨j, hj, rfl, S⟩ := hrel
    obtain ⟨L', f', m', S⟩ := S.out
    have S := hid S
    by_cases hjn : j < N
    · have hjK : j < K.length := by rw [HN.out]; exact hjn
      have hjV : j < V.length := by rw [S.out.bm.lv]; exact hjK
      have hjP : j < P.length := by rw [S.out.bm.lp]; exact hjK
      obtain ⟨k, hk⟩ : ∃ k, K[j] = k := ⟨_, rfl⟩
      have hk? : K[j]? = some k := by rw [List.getElem?_eq_getElem hjK, hk]
      have hkl := HK.out k (List.mem_of_getElem? hk?)
      have y1 : (j : Int) < (N : Int) := by omega
      have y3 : (0 : Int) ≤ (j : Int) := by omega
      have hjn' := hid hjn
      have x1r := (own_at S.out.ok (j := j) (by rw [svs_length]; exact hjK)).1
      have x1 : wr.cell? ⟨gk, j, none⟩ = some (.string ⟨k.toArray⟩) := by rw [x1r]; simp [svs, hk]; rfl
      clear x1r
      cases hf : fnd k L' with
      | some e =>
        have ev := (S.out.bm.so j k hk? e hf)
        have i1 := get_some' S.out.cs.ch (by omega) k hkl hf
        obtain ⟨V1, hV1⟩ : ∃ V1, ByteArray.mk e.v.toArray = V1 := ⟨_, rfl⟩
        rw [hV1] at i1
        have hbm : Bm (e :: wo k L') K V P := S.out.bm.same (fun k' => fnd_use S.out.cs.ch.uq hf k') (by
          obtain ⟨X, Y, hL, _, hw, _, _⟩ := fnd_split hf
          rw [hw]
          exact (hL ▸ S.out.cs.ch.uq : Uq (X ++ e :: Y)).front)
        have HB := hid hbm
        have HE := hid ev
        have HV1 := hid hV1
        have vv : (V1.toList == V1.toList) = true := by simp
        clear hf hbm ev hV1 hk? hkl hk
        generalize (ByteArray.mk k.toArray) = KK at *
        by_cases hp : e.p = 0
        · have hpe : Hid (e.p = 0) := hp
          go_upto_region 52 with (go_at_call 9; (with_reducible refine i1.mono ?_); rintro r w2 ⟨rfl, P2⟩)
          have S2 := hid (S.out.opd P2 HB.out)
          have x2r := (own_at S2.out.ov (j := j) (by rw [svs_length]; exact hjV)).1
          have x3r := (own_at S2.out.op (j := j) (by rw [pz_len]; exact hjP)).1
          have x2 : w2.cell? ⟨gv, j, none⟩ = some (.string V1) := by
            rw [x2r]
            have := HE.out.1
            rw [List.getElem?_eq_getElem hjV] at this
            simp [svs, Option.some.inj this]
            rw [← HV1.out]; rfl
          have x3 : w2.cell? ⟨gp, j, none⟩ = some (.int .i64 0) := by
            rw [x3r]
            have := HE.out.2
            rw [List.getElem?_eq_getElem hjP] at this
            simp [pz, Option.some.inj this, hpe.out]
          clear P2 i1 x1 x3r x2r
          go_wp2
          exact ⟨⟨j + 1, hjn'.out, by go_num, _, _, _, S2.out⟩, by have := hjn'.out; simp [RowKit.intOf]; omega⟩
        · obtain ⟨pe, hpe⟩ : ∃ pe, e.p = pe := ⟨_, rfl⟩
          have hpe1 : 0 < (pe : Int) := by omega
          have hpe2 : decide (0 < (pe : Int)) = true := decide_eq_true hpe1
          have HPE := hid hpe
          clear hpe hp
          go_upto_region 52 with (go_at_call 9; (with_reducible refine i1.mono ?_); rintro r w2 ⟨rfl, P2⟩)
          have S2 := hid (S.out.opd P2 HB.out)
          have x2r := (own_at S2.out.ov (j := j) (by rw [svs_length]; exact hjV)).1
          have x3r := (own_at S2.out.op (j := j) (by rw [pz_len]; exact hjP)).1
          have x2 : w2.cell? ⟨gv, j, none⟩ = some (.string V1) := by
            rw [x2r]
            have := HE.out.1
            rw [List.getElem?_eq_getElem hjV] at this
            simp [svs, Option.some.inj this]
            rw [← HV1.out]; rfl
          have x3 : w2.cell? ⟨gp, j, none⟩ = some (.int .i64 (pe : Int)) := by
            rw [x3r]
            have := HE.out.2
            rw [List.getElem?_eq_getElem hjP] at this
            simp [pz, Option.some.inj this, HPE.out]
          clear P2 i1 x1 x3r x2r
          go_wp2
          exact ⟨⟨j + 1, hjn'.out, by go_num, _, _, _, S2.out⟩, by have := hjn'.out; simp [RowKit.intOf]; omega⟩
      | none =>
        have ep := S.out.bm.no j k hk? hf
        have i1 := get_none' S.out.cs.ch (by omega) k hkl hf
        have HE := hid ep
        clear hf ep hk? hkl hk
        generalize (ByteArray.mk k.toArray) = KK at *
        go_upto_region 52 with (go_at_call 9; (with_reducible refine i1.mono ?_); rintro r w2 ⟨rfl, P2⟩)
        have S2 := hid (S.out.opd P2 S.out.bm)
        have x3r := (own_at S2.out.op (j := j) (by rw [pz_len]; exact hjP)).1
        have x3 : w2.cell? ⟨gp, j, none⟩ = some (.int .i64 0) := by
          rw [x3r]
          have := HE.out
          rw [List.getElem?_eq_getElem hjP] at this
          simp [pz, Option.some.inj this]
        clear P2 i1 x1 x3r
        go_wp2
        exact ⟨⟨j + 1, hjn'.out, by go_num, _, _, _, S2.out⟩, by have := hjn'.out; simp [RowKit.intOf]; omega⟩
    · obtain rfl : j = N := by omega
      have y1 : ¬ (j : Int) < (j : Int) := by omega
      go_wp2
      exact HQ.out _ _ _ _ _ _ _ _ _ _ _ _ _ _ _ _ _ _ _ _ _ _ _ _ _ _ _ _ _ _ _ _ _ _ _ _ _ _ _ _ _ _ _ S.out
end Kc
end Go.Proofs.Ytiehafkbkbeijaa
