import Derived.Test.YtiehafkbkbeijaaPkKB4
import Derived.Deep.CutBlock
import Derived.Deep.RegionHeld3
import Derived.Deep.CutRange
import Derived.Deep.DeepCutAuto
import Derived.Deep.LoopGhost
/- Layer 15, CacheBounds: one step -/
namespace Go.Proofs.Ytiehafkbkbeijaa
open Go.RowKit Go.Maps
namespace Kc
def Bf (w0 w : World) (a B c : Nat) (vk vv vp : Value) (K : List (List UInt8)) (q : Nat) (fl : Bool) (kd nn : Int) (KB VB : ByteArray) : Prop := ∃ g L f m o V P, Be w0 w a g B c L f m o vk vv vp K V P q fl kd nn KB VB
theorem Be.mono {w0 w : World} {a : Nat} {g : Option Nat} {B c c' : Nat} {L : List En} {f m o : Nat} {vk vv vp : Value} {K V : List (List UInt8)} {P : List Nat} {q : Nat} {fl : Bool} {kd nn : Int} {KB VB : ByteArray} (h : Be w0 w a g B c L f m o vk vv vp K V P q fl kd nn KB VB) (hc : c ≤ c') : Be w0 w a g B c' L f m o vk vv vp K V P q fl kd nn KB VB := ⟨h.bd.mono hc, h.rq, h.nf, h.nk, h.nv, h.np⟩
set_option maxRecDepth 1000000 in
set_option maxHeartbeats 8000000 in
theorem bounds_25 {w0 wr : World} {a q gk gv gp ck cv cp N B c t : Nat} {g : Option Nat} {L : List En} {f m o : Nat} {K V : List (List UInt8)} {P : List Nat} {wt : Nat} {fl : Bool} {kd nn : Int} {KB VB : ByteArray} (S : Be w0 wr a g B (c) (L) (f) (m) (o) (.slice (some ⟨gk, 0, none⟩) N ck) (.slice (some ⟨gv, 0, none⟩) N cv) (.slice (some ⟨gp, 0, none⟩) N cp) K V P q fl kd nn KB VB) (hN : K.length = N) (hc : c + N + 6 ≤ 1000000) (hKl : ∀ k ∈ K, k.length ≤ 9223372036854775807) {k v : List UInt8} (hk : K[t]? = some k) (hKB : ByteArray.mk k.toArray = KB) (hVB : ByteArray.mk v.toArray = VB) (hk2 : k.length ≤ 2305843009213693952) (hv2 : v.length ≤ 2305843009213693952) (RT : wr.heap[wt]? = some (.cells #[.int .i64 (L.length : Int), .int .i64 (tot L : Int), .int .i64 (pnd L : Int), .int .i64 (f : Int), .int .i64 (m : Int), .int .i64 (o : Int)] 36 (0, 0)))
    (u0 u1 u2 u3 u4 u5 u8 u12 u15 u17 u18 u19 u20 u21 u22 u23 u24 u25 u26 u27 u28 u29 u30 u31 u32 u33 u34 u35 u36 u37 u38 u39 u40 u41 u42 u43 u44 u45 u46 u47 u48 u49 u50 u51 u52 u53 u54 u55 u56 u57 u58 u59 u60 u61 u62 u63 u64 u65 u66 u67 u68 u69 u70 u71 u72 u73 u74 u75 u76 u77 u78 u79 u80 u81 u82 u83 u84 u85 u86 u87 u88 u89 u90 u91 u92 u93 u94 u95 u96 u97 u98 u99 u100 u101 u102 u103 u104 u105 u106 u107 u108 u109 u110 u111 u112 u113 u114 u115 u116 u117 u118 u119 u120 u121 u122 u123 u124 u125 u126 u127 u128 u129 u130 u131 u132 u133 u134 u135 u136 u137 u138 u139 u140 u141 u142 u143 u144 u145 u146 u147 u148 u149 u150 u151 u152 u153 u154 u155 u156 u157 u158 u159 u160 u161 u162 u163 u164 u165 u166 u167 u168 u169 u170 u171 u172 u173 u174 u175 u176 u177 u178 u179 u180 u181 u182 u183 u184 u185 u186 u187 u188 u189 u190 u191 u192 u193 u194 u195 u196 u197 u198 u199 u200 u201 u202 u203 u204 u205 u206 u207 u208 u209 u210 u211 u212 u213 u214 u215 u216 u217 u218 u219 u220 u221 u222 u223 u224 u225 u226 u227 u228 u229 u230 u231 u232 : Value) (Q : Exit → Act → World → Prop)
    (hQ : ∀ (c4 c17 c18 c19 c20 c21 c22 c23 c24 c25 c89 c90 c91 c92 c93 c94 c95 c96 c97 c98 c99 c100 c101 c102 c103 c104 c105 c106 c107 c108 c109 c110 c111 c112 c113 c114 c115 c116 c117 c118 c119 c120 c121 c122 c123 c124 c125 c126 c127 c128 c129 c130 c131 c132 c133 c134 c135 c136 c137 c138 c139 c140 c141 c142 c143 c144 c145 c146 c147 c148 c149 c150 c151 c152 c153 c154 c155 c156 c157 c158 c159 c160 c161 c162 c163 c164 c165 c166 c167 c168 c169 c170 c171 c172 c173 c174 c175 c176 c177 c178 c179 c180 c181 c182 c183 c184 c185 c186 c187 c188 c189 c190 c191 c192 c193 c194 c195 c196 c197 c198 c199 c200 c201 c202 c203 c204 c205 c206 c207 c208 c209 c210 c211 c212 c213 c214 c215 c216 c217 c218 c219 c220 c221 c222 c223 c224 c225 c226 c227 c228 c229 c230 c231 c232 : Value) (w' : World), Bj' w0 w' a B (c + N + 2) (.slice (some ⟨gk, 0, none⟩) N ck) (.slice (some ⟨gv, 0, none⟩) N cv) (.slice (some ⟨gp, 0, none⟩) N cp) K N → Q .normal ⟨#[u0, u1, u2, u3, c4, u5, .int .i64 (B : Int), .pointer (some ⟨a, 0, none⟩), u8, .slice (some ⟨gk, 0, none⟩) N ck, .slice (some ⟨gv, 0, none⟩) N cv, .slice (some ⟨gp, 0, none⟩) N cp, u12, .pointer (some ⟨q, 0, none⟩), .int .i64 (t : Int), u15, .pointer (some ⟨wt, 0, none⟩), c17, c18, c19, c20, c21, c22, c23, c24, c25, u26, u27, u28, u29, u30, u31, u32, u33, u34, u35, u36, u37, u38, u39, u40, u41, u42, u43, u44, u45, u46, u47, u48, u49, u50, u51, u52, u53, u54, u55, u56, u57, u58, u59, u60, u61, u62, u63, u64, u65, u66, u67, u68, u69, u70, u71, u72, u73, u74, u75, u76, u77, u78, u79, u80, u81, u82, u83, u84, u85, u86, u87, u88, c89, c90, c91, c92, c93, c94, c95, c96, c97, c98, c99, c100, c101, c102, c103, c104, c105, c106, c107, c108, c109, c110, c111, c112, c113, c114, c115, c116, c117, c118, c119, c120, c121, c122, c123, c124, c125, c126, c127, c128, c129, c130, c131, c132, c133, c134, c135, c136, c137, c138, c139, c140, c141, c142, c143, c144, c145, c146, c147, c148, c149, c150, c151, c152, c153, c154, c155, c156, c157, c158, c159, c160, c161, c162, c163, c164, c165, c166, c167, c168, c169, c170, c171, c172, c173, c174, c175, c176, c177, c178, c179, c180, c181, c182, c183, c184, c185, c186, c187, c188, c189, c190, c191, c192, c193, c194, c195, c196, c197, c198, c199, c200, c201, c202, c203, c204, c205, c206, c207, c208, c209, c210, c211, c212, c213, c214, c215, c216, c217, c218, c219, c220, c221, c222, c223, c224, c225, c226, c227, c228, c229, c230, c231, c232], []⟩ w') :
    Code.wp Try.prog (bndT 25) Q ⟨#[u0, u1, u2, u3, u4, u5, .int .i64 (B : Int), .pointer (some ⟨a, 0, none⟩), u8, .slice (some ⟨gk, 0, none⟩) N ck, .slice (some ⟨gv, 0, none⟩) N cv, .slice (some ⟨gp, 0, none⟩) N cp, u12, .pointer (some ⟨q, 0, none⟩), .int .i64 (t : Int), u15, .pointer (some ⟨wt, 0, none⟩), u17, u18, u19, u20, u21, u22, u23, u24, u25, u26, u27, u28, u29, u30, u31, u32, u33, u34, u35, u36, u37, u38, u39, u40, u41, u42, u43, u44, u45, u46, u47, u48, u49, u50, u51, u52, u53, u54, u55, u56, u57, u58, u59, u60, u61, u62, u63, u64, u65, u66, u67, u68, u69, u70, u71, u72, u73, u74, u75, u76, u77, u78, u79, u80, u81, u82, u83, u84, u85, u86, u87, u88, u89, u90, u91, u92, u93, u94, u95, u96, u97, u98, u99, u100, u101, u102, u103, u104, u105, u106, u107, u108, u109, u110, u111, u112, u113, u114, u115, u116, u117, u118, u119, u120, u121, u122, u123, u124, u125, u126, u127, u128, u129, u130, u131, u132, u133, u134, u135, u136, u137, u138, u139, u140, u141, u142, u143, u144, u145, u146, u147, u148, u149, u150, u151, u152, u153, u154, u155, u156, u157, u158, u159, u160, u161, u162, u163, u164, u165, u166, u167, u168, u169, u170, u171, u172, u173, u174, u175, u176, u177, u178, u179, u180, u181, u182, u183, u184, u185, u186, u187, u188, u189, u190, u191, u192, u193, u194, u195, u196, u197, u198, u199, u200, u201, u202, u203, u204, u205, u206, u207, u208, u209, u210, u211, u212, u213, u214, u215, u216, u217, u218, u219, u220, u221, u222, u223, u224, u225, u226, u227, u228, u229, u230, u231, u232], []⟩ wr := by
  conv => arg 2; whnf
  have HQ := hid hQ
  have HS := hid S
  have hN' := hid hN
  have hKl' := hid hKl
  have hk' := hid hk
  have hKB' := hid hKB
  have hVB' := hid hVB
  have hk2' := hid hk2
  have hv2' := hid hv2
  have HRT := hid RT
  obtain ⟨_, x1, _, x3, x4⟩ := S.cs
  have htK : t < K.length := (List.getElem?_eq_some_iff.1 hk).1
  have htV : Hid (t < V.length) := by show _ < _; rw [S.bd.bm.lv]; exact htK
  have htP : Hid (t < P.length) := by show _ < _; rw [S.bd.bm.lp]; exact htK
  have y1 : (t : Int) < (N : Int) := by omega
  have y3 : (0 : Int) ≤ (t : Int) := by omega
  clear hQ S hN hKl hk hKB hVB hk2 hv2 RT htK
  go_upto_block 4 with fail
  go_cut [17, 18, 19] from 91 to 149 (fun _ _ _ w' => Hid (Bf w0 w' a B (c + 1) (.slice (some ⟨gk, 0, none⟩) N ck) (.slice (some ⟨gv, 0, none⟩) N cv) (.slice (some ⟨gp, 0, none⟩) N cp) K q fl kd nn KB VB))
  case first =>
    by_cases k2 : kd = 2
    · subst k2
      by_cases hB : k.length + v.length + pnd (wo k L) ≤ B
      · have i1 := put_ok' HS.out.bd.cs.ch (by omega) k v hk2'.out hv2'.out hB
        rw [hKB'.out, hVB'.out] at i1
        clear hB
        go_upto_region 29 with (go_at_call 10; (with_reducible refine i1.mono ?_); rintro r w2 ⟨rfl, b', g', o', P2, E2⟩)
        have hbm : Bm (putL B k v L b') K (V.set t v) P := HS.out.bd.bm.put HS.out.bd.cs.ch.uq hk'.out B v b'
        have SX := hid (HS.out.put P2 htV.out v hbm)
        have Z := HS.out.bd.z.opd P2
        have x2 := own_at Z.ov (j := t) (by rw [svs_length]; exact htV.out)
        have x2a := x2.1
        have x2b := x2.2
        have x4' : w2.cell? ⟨q, 4, none⟩ = some (.string VB) := by
          rw [cell_of_row _ _ _ _ _ _ ((P2.kp.block q (lt_of_heap HS.out.rq) HS.out.nf).trans HS.out.rq)]; rfl
        rw [hVB'.out] at SX
        clear P2 E2 i1 x2 Z hbm
        go_wp2
        go_meet
        exact ⟨_, _, _, _, _, _, _, SX.out⟩
      · have i1 := put_long' HS.out.bd.cs.ch k v hk2'.out hv2'.out (by omega)
        rw [hKB'.out, hVB'.out] at i1
        clear hB
        go_upto_region 30 with (go_at_call 10; (with_reducible refine i1.mono ?_); rintro r w2 ⟨rfl, b2⟩)
        have SX := hid (HS.out.below b2)
        have R2 := (b2.block wt (lt_of_heap HRT.out)).trans HRT.out
        have i2 := tally_any (w := w2.drew) SX.out.drew.bd.cs.ch
        unfold tal at i2
        obtain ⟨n4, hn4⟩ : ∃ n, L.length = n := ⟨_, rfl⟩
        obtain ⟨n5, hn5⟩ : ∃ n, tot L = n := ⟨_, rfl⟩
        obtain ⟨n6, hn6⟩ : ∃ n, pnd L = n := ⟨_, rfl⟩
        rw [hn4, hn5, hn6] at i2 R2
        have d0 : w2.cell? ⟨wt, 0, none⟩ = some (.int .i64 (n4 : Int)) := by rw [cell_of_row _ _ _ _ _ _ R2]; rfl
        have d1 : w2.cell? ⟨wt, 1, none⟩ = some (.int .i64 (n5 : Int)) := by rw [cell_of_row _ _ _ _ _ _ R2]; rfl
        have d2 : w2.cell? ⟨wt, 2, none⟩ = some (.int .i64 (n6 : Int)) := by rw [cell_of_row _ _ _ _ _ _ R2]; rfl
        have d3 : w2.cell? ⟨wt, 3, none⟩ = some (.int .i64 (f : Int)) := by rw [cell_of_row _ _ _ _ _ _ R2]; rfl
        have d4 : w2.cell? ⟨wt, 4, none⟩ = some (.int .i64 (m : Int)) := by rw [cell_of_row _ _ _ _ _ _ R2]; rfl
        have d5 : w2.cell? ⟨wt, 5, none⟩ = some (.int .i64 (o : Int)) := by rw [cell_of_row _ _ _ _ _ _ R2]; rfl
        have R2 := hid R2
        clear hn4 hn5 hn6 i1 b2
        go_cut [113] from 106 to 112 (fun v w' => v = .bool false ∧ Hid (Be w0 w' a g B (c) (L) (f) (m) (o) (.slice (some ⟨gk, 0, none⟩) N ck) (.slice (some ⟨gv, 0, none⟩) N cv) (.slice (some ⟨gp, 0, none⟩) N cp) K V P q fl 2 nn KB VB))
        case first =>
          have eA : w2.drew.cell? ⟨wt, 0, none⟩ = some (.int .i64 (n4 : Int)) ∧ w2.drew.cell? ⟨wt, 1, none⟩ = some (.int .i64 (n5 : Int)) ∧ w2.drew.cell? ⟨wt, 2, none⟩ = some (.int .i64 (n6 : Int)) ∧ w2.drew.cell? ⟨wt, 3, none⟩ = some (.int .i64 (f : Int)) ∧ w2.drew.cell? ⟨wt, 4, none⟩ = some (.int .i64 (m : Int)) ∧ w2.drew.cell? ⟨wt, 5, none⟩ = some (.int .i64 (o : Int)) := ⟨d0, d1, d2, d3, d4, d5⟩
          go_region_held3 (fun W => W.cell? ⟨wt, 0, none⟩ = some (.int .i64 (n4 : Int)) ∧ W.cell? ⟨wt, 1, none⟩ = some (.int .i64 (n5 : Int)) ∧ W.cell? ⟨wt, 2, none⟩ = some (.int .i64 (n6 : Int)) ∧ W.cell? ⟨wt, 3, none⟩ = some (.int .i64 (f : Int)) ∧ W.cell? ⟨wt, 4, none⟩ = some (.int .i64 (m : Int)) ∧ W.cell? ⟨wt, 5, none⟩ = some (.int .i64 (o : Int))) (first | exact eA | exact eB) (first | (go_at_call 12; (with_reducible refine i2.mono ?_); rintro r w3 ⟨rfl, b3⟩; have eB := ((⟨(b3.cell (p := ⟨wt, 0, none⟩) (lt_of_cell d0)).trans d0, (b3.cell (p := ⟨wt, 1, none⟩) (lt_of_cell d0)).trans d1, (b3.cell (p := ⟨wt, 2, none⟩) (lt_of_cell d0)).trans d2, (b3.cell (p := ⟨wt, 3, none⟩) (lt_of_cell d0)).trans d3, (b3.cell (p := ⟨wt, 4, none⟩) (lt_of_cell d0)).trans d4, (b3.cell (p := ⟨wt, 5, none⟩) (lt_of_cell d0)).trans d5⟩ : w3.cell? ⟨wt, 0, none⟩ = some (.int .i64 (n4 : Int)) ∧ w3.cell? ⟨wt, 1, none⟩ = some (.int .i64 (n5 : Int)) ∧ w3.cell? ⟨wt, 2, none⟩ = some (.int .i64 (n6 : Int)) ∧ w3.cell? ⟨wt, 3, none⟩ = some (.int .i64 (f : Int)) ∧ w3.cell? ⟨wt, 4, none⟩ = some (.int .i64 (m : Int)) ∧ w3.cell? ⟨wt, 5, none⟩ = some (.int .i64 (o : Int))))))
          all_goals go_wp2_with fail
          all_goals go_meet
          all_goals exact ⟨rfl, SX.out.drew.below b3⟩
        case rest =>
          obtain ⟨rfl, SY⟩ := hcut
          go_wp2
          go_meet
          exact ⟨_, _, _, _, _, _, _, SY.out.mono (Nat.le_succ _)⟩
    · by_cases k4 : kd = 4
      · subst k4
        cases hf : fnd k L with
        | none =>
          have i1 := pin_none HS.out.bd.cs.ch k (Nat.le_trans hk2'.out (by decide)) hf
          rw [hKB'.out] at i1
          clear hf
          go_wp2_with (go_at_call 13; (with_reducible refine i1.mono ?_); rintro r w2 ⟨rfl, hw2⟩; replace hw2 := hw2.symm; subst hw2)
          go_meet
          exact ⟨_, _, _, _, _, _, _, HS.out.mono (Nat.le_succ _)⟩
        | some e =>
          have hp := HS.out.bd.bm.so t k hk'.out e hf
          have hpm := HS.out.bd.cs.ch.pm e (fnd_mem hf).1
          by_cases hfull : e.p = 65535
          · have i1 := pin_bad HS.out.bd.cs.ch k (Nat.le_trans hk2'.out (by decide)) hf hfull
            rw [hKB'.out] at i1
            clear hf hp hfull hpm
            go_wp2_with (go_at_call 13; (with_reducible refine i1.mono ?_); rintro r w2 ⟨rfl, hw2⟩; replace hw2 := hw2.symm; subst hw2)
            go_meet
            exact ⟨_, _, _, _, _, _, _, HS.out.mono (Nat.le_succ _)⟩
          · have i1 := pin_ok HS.out.bd.cs.ch k hf (by omega)
            rw [hKB'.out] at i1
            have hbm : Hid (Bm (rp k (e.p + 1) L) K V (P.set t (e.p + 1))) := HS.out.bd.bm.rp HS.out.bd.cs.ch.uq hk'.out hf (e.p + 1)
            obtain ⟨pe, hpe⟩ : ∃ pe, e.p = pe := ⟨_, rfl⟩
            rw [hpe] at i1 hbm hp
            have e1 : IntKind.i64.wrap ((pe : Int) + 1) = ((pe + 1 : Nat) : Int) := by rw [IntKind.wrap_i64]; omega
            have HP := hid hp.2
            clear hf hp hfull hpm hpe
            go_upto_region 35 with (go_at_call 13; (with_reducible refine i1.mono ?_); rintro r w2 ⟨rfl, P2⟩)
            have SX := hid (HS.out.pin P2 htP.out (pe + 1) hbm.out)
            have Z := HS.out.bd.z.opd P2
            have x2 := own_at Z.op (j := t) (by rw [pz_len]; exact htP.out)
            have x2a : w2.cell? ⟨gp, t, none⟩ = some (.int .i64 (pe : Int)) := by
              rw [x2.1]
              have := HP.out
              rw [List.getElem?_eq_getElem htP.out] at this
              simp [pz, Option.some.inj this]
            have x2b := x2.2
            clear P2 i1 x2 Z
            go_wp2
            go_meet
            exact ⟨_, _, _, _, _, _, _, SX.out⟩
      · by_cases k5 : kd = 5
        · subst k5
          cases hf : fnd k L with
          | none =>
            have hp := HS.out.bd.bm.no t k hk'.out hf
            have i1 := unpin_none HS.out.bd.cs.ch k (Nat.le_trans hk2'.out (by decide)) hf
            rw [hKB'.out] at i1
            have x2 := own_at HS.out.bd.op (j := t) (by rw [pz_len]; exact htP.out)
            have x2a : wr.cell? ⟨gp, t, none⟩ = some (.int .i64 0) := by
              rw [x2.1]
              rw [List.getElem?_eq_getElem htP.out] at hp
              simp [pz, Option.some.inj hp]
            clear hf hp x2
            go_wp2_with (go_at_call 14; (with_reducible refine i1.mono ?_); rintro r w2 ⟨rfl, hw2⟩; replace hw2 := hw2.symm; subst hw2)
            go_meet
            exact ⟨_, _, _, _, _, _, _, HS.out.mono (Nat.le_succ _)⟩
          | some e =>
            have hp := HS.out.bd.bm.so t k hk'.out e hf
            have hpm := HS.out.bd.cs.ch.pm e (fnd_mem hf).1
            by_cases hz : e.p = 0
            · have i1 := unpin_bad HS.out.bd.cs.ch k (Nat.le_trans hk2'.out (by decide)) hf hz
              rw [hKB'.out] at i1
              have x2 := own_at HS.out.bd.op (j := t) (by rw [pz_len]; exact htP.out)
              have x2a : wr.cell? ⟨gp, t, none⟩ = some (.int .i64 0) := by
                rw [x2.1]
                have := hp.2
                rw [List.getElem?_eq_getElem htP.out] at this
                simp [pz, Option.some.inj this, hz]
              clear hf hp hz hpm x2
              go_wp2_with (go_at_call 14; (with_reducible refine i1.mono ?_); rintro r w2 ⟨rfl, hw2⟩; replace hw2 := hw2.symm; subst hw2)
              go_meet
              exact ⟨_, _, _, _, _, _, _, HS.out.mono (Nat.le_succ _)⟩
            · obtain ⟨pe, hpe⟩ : ∃ pe, e.p = pe + 1 := ⟨e.p - 1, by omega⟩
              have i1 := unpin_ok HS.out.bd.cs.ch k hf (by omega)
              rw [hKB'.out] at i1
              have hbm : Hid (Bm (rp k (e.p - 1) L) K V (P.set t (e.p - 1))) := HS.out.bd.bm.rp HS.out.bd.cs.ch.uq hk'.out hf (e.p - 1)
              rw [hpe, Nat.add_sub_cancel] at i1 hbm
              rw [hpe] at hp
              have e1 : IntKind.i64.wrap (((pe + 1 : Nat) : Int) - 1) = (pe : Int) := by rw [IntKind.wrap_i64]; omega
              have HP := hid hp.2
              obtain ⟨pp, hpp⟩ : ∃ pp, pe + 1 = pp := ⟨_, rfl⟩
              rw [hpp] at e1
              have z1 : 0 < (pp : Int) := by omega
              have z2 : decide (0 < (pp : Int)) = true := decide_eq_true z1
              have z3 : 0 < pp := by omega
              have z4 : decide (0 < pp) = true := decide_eq_true z3
              unfold Hid at HP
              rw [hpp] at HP
              have HP := hid HP
              clear hf hp hz hpm hpe hpp
              go_upto_region 38 with (go_at_call 14; (with_reducible refine i1.mono ?_); rintro r w2 ⟨rfl, P2⟩)
              have SX := hid (HS.out.pin P2 htP.out pe hbm.out)
              have Z := HS.out.bd.z.opd P2
              have x2 := own_at Z.op (j := t) (by rw [pz_len]; exact htP.out)
              have x2a : w2.cell? ⟨gp, t, none⟩ = some (.int .i64 (pp : Int)) := by
                rw [x2.1]
                have := HP.out
                rw [List.getElem?_eq_getElem htP.out] at this
                simp [pz, Option.some.inj this]
              have x2b := x2.2
              clear P2 i1 x2 Z
              go_wp2
              go_meet
              exact ⟨_, _, _, _, _, _, _, SX.out⟩
        · go_wp2
          go_meet
          exact ⟨_, _, _, _, _, _, _, HS.out.mono (Nat.le_succ _)⟩
  case rest =>
    obtain ⟨g', L', f', m', o', V', P', SX⟩ := hcut.out
    go_step
    refine bounds_42 SX hN'.out (by omega) hKl'.out hk'.out hKB'.out _ _ _ _ _ _ _ _ _ _ _ _ _ _ _ _ _ _ _ _ _ _ _ _ _ _ _ _ _ _ _ _ _ _ _ _ _ _ _ _ _ _ _ _ _ _ _ _ _ _ _ _ _ _ _ _ _ _ _ _ _ _ _ _ _ _ _ _ _ _ _ _ _ _ _ _ _ _ _ _ _ _ _ _ _ _ _ _ _ _ _ _ _ _ _ _ _ _ _ _ _ _ _ _ _ _ _ _ _ _ _ _ _ _ _ _ _ _ _ _ _ _ _ _ _ _ _ _ _ _ _ _ _ _ _ _ _ _ _ _ _ _ _ _ _ _ _ _ _ _ _ _ _ _ _ _ _ _ _ _ _ _ _ _ _ _ _ _ _ _ _ _ _ _ _ _ _ _ _ _ _ _ _ _ _ _ _ _ _ _ _ _ _ _ _ _ _ _ _ _ _ _ _ _ _ _ _ _ _ _ _ _ _ _ _ _ _ _ _ _ _ _ _ _ _ _ _ ?_
    intro c4 c20 c21 c22 c23 c24 c25 c150 c151 c152 c153 c154 c155 c156 c157 c158 c159 c160 c161 c162 c163 c164 c165 c166 c167 c168 c169 c170 c171 c172 c173 c174 c175 c176 c177 c178 c179 c180 c181 c182 c183 c184 c185 c186 c187 c188 c189 c190 c191 c192 c193 c194 c195 c196 c197 c198 c199 c200 c201 c202 c203 c204 c205 c206 c207 c208 c209 c210 c211 c212 c213 c214 c215 c216 c217 c218 c219 c220 c221 c222 c223 c224 c225 c226 c227 c228 c229 c230 c231 c232 w' hB
    refine HQ.out _ _ _ _ _ _ _ _ _ _ _ _ _ _ _ _ _ _ _ _ _ _ _ _ _ _ _ _ _ _ _ _ _ _ _ _ _ _ _ _ _ _ _ _ _ _ _ _ _ _ _ _ _ _ _ _ _ _ _ _ _ _ _ _ _ _ _ _ _ _ _ _ _ _ _ _ _ _ _ _ _ _ _ _ _ _ _ _ _ _ _ _ _ _ _ _ _ _ _ _ _ _ _ _ _ _ _ _ _ _ _ _ _ _ _ _ _ _ _ _ _ _ _ _ _ _ _ _ _ _ _ _ _ _ _ _ _ _ _ _ _ _ _ _ _ _ _ _ _ _ _ _ _ _ w' ?_
    obtain ⟨g2, L2, f2, m2, o2, V2, P2, S2, hN2⟩ := hB
    exact ⟨g2, L2, f2, m2, o2, V2, P2, S2.mono (by omega), hN2⟩
end Kc
end Go.Proofs.Ytiehafkbkbeijaa
