import Derived.Test.YtiehafkbkbeijaaPkKB2
import Derived.Deep.CutRange
import Derived.Deep.DeepCutAuto
import Derived.Deep.LoopGhost
/- Layer 15, CacheBounds: from the tally on -/
namespace Go.Proofs.Ytiehafkbkbeijaa
open Go.RowKit Go.Maps
namespace Kc
/-- with the step in memory -/
structure Be (w0 w : World) (a : Nat) (g : Option Nat) (B c : Nat) (L : List En) (f m o : Nat) (vk vv vp : Value) (K V : List (List UInt8)) (P : List Nat) (q : Nat) (fl : Bool) (kd nn : Int) (KB VB : ByteArray) : Prop where
  bd : Bd w0 w a g B c L f m o vk vv vp K V P
  rq : w.heap[q]? = some (.cells #[.bool fl, .int .i64 kd, .int .i64 nn, .string KB, .string VB] 41 (0, 0))
  nf : ¬ Fg a g L q
  nk : vk.ownBlock ≠ some q
  nv : vv.ownBlock ≠ some q
  np : vp.ownBlock ≠ some q
theorem Be.below {w0 w : World} {a : Nat} {g : Option Nat} {B c : Nat} {L : List En} {f m o : Nat} {vk vv vp : Value} {K V : List (List UInt8)} {P : List Nat} {q : Nat} {fl : Bool} {kd nn : Int} {KB VB : ByteArray} {w' : World} (h : Be w0 w a g B c L f m o vk vv vp K V P q fl kd nn KB VB) (hb : Below w.heap.size w w') : Be w0 w' a g B c L f m o vk vv vp K V P q fl kd nn KB VB :=
  ⟨h.bd.below hb, (hb.block q (lt_of_heap h.rq)).trans h.rq, h.nf, h.nk, h.nv, h.np⟩
theorem Be.drew {w0 w : World} {a : Nat} {g : Option Nat} {B c : Nat} {L : List En} {f m o : Nat} {vk vv vp : Value} {K V : List (List UInt8)} {P : List Nat} {q : Nat} {fl : Bool} {kd nn : Int} {KB VB : ByteArray} (h : Be w0 w a g B c L f m o vk vv vp K V P q fl kd nn KB VB) : Be w0 w.drew a g B c L f m o vk vv vp K V P q fl kd nn KB VB := ⟨h.bd.drew, h.rq, h.nf, h.nk, h.nv, h.np⟩
theorem Be.opd {w0 w : World} {a : Nat} {g : Option Nat} {B c : Nat} {L : List En} {f m o : Nat} {vk vv vp : Value} {K V : List (List UInt8)} {P : List Nat} {q : Nat} {fl : Bool} {kd nn : Int} {KB VB : ByteArray} {w' : World} {g' : Option Nat} {L' : List En} {f' m' o' : Nat} (h : Be w0 w a g B c L f m o vk vv vp K V P q fl kd nn KB VB) (k : Op w a g B c L w' g' L' f' m' o') (hb : Bm L' K V P) : Be w0 w' a g' B (c + 1) L' f' m' o' vk vv vp K V P q fl kd nn KB VB := by
  refine ⟨h.bd.opd k hb, (k.kp.block q (lt_of_heap h.rq) h.nf).trans h.rq, fun hf => ?_, h.nk, h.nv, h.np⟩
  rcases k.fg q hf with h1 | h1
  · exact h.nf h1
  · have := lt_of_heap h.rq
    omega
theorem Be.cs {w0 w : World} {a : Nat} {g : Option Nat} {B c : Nat} {L : List En} {f m o : Nat} {vk vv vp : Value} {K V : List (List UInt8)} {P : List Nat} {q : Nat} {fl : Bool} {kd nn : Int} {KB VB : ByteArray} (h : Be w0 w a g B c L f m o vk vv vp K V P q fl kd nn KB VB) : w.cell? ⟨q, 0, none⟩ = some (.bool fl) ∧ w.cell? ⟨q, 1, none⟩ = some (.int .i64 kd) ∧ w.cell? ⟨q, 2, none⟩ = some (.int .i64 nn) ∧ w.cell? ⟨q, 3, none⟩ = some (.string KB) ∧ w.cell? ⟨q, 4, none⟩ = some (.string VB) := by
  have h := h.rq
  refine ⟨?_, ?_, ?_, ?_, ?_⟩ <;> (rw [cell_of_row _ _ _ _ _ _ h]; rfl)
/-- what is left behind a round -/
def Bj' (w0 w : World) (a B c : Nat) (vk vv vp : Value) (K : List (List UInt8)) (N : Nat) : Prop := ∃ g L f m o V P, Bd w0 w a g B c L f m o vk vv vp K V P ∧ K.length = N
set_option maxRecDepth 1000000 in
set_option maxHeartbeats 8000000 in
theorem bounds_45 {w0 wr : World} {a q gk gv gp ck cv cp N B c t : Nat} {g : Option Nat} {L : List En} {f m o : Nat} {K V : List (List UInt8)} {P : List Nat} {fl : Bool} {kd nn : Int} {KB VB : ByteArray} (S : Be w0 wr a g B (c) (L) (f) (m) (o) (.slice (some ⟨gk, 0, none⟩) N ck) (.slice (some ⟨gv, 0, none⟩) N cv) (.slice (some ⟨gp, 0, none⟩) N cp) K V P q fl kd nn KB VB) (hN : K.length = N) (hc : c + N + 5 ≤ 1000000) (hKl : ∀ k ∈ K, k.length ≤ 9223372036854775807) {k : List UInt8} (hk : K[t]? = some k) (hKB : ByteArray.mk k.toArray = KB)
    (u0 u1 u2 u3 u4 u5 u8 u12 u15 u16 u17 u18 u19 u20 u21 u22 u23 u24 u25 u26 u27 u28 u29 u30 u31 u32 u33 u34 u35 u36 u37 u38 u39 u40 u41 u42 u43 u44 u45 u46 u47 u48 u49 u50 u51 u52 u53 u54 u55 u56 u57 u58 u59 u60 u61 u62 u63 u64 u65 u66 u67 u68 u69 u70 u71 u72 u73 u74 u75 u76 u77 u78 u79 u80 u81 u82 u83 u84 u85 u86 u87 u88 u89 u90 u91 u92 u93 u94 u95 u96 u97 u98 u99 u100 u101 u102 u103 u104 u105 u106 u107 u108 u109 u110 u111 u112 u113 u114 u115 u116 u117 u118 u119 u120 u121 u122 u123 u124 u125 u126 u127 u128 u129 u130 u131 u132 u133 u134 u135 u136 u137 u138 u139 u140 u141 u142 u143 u144 u145 u146 u147 u148 u149 u150 u151 u152 u153 u154 u155 u156 u157 u158 u159 u160 u161 u162 u163 u164 u165 u166 u167 u168 u169 u170 u171 u172 u173 u174 u175 u176 u177 u178 u179 u180 u181 u182 u183 u184 u185 u186 u187 u188 u189 u190 u191 u192 u193 u194 u195 u196 u197 u198 u199 u200 u201 u202 u203 u204 u205 u206 u207 u208 u209 u210 u211 u212 u213 u214 u215 u216 u217 u218 u219 u220 u221 u222 u223 u224 u225 u226 u227 u228 u229 u230 u231 u232 : Value) (Q : Exit → Act → World → Prop)
    (hQ : ∀ (c4 c21 c22 c23 c24 c25 c163 c164 c165 c166 c167 c168 c169 c170 c171 c172 c173 c174 c175 c176 c177 c178 c179 c180 c181 c182 c183 c184 c185 c186 c187 c188 c189 c190 c191 c192 c193 c194 c195 c196 c197 c198 c199 c200 c201 c202 c203 c204 c205 c206 c207 c208 c209 c210 c211 c212 c213 c214 c215 c216 c217 c218 c219 c220 c221 c222 c223 c224 c225 c226 c227 c228 c229 c230 c231 c232 : Value) (w' : World), Bj' w0 w' a B (c + N + 1) (.slice (some ⟨gk, 0, none⟩) N ck) (.slice (some ⟨gv, 0, none⟩) N cv) (.slice (some ⟨gp, 0, none⟩) N cp) K N → Q .normal ⟨#[u0, u1, u2, u3, c4, u5, .int .i64 (B : Int), .pointer (some ⟨a, 0, none⟩), u8, .slice (some ⟨gk, 0, none⟩) N ck, .slice (some ⟨gv, 0, none⟩) N cv, .slice (some ⟨gp, 0, none⟩) N cp, u12, .pointer (some ⟨q, 0, none⟩), .int .i64 (t : Int), u15, u16, u17, u18, u19, u20, c21, c22, c23, c24, c25, u26, u27, u28, u29, u30, u31, u32, u33, u34, u35, u36, u37, u38, u39, u40, u41, u42, u43, u44, u45, u46, u47, u48, u49, u50, u51, u52, u53, u54, u55, u56, u57, u58, u59, u60, u61, u62, u63, u64, u65, u66, u67, u68, u69, u70, u71, u72, u73, u74, u75, u76, u77, u78, u79, u80, u81, u82, u83, u84, u85, u86, u87, u88, u89, u90, u91, u92, u93, u94, u95, u96, u97, u98, u99, u100, u101, u102, u103, u104, u105, u106, u107, u108, u109, u110, u111, u112, u113, u114, u115, u116, u117, u118, u119, u120, u121, u122, u123, u124, u125, u126, u127, u128, u129, u130, u131, u132, u133, u134, u135, u136, u137, u138, u139, u140, u141, u142, u143, u144, u145, u146, u147, u148, u149, u150, u151, u152, u153, u154, u155, u156, u157, u158, u159, u160, u161, u162, c163, c164, c165, c166, c167, c168, c169, c170, c171, c172, c173, c174, c175, c176, c177, c178, c179, c180, c181, c182, c183, c184, c185, c186, c187, c188, c189, c190, c191, c192, c193, c194, c195, c196, c197, c198, c199, c200, c201, c202, c203, c204, c205, c206, c207, c208, c209, c210, c211, c212, c213, c214, c215, c216, c217, c218, c219, c220, c221, c222, c223, c224, c225, c226, c227, c228, c229, c230, c231, c232], []⟩ w') :
    Code.wp Try.prog (bndT 45) Q ⟨#[u0, u1, u2, u3, u4, u5, .int .i64 (B : Int), .pointer (some ⟨a, 0, none⟩), u8, .slice (some ⟨gk, 0, none⟩) N ck, .slice (some ⟨gv, 0, none⟩) N cv, .slice (some ⟨gp, 0, none⟩) N cp, u12, .pointer (some ⟨q, 0, none⟩), .int .i64 (t : Int), u15, u16, u17, u18, u19, u20, u21, u22, u23, u24, u25, u26, u27, u28, u29, u30, u31, u32, u33, u34, u35, u36, u37, u38, u39, u40, u41, u42, u43, u44, u45, u46, u47, u48, u49, u50, u51, u52, u53, u54, u55, u56, u57, u58, u59, u60, u61, u62, u63, u64, u65, u66, u67, u68, u69, u70, u71, u72, u73, u74, u75, u76, u77, u78, u79, u80, u81, u82, u83, u84, u85, u86, u87, u88, u89, u90, u91, u92, u93, u94, u95, u96, u97, u98, u99, u100, u101, u102, u103, u104, u105, u106, u107, u108, u109, u110, u111, u112, u113, u114, u115, u116, u117, u118, u119, u120, u121, u122, u123, u124, u125, u126, u127, u128, u129, u130, u131, u132, u133, u134, u135, u136, u137, u138, u139, u140, u141, u142, u143, u144, u145, u146, u147, u148, u149, u150, u151, u152, u153, u154, u155, u156, u157, u158, u159, u160, u161, u162, u163, u164, u165, u166, u167, u168, u169, u170, u171, u172, u173, u174, u175, u176, u177, u178, u179, u180, u181, u182, u183, u184, u185, u186, u187, u188, u189, u190, u191, u192, u193, u194, u195, u196, u197, u198, u199, u200, u201, u202, u203, u204, u205, u206, u207, u208, u209, u210, u211, u212, u213, u214, u215, u216, u217, u218, u219, u220, u221, u222, u223, u224, u225, u226, u227, u228, u229, u230, u231, u232], []⟩ wr := by
  conv => arg 2; whnf
  have HQ := hid hQ
  clear hQ
  have htK : t < K.length := (List.getElem?_eq_some_iff.1 hk).1
  have htV : t < V.length := by rw [S.bd.bm.lv]; exact htK
  have htP : t < P.length := by rw [S.bd.bm.lp]; exact htK
  have y1 : (t : Int) < (N : Int) := by omega
  have y3 : (0 : Int) ≤ (t : Int) := by omega
  have hkl := hKl k (List.mem_of_getElem? hk)
  have x3 := S.cs.2.2.2.1
  have HS := hid S
  cases hf : fnd k L with
  | some e =>
    have ev := S.bd.bm.so t k hk e hf
    have i1 := get_some' S.bd.cs.ch (by omega) k hkl hf
    obtain ⟨V1, hV1⟩ : ∃ V1, ByteArray.mk e.v.toArray = V1 := ⟨_, rfl⟩
    rw [hV1, hKB] at i1
    have HB : Hid (Bm (e :: wo k L) K V P) := S.bd.bm.same (fun k' => fnd_use S.bd.cs.ch.uq hf k') (by
      obtain ⟨X, Y, hL, _, hw, _, _⟩ := fnd_split hf
      rw [hw]
      exact (hL ▸ S.bd.cs.ch.uq : Uq (X ++ e :: Y)).front)
    have HE := hid ev
    have HV1 := hid hV1
    have vv : (V1.toList == V1.toList) = true := by simp
    have hN' := hid hN
    have hKl' := hid hKl
    clear hf ev hV1 hk hkl S hKB hN hKl
    go_upto_region 46 with (go_at_call 9; (with_reducible refine i1.mono ?_); rintro r w2 ⟨rfl, P2⟩)
    have SX := hid (HS.out.opd P2 HB.out)
    have x2r := (own_at SX.out.bd.ov (j := t) (by rw [svs_length]; exact htV)).1
    have x2 : w2.cell? ⟨gv, t, none⟩ = some (.string V1) := by
      rw [x2r]
      have := HE.out.1
      rw [List.getElem?_eq_getElem htV] at this
      simp [svs, Option.some.inj this]
      rw [← HV1.out]; rfl
    clear P2 i1 x3 x2r
    go_upto_if 197 with fail
    go_cut [] from 163 to 197 (fun w' => w' = w2)
    case first =>
      go_wp2
      go_meet
      exact rfl
    case rest =>
      subst hcut
      have hN := hN'.out
      have hKl := hKl'.out
      go_step
      refine bounds_48 SX.out.bd hN (by omega) hKl _ _ _ _ _ _ _ _ _ _ _ _ _ _ _ _ _ _ _ _ _ _ _ _ _ _ _ _ _ _ _ _ _ _ _ _ _ _ _ _ _ _ _ _ _ _ _ _ _ _ _ _ _ _ _ _ _ _ _ _ _ _ _ _ _ _ _ _ _ _ _ _ _ _ _ _ _ _ _ _ _ _ _ _ _ _ _ _ _ _ _ _ _ _ _ _ _ _ _ _ _ _ _ _ _ _ _ _ _ _ _ _ _ _ _ _ _ _ _ _ _ _ _ _ _ _ _ _ _ _ _ _ _ _ _ _ _ _ _ _ _ _ _ _ _ _ _ _ _ _ _ _ _ _ _ _ _ _ _ _ _ _ _ _ _ _ _ _ _ _ _ _ _ _ _ _ _ _ _ _ _ _ _ _ _ _ _ _ _ _ _ _ _ _ _ _ _ _ _ _ _ _ _ _ _ _ _ _ _ _ _ _ _ _ _ _ _ _ _ _ _ _ _ _ _ _ _ ?_
      intro c4 c23 c24 c25 c198 c199 c200 c201 c202 c203 c204 c205 c206 c207 c208 c209 c210 c211 c212 c213 c214 c215 c216 c217 c218 c219 c220 c221 c222 c223 c224 c225 c226 c227 c228 c229 c230 c231 c232 w' L' f' m' hB
      refine HQ.out _ _ _ _ _ _ _ _ _ _ _ _ _ _ _ _ _ _ _ _ _ _ _ _ _ _ _ _ _ _ _ _ _ _ _ _ _ _ _ _ _ _ _ _ _ _ _ _ _ _ _ _ _ _ _ _ _ _ _ _ _ _ _ _ _ _ _ _ _ _ _ _ _ _ _ _ w' ⟨_, _, _, _, _, _, _, hB.mono (by omega), hN⟩
  | none =>
    have ep := S.bd.bm.no t k hk hf
    have i1 := get_none' S.bd.cs.ch (by omega) k hkl hf
    rw [hKB] at i1
    have HE := hid ep
    have hN' := hid hN
    have hKl' := hid hKl
    clear hf ep hk hkl S hKB hN hKl
    go_upto_region 46 with (go_at_call 9; (with_reducible refine i1.mono ?_); rintro r w2 ⟨rfl, P2⟩)
    have SX := hid (HS.out.opd P2 HS.out.bd.bm)
    have x2r := (own_at SX.out.bd.op (j := t) (by rw [pz_len]; exact htP)).1
    have x2 : w2.cell? ⟨gp, t, none⟩ = some (.int .i64 0) := by
      rw [x2r]
      have := HE.out
      rw [List.getElem?_eq_getElem htP] at this
      simp [pz, Option.some.inj this]
    clear P2 i1 x3 x2r
    go_upto_if 197 with fail
    go_cut [] from 163 to 197 (fun w' => w' = w2)
    case first =>
      go_wp2
      go_meet
      exact rfl
    case rest =>
      subst hcut
      have hN := hN'.out
      have hKl := hKl'.out
      go_step
      refine bounds_48 SX.out.bd hN (by omega) hKl _ _ _ _ _ _ _ _ _ _ _ _ _ _ _ _ _ _ _ _ _ _ _ _ _ _ _ _ _ _ _ _ _ _ _ _ _ _ _ _ _ _ _ _ _ _ _ _ _ _ _ _ _ _ _ _ _ _ _ _ _ _ _ _ _ _ _ _ _ _ _ _ _ _ _ _ _ _ _ _ _ _ _ _ _ _ _ _ _ _ _ _ _ _ _ _ _ _ _ _ _ _ _ _ _ _ _ _ _ _ _ _ _ _ _ _ _ _ _ _ _ _ _ _ _ _ _ _ _ _ _ _ _ _ _ _ _ _ _ _ _ _ _ _ _ _ _ _ _ _ _ _ _ _ _ _ _ _ _ _ _ _ _ _ _ _ _ _ _ _ _ _ _ _ _ _ _ _ _ _ _ _ _ _ _ _ _ _ _ _ _ _ _ _ _ _ _ _ _ _ _ _ _ _ _ _ _ _ _ _ _ _ _ _ _ _ _ _ _ _ _ _ _ _ _ _ _ ?_
      intro c4 c23 c24 c25 c198 c199 c200 c201 c202 c203 c204 c205 c206 c207 c208 c209 c210 c211 c212 c213 c214 c215 c216 c217 c218 c219 c220 c221 c222 c223 c224 c225 c226 c227 c228 c229 c230 c231 c232 w' L' f' m' hB
      refine HQ.out _ _ _ _ _ _ _ _ _ _ _ _ _ _ _ _ _ _ _ _ _ _ _ _ _ _ _ _ _ _ _ _ _ _ _ _ _ _ _ _ _ _ _ _ _ _ _ _ _ _ _ _ _ _ _ _ _ _ _ _ _ _ _ _ _ _ _ _ _ _ _ _ _ _ _ _ w' ⟨_, _, _, _, _, _, _, hB.mono (by omega), hN⟩
set_option maxRecDepth 1000000 in
set_option maxHeartbeats 8000000 in
theorem bounds_42 {w0 wr : World} {a q gk gv gp ck cv cp N B c t : Nat} {g : Option Nat} {L : List En} {f m o : Nat} {K V : List (List UInt8)} {P : List Nat} {fl : Bool} {kd nn : Int} {KB VB : ByteArray} (S : Be w0 wr a g B (c) (L) (f) (m) (o) (.slice (some ⟨gk, 0, none⟩) N ck) (.slice (some ⟨gv, 0, none⟩) N cv) (.slice (some ⟨gp, 0, none⟩) N cp) K V P q fl kd nn KB VB) (hN : K.length = N) (hc : c + N + 5 ≤ 1000000) (hKl : ∀ k ∈ K, k.length ≤ 9223372036854775807) {k : List UInt8} (hk : K[t]? = some k) (hKB : ByteArray.mk k.toArray = KB)
    (u0 u1 u2 u3 u4 u5 u8 u12 u15 u16 u17 u18 u19 u20 u21 u22 u23 u24 u25 u26 u27 u28 u29 u30 u31 u32 u33 u34 u35 u36 u37 u38 u39 u40 u41 u42 u43 u44 u45 u46 u47 u48 u49 u50 u51 u52 u53 u54 u55 u56 u57 u58 u59 u60 u61 u62 u63 u64 u65 u66 u67 u68 u69 u70 u71 u72 u73 u74 u75 u76 u77 u78 u79 u80 u81 u82 u83 u84 u85 u86 u87 u88 u89 u90 u91 u92 u93 u94 u95 u96 u97 u98 u99 u100 u101 u102 u103 u104 u105 u106 u107 u108 u109 u110 u111 u112 u113 u114 u115 u116 u117 u118 u119 u120 u121 u122 u123 u124 u125 u126 u127 u128 u129 u130 u131 u132 u133 u134 u135 u136 u137 u138 u139 u140 u141 u142 u143 u144 u145 u146 u147 u148 u149 u150 u151 u152 u153 u154 u155 u156 u157 u158 u159 u160 u161 u162 u163 u164 u165 u166 u167 u168 u169 u170 u171 u172 u173 u174 u175 u176 u177 u178 u179 u180 u181 u182 u183 u184 u185 u186 u187 u188 u189 u190 u191 u192 u193 u194 u195 u196 u197 u198 u199 u200 u201 u202 u203 u204 u205 u206 u207 u208 u209 u210 u211 u212 u213 u214 u215 u216 u217 u218 u219 u220 u221 u222 u223 u224 u225 u226 u227 u228 u229 u230 u231 u232 : Value) (Q : Exit → Act → World → Prop)
    (hQ : ∀ (c4 c20 c21 c22 c23 c24 c25 c150 c151 c152 c153 c154 c155 c156 c157 c158 c159 c160 c161 c162 c163 c164 c165 c166 c167 c168 c169 c170 c171 c172 c173 c174 c175 c176 c177 c178 c179 c180 c181 c182 c183 c184 c185 c186 c187 c188 c189 c190 c191 c192 c193 c194 c195 c196 c197 c198 c199 c200 c201 c202 c203 c204 c205 c206 c207 c208 c209 c210 c211 c212 c213 c214 c215 c216 c217 c218 c219 c220 c221 c222 c223 c224 c225 c226 c227 c228 c229 c230 c231 c232 : Value) (w' : World), Bj' w0 w' a B (c + N + 1) (.slice (some ⟨gk, 0, none⟩) N ck) (.slice (some ⟨gv, 0, none⟩) N cv) (.slice (some ⟨gp, 0, none⟩) N cp) K N → Q .normal ⟨#[u0, u1, u2, u3, c4, u5, .int .i64 (B : Int), .pointer (some ⟨a, 0, none⟩), u8, .slice (some ⟨gk, 0, none⟩) N ck, .slice (some ⟨gv, 0, none⟩) N cv, .slice (some ⟨gp, 0, none⟩) N cp, u12, .pointer (some ⟨q, 0, none⟩), .int .i64 (t : Int), u15, u16, u17, u18, u19, c20, c21, c22, c23, c24, c25, u26, u27, u28, u29, u30, u31, u32, u33, u34, u35, u36, u37, u38, u39, u40, u41, u42, u43, u44, u45, u46, u47, u48, u49, u50, u51, u52, u53, u54, u55, u56, u57, u58, u59, u60, u61, u62, u63, u64, u65, u66, u67, u68, u69, u70, u71, u72, u73, u74, u75, u76, u77, u78, u79, u80, u81, u82, u83, u84, u85, u86, u87, u88, u89, u90, u91, u92, u93, u94, u95, u96, u97, u98, u99, u100, u101, u102, u103, u104, u105, u106, u107, u108, u109, u110, u111, u112, u113, u114, u115, u116, u117, u118, u119, u120, u121, u122, u123, u124, u125, u126, u127, u128, u129, u130, u131, u132, u133, u134, u135, u136, u137, u138, u139, u140, u141, u142, u143, u144, u145, u146, u147, u148, u149, c150, c151, c152, c153, c154, c155, c156, c157, c158, c159, c160, c161, c162, c163, c164, c165, c166, c167, c168, c169, c170, c171, c172, c173, c174, c175, c176, c177, c178, c179, c180, c181, c182, c183, c184, c185, c186, c187, c188, c189, c190, c191, c192, c193, c194, c195, c196, c197, c198, c199, c200, c201, c202, c203, c204, c205, c206, c207, c208, c209, c210, c211, c212, c213, c214, c215, c216, c217, c218, c219, c220, c221, c222, c223, c224, c225, c226, c227, c228, c229, c230, c231, c232], []⟩ w') :
    Code.wp Try.prog (bndT 42) Q ⟨#[u0, u1, u2, u3, u4, u5, .int .i64 (B : Int), .pointer (some ⟨a, 0, none⟩), u8, .slice (some ⟨gk, 0, none⟩) N ck, .slice (some ⟨gv, 0, none⟩) N cv, .slice (some ⟨gp, 0, none⟩) N cp, u12, .pointer (some ⟨q, 0, none⟩), .int .i64 (t : Int), u15, u16, u17, u18, u19, u20, u21, u22, u23, u24, u25, u26, u27, u28, u29, u30, u31, u32, u33, u34, u35, u36, u37, u38, u39, u40, u41, u42, u43, u44, u45, u46, u47, u48, u49, u50, u51, u52, u53, u54, u55, u56, u57, u58, u59, u60, u61, u62, u63, u64, u65, u66, u67, u68, u69, u70, u71, u72, u73, u74, u75, u76, u77, u78, u79, u80, u81, u82, u83, u84, u85, u86, u87, u88, u89, u90, u91, u92, u93, u94, u95, u96, u97, u98, u99, u100, u101, u102, u103, u104, u105, u106, u107, u108, u109, u110, u111, u112, u113, u114, u115, u116, u117, u118, u119, u120, u121, u122, u123, u124, u125, u126, u127, u128, u129, u130, u131, u132, u133, u134, u135, u136, u137, u138, u139, u140, u141, u142, u143, u144, u145, u146, u147, u148, u149, u150, u151, u152, u153, u154, u155, u156, u157, u158, u159, u160, u161, u162, u163, u164, u165, u166, u167, u168, u169, u170, u171, u172, u173, u174, u175, u176, u177, u178, u179, u180, u181, u182, u183, u184, u185, u186, u187, u188, u189, u190, u191, u192, u193, u194, u195, u196, u197, u198, u199, u200, u201, u202, u203, u204, u205, u206, u207, u208, u209, u210, u211, u212, u213, u214, u215, u216, u217, u218, u219, u220, u221, u222, u223, u224, u225, u226, u227, u228, u229, u230, u231, u232], []⟩ wr := by
  conv => arg 2; whnf
  have HQ := hid hQ
  have HS := hid S
  have hN' := hid hN
  have hKl' := hid hKl
  have hk' := hid hk
  have hKB' := hid hKB
  have i1 := tally_any S.bd.cs.ch
  unfold tal at i1
  have t1 := S.bd.cs.ch.tt
  have t2 := pnd_le L
  obtain ⟨n5, hn5⟩ : ∃ n, tot L = n := ⟨_, rfl⟩
  obtain ⟨n6, hn6⟩ : ∃ n, pnd L = n := ⟨_, rfl⟩
  rw [hn5, hn6] at i1
  have z1 : ¬ (B : Int) < (n5 : Int) := by omega
  have z2 : ¬ (n5 : Int) < (n6 : Int) := by omega
  have z3 : decide ((n5 : Int) < (n6 : Int)) = false := decide_eq_false z2
  clear hQ S hN hKl hk hKB t1 t2 hn5 hn6
  go_upto_region 43 with (go_at_call 12; (with_reducible refine i1.mono ?_); rintro r w2 ⟨rfl, b2⟩)
  have SX := hid (HS.out.below (b2.alloc (o := .cells #[.int .i64 (L.length : Int), .int .i64 (n5 : Int), .int .i64 (n6 : Int), .int .i64 (f : Int), .int .i64 (m : Int), .int .i64 (o : Int)] 36) b2.size))
  clear i1 b2
  go_upto_if 162 with fail
  go_cut [] from 150 to 162 (fun w' => Hid (Be w0 w' a g B (c) (L) (f) (m) (o) (.slice (some ⟨gk, 0, none⟩) N ck) (.slice (some ⟨gv, 0, none⟩) N cv) (.slice (some ⟨gp, 0, none⟩) N cp) K V P q fl kd nn KB VB))
  case first =>
    go_wp2
    go_meet
    exact SX
  case rest =>
    go_step
    refine bounds_45 hcut.out hN'.out (by omega) hKl'.out hk'.out hKB'.out _ _ _ _ _ _ _ _ _ _ _ _ _ _ _ _ _ _ _ _ _ _ _ _ _ _ _ _ _ _ _ _ _ _ _ _ _ _ _ _ _ _ _ _ _ _ _ _ _ _ _ _ _ _ _ _ _ _ _ _ _ _ _ _ _ _ _ _ _ _ _ _ _ _ _ _ _ _ _ _ _ _ _ _ _ _ _ _ _ _ _ _ _ _ _ _ _ _ _ _ _ _ _ _ _ _ _ _ _ _ _ _ _ _ _ _ _ _ _ _ _ _ _ _ _ _ _ _ _ _ _ _ _ _ _ _ _ _ _ _ _ _ _ _ _ _ _ _ _ _ _ _ _ _ _ _ _ _ _ _ _ _ _ _ _ _ _ _ _ _ _ _ _ _ _ _ _ _ _ _ _ _ _ _ _ _ _ _ _ _ _ _ _ _ _ _ _ _ _ _ _ _ _ _ _ _ _ _ _ _ _ _ _ _ _ _ _ _ _ _ _ _ _ _ _ _ _ ?_
    intro c4 c21 c22 c23 c24 c25 c163 c164 c165 c166 c167 c168 c169 c170 c171 c172 c173 c174 c175 c176 c177 c178 c179 c180 c181 c182 c183 c184 c185 c186 c187 c188 c189 c190 c191 c192 c193 c194 c195 c196 c197 c198 c199 c200 c201 c202 c203 c204 c205 c206 c207 c208 c209 c210 c211 c212 c213 c214 c215 c216 c217 c218 c219 c220 c221 c222 c223 c224 c225 c226 c227 c228 c229 c230 c231 c232 w' hB
    exact HQ.out _ _ _ _ _ _ _ _ _ _ _ _ _ _ _ _ _ _ _ _ _ _ _ _ _ _ _ _ _ _ _ _ _ _ _ _ _ _ _ _ _ _ _ _ _ _ _ _ _ _ _ _ _ _ _ _ _ _ _ _ _ _ _ _ _ _ _ _ _ _ _ _ _ _ _ _ _ _ _ _ _ _ _ _ _ _ _ _ _ _ w' hB
end Kc
end Go.Proofs.Ytiehafkbkbeijaa
