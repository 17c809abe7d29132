import Derived.Test.YtiehafkbkbeijaaPkKB6
import Derived.Deep.CutRange
import Derived.Deep.DeepCutAuto
import Derived.Deep.LoopGhost
/- Layer 15, CacheBounds: where the key stands -/
namespace Go.Proofs.Ytiehafkbkbeijaa
open Go.RowKit Go.Maps
namespace Kc
/-- what a round leaves -/
def Br (w0 w : World) (a B c : Nat) (vk vv vp : Value) (M : Nat) : Prop := ∃ g L f m o K V P, Bd w0 w a g B c L f m o vk vv vp K V P ∧ K.length ≤ M ∧ ∀ k ∈ K, k.length ≤ 9223372036854775807
/-- the key's place while it is looked for -/
def Ft (K : List (List UInt8)) (k : List UInt8) (j : Nat) (z : Int) : Prop := (z = -1 ∧ ∀ i, i < j → K[i]? ≠ some k) ∨ ∃ t : Nat, t < j ∧ z = (t : Int) ∧ K[t]? = some k
theorem Ft.hit {K : List (List UInt8)} {k : List UInt8} {j : Nat} (h : K[j]? = some k) : Ft K k (j + 1) (j : Int) := .inr ⟨j, Nat.lt_succ_self _, rfl, h⟩
theorem Ft.miss {K : List (List UInt8)} {k : List UInt8} {j : Nat} {z : Int} (h : Ft K k j z) (hn : K[j]? ≠ some k) : Ft K k (j + 1) z := by
  rcases h with ⟨h1, h2⟩ | ⟨t, h1, h2, h3⟩
  · refine .inl ⟨h1, fun i hi => ?_⟩
    by_cases c : i = j
    · rw [c]; exact hn
    · exact h2 i (by omega)
  · exact .inr ⟨t, by omega, h2, h3⟩
theorem str_neq {a b : List UInt8} (h : a ≠ b) : ((ByteArray.mk a.toArray).toList == (ByteArray.mk b.toArray).toList) = false := by
  rw [ByteArray.toList_eq, ByteArray.toList_eq]
  simpa using h
/-- the lists behind the search -/
def Bt (w0 w : World) (a B c M q : Nat) (fl : Bool) (kd nn : Int) (KB VB : ByteArray) (k : List UInt8) (v9 v10 v11 v14 : Value) : Prop := ∃ (gk gv gp ck cv cp N t : Nat) (g : Option Nat) (L : List En) (f m o : Nat) (K V : List (List UInt8)) (P : List Nat), v9 = .slice (some ⟨gk, 0, none⟩) N ck ∧ v10 = .slice (some ⟨gv, 0, none⟩) N cv ∧ v11 = .slice (some ⟨gp, 0, none⟩) N cp ∧ v14 = .int .i64 (t : Int) ∧ Be w0 w a g B c L f m o (.slice (some ⟨gk, 0, none⟩) N ck) (.slice (some ⟨gv, 0, none⟩) N cv) (.slice (some ⟨gp, 0, none⟩) N cp) K V P q fl kd nn KB VB ∧ K.length = N ∧ N ≤ M ∧ K[t]? = some k ∧ ∀ k ∈ K, k.length ≤ 9223372036854775807
theorem own_some {w : World} {base : Nat} {v : Value} {cs : List Value} (h : Own w base v cs) (hp : 0 < cs.length) : ∃ g cap, v = .slice (some ⟨g, 0, none⟩) cs.length cap := by
  obtain ⟨g, cap, e, _, _⟩ := own_shape h hp
  exact ⟨g, cap, e⟩
theorem Bt.old {w0 w : World} {a B c M q : Nat} {fl : Bool} {kd nn : Int} {KB VB : ByteArray} {k : List UInt8} {g : Option Nat} {L : List En} {f m o : Nat} {vk vv vp : Value} {K V : List (List UInt8)} {P : List Nat} (h : Be w0 w a g B c L f m o vk vv vp K V P q fl kd nn KB VB) {t : Nat} (ht : K[t]? = some k) (hM : K.length ≤ M) (hK : ∀ k ∈ K, k.length ≤ 9223372036854775807) : Bt w0 w a B c M q fl kd nn KB VB k vk vv vp (.int .i64 (t : Int)) := by
  have htK : t < K.length := (List.getElem?_eq_some_iff.1 ht).1
  obtain ⟨gk, ck, hk⟩ := own_some h.bd.ok (by rw [svs_length]; omega)
  obtain ⟨gv, cv, hv⟩ := own_some h.bd.ov (by rw [svs_length, h.bd.bm.lv]; omega)
  obtain ⟨gp, cp, hp⟩ := own_some h.bd.op (by rw [pz_len, h.bd.bm.lp]; omega)
  rw [svs_length] at hk
  rw [svs_length, h.bd.bm.lv] at hv
  rw [pz_len, h.bd.bm.lp] at hp
  subst hk hv hp
  exact ⟨gk, gv, gp, ck, cv, cp, K.length, t, g, L, f, m, o, K, V, P, rfl, rfl, rfl, rfl, h, rfl, hM, ht, hK⟩
def w_lt (w u : World) : Prop := w.heap.size ≤ u.heap.size
theorem info_i : (Try.prog.info? 3).map (fun i => (i.zero, i.size, i.bytes)) = some (some (.int .i64 0), 1, 8) := by kernel_rfl
set_option maxRecDepth 1000000 in
set_option maxHeartbeats 8000000 in
theorem bounds_13 {w0 w1 : World} {a q N B c : Nat} {g : Option Nat} {L : List En} {f m o : Nat} {vk vv vp : Value} {K V : List (List UInt8)} {P : List Nat} {fl : Bool} {kd nn : Int} {KB VB : ByteArray} (S : Be w0 w1 a g B c L f m o vk vv vp K V P q fl kd nn KB VB) (hN : K.length = N) (hN2 : N ≤ 1000) (hc : c + N + 9 ≤ 1000000) (hKl : ∀ k ∈ K, k.length ≤ 9223372036854775807) {k v : List UInt8} (hKB : ByteArray.mk k.toArray = KB) (hVB : ByteArray.mk v.toArray = VB) (hk2 : k.length ≤ 2305843009213693952) (hv2 : v.length ≤ 2305843009213693952)
    (u0 u1 u2 u3 u4 u5 u8 u12 u14 u15 u16 u17 u18 u19 u20 u21 u22 u23 u24 u25 u26 u27 u28 u29 u30 u31 u32 u33 u34 u35 u36 u37 u38 u39 u40 u41 u42 u43 u44 u45 u46 u47 u48 u49 u50 u51 u52 u53 u54 u55 u56 u57 u58 u59 u60 u61 u62 u63 u64 u65 u66 u67 u68 u69 u70 u71 u72 u73 u74 u75 u76 u77 u78 u79 u80 u81 u82 u83 u84 u85 u86 u87 u88 u89 u90 u91 u92 u93 u94 u95 u96 u97 u98 u99 u100 u101 u102 u103 u104 u105 u106 u107 u108 u109 u110 u111 u112 u113 u114 u115 u116 u117 u118 u119 u120 u121 u122 u123 u124 u125 u126 u127 u128 u129 u130 u131 u132 u133 u134 u135 u136 u137 u138 u139 u140 u141 u142 u143 u144 u145 u146 u147 u148 u149 u150 u151 u152 u153 u154 u155 u156 u157 u158 u159 u160 u161 u162 u163 u164 u165 u166 u167 u168 u169 u170 u171 u172 u173 u174 u175 u176 u177 u178 u179 u180 u181 u182 u183 u184 u185 u186 u187 u188 u189 u190 u191 u192 u193 u194 u195 u196 u197 u198 u199 u200 u201 u202 u203 u204 u205 u206 u207 u208 u209 u210 u211 u212 u213 u214 u215 u216 u217 u218 u219 u220 u221 u222 u223 u224 u225 u226 u227 u228 u229 u230 u231 u232 : Value) (Q : Exit → Act → World → Prop)
    (hQ : ∀ (c4 c14 c15 c16 c17 c18 c19 c20 c21 c22 c23 c24 c25 c58 c59 c60 c61 c62 c63 c64 c65 c66 c67 c68 c69 c70 c71 c72 c73 c74 c75 c76 c77 c78 c79 c80 c81 c82 c83 c84 c85 c86 c87 c88 c89 c90 c91 c92 c93 c94 c95 c96 c97 c98 c99 c100 c101 c102 c103 c104 c105 c106 c107 c108 c109 c110 c111 c112 c113 c114 c115 c116 c117 c118 c119 c120 c121 c122 c123 c124 c125 c126 c127 c128 c129 c130 c131 c132 c133 c134 c135 c136 c137 c138 c139 c140 c141 c142 c143 c144 c145 c146 c147 c148 c149 c150 c151 c152 c153 c154 c155 c156 c157 c158 c159 c160 c161 c162 c163 c164 c165 c166 c167 c168 c169 c170 c171 c172 c173 c174 c175 c176 c177 c178 c179 c180 c181 c182 c183 c184 c185 c186 c187 c188 c189 c190 c191 c192 c193 c194 c195 c196 c197 c198 c199 c200 c201 c202 c203 c204 c205 c206 c207 c208 c209 c210 c211 c212 c213 c214 c215 c216 c217 c218 c219 c220 c221 c222 c223 c224 c225 c226 c227 c228 c229 c230 c231 c232 vk' vv' vp' : Value) (w' : World), Br w0 w' a B (c + N + 3) vk' vv' vp' (N + 1) → Q .normal ⟨#[u0, u1, u2, u3, c4, u5, .int .i64 (B : Int), .pointer (some ⟨a, 0, none⟩), u8, vk', vv', vp', u12, .pointer (some ⟨q, 0, none⟩), c14, c15, c16, c17, c18, c19, c20, c21, c22, c23, c24, c25, u26, u27, u28, u29, u30, u31, u32, u33, u34, u35, u36, u37, u38, u39, u40, u41, u42, u43, u44, u45, u46, u47, u48, u49, u50, u51, u52, u53, u54, u55, u56, u57, c58, c59, c60, c61, c62, c63, c64, c65, c66, c67, c68, c69, c70, c71, c72, c73, c74, c75, c76, c77, c78, c79, c80, c81, c82, c83, c84, c85, c86, c87, c88, c89, c90, c91, c92, c93, c94, c95, c96, c97, c98, c99, c100, c101, c102, c103, c104, c105, c106, c107, c108, c109, c110, c111, c112, c113, c114, c115, c116, c117, c118, c119, c120, c121, c122, c123, c124, c125, c126, c127, c128, c129, c130, c131, c132, c133, c134, c135, c136, c137, c138, c139, c140, c141, c142, c143, c144, c145, c146, c147, c148, c149, c150, c151, c152, c153, c154, c155, c156, c157, c158, c159, c160, c161, c162, c163, c164, c165, c166, c167, c168, c169, c170, c171, c172, c173, c174, c175, c176, c177, c178, c179, c180, c181, c182, c183, c184, c185, c186, c187, c188, c189, c190, c191, c192, c193, c194, c195, c196, c197, c198, c199, c200, c201, c202, c203, c204, c205, c206, c207, c208, c209, c210, c211, c212, c213, c214, c215, c216, c217, c218, c219, c220, c221, c222, c223, c224, c225, c226, c227, c228, c229, c230, c231, c232], []⟩ w') :
    Code.wp Try.prog (bndT 13) Q ⟨#[u0, u1, u2, u3, u4, u5, .int .i64 (B : Int), .pointer (some ⟨a, 0, none⟩), u8, vk, vv, vp, u12, .pointer (some ⟨q, 0, none⟩), u14, u15, u16, u17, u18, u19, u20, u21, u22, u23, u24, u25, u26, u27, u28, u29, u30, u31, u32, u33, u34, u35, u36, u37, u38, u39, u40, u41, u42, u43, u44, u45, u46, u47, u48, u49, u50, u51, u52, u53, u54, u55, u56, u57, u58, u59, u60, u61, u62, u63, u64, u65, u66, u67, u68, u69, u70, u71, u72, u73, u74, u75, u76, u77, u78, u79, u80, u81, u82, u83, u84, u85, u86, u87, u88, u89, u90, u91, u92, u93, u94, u95, u96, u97, u98, u99, u100, u101, u102, u103, u104, u105, u106, u107, u108, u109, u110, u111, u112, u113, u114, u115, u116, u117, u118, u119, u120, u121, u122, u123, u124, u125, u126, u127, u128, u129, u130, u131, u132, u133, u134, u135, u136, u137, u138, u139, u140, u141, u142, u143, u144, u145, u146, u147, u148, u149, u150, u151, u152, u153, u154, u155, u156, u157, u158, u159, u160, u161, u162, u163, u164, u165, u166, u167, u168, u169, u170, u171, u172, u173, u174, u175, u176, u177, u178, u179, u180, u181, u182, u183, u184, u185, u186, u187, u188, u189, u190, u191, u192, u193, u194, u195, u196, u197, u198, u199, u200, u201, u202, u203, u204, u205, u206, u207, u208, u209, u210, u211, u212, u213, u214, u215, u216, u217, u218, u219, u220, u221, u222, u223, u224, u225, u226, u227, u228, u229, u230, u231, u232], []⟩ w1 := by
  conv => arg 2; whnf
  have HQ := hid hQ
  have HS := hid S
  have hN' := hid hN
  have hKl' := hid hKl
  have hKB' := hid hKB
  have hVB' := hid hVB
  have hk2' := hid hk2
  have hv2' := hid hv2
  obtain ⟨xk, ck0, hxk⟩ := S.bd.ok.shape
  rw [svs_length, hN] at hxk
  subst hxk
  clear hQ S hN hKl hVB hk2 hv2
  have vv0 : (KB.toList == KB.toList) = true := by simp
  have x3 := HS.out.cs.2.2.2.1
  clear hKB
  go_wp2
  go_loopw [14, 15] (fun z i w' => ∃ (j : Nat) (y : Int), j ≤ N ∧ i = .int .i64 (j : Int) ∧ z = .int .i64 y ∧ Hid (Ft K k j y) ∧ Hid (Be w0 w' a g B c L f m o (.slice xk N ck0) vv vp K V P q fl kd nn KB VB)) (fun _ i _ => N - (intOf i).toNat)
  case atStart => exact ⟨0, -1, Nat.zero_le _, rfl, rfl, .inl ⟨rfl, fun i hi => (by omega)⟩, HS⟩
  case round =>
    obtain ⟨j, y, hj, rfl, rfl, F, E⟩ := hrel
    by_cases hjn : j < N
    · have hjK : j < K.length := by rw [hN'.out]; exact hjn
      obtain ⟨gk, ck1, hgk⟩ := own_some HS.out.bd.ok (by rw [svs_length]; omega)
      injection hgk with hgk _ _
      subst hgk
      obtain ⟨kj, hkj⟩ : ∃ kj, K[j]? = some kj := ⟨_, List.getElem?_eq_getElem hjK⟩
      have x1 : wr.cell? ⟨gk, j, none⟩ = some (.string ⟨kj.toArray⟩) := by
        have := (own_at E.out.bd.ok (j := j) (by rw [svs_length]; exact hjK)).1
        rw [this]
        rw [List.getElem?_eq_getElem hjK] at hkj
        simp [svs, Option.some.inj hkj]
        rfl
      have x3' := E.out.cs.2.2.2.1
      have y1 : (j : Int) < (N : Int) := by omega
      have y3 : (0 : Int) ≤ (j : Int) := by omega
      have hjn' := hid hjn
      by_cases he : kj = k
      · subst he
        rw [hKB'.out] at x1
        have F' := hid (Ft.hit hkj)
        clear hkj hjK
        go_wp2
        go_region
        go_wp2
        exact ⟨⟨j + 1, _, hjn'.out, by go_num, rfl, F', E.out.drew⟩, by have := hjn'.out; simp [RowKit.intOf]; omega⟩
      · have F' : Hid (Ft K k (j + 1) y) := F.out.miss (by rw [hkj]; exact fun e => he (Option.some.inj e))
        have ne : ((ByteArray.mk kj.toArray).toList == KB.toList) = false := by rw [← hKB'.out]; exact str_neq he
        clear hkj hjK he
        generalize (ByteArray.mk kj.toArray) = KJ at *
        go_wp2
        go_region
        go_wp2
        exact ⟨⟨j + 1, y, hjn'.out, by go_num, rfl, F', E.out.drew⟩, by have := hjn'.out; simp [RowKit.intOf]; omega⟩
    · obtain rfl : j = N := by omega
      have y1 : ¬ (j : Int) < (j : Int) := by omega
      have hN9 : K.length = j := hN'.out
      go_upto_if 73 with fail
      go_cut [9, 10, 11, 14] from 74 to 86 (fun v9 v10 v11 v14 w' => Hid (Bt w0 w' a B c (j + 1) q fl kd nn KB VB k v9 v10 v11 v14))
      case first =>
        rcases F.out with ⟨rfl, hno⟩ | ⟨t, ht, rfl, hk⟩
        · have hnk : k ∉ K := fun hm => by
            obtain ⟨i, hi, e⟩ := List.getElem_of_mem hm
            exact hno i (by omega) (by rw [List.getElem?_eq_getElem hi, e])
          have S := E.out
          obtain ⟨va, wa, ha1, ha2, ha3⟩ := append_one 33 9 (.string ⟨#[]⟩) 16 (by decide) Try.underlying33 infoS rfl wr w0.heap.size _ (svs K) (.string KB) rfl S.bd.ok (by rw [svs_length]; omega) S.bd.cs.bl.size
          have ov := own_keep S.bd.ov ha3.keepG (fun x hx hy => (S.bd.dk x hy).2.1 hx)
          obtain ⟨vb, wb, hb1, hb2, hb3⟩ := append_one 33 9 (.string ⟨#[]⟩) 16 (by decide) Try.underlying33 infoS rfl wa w0.heap.size vv (svs V) (.string ⟨#[]⟩) rfl ov (by rw [svs_length, S.bd.bm.lv]; omega) (Nat.le_trans S.bd.cs.bl.size ha3.size)
          have op := own_keep (own_keep S.bd.op ha3.keepG (fun x hx hy => (S.bd.dk x hy).2.2 hx)) hb3.keepG (fun x hx hy => (S.bd.dv x hy).2 hx)
          obtain ⟨vc, wd, hc1, hc2, hc3⟩ := append_one 22 3 (.int .i64 0) 8 (by decide) Try.underlying22 info_i rfl wb w0.heap.size vp (pz P) (.int .i64 0) rfl op (by rw [pz_len, S.bd.bm.lp]; omega) (Nat.le_trans (Nat.le_trans S.bd.cs.bl.size ha3.size) hb3.size)
          have SX : Bd w0 wd a g B c L f m o va vb vc (K ++ [k]) (V ++ [[]]) (P ++ [0]) := S.bd.grew hnk (by rw [show sv k = .string KB by rw [← hKB'.out]; rfl]; exact ha2) ha3 hb2 hb3 hc2 hc3
          have hlq := lt_of_heap S.rq
          have rq := ((hc3.old q (by have := ha3.size; have := hb3.size; omega) S.np).trans ((hb3.old q (by have := ha3.size; omega) S.nv).trans (ha3.old q hlq S.nk))).trans S.rq
          have ne : ∀ {u u' : World} {x x' : Value}, Grow u u' x x' → w_lt wr u → x.ownBlock ≠ some q → x'.ownBlock ≠ some q := fun gg hu hx hy => by
            rcases gg.alt with e | ⟨e, _⟩
            · exact hx (e ▸ hy)
            · have := e q hy
              unfold w_lt at hu
              omega
          have SE : Be w0 wd a g B c L f m o va vb vc (K ++ [k]) (V ++ [[]]) (P ++ [0]) q fl kd nn KB VB := ⟨SX, rq, S.nf, ne ha3 (Nat.le_refl _) S.nk, ne hb3 ha3.size S.nv, ne hc3 (Nat.le_trans ha3.size hb3.size) S.np⟩
          have HT : Hid (Bt w0 wd a B c (j + 1) q fl kd nn KB VB k va vb vc (.int .i64 (j : Int))) := Bt.old SE (t := j) (by rw [List.getElem?_append_right (by omega), hN9, Nat.sub_self]; rfl) (by simp; omega) (fun x hx => by
            rcases List.mem_append.1 hx with h | h
            · exact hKl'.out x h
            · rw [List.mem_singleton.1 h]; exact Nat.le_trans hk2'.out (by decide))
          have q3 := S.cs.2.2.2.1
          clear ha2 ha3 hb2 hb3 hc2 hc3 ov op SX SE S hno hnk rq ne hlq
          go_upto_region 22 with (at_builtin; go_must (refine Lib.wpList_append_run _ rfl _ _ 33 33 rfl _ _ rfl rfl _ _ ha1 ?_))
          go_upto_region 23 with (at_builtin; go_must (refine Lib.wpList_append_run _ rfl _ _ 33 33 rfl _ _ rfl rfl _ _ hb1 ?_))
          go_wp2_with (at_builtin; go_must (refine Lib.wpList_append_run _ rfl _ _ 22 22 rfl _ _ rfl rfl _ _ hc1 ?_))
          go_meet
          exact HT
        · have y2 : ¬ (t : Int) < 0 := by omega
          have HT : Hid (Bt w0 wr a B c (j + 1) q fl kd nn KB VB k (.slice xk j ck0) vv vp (.int .i64 (t : Int))) := Bt.old E.out hk (by omega) hKl'.out
          go_wp2
          go_meet
          exact HT
      case rest =>
        obtain ⟨gk, gv, gp, ck, cv, cp, N, t, g', L', f', m', o', K', V', P', rfl, rfl, rfl, rfl, S', hN2', hNM, hkt, hKl2⟩ := hcut.out
        go_step
        refine bounds_24 S' hN2' (by omega) hKl2 hkt hKB'.out hVB'.out hk2'.out hv2'.out _ _ _ _ _ _ _ _ _ _ _ _ _ _ _ _ _ _ _ _ _ _ _ _ _ _ _ _ _ _ _ _ _ _ _ _ _ _ _ _ _ _ _ _ _ _ _ _ _ _ _ _ _ _ _ _ _ _ _ _ _ _ _ _ _ _ _ _ _ _ _ _ _ _ _ _ _ _ _ _ _ _ _ _ _ _ _ _ _ _ _ _ _ _ _ _ _ _ _ _ _ _ _ _ _ _ _ _ _ _ _ _ _ _ _ _ _ _ _ _ _ _ _ _ _ _ _ _ _ _ _ _ _ _ _ _ _ _ _ _ _ _ _ _ _ _ _ _ _ _ _ _ _ _ _ _ _ _ _ _ _ _ _ _ _ _ _ _ _ _ _ _ _ _ _ _ _ _ _ _ _ _ _ _ _ _ _ _ _ _ _ _ _ _ _ _ _ _ _ _ _ _ _ _ _ _ _ _ _ _ _ _ _ _ _ _ _ _ _ _ _ _ _ _ _ _ _ ?_
        intro c4 c16 c17 c18 c19 c20 c21 c22 c23 c24 c25 c87 c88 c89 c90 c91 c92 c93 c94 c95 c96 c97 c98 c99 c100 c101 c102 c103 c104 c105 c106 c107 c108 c109 c110 c111 c112 c113 c114 c115 c116 c117 c118 c119 c120 c121 c122 c123 c124 c125 c126 c127 c128 c129 c130 c131 c132 c133 c134 c135 c136 c137 c138 c139 c140 c141 c142 c143 c144 c145 c146 c147 c148 c149 c150 c151 c152 c153 c154 c155 c156 c157 c158 c159 c160 c161 c162 c163 c164 c165 c166 c167 c168 c169 c170 c171 c172 c173 c174 c175 c176 c177 c178 c179 c180 c181 c182 c183 c184 c185 c186 c187 c188 c189 c190 c191 c192 c193 c194 c195 c196 c197 c198 c199 c200 c201 c202 c203 c204 c205 c206 c207 c208 c209 c210 c211 c212 c213 c214 c215 c216 c217 c218 c219 c220 c221 c222 c223 c224 c225 c226 c227 c228 c229 c230 c231 c232 w' hB
        refine HQ.out _ _ _ _ _ _ _ _ _ _ _ _ _ _ _ _ _ _ _ _ _ _ _ _ _ _ _ _ _ _ _ _ _ _ _ _ _ _ _ _ _ _ _ _ _ _ _ _ _ _ _ _ _ _ _ _ _ _ _ _ _ _ _ _ _ _ _ _ _ _ _ _ _ _ _ _ _ _ _ _ _ _ _ _ _ _ _ _ _ _ _ _ _ _ _ _ _ _ _ _ _ _ _ _ _ _ _ _ _ _ _ _ _ _ _ _ _ _ _ _ _ _ _ _ _ _ _ _ _ _ _ _ _ _ _ _ _ _ _ _ _ _ _ _ _ _ _ _ _ _ _ _ _ _ _ _ _ _ _ _ _ _ _ _ _ _ _ _ _ _ _ _ _ _ _ _ _ _ _ _ _ _ _ _ _ _ _ _ _ _ _ w' ?_
        obtain ⟨g2, L2, f2, m2, o2, V2, P2, S2, hN2⟩ := hB
        exact ⟨g2, L2, f2, m2, o2, K', V2, P2, S2.mono (by omega), by omega, hKl2⟩
end Kc
end Go.Proofs.Ytiehafkbkbeijaa
