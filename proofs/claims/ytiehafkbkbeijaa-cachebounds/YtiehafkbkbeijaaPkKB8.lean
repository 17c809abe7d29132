import Derived.Test.YtiehafkbkbeijaaPkKB7
import Derived.Test.YtiehafkbkbeijaaPkKB0
import Derived.Test.YtiehafkbkbeijaaPkKL1
import Derived.Deep.CutRange
import Derived.Deep.DeepCutAuto
import Derived.Deep.LoopGhost
/- Layer 15, the law: CacheBounds -/
namespace Go.Proofs.Ytiehafkbkbeijaa
open Go.RowKit Go.Maps
namespace Kc
theorem mk_data15 (s : ByteArray) : (⟨s.data.toList.toArray⟩ : ByteArray) = s := by cases s; simp
set_option maxRecDepth 1000000 in
set_option maxHeartbeats 8000000 in
theorem bounds15_law (bud : Int) (v : Value) (N : Nat) (w : World) (o1 : -9223372036854775808 ≤ bud) (o2 : bud ≤ 9223372036854775807) (hv : SlcO w v N) (_hl : N ≤ 9223372036854775807) :
    Calls Try.prog 4 #[.int .i64 bud, v] w fun r w' => r = .returned (.bool true) ∧ Below w.heap.size w w' := by
  obtain ⟨xa, cap, rfl, hx⟩ := hv
  have i0 := known15_any w
  have ip1 := fun w' => pick15_any bud 100 o1 o2 (by omega) (by omega) w'
  obtain ⟨B, hB⟩ : ∃ p : Nat, pk bud 100 = (p : Int) := ⟨(pk bud 100).toNat, by have := pk_nonneg bud 100 (by omega); omega⟩
  have q1 : B < 100 := by have := pk_lt bud 100 (by omega); omega
  rw [hB] at ip1
  have iB := fun w' => new_ok B (by omega) w'
  have HX := hid hx
  clear hx hB q1
  go_enter Try.func4, Try.ntmps4
  go_upto_region 3 with (first
    | (go_at_call 6; refine i0.mono ?_; rintro r w1 ⟨rfl, b1⟩)
    | (go_at_call 7; (with_reducible refine (ip1 _).mono ?_); rintro r w9 ⟨rfl, hw9⟩; replace hw9 := hw9.symm; subst hw9))
  go_upto_region 4 with (go_at_call 8; refine (iB _).mono ?_; rintro r w2 ⟨rfl, C2, b2⟩)
  have S2 := Cs.new b1 C2 b2
  obtain ⟨a, ha⟩ : ∃ a, w1.heap.size = a := ⟨_, rfl⟩
  rw [ha] at S2 ⊢
  have N3 : Hid (Br w w2 a B (200 * 0) (.slice none 0 0) (.slice none 0 0) (.slice none 0 0) 0) := ⟨_, _, _, _, _, [], [], [], ⟨S2, .inl ⟨rfl, rfl⟩, .inl ⟨rfl, rfl⟩, .inl ⟨rfl, rfl⟩, (fun _ h => nomatch h), (fun _ h => nomatch h), (fun _ h => nomatch h), Bm.nil⟩, Nat.le_refl _, fun _ h => nomatch h⟩
  clear S2 C2 b1 b2 i0 ip1 iB ha
  go_wp2
  go_loopw [9, 10, 11, 12] (fun v9 v10 v11 i w' => ∃ k : Nat, k ≤ N ∧ k ≤ 100 ∧ i = .int .i64 (k : Int) ∧ Hid (Br w w' a B (200 * k) v9 v10 v11 k)) (fun _ _ _ i _ => N - (intOf i).toNat)
  case atStart => exact ⟨0, Nat.zero_le _, Nat.zero_le _, rfl, N3⟩
  case round =>
    obtain ⟨k, hk, hk2, rfl, M⟩ := hrel
    by_cases hkN : k < N ∧ k < 100
    · obtain ⟨hkN, hk100⟩ := hkN
      have hkN' := hid hkN
      have hk100' := hid hk100
      have z1 : (k : Int) < (N : Int) := by omega
      have z2 : (k : Int) < 100 := by omega
      have z3 : (0 : Int) ≤ (k : Int) := by omega
      obtain ⟨x, fl, kd, nn, KB, VB, rfl, xb, hc0, hc1, hc2, hc3, hc4, _, _, hs3, hs4⟩ := HX.out k hkN
      obtain ⟨g, L, f, m, o, K, V, P, S, hKn, hKl⟩ := M.out
      have BL := S.cs.bl
      have d0 : wr.cell? (x.add (k * 5)) = some (.bool fl) := (BL.cell (p := x.add (k * 5)) (by rw [addr_block]; exact xb)).trans hc0
      have d1 : wr.cell? ⟨(x.add (k * 5)).block, (x.add (k * 5)).off + 1, none⟩ = some (.int .i64 kd) := by
        show wr.cell? ((x.add (k * 5)).add 1) = _
        rw [Go.Deep.add_add]; exact (BL.cell (p := x.add (k * 5 + 1)) (by rw [addr_block]; exact xb)).trans hc1
      have d2 : wr.cell? ⟨(x.add (k * 5)).block, (x.add (k * 5)).off + 2, none⟩ = some (.int .i64 nn) := by
        show wr.cell? ((x.add (k * 5)).add 2) = _
        rw [Go.Deep.add_add]; exact (BL.cell (p := x.add (k * 5 + 2)) (by rw [addr_block]; exact xb)).trans hc2
      have d3 : wr.cell? ⟨(x.add (k * 5)).block, (x.add (k * 5)).off + 3, none⟩ = some (.string KB) := by
        show wr.cell? ((x.add (k * 5)).add 3) = _
        rw [Go.Deep.add_add]; exact (BL.cell (p := x.add (k * 5 + 3)) (by rw [addr_block]; exact xb)).trans hc3
      have d4 : wr.cell? ⟨(x.add (k * 5)).block, (x.add (k * 5)).off + 4, none⟩ = some (.string VB) := by
        show wr.cell? ((x.add (k * 5)).add 4) = _
        rw [Go.Deep.add_add]; exact (BL.cell (p := x.add (k * 5 + 4)) (by rw [addr_block]; exact xb)).trans hc4
      have SE : Hid (Be w (wr.alloc (.cells #[.bool fl, .int .i64 kd, .int .i64 nn, .string KB, .string VB] 41)) a g B (200 * k) L f m o u9 u10 u11 K V P wr.heap.size fl kd nn KB VB) := by
        refine ⟨S.below ((Below.refl _ _).alloc (Nat.le_refl _) _), heap_alloc_new wr _, fun hf => ?_, fun hf => ?_, fun hf => ?_, fun hf => ?_⟩
        · have := fg_lt S.cs.ch _ hf; omega
        · have := own_lt S.ok _ hf; omega
        · have := own_lt S.ov _ hf; omega
        · have := own_lt S.op _ hf; omega
      have hKn' := hid hKn
      have hKl' := hid hKl
      clear hc0 hc1 hc2 hc3 hc4 xb BL S M hKn hKl hkN hk100
      go_upto_region 12 with fail
      go_cut [13] from 54 to 57 (fun v13 w' => ∃ q, v13 = .pointer (some ⟨q, 0, none⟩) ∧ Hid (Be w w' a g B (200 * k) L f m o u9 u10 u11 K V P q fl kd nn KB VB))
      case first =>
        go_wp2
        go_meet
        exact ⟨_, rfl, SE⟩
      case rest =>
        obtain ⟨q, rfl, SX⟩ := hcut
        go_step
        refine bounds_13 (k := KB.data.toList) (v := VB.data.toList) SX.out rfl (by have := hKn'.out; omega) (by have := hKn'.out; omega) hKl'.out (mk_data15 KB) (mk_data15 VB) (by rw [data_length]; omega) (by rw [data_length]; omega) _ _ _ _ _ _ _ _ _ _ _ _ _ _ _ _ _ _ _ _ _ _ _ _ _ _ _ _ _ _ _ _ _ _ _ _ _ _ _ _ _ _ _ _ _ _ _ _ _ _ _ _ _ _ _ _ _ _ _ _ _ _ _ _ _ _ _ _ _ _ _ _ _ _ _ _ _ _ _ _ _ _ _ _ _ _ _ _ _ _ _ _ _ _ _ _ _ _ _ _ _ _ _ _ _ _ _ _ _ _ _ _ _ _ _ _ _ _ _ _ _ _ _ _ _ _ _ _ _ _ _ _ _ _ _ _ _ _ _ _ _ _ _ _ _ _ _ _ _ _ _ _ _ _ _ _ _ _ _ _ _ _ _ _ _ _ _ _ _ _ _ _ _ _ _ _ _ _ _ _ _ _ _ _ _ _ _ _ _ _ _ _ _ _ _ _ _ _ _ _ _ _ _ _ _ _ _ _ _ _ _ _ _ _ _ _ _ _ _ _ _ _ _ _ _ _ _ _ ?_
        intro c4 c14 c15 c16 c17 c18 c19 c20 c21 c22 c23 c24 c25 c58 c59 c60 c61 c62 c63 c64 c65 c66 c67 c68 c69 c70 c71 c72 c73 c74 c75 c76 c77 c78 c79 c80 c81 c82 c83 c84 c85 c86 c87 c88 c89 c90 c91 c92 c93 c94 c95 c96 c97 c98 c99 c100 c101 c102 c103 c104 c105 c106 c107 c108 c109 c110 c111 c112 c113 c114 c115 c116 c117 c118 c119 c120 c121 c122 c123 c124 c125 c126 c127 c128 c129 c130 c131 c132 c133 c134 c135 c136 c137 c138 c139 c140 c141 c142 c143 c144 c145 c146 c147 c148 c149 c150 c151 c152 c153 c154 c155 c156 c157 c158 c159 c160 c161 c162 c163 c164 c165 c166 c167 c168 c169 c170 c171 c172 c173 c174 c175 c176 c177 c178 c179 c180 c181 c182 c183 c184 c185 c186 c187 c188 c189 c190 c191 c192 c193 c194 c195 c196 c197 c198 c199 c200 c201 c202 c203 c204 c205 c206 c207 c208 c209 c210 c211 c212 c213 c214 c215 c216 c217 c218 c219 c220 c221 c222 c223 c224 c225 c226 c227 c228 c229 c230 c231 c232 vk' vv' vp' w' hB
        have HB : Hid (Br w w' a B (200 * (k + 1)) vk' vv' vp' (k + 1)) := by
          obtain ⟨g2, L2, f2, m2, o2, K2, V2, P2, S2, h2, h3⟩ := hB
          have := hKn'.out
          exact ⟨g2, L2, f2, m2, o2, K2, V2, P2, S2.mono (by omega), by omega, h3⟩
        clear hB SX SE
        go_wp2
        exact ⟨⟨k + 1, hkN'.out, hk100'.out, by go_num, HB⟩, by have := hkN'.out; simp [RowKit.intOf]; omega⟩
    · obtain ⟨g, L, f, m, o, K, V, P, S, hKn, hKl⟩ := M.out
      have BL := hid S.cs.bl
      clear S hKn hKl M
      by_cases hlt : (k : Int) < (N : Int)
      · have y2 : ¬ (k : Int) < 100 := by omega
        clear hkN
        go_wp2
        go_ret
        exact ⟨rfl, BL.out⟩
      · clear hkN
        go_wp2
        go_ret
        exact ⟨rfl, BL.out⟩
end Kc
end Go.Proofs.Ytiehafkbkbeijaa
