import Derived.Test.YtiehafkbkbeijaaPkKL0
/- Layer 15, the law: pick, known -/
namespace Go.Proofs.Ytiehafkbkbeijaa
open Go.RowKit Go.Maps
namespace Kc
set_option maxHeartbeats 400000 in
theorem pick15_any (c n : Int) (hc1 : -9223372036854775808 ≤ c) (hc2 : c ≤ 9223372036854775807) (hn : 0 < n) (hn2 : n ≤ 9223372036854775807) (w : World) :
    Calls Try.prog 7 #[.int .i64 c, .int .i64 n] w fun e w' => e = .returned (.int .i64 (pk c n)) ∧ w' = w := by
  have hp0 := pk_nonneg c n hn
  have hp1 := pk_lt c n hn
  have hn0 : ¬ n = 0 := by omega
  by_cases h : c < 0
  · have e1 : IntKind.i64.wrap (c + 1) = c + 1 := by rw [IntKind.wrap_i64]; omega
    have e2 : IntKind.i64.wrap (-(c + 1)) = -(c + 1) := by rw [IntKind.wrap_i64]; omega
    have e3 : Int.tmod (-(c + 1)) n = pk c n := by rw [Int.tmod_eq_emod_of_nonneg (by omega), pk, if_pos h]
    have e4 : IntKind.i64.wrap (pk c n) = pk c n := wrap_small _ (by omega) (by omega)
    go_enter Try.func7, Try.ntmps7
    go_wp2
    go_ret
    exact ⟨rfl, rfl⟩
  · have e3 : Int.tmod c n = pk c n := by rw [Int.tmod_eq_emod_of_nonneg (by omega), pk, if_neg h]
    have e4 : IntKind.i64.wrap (pk c n) = pk c n := wrap_small _ (by omega) (by omega)
    go_enter Try.func7, Try.ntmps7
    go_wp2
    go_ret
    exact ⟨rfl, rfl⟩
set_option maxRecDepth 100000 in
set_option maxHeartbeats 4000000 in
theorem known15_any (w : World) : Calls Try.prog 6 #[] w fun r w' => r = .returned (.bool true) ∧ Below w.heap.size w w' := by
  have i1 := new_ok 10 (by omega) w
  obtain ⟨q, hq⟩ : ∃ q, w.heap.size = q := ⟨_, rfl⟩
  have HQ := hid hq
  rw [hq] at i1 ⊢
  clear hq
  go_enter Try.func6, Try.ntmps6
  go_upto_region 4 with (go_at_call 8; refine i1.mono ?_; rintro r w1 ⟨rfl, C1, B1⟩)
  have S1 : Cs w w1 q none 10 0 [] 0 0 0 := by
    have := Cs.new (w0 := w) (w := w) (Below.refl _ _) (by rw [HQ.out]; exact C1) (by rw [HQ.out]; exact B1)
    rwa [HQ.out] at this
  have i2 := put_ok' S1.ch (by omega) [97] [49, 50, 51] (by decide) (by decide) (by decide)
  clear C1 B1 i1
  go_upto_region 5 with (go_at_call 10; refine i2.mono ?_; rintro r w2 ⟨rfl, b1, g1, o1, P2, E2⟩)
  have S2 := S1.op P2
  have e2 : putL 10 [97] [49, 50, 51] [] b1 = [⟨b1, [97], [49, 50, 51], 0⟩] := rfl
  obtain rfl : o1 = 0 := E2
  rw [e2] at S2
  clear P2 S1 i2
  have i3 := put_ok' S2.ch (by omega) [98] [49, 50, 51, 52, 53] (by decide) (by decide) (by show _ ≤ 10; exact (by decide : 6 ≤ 10))
  go_upto_region 6 with (go_at_call 10; refine i3.mono ?_; rintro r w3 ⟨rfl, b2, g2, o2, P3, E3⟩)
  have S3 := S2.op P3
  have e3 : putL 10 [98] [49, 50, 51, 52, 53] [⟨b1, [97], [49, 50, 51], 0⟩] b2 = [⟨b2, [98], [49, 50, 51, 52, 53], 0⟩, ⟨b1, [97], [49, 50, 51], 0⟩] := rfl
  obtain rfl : o2 = 0 := by
    have : o2 + 1 = 0 + 1 := E3
    omega
  rw [e3] at S3
  clear P3 E3 S2 i3
  have i4 := get_some' S3.ch (by omega) [97] (by decide) (e := ⟨b1, [97], [49, 50, 51], 0⟩) rfl
  go_upto_region 7 with (go_at_call 9; refine i4.mono ?_; rintro r w4 ⟨rfl, P4⟩)
  have S4 := S3.op P4
  have e4 : (⟨b1, [97], [49, 50, 51], 0⟩ : En) :: wo [97] [⟨b2, [98], [49, 50, 51, 52, 53], 0⟩, ⟨b1, [97], [49, 50, 51], 0⟩] = [⟨b1, [97], [49, 50, 51], 0⟩, ⟨b2, [98], [49, 50, 51, 52, 53], 0⟩] := rfl
  rw [e4] at S4
  clear P4 S3 i4
  have i5 := put_ok' S4.ch (by omega) [99] [49] (by decide) (by decide) (by show _ ≤ 10; exact (by decide : 2 ≤ 10))
  go_upto_region 8 with (go_at_call 10; refine i5.mono ?_; rintro r w5 ⟨rfl, b3, g3, o3, P5, E5⟩)
  have S5 := S4.op P5
  have e5 : putL 10 [99] [49] [⟨b1, [97], [49, 50, 51], 0⟩, ⟨b2, [98], [49, 50, 51, 52, 53], 0⟩] b3 = [⟨b3, [99], [49], 0⟩, ⟨b1, [97], [49, 50, 51], 0⟩] := rfl
  obtain rfl : o3 = 1 := by
    have : o3 + 1 = 0 + 2 := E5
    omega
  rw [e5] at S5
  clear P5 E5 S4 i5
  have i6 := get_none' S5.ch (by omega) [98] (by decide) rfl
  go_upto_region 9 with (go_at_call 9; refine i6.mono ?_; rintro r w6 ⟨rfl, P6⟩)
  have S6 := S5.op P6
  clear P6 S5 i6
  have i7 := tally_any S6.ch
  have HS6 := hid S6
  clear S6
  have e7 : tal [(⟨b3, [99], [49], 0⟩ : En), ⟨b1, [97], [49, 50, 51], 0⟩].length (tot [⟨b3, [99], [49], 0⟩, ⟨b1, [97], [49, 50, 51], 0⟩]) (pnd [⟨b3, [99], [49], 0⟩, ⟨b1, [97], [49, 50, 51], 0⟩]) (0 + 1) (0 + 1) 1 = .agg #[.int .i64 2, .int .i64 6, .int .i64 0, .int .i64 1, .int .i64 1, .int .i64 1] := rfl
  rw [e7] at i7
  go_wp2_with (go_at_call 12; refine i7.mono ?_; rintro r w7 ⟨rfl, b7⟩)
  go_ret
  have b := (HS6.out.below b7).bl
  have hz := b.size
  have hq := HQ.out
  rw [hq] at b
  exact ⟨rfl, b.alloc (by omega) _⟩
end Kc
end Go.Proofs.Ytiehafkbkbeijaa
