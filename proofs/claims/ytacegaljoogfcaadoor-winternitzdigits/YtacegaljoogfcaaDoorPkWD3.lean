import Derived.Test.YtacegaljoogfcaaDoorPkWD2
import Derived.Deep.QuietTactic
import Derived.Lib.AppendZeros
/- Layer 20: the program's digits -/
namespace Go.Proofs.YtacegaljoogfcaaDoor
open Go.RowKit
namespace Wz
theorem index_w (s : ByteArray) (i : Int) (k : Nat) (hi : i = (k : Int)) (h : k < s.size) :
    ∃ x : Nat, Hid (x = (s.data.toList.getD k 0).toNat) ∧ x < 256 ∧ ∀ w, (Instr.index 9 (.string s) (.int .i64 i)).run Tryd.prog w = .ok (.int .u8 (x : Int)) w := by
  refine ⟨_, rfl, UInt8.toNat_lt _, fun w => ?_⟩
  subst hi
  rw [run_index_string w 9 s .i64 (k : Int) Tryd.underlying9]
  simp [h]
  rfl
theorem make_W (w : World) (c : Nat) (hc : c ≤ 1000) :
    ∃ w', (Instr.makeSlice 23 (.int .i64 0) (.int .i64 (c : Int))).run Tryd.prog w = .ok (.slice (some ⟨w.heap.size, 0, none⟩) 0 c) w' ∧ Own w' w.heap.size (.slice (some ⟨w.heap.size, 0, none⟩) 0 c) (ivn []) ∧ Below w.heap.size w w' := by
  obtain ⟨i0, hi, hz0, hz1, hz2⟩ := info_parts infoW
  obtain ⟨w', h1, h2, h3⟩ := run_make_own (P := Tryd.prog) w w.heap.size 23 3 i0 (.int .i64 0) 1 Tryd.underlying23 hi hz0 hz1 .i64 .i64 c (by rw [hz2]; omega) (by rw [maxLen]; omega) (Nat.le_refl _)
  refine ⟨w', h1, ?_, Below.ofGrown (v := .slice none 0 0) h3 (fun k hk => by cases hk) (Nat.le_refl _)⟩
  rcases h2.2 with ⟨h, _⟩ | ⟨g, cap, cur, hv, hg, hh, _, hm, hs, _⟩
  · cases h
  · injection hv with e1 e2 e3
    injection e1 with e1
    injection e1 with e1
    subst e1 e3
    exact .inr ⟨_, _, rfl, Nat.le_refl _, by simp [ivn], hm, fun j v hj => by simp [ivn] at hj, there_of_row hh 0 _ (by rw [hs]; omega), lt_of_heap hh⟩
theorem sm_two (A : List UInt8) {i : Nat} (h : i < A.length) : sm (hl (A.take (i + 1))) = sm (hl (A.take i)) + (15 - A[i].toNat / 16) + (15 - A[i].toNat % 16) := by
  rw [hl_take A h, sm_append]; simp [sm]; omega
set_option maxRecDepth 100000 in
set_option maxHeartbeats 1000000 in
/-- the digits of a digest, in a list of one's own -/
theorem digitsOf_any (d : ByteArray) (hd : d.size = 32) (A : List UInt8) (hA : Hid (d.data.toList = A)) (w : World) :
    Calls Tryd.prog 10 #[.string d] w fun e w' => ∃ v, e = .returned v ∧ Own w' w.heap.size v (ivn (dg A)) ∧ Below w.heap.size w w' := by
  have hAl : A.length = 32 := by rw [← hA.out, data_length, hd]
  have hlen : (d.size : Int) = 32 := by omega
  obtain ⟨w1, hmk, O1, B1⟩ := make_W w 67 (by omega)
  rw [show ((67 : Nat) : Int) = 67 from rfl] at hmk
  have O1 := hid O1
  have B1 := hid B1
  go_enter Tryd.func10, Tryd.ntmps10
  go_wp2
  clear hmk
  go_loopw [3, 4, 11] (fun v s i w' => ∃ k : Nat, k ≤ 32 ∧ i = .int .i64 (k : Int) ∧ s = .int .i64 ((sm (hl (A.take k)) : Nat) : Int) ∧ Hid (Own w' w.heap.size v (ivn (hl (A.take k)))) ∧ Hid (Below w.heap.size w w')) (fun _ _ i _ => 32 - (intOf i).toNat)
  case atStart => exact ⟨0, by omega, rfl, rfl, O1, B1⟩
  case round =>
    clear O1 B1
    obtain ⟨k, hk, rfl, rfl, hO, hB⟩ := hrel
    have hsl := sm_le (hl (A.take k))
    rw [hl_len, List.length_take] at hsl
    have hll : (hl (A.take k)).length ≤ 64 := by rw [hl_len, List.length_take]; omega
    by_cases hlt : k < 32
    · have c1 : (k : Int) < 32 := by omega
      have c2 : (k : Int) < (d.size : Int) := by omega
      obtain ⟨x, hx, lx, ix⟩ := index_w d (k : Int) k rfl (by omega)
      have hkA : k < A.length := by omega
      have ex : A[k].toNat = x := by rw [hx.out, hA.out, List.getD_eq_getElem?_getD, List.getElem?_eq_getElem hkA]; rfl
      have e1 := hl_take A hkA
      have e2 := sm_two A hkA
      rw [ex] at e1 e2
      have E1 := hid e1
      have E2 := hid e2
      clear e1 e2 hx hkA ex
      go_wp2
      go_quiet (fail)
      have hO1 := hO.out.drewN nq
      have hB1 : Below w.heap.size w (wr.drewN nq) := ⟨hB.out.os, hB.out.tape, hB.out.output, hB.out.size, hB.out.block⟩
      obtain ⟨v', w', hap, O', B'⟩ := append_w w (wr.drewN nq) u3 (hl (A.take k)) [x / 16, x % 16] hB1 hO1 (by omega) (by simp) (by simp)
      rw [← E1.out] at O'
      have O' := hid O'
      have B' := hid B'
      rw [show (ivn [x / 16, x % 16]).toArray = #[.int .i64 ((x : Int) / 16), .int .i64 ((x : Int) % 16)] from by simp [ivn], show [x / 16, x % 16].length = 2 from rfl] at hap
      clear hO hB hO1 hB1 E1
      have d1 : (x : Int) / 16 ≤ 15 := by omega
      have d2 : (0 : Int) ≤ (x : Int) / 16 := by omega
      have d3 : (x : Int) % 16 ≤ 15 := by omega
      have d4 : (0 : Int) ≤ (x : Int) % 16 := by omega
      have E2 := E2.out
      have hs2 : ((sm (hl (A.take k)) : Nat) : Int) + (30 - (x : Int) / 16 - (x : Int) % 16) = ((sm (hl (A.take (k + 1))) : Nat) : Int) := by omega
      generalize sm (hl (A.take k)) = S at *
      clear E2
      generalize wr.drewN nq = wq at *
      go_wp2_with (at_builtin; go_must (refine Lib.wpList_append_run _ rfl _ _ 23 23 rfl _ _ rfl rfl _ _ hap ?_))
      exact ⟨⟨k + 1, by omega, by go_num, rfl, O', B'⟩, by simp [intOf]; omega⟩
    · obtain rfl : k = 32 := by omega
      have c1 : ¬ (32 : Int) < 32 := by omega
      rw [List.take_of_length_le (by omega)] at hO hsl
      have hl64 : (hl A).length = 64 := by rw [hl_len, hAl]
      obtain ⟨v', w', hap, O', B'⟩ := append_w w wr u3 (hl A) [sm (hl A) / 256, sm (hl A) / 16 % 16, sm (hl A) % 16] hB.out hO.out (by omega) (by simp) (by simp)
      have O' := hid (show Own w' w.heap.size v' (ivn (dg A)) from O')
      have B' := hid B'
      clear hO hB hll
      rw [List.take_of_length_le (by omega)]
      obtain ⟨S, hS⟩ : ∃ S, sm (hl A) = S := ⟨_, rfl⟩
      rw [hS] at hap hsl
      rw [show (ivn [S / 256, S / 16 % 16, S % 16]).toArray = #[.int .i64 ((S : Int) / 16 / 16), .int .i64 ((S : Int) / 16 % 16), .int .i64 ((S : Int) % 16)] from by simp [ivn]; omega, show [S / 256, S / 16 % 16, S % 16].length = 3 from rfl] at hap
      simp only [hS]
      clear hS
      have s0 : (0 : Int) ≤ (S : Int) := by omega
      have s1 : (S : Int) ≤ 960 := by omega
      go_wp2_with (at_builtin; go_must (refine Lib.wpList_append_run _ rfl _ _ 23 23 rfl _ _ rfl rfl _ _ hap ?_))
      go_ret
      exact ⟨_, rfl, O'.out, B'.out⟩
set_option maxRecDepth 100000 in
set_option maxHeartbeats 1000000 in
theorem digits_any (s : ByteArray) (ht : s.size ≤ 2305843009213690000) (A : List UInt8) (hA : Hid (Sha.sha (109 :: s.data.toList) = A)) (w : World) (T : Tabs w) :
    Calls Tryd.prog 6 #[.string s] w fun e w' => ∃ v, e = .returned v ∧ Own w' w.heap.size v (ivn (dg A)) ∧ Below w.heap.size w w' := by
  have hT := T.lt
  obtain ⟨d, hD⟩ : ∃ d, Hid (sv A = .string d) := ⟨_, rfl⟩
  have hd : d.data.toList = A := by
    have := hD.out
    rw [sv] at this
    injection this with this
    rw [← this]
  have hds : d.size = 32 := by rw [← data_length, hd, ← hA.out, Sha.sha_length]
  go_enter Tryd.func6, Tryd.ntmps6
  go_wp2_with (go_at_call 7; fail)
  have hsl := data_length s
  have hs := sum_any w.heap.size 0 2 [[109], s.data.toList] (by simp [total]; omega) (by simp [maxLen]) (w.alloc (.cells #[sv [109], sv s.data.toList] 9)) (T.below ((Below.refl _ _).alloc (Nat.le_refl _) _) hT) (by rw [size_alloc]; omega) (texts2 w [109] s.data.toList _)
  rw [show ([[109], s.data.toList] : List (List UInt8)).flatten = 109 :: s.data.toList by simp, hA.out, hD.out] at hs
  refine hs.mono ?_
  clear hs
  rintro e w1 ⟨rfl, hw1⟩
  have B1 : Below w.heap.size w w1 := ((Below.refl _ _).alloc (Nat.le_refl _) _).trans (hw1.mono (by rw [size_alloc]; omega))
  go_wp2_with (go_at_call 10; refine (digitsOf_any d hds A hd _).mono ?_)
  rintro e w2 ⟨v, rfl, O2, B2⟩
  have O2 := hid (O2.mono B1.size)
  have B2 := hid (B1.trans (B2.mono B1.size))
  clear hw1 B1
  go_wp2
  go_ret
  exact ⟨_, rfl, O2.out, B2.out⟩
end Wz
end Go.Proofs.YtacegaljoogfcaaDoor
