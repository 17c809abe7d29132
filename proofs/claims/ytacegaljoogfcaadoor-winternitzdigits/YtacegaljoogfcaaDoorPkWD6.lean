import Derived.Test.YtacegaljoogfcaaDoorPkWD4
import Derived.Test.YtacegaljoogfcaaDoorPkR6
/- Layer 20: the document's digits -/
namespace Go.Proofs.YtacegaljoogfcaaDoor
open Go.RowKit
namespace Wz
set_option maxRecDepth 100000 in
set_option maxHeartbeats 1000000 in
theorem rdigits_any (s : ByteArray) (hs : s.size ≤ 140737488354000) (A : List UInt8) (hA : Hid (Sha.sha (109 :: s.data.toList) = A)) (w : World) :
    Calls Tryd.prog 8 #[.string s] w fun e w' => ∃ v, e = .returned v ∧ Own w' w.heap.size v (ivn (dg A)) ∧ Below w.heap.size w w' := by
  obtain ⟨d, hD⟩ : ∃ d, Hid (sv A = .string d) := ⟨_, rfl⟩
  have hAl : A.length = 32 := by rw [← hA.out]; exact Sha.sha_length _
  have hda : Hid (d.data.toList = A) := by
    have := hD.out
    rw [sv] at this
    injection this with this
    rw [← this]; rfl
  have hds : d.size = 32 := by rw [← data_length, hda.out, hAl]
  obtain ⟨q, hq⟩ : ∃ q, q = ({ data := #[109] } ++ s : ByteArray) := ⟨_, rfl⟩
  have hqs : q.size = 1 + s.size := by rw [hq, app_size]; rfl
  have hqd : Hid (Sha.sha q.data.toList = A) := by rw [hq, app_data]; exact hA
  go_enter Tryd.func8, Tryd.ntmps8
  go_wp2_with (go_at_call 13; fail)
  rw [← hq]
  clear hq
  have hsum := rsum_at q A (by omega) hqd w
  rw [hD.out] at hsum
  refine hsum.mono ?_
  clear hsum hqd hqs
  rintro e w1 ⟨rfl, B1⟩
  have O1 := hid (Own.nil w1 w.heap.size)
  have B1 := hid B1
  have hlen : (d.size : Int) = 32 := by omega
  go_wp2
  go_loopw [4, 5, 6] (fun v s i w' => ∃ k : Nat, k ≤ 32 ∧ i = .int .i64 (k : Int) ∧ s = .int .i64 ((sm (hl (A.take k)) : Nat) : Int) ∧ Hid (Own w' w.heap.size v (ivn (hl (A.take k)))) ∧ Hid (Below w.heap.size w w')) (fun _ _ i _ => 32 - (intOf i).toNat)
  case atStart => exact ⟨0, by omega, rfl, rfl, O1, B1⟩
  case round =>
    clear O1 B1
    obtain ⟨k, hk, rfl, rfl, hO, hB⟩ := hrel
    have hsl := sm_le (hl (A.take k))
    rw [hl_len, List.length_take] at hsl
    have hll : (hl (A.take k)).length ≤ 64 := by rw [hl_len, List.length_take]; omega
    by_cases hlt : k < 32
    · have c1 : (k : Int) < 32 := by omega
      have c2 : (k : Int) < (d.size : Int) := by omega
      obtain ⟨x, hx, lx, ix⟩ := index_w d (k : Int) k rfl (by omega)
      have hkA : k < A.length := by omega
      have ex : A[k].toNat = x := by rw [hx.out, hda.out, List.getD_eq_getElem?_getD, List.getElem?_eq_getElem hkA]; rfl
      have e1 := hl_take A hkA
      have e2 := sm_two A hkA
      rw [ex] at e1 e2
      obtain ⟨v', w', hap, O', B'⟩ := append_w w wr u4 (hl (A.take k)) [x / 16, x % 16] hB.out hO.out (by omega) (by simp) (by simp)
      rw [← e1] at O'
      have O' := hid O'
      have B' := hid B'
      rw [show (ivn [x / 16, x % 16]).toArray = #[.int .i64 ((x : Int) / 16), .int .i64 ((x : Int) % 16)] from by simp [ivn], show [x / 16, x % 16].length = 2 from rfl] at hap
      have E2 := hid e2
      clear hO hB e1 e2 hx hkA ex
      have d1 : (x : Int) / 16 ≤ 15 := by omega
      have d2 : (0 : Int) ≤ (x : Int) / 16 := by omega
      have d3 : (x : Int) % 16 ≤ 15 := by omega
      have d4 : (0 : Int) ≤ (x : Int) % 16 := by omega
      have s9 : sm (hl (A.take k)) ≤ 960 := by omega
      clear hsl hll
      generalize sm (hl (A.take k)) = S at *
      go_wp2_with (at_builtin; go_must (refine Lib.wpList_append_run _ rfl _ _ 23 23 rfl _ _ rfl rfl _ _ hap ?_))
      exact ⟨⟨k + 1, by omega, by go_num, val_int (by rw [E2.out]; omega), O', B'⟩, by simp [intOf]; omega⟩
    · obtain rfl : k = 32 := by omega
      have c1 : ¬ (32 : Int) < 32 := by omega
      rw [List.take_of_length_le (by omega)] at hO hsl
      have hl64 : (hl A).length = 64 := by rw [hl_len, hAl]
      obtain ⟨v', w', hap, O', B'⟩ := append_w w wr u4 (hl A) [sm (hl A) / 256, sm (hl A) / 16 % 16, sm (hl A) % 16] hB.out hO.out (by omega) (by simp) (by simp)
      have O' := hid (show Own w' w.heap.size v' (ivn (dg A)) from O')
      have B' := hid B'
      clear hO hB hll
      rw [List.take_of_length_le (by omega)]
      obtain ⟨S, hS⟩ : ∃ S, sm (hl A) = S := ⟨_, rfl⟩
      rw [hS] at hap hsl
      rw [show (ivn [S / 256, S / 16 % 16, S % 16]).toArray = #[.int .i64 ((S : Int) / 256), .int .i64 ((S : Int) / 16 % 16), .int .i64 ((S : Int) % 16)] from by simp [ivn], show [S / 256, S / 16 % 16, S % 16].length = 3 from rfl] at hap
      simp only [hS]
      clear hS
      have s0 : (0 : Int) ≤ (S : Int) := by omega
      have s1 : (S : Int) ≤ 960 := by omega
      go_wp2_with (at_builtin; go_must (refine Lib.wpList_append_run _ rfl _ _ 23 23 rfl _ _ rfl rfl _ _ hap ?_))
      go_ret
      exact ⟨_, rfl, O'.out, B'.out⟩
end Wz
end Go.Proofs.YtacegaljoogfcaaDoor
