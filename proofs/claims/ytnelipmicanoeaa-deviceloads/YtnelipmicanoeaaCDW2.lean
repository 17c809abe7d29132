import Derived.Test.YtnelipmicanoeaaCDW1
namespace Go.Proofs.Ytnelipmicanoeaa
open Go.RowKit Go.Maps

theorem zp_row (c : Int) : zp = (pg c).take 0 ++ List.replicate (256 - 0) 0 := by rw [zp, List.take_zero, List.nil_append]
set_option maxRecDepth 100000 in
set_option maxHeartbeats 1000000 in
theorem page_any (c : Int) (w : World) :
    Calls Try.prog 10 #[.int .i64 c] w fun e w' => e = .returned (.string ⟨(pg c).toArray⟩) ∧ Below w.heap.size w w' := by
  have hmk := make_page w
  have R1 : RowB (w.alloc (.cells (bv zp).toArray 5)) w.heap.size zp := heap_alloc_new w _
  have b1 := (Below.refl w.heap.size w).alloc (Nat.le_refl _) (.cells (bv zp).toArray 5)
  obtain ⟨w1, hw1⟩ : ∃ w1, w.alloc (.cells (bv zp).toArray 5) = w1 := ⟨_, rfl⟩
  rw [hw1] at R1 b1 hmk
  rw [zp_row c] at R1
  have R1 := hid R1
  have B1 := hid b1
  obtain ⟨P, hP⟩ : ∃ P, pg c = P := ⟨_, rfl⟩
  have HM := hid (fun k (hk : k < 256) => pg_more c hk)
  rw [hP] at R1 HM ⊢
  have hPl : P.length = 256 := by rw [← hP]; exact pg_len c
  have HPL := hid hPl
  clear hw1 b1 hP hPl
  go_enter Try.func10, Try.ntmps10
  go_wp2
  go_loopw [4] (fun i w' => ∃ k : Nat, k ≤ 256 ∧ i = .int .i64 (k : Int) ∧ Hid (RowB w' w.heap.size (P.take k ++ List.replicate (256 - k) 0)) ∧ Hid (Below w.heap.size w w')) (fun i _ => 256 - (RowKit.intOf i).toNat)
  case atStart => exact ⟨0, by omega, rfl, R1, B1⟩
  case round =>
    clear R1 B1 hmk
    obtain ⟨k, hk, rfl, hR, hB⟩ := hrel
    by_cases hkm : k < 256
    · have c0 : (k : Int) < 256 := by omega
      have k0 : (0 : Int) ≤ (k : Int) := by omega
      have hlen : (P.take k ++ List.replicate (256 - k) 0).length = 256 := by rw [List.length_append, List.length_take, List.length_replicate, HPL.out]; omega
      have R2 := hR.out.set k (pgb c k)
      rw [HM.out k hkm, pgb_nat] at R2
      have B2 := hB.out.setCell (p := ⟨w.heap.size, k, none⟩) (Nat.le_refl _) (.int .u8 ((c + ((k / 16 : Nat) : Int)) % 256))
      have th := there_of_row hR.out 0 256 (by simp only [List.size_toArray, bv_length, hlen]; omega) k hkm
      rw [Nat.zero_add] at th
      obtain ⟨y, hy⟩ := Option.isSome_iff_exists.1 th.1
      have hf := th.2
      have hz : (c + ((k / 16 : Nat) : Int)) % 256 = wrap64 (c + (k : Int) / 16) % 256 := by unfold wrap64; omega
      rw [hz] at R2 B2
      have R2 := hid R2
      have B2 := hid B2
      clear hR hB hlen th hz
      go_wp2
      exact ⟨⟨k + 1, by omega, by go_num, R2, B2⟩, by simp [RowKit.intOf]; omega⟩
    · obtain rfl : k = 256 := by omega
      have hR := hR.out
      rw [Nat.sub_self, List.replicate_zero, List.append_nil, List.take_of_length_le (by rw [HPL.out]; omega)] at hR
      have hcv := run_conv_bytes (P := Try.prog) wr 45 9 5 w.heap.size 0 256 256 P HPL.out Try.underlying45 Try.underlying5 Try.underlying9 (fun j v hv => by
        rw [cell_of_row _ _ _ _ _ _ hR, Nat.zero_add]; simpa using hv)
      rw [svS] at hcv
      clear hR
      go_wp2
      go_ret
      exact ⟨rfl, hB.out⟩
end Go.Proofs.Ytnelipmicanoeaa
