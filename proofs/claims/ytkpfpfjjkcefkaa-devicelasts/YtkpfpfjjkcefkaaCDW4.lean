import Derived.Test.YtkpfpfjjkcefkaaCDW3
namespace Go.Proofs.Ytkpfpfjjkcefkaa
open Go.RowKit Go.Maps

theorem Own.at {w : World} {base : Nat} {v : Value} {L : List (List UInt8)} (h : Own w base v (svs L)) : ∃ a cap, v = .slice a L.length cap ∧ At w a L ∧ (0 < L.length → ∃ g, a = some ⟨g, 0, none⟩ ∧ w.rangeAt g 0 (svs L) ∧ base ≤ g) := by
  rcases h with ⟨rfl, e⟩ | ⟨g, cap, rfl, h1, h2, h3, h4, h5, h6⟩
  · have : L = [] := by simpa [svs] using e
    subst this
    exact ⟨none, 0, rfl, At.nil _ _, fun h => by simp at h⟩
  · refine ⟨some ⟨g, 0, none⟩, cap, by rw [svs_length], fun j p hp => ⟨_, rfl, h6, ?_⟩, fun _ => ⟨g, rfl, h4, h1⟩⟩
    have := h4 j (sv p) (by simp [svs, hp])
    rw [Addr.add_mid]; exact this
set_option maxRecDepth 100000 in
set_option maxHeartbeats 1000000 in
theorem rnew_bad (n : Int) (w : World) (h : ¬ (4 ≤ n ∧ n ≤ 4096)) :
    Calls Try.prog 8 #[.int .i64 n] w fun r w' => r = .returned (.tuple #[.pointer none, .int .i64 1]) ∧ w' = w := by
  by_cases h4 : n < 4
  · clear h
    go_enter Try.func8, Try.ntmps8
    go_wp2
    go_ret2
    exact ⟨rfl, rfl⟩
  · have c1 : (4096 : Int) < n := by omega
    clear h
    go_enter Try.func8, Try.ntmps8
    go_wp2
    go_ret2
    exact ⟨rfl, rfl⟩
set_option maxRecDepth 100000 in
set_option maxHeartbeats 1000000 in
theorem rnew_z (z : List UInt8) (hz : zp = z) (n : Nat) (w : World) (h4 : 4 ≤ n) (h96 : n ≤ 4096) :
    Calls Try.prog 8 #[.int .i64 (n : Int)] w fun r w' => Below w.heap.size w w' ∧ ∃ q, r = .returned (.tuple #[.pointer (some q), .int .i64 0]) := by
  have hmk : ∀ w, (Instr.makeSlice 45 (.int .i64 256) (.int .i64 256)).run Try.prog w = .ok (.slice (some ⟨w.heap.size, 0, none⟩) 256 256) (w.alloc (.cells (bv z).toArray 5)) := fun w => by rw [← hz]; exact make_page w
  have hzl : z.length = 256 := by rw [← hz, zp, List.length_replicate]
  have hpz : pgs (List.replicate n z) = true := by rw [← hz]; exact zps_ok n
  have HZL := hid hzl
  have HPZ := hid hpz
  have c0 : ¬ (n : Int) < 4 := by omega
  have c1 : ¬ (4096 : Int) < (n : Int) := by omega
  clear hz hzl hpz
  go_enter Try.func8, Try.ntmps8
  go_wp2
  go_loopw [4, 5] (fun l i w' => ∃ k : Nat, k ≤ n ∧ i = .int .i64 (k : Int) ∧ Hid (Own w' w.heap.size l (svs (List.replicate k z))) ∧ Hid (Below w.heap.size w w')) (fun _ i _ => n - (RowKit.intOf i).toNat)
  case atStart => exact ⟨0, by omega, rfl, hid (Own.nil _ _), hid (Below.refl _ _)⟩
  case round =>
    obtain ⟨k, hk, rfl, hO, hB⟩ := hrel
    by_cases hkn : k < n
    · have b0 : (k : Int) < (n : Int) := by omega
      have h1 := hmk wr
      have b1 := (Below.refl wr.heap.size wr).alloc (Nat.le_refl _) (.cells (bv z).toArray 5)
      have r1 := heap_alloc_new wr (.cells (bv z).toArray 5)
      obtain ⟨w1, hw1⟩ : ∃ w1, wr.alloc (.cells (bv z).toArray 5) = w1 := ⟨_, rfl⟩
      rw [hw1] at h1 b1 r1
      have hcv := run_conv_bytes (P := Try.prog) w1 45 9 5 wr.heap.size 0 256 256 z HZL.out Try.underlying45 Try.underlying5 Try.underlying9 (fun j v hv => by
        rw [cell_of_row _ _ _ _ _ _ r1, Nat.zero_add]; simpa using hv)
      rw [svS] at hcv
      have hs := hB.out.size
      obtain ⟨v', w5, hap, O5, b5⟩ := append_text w1 w.heap.size _ (List.replicate k z) z #[.string ⟨z.toArray⟩] rfl (hO.out.below b1 (Nat.le_refl _)) (by rw [List.length_replicate]; omega) (Nat.le_trans hs b1.size)
      rw [← List.replicate_succ'] at O5
      have O5 := hid O5
      have B5 := hid ((hB.out.trans (b1.mono hs)).trans b5)
      clear hO hB b1 r1 b5 hw1 hmk hs
      go_wp2_with (at_builtin; go_must (refine Lib.wpList_append_run _ rfl _ _ 30 30 rfl _ _ rfl rfl _ _ hap ?_))
      exact ⟨⟨k + 1, by omega, by go_num, O5, B5⟩, by simp [RowKit.intOf]; omega⟩
    · obtain rfl : k = n := by omega
      have b0 : ¬ (k : Int) < (k : Int) := by omega
      obtain ⟨a, cap, rfl, hA, hg⟩ := hO.out.at
      obtain ⟨g, rfl, _, _⟩ := hg (by rw [List.length_replicate]; omega)
      have i1 := rload_ok (List.replicate k z) ⟨g, 0, none⟩ cap wr (by rw [List.length_replicate]; omega) (by rw [List.length_replicate]; omega) hA
      rw [List.length_replicate] at i1 ⊢
      clear hO hA hg hmk
      go_wp2_with (go_at_call 12; refine i1.mono ?_; rintro r w2 ⟨hb2, ⟨_, q, rfl⟩ | ⟨hno, rfl⟩⟩)
      · go_ret2
        exact ⟨hB.out.trans (hb2.mono hB.out.size), q, rfl⟩
      · rw [HPZ.out] at hno; cases hno
theorem rnew_ok (n : Nat) (w : World) (h4 : 4 ≤ n) (h96 : n ≤ 4096) :
    Calls Try.prog 8 #[.int .i64 (n : Int)] w fun r w' => Below w.heap.size w w' ∧ ∃ q, r = .returned (.tuple #[.pointer (some q), .int .i64 0]) := rnew_z zp rfl n w h4 h96
end Go.Proofs.Ytkpfpfjjkcefkaa
