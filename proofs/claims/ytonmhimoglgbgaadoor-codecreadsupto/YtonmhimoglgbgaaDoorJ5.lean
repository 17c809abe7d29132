import Derived.Test.YtonmhimoglgbgaaDoorJ4
namespace Go.Proofs.YtonmhimoglgbgaaDoor
open Go.RowKit Cod

set_option maxRecDepth 100000 in
set_option maxHeartbeats 2000000 in
theorem textsAt_any (s : ByteArray) (many most : Int) (w : World) (hs : s.size ≤ 9223372036854775807) (hB : s.size ≤ 8796093022000 ∨ many ≤ 8796093022000) :
    Calls Tryd.prog 77 #[.string s, .int .i64 many, .int .i64 most] w (LPost svs w (rdTexts s.data.toList many most)) := by
  rw [rdTexts]
  by_cases h0 : most < 0
  · rw [if_pos h0]
    go_enter Tryd.func77, Tryd.ntmps77
    go_wp2
    go_ret3
    exact ⟨rfl, Below.refl _ _⟩
  rw [if_neg h0]
  have hN := manyAt_any s many w (by unfold maxLen; omega)
  have hnz := nz_many s.data.toList many
  cases hR : rdMany s.data.toList many with
  | bad e =>
    rw [hR] at hN
    simp only [tupN] at hN
    have he := hnz e hR
    have he' : ((e : Int) == 0) = false := by simp; omega
    clear hR hnz
    rw [Rd.bind_bad]
    go_enter Tryd.func77, Tryd.ntmps77
    go_wp2_with (go_at_call 89; refine hN.mono ?_; rintro x w1 ⟨rfl, h1⟩; have H1 := hid h1; clear h1)
    go_ret3
    exact ⟨rfl, H1.out⟩
  | good n r =>
    rw [hR] at hN
    simp only [tupN] at hN
    obtain ⟨hr1, hn62⟩ := many_len hR
    rw [data_length] at hr1
    have hBn : s.size ≤ 8796093022000 ∨ n ≤ 8796093022000 := by have := many_most hR; omega
    clear hR hnz
    rw [Rd.bind_good]
    obtain ⟨R, hRR⟩ : ∃ R, Hid (rdTextsN most n [] r = R) := ⟨_, rfl⟩
    rw [hRR.out]
    go_enter Tryd.func77, Tryd.ntmps77
    go_wp2_with (go_at_call 89; refine hN.mono ?_; rintro x w1 ⟨rfl, h1⟩; have H1 := hid h1; clear h1)
    clear hN
    go_loopw [10, 12, 27] (fun re l i w' => ∃ (k : Nat) (l' : List (List UInt8)) (r' : List UInt8), k ≤ n ∧ i = .int .i64 k ∧ re = sv r' ∧ l'.length = k ∧ r'.length + k ≤ s.size ∧ Hid (Own w' w.heap.size l (svs l')) ∧ Hid (rdTextsN most (n - k) l' r' = R) ∧ Hid (Below w.heap.size w w')) (fun _ _ i _ => n - (intOf i).toNat)
    case atStart => exact ⟨0, [], r, by omega, rfl, rfl, rfl, by omega, hid (show Own _ _ _ (svs []) from Own.nil _ _), hRR, H1⟩
    case round =>
      obtain ⟨k, l', r', hk, rfl, rfl, hl', hr', ho, hr, hb⟩ := hrel
      by_cases hlt : k < n
      · have hlt' : (k : Int) < (n : Int) := by omega
        have hN := textAt_sv r' most wr (by unfold maxLen; omega)
        have hr2 := hr.out
        obtain ⟨m, hm⟩ : ∃ m, n - k = m + 1 := ⟨n - k - 1, by omega⟩
        rw [hm, rdTextsN] at hr2
        cases hq : rdText r' most with
        | bad e =>
          have he := nz_text r' most e hq
          have he' : ((e : Int) == 0) = false := by simp; omega
          rw [hq, Rd.bind_bad] at hr2
          rw [hq] at hN
          simp only [tupS] at hN
          subst hr2
          clear hq
          go_wp2_with (go_at_call 68; refine hN.mono ?_; rintro x w2 ⟨rfl, h2⟩; have H2 := hid (hb.out.trans (h2.mono hb.out.size)); clear h2)
          go_ret3
          exact ⟨rfl, H2.out⟩
        | good a r2 =>
          have hlen := text_len hq
          rw [hq, Rd.bind_good] at hr2
          rw [hq] at hN
          simp only [tupS] at hN
          clear hq
          have HR2 := hid hr2
          clear hr2
          obtain ⟨ab, hab⟩ : ∃ ab, Hid (sv a = .string ab) := ⟨_, rfl⟩
          rw [hab.out] at hN
          go_wp2_with (first
            | (go_at_call 68; refine hN.mono ?_; rintro x w2 ⟨rfl, h2⟩; have H2 := hid (hb.out.trans (h2.mono hb.out.size)); have O2 := hid (ho.out.below h2 (Nat.le_refl _)); clear h2; obtain ⟨v3, w3, hcc, g1, g2, g3⟩ := app_txt w2 w.heap.size _ l' (.string ab) a hab.out O2.out (by omega) H2.out.size; have G1 := hid g1; have G2 := hid (below_new H2.out O2.out g2); clear g1 g2 g3)
            | (at_builtin; go_must (refine Lib.wpList_append_run _ rfl _ _ 46 46 rfl _ _ rfl rfl _ _ hcc ?_)))
          refine ⟨⟨k + 1, l' ++ [a], r2, by omega, by go_num, rfl, by rw [List.length_append]; simp [hl'], by omega, G1, ?_, G2⟩, by simp [intOf]; omega⟩
          show _ = R
          rw [show n - (k + 1) = m from by omega]; exact HR2.out
      · obtain rfl : k = n := by omega
        have hr2 := hr.out
        rw [Nat.sub_self, rdTextsN] at hr2
        subst hr2
        go_wp2
        go_ret3
        exact ⟨⟨_, rfl, ho.out⟩, hb.out⟩

set_option maxRecDepth 100000 in
set_option maxHeartbeats 2000000 in
theorem hashesAt_any (s : ByteArray) (many : Int) (w : World) (hs : s.size ≤ 9223372036854775807) (hB : s.size ≤ 8796093022000 ∨ many ≤ 8796093022000) :
    Calls Tryd.prog 79 #[.string s, .int .i64 many] w (LPost svs w (rdHashes s.data.toList many)) := by
  rw [rdHashes]
  have hN := manyAt_any s many w (by unfold maxLen; omega)
  have hnz := nz_many s.data.toList many
  cases hR : rdMany s.data.toList many with
  | bad e =>
    rw [hR] at hN
    simp only [tupN] at hN
    have he := hnz e hR
    have he' : ((e : Int) == 0) = false := by simp; omega
    clear hR hnz
    rw [Rd.bind_bad]
    go_enter Tryd.func79, Tryd.ntmps79
    go_wp2_with (go_at_call 89; refine hN.mono ?_; rintro x w1 ⟨rfl, h1⟩; have H1 := hid h1; clear h1)
    go_ret3
    exact ⟨rfl, H1.out⟩
  | good n r =>
    rw [hR] at hN
    simp only [tupN] at hN
    obtain ⟨hr1, hn62⟩ := many_len hR
    rw [data_length] at hr1
    have hBn : s.size ≤ 8796093022000 ∨ n ≤ 8796093022000 := by have := many_most hR; omega
    clear hR hnz
    rw [Rd.bind_good]
    have hz := sv_size r
    have hd := sv_data r
    rw [sv] at hN
    obtain ⟨b, hbb⟩ : ∃ b : ByteArray, ByteArray.mk r.toArray = b := ⟨_, rfl⟩
    rw [hbb] at hz hd hN
    clear hbb
    rw [← hz]
    subst hd
    clear hz
    rw [data_length] at hr1
    by_cases hc : b.size / 32 < n
    · rw [if_pos hc]
      have b0 : (b.size : Int) / 32 < (n : Int) := by omega
      go_enter Tryd.func79, Tryd.ntmps79
      go_wp2_with (go_at_call 89; refine hN.mono ?_; rintro x w1 ⟨rfl, h1⟩; have H1 := hid h1; clear h1)
      go_ret3
      exact ⟨rfl, H1.out⟩
    · rw [if_neg hc]
      have b0 : ¬ (b.size : Int) / 32 < (n : Int) := by omega
      have hb1 : n * 32 ≤ b.size := by omega
      obtain ⟨R, hRR⟩ : ∃ R, Hid (rdHashN n [] b.data.toList = R) := ⟨_, rfl⟩
      rw [hRR.out]
      go_enter Tryd.func79, Tryd.ntmps79
      go_wp2_with (go_at_call 89; refine hN.mono ?_; rintro x w1 ⟨rfl, h1⟩; have H1 := hid h1; clear h1)
      clear hN
      go_loopw [8, 10, 27] (fun re l i w' => ∃ (k : Nat) (l' : List (List UInt8)) (c : ByteArray), k ≤ n ∧ i = .int .i64 k ∧ re = .string c ∧ l'.length = k ∧ c.size + k * 32 = b.size ∧ Hid (Own w' w.heap.size l (svs l')) ∧ Hid (rdHashN (n - k) l' c.data.toList = R) ∧ Hid (Below w.heap.size w w')) (fun _ _ i _ => n - (intOf i).toNat)
      case atStart => exact ⟨0, [], b, by omega, rfl, rfl, rfl, by omega, hid (show Own _ _ _ (svs []) from Own.nil _ _), hRR, H1⟩
      case round =>
        obtain ⟨k, l', c, hk, rfl, rfl, hl', hr', ho, hr, hb⟩ := hrel
        by_cases hlt : k < n
        · have hlt' : (k : Int) < (n : Int) := by omega
          have hc32 : 32 ≤ c.size := by omega
          have hc32' : (32 : Int) ≤ (c.size : Int) := by omega
          have hr2 := hr.out
          obtain ⟨m, hm⟩ : ∃ m, n - k = m + 1 := ⟨n - k - 1, by omega⟩
          rw [hm, rdHashN] at hr2
          obtain ⟨v3, w3, hcc, g1, g2, g3⟩ := app_txt wr w.heap.size _ l' (.string (c.extract 0 32)) (c.data.toList.take 32) (sv_take c 32) ho.out (by omega) hb.out.size
          have G1 := hid g1
          have G2 := hid (below_new hb.out ho.out g2)
          clear g1 g2 g3
          have hds : (c.extract 32 c.size).data.toList = c.data.toList.drop 32 := by rw [Lib.extract_data, List.take_of_length_le (by rw [List.length_drop, data_length]; omega)]
          have hsz : (c.extract 32 c.size).size = c.size - 32 := by rw [← data_length, hds, List.length_drop, data_length]
          have HR2 : Hid (rdHashN m (l' ++ [c.data.toList.take 32]) (c.extract 32 c.size).data.toList = R) := by rw [hds]; exact hr2
          have HS := hid hsz
          clear hr2 hds hsz
          go_wp2_with (at_builtin; go_must (refine Lib.wpList_append_run _ rfl _ _ 46 46 rfl _ _ rfl rfl _ _ hcc ?_))
          refine ⟨⟨k + 1, _, c.extract 32 c.size, by omega, by go_num, rfl, by rw [List.length_append]; simp [hl'], by rw [HS.out]; omega, G1, ?_, G2⟩, by simp [intOf]; omega⟩
          show _ = R
          rw [show n - (k + 1) = m from by omega]; exact HR2.out
        · obtain rfl : k = n := by omega
          have hr2 := hr.out
          rw [Nat.sub_self, rdHashN] at hr2
          subst hr2
          go_wp2
          go_ret3
          refine ⟨⟨_, ?_, ho.out⟩, hb.out⟩
          rw [sv_of]
          rfl
end Go.Proofs.YtonmhimoglgbgaaDoor
