import Derived.Test.YtonmhimoglgbgaaDoorXR4
namespace Go.Proofs.YtonmhimoglgbgaaDoor
open Go.RowKit Cod
set_option maxRecDepth 100000 in
set_option maxHeartbeats 3000000 in
theorem xHashes_any (b : Nat) (s : ByteArray) (st : RS) (many : Int) (w : World) (h : XRd w b s st) :
    Calls Tryd.prog 46 #[.pointer (some ⟨b, 0, none⟩), .int .i64 many] w fun r w' => ∃ v, r = .returned v ∧ Own w' w.heap.size v (svs (st.val [] (rdHashes st.rest many))) ∧ XRd w' b s (st.step (rdHashes st.rest many)) ∧ But b w w' := by
  obtain ⟨c0, c1, c2, f1, f2⟩ := err_cells h
  have H := hid h
  by_cases he : st.err = 0
  · have h3 := h.2.2.1
    have h4 := h.2.2.2
    have h2 := h.2.1
    have hl := h.len
    have hbl := h.lt
    rw [he] at c2
    have hN := xMany_any b s st many w h
    cases hR : rdMany st.rest many with
    | bad e =>
      have hz := nz_many _ _ e hR
      have hRR : rdHashes st.rest many = .bad e := by rw [rdHashes, hR]; rfl
      have hv : st.val [] (rdHashes st.rest many) = [] := by rw [hRR, val_badx he]
      have z1 : ((e : Int) == 0) = false := by simp; omega
      rw [hR] at hN
      simp only [tupA] at hN
      rw [hv]
      clear h2 h hR hv
      go_enter Tryd.func46, Tryd.ntmps46
      go_wp2_with (go_at_call 84; fail)
      refine hN.mono ?_
      rintro x w1 ⟨rfl, hw1, hh1⟩
      have H1 := hid (H.out.below hw1)
      have B1 := hid hw1
      have G := hid (H1.out.bad he hRR)
      clear hw1 hh1 hN hRR
      go_wp2
      go_loopw [6, 9] (fun to i w' => to = .int .i64 0 ∧ i = .int .i64 0 ∧ w' = w1) (fun _ _ _ => 0)
      case atStart => exact ⟨rfl, rfl, rfl⟩
      case round =>
        obtain ⟨rfl, rfl, rfl⟩ := hrel
        go_wp2_with (go_at_call 83; refine (ends_bad b e _ _ _ _ _ hz H1.out.1).mono ?_; rintro e w1 ⟨rfl, hw1⟩; rw [hw1]; clear hw1 w1)
        go_ret
        exact ⟨_, rfl, Own.nil _ _, G.out, (But.ofBelow B1.out).setCell 2 _⟩
    | good n r =>
      obtain ⟨e1, e2⟩ := rest_of (pf_many many) (by rw [← h2]; exact hR) (by rw [data_length]; exact h3)
      rw [data_length] at e1 e2
      obtain ⟨hr1, hn62⟩ := many_len hR
      rw [hR] at hN
      simp only [tupA] at hN
      obtain ⟨T0, hT0⟩ : ∃ T0, s.size - r.length = T0 := ⟨_, rfl⟩
      have hrT : r.length = s.size - T0 := by omega
      have hT1 : T0 ≤ s.size := by omega
      rw [hT0] at hN e1
      have x1 : IntKind.i64.wrap ((s.size : Int) - (T0 : Int)) = (s.size : Int) - (T0 : Int) := by rw [IntKind.wrap_i64]; omega
      by_cases hc : r.length / 32 < n
      · have hRR : rdHashes st.rest many = .bad 21 := by rw [rdHashes, hR, Rd.bind_good, if_pos hc]
        have hv : st.val [] (rdHashes st.rest many) = [] := by rw [hRR, val_badx he]
        rw [hv]
        have z1 : ((s.size : Int) - (T0 : Int)) / 32 < (n : Int) := by omega
        have z2 : decide (((s.size : Int) - (T0 : Int)) / 32 < (n : Int)) = true := by simpa using z1
        clear h2 h hR hv hc hT0 hrT e1 e2
        go_enter Tryd.func46, Tryd.ntmps46
        go_wp2_with (go_at_call 84; fail)
        refine hN.mono ?_
        rintro x w1 ⟨rfl, hw1, hh1⟩
        have H1 := hid (H.out.below hw1)
        have B1 := hid hw1
        have G := hid (H1.out.bad he hRR)
        obtain ⟨d0, d1, d2, g1, g2⟩ := err_cells H1.out
        clear hw1 hh1 hN hRR c0 c1 c2 f1 f2
        go_wp2
        go_loopw [6, 9] (fun to i w' => to = .int .i64 (T0 : Int) ∧ i = .int .i64 0 ∧ w' = w1) (fun _ _ _ => 0)
        case atStart => exact ⟨rfl, rfl, rfl⟩
        case round =>
          obtain ⟨rfl, rfl, rfl⟩ := hrel
          go_wp2_with (go_at_call 83; refine (ends_bad b 21 _ _ _ _ _ (by omega) H1.out.1).mono ?_; rintro e w1 ⟨rfl, hw1⟩; rw [hw1]; clear hw1 w1)
          go_ret
          exact ⟨_, rfl, Own.nil _ _, G.out, (But.ofBelow B1.out).setCell 2 _⟩
      · have hn32 : n * 32 ≤ r.length := by omega
        obtain ⟨R, hRR⟩ : ∃ R, Hid (rdHashN n [] r = R) := ⟨_, rfl⟩
        have hRe : Hid (rdHashes st.rest many = R) := by
          show rdHashes st.rest many = R
          rw [rdHashes, hR, Rd.bind_good, if_neg hc]; exact hRR.out
        have z1 : ¬ ((s.size : Int) - (T0 : Int)) / 32 < (n : Int) := by omega
        have z2 : decide (((s.size : Int) - (T0 : Int)) / 32 < (n : Int)) = false := by simpa using z1
        have hn33 : T0 + n * 32 ≤ s.size := by omega
        have E1 := hid e1
        clear h2 h hR hc hT0 e1 e2
        go_enter Tryd.func46, Tryd.ntmps46
        go_wp2_with (go_at_call 84; fail)
        refine hN.mono ?_
        rintro x w1 ⟨rfl, hw1, hh1⟩
        have B1 := hid hw1
        obtain ⟨d0, d1, d2, g1, g2⟩ := err_cells (H.out.below hw1)
        clear hw1 hh1 hN c0 c1 c2 f1 f2
        go_wp2
        go_loopw [6, 8, 9] (fun to lv i w' => ∃ (k T : Nat) (l' : List (List UInt8)), k ≤ n ∧ i = .int .i64 (k : Int) ∧ to = .int .i64 (T : Int) ∧ T = T0 + k * 32 ∧ l'.length = k ∧ Hid (Own w' w.heap.size lv (svs l')) ∧ Hid (rdHashN (n - k) l' (s.data.toList.drop T) = R) ∧ Hid (Below w.heap.size w w')) (fun _ _ i _ => n - (intOf i).toNat)
        case atStart => exact ⟨0, T0, [], by omega, rfl, rfl, by omega, rfl, Own.nil _ _, hid (by rw [← E1.out]; exact hRR.out), B1⟩
        case round =>
          clear B1 d0 d1 d2 g1 g2
          obtain ⟨k, T, l', hk, rfl, rfl, hT, hl', ho, hrd, hB⟩ := hrel
          have X1 := H.out.below hB.out
          obtain ⟨d0, d1, d2, g1, g2⟩ := err_cells X1
          have hX := hid X1
          by_cases hlt : k < n
          · have b0 : (k : Int) < (n : Int) := by omega
            have b0' : decide ((k : Int) < (n : Int)) = true := by simpa using b0
            obtain ⟨m, hm⟩ : ∃ m, n - k = m + 1 := ⟨n - k - 1, by omega⟩
            have hr2 := hrd.out
            rw [hm, rdHashN, List.drop_drop] at hr2
            have bb := hB.out.size
            have hT32 : T + 32 ≤ s.size := by omega
            have w1' : (T : Int) + 32 ≤ (s.size : Int) := by omega
            have w2' : (T : Int) ≤ (T : Int) + 32 := by omega
            have w3' : ((T : Int) + 32).toNat = T + 32 := by omega
            have w4' : (0 : Int) ≤ (T : Int) + 32 := by omega
            have hcc := app_cell Tryd.underlying46 infoS rfl wr w.heap.size _ (svs l') (.string (s.extract T (T + 32))) rfl ho.out (by rw [svs_length]; omega) (by rw [svs_length]; omega) bb
            obtain ⟨v3, w3, hcc, o3, k3, _⟩ := hcc
            have O3 := hid o3
            have B3 := hid (below_new hB.out ho.out k3)
            have hgd := hid hr2
            have hTT := hid hT
            clear ho k3 o3 X1 hB hrd hr2 H hRe hRR E1 hT
            go_wp2_with (at_builtin; go_must (refine Lib.wpList_append_run _ rfl _ _ 46 46 rfl _ _ rfl rfl _ _ hcc ?_))
            refine ⟨⟨k + 1, T + 32, l' ++ [(s.data.toList.drop T).take 32], by omega, by go_num, by go_num, by have := hTT.out; omega, by rw [List.length_append, hl']; rfl, hid ?_, hid ?_, B3⟩, by simp [intOf]; omega⟩
            · have := O3.out
              rw [svs_append, sv_mid]
              exact this
            · rw [show n - (k + 1) = m from by omega]; exact hgd.out
          · obtain rfl : k = n := by omega
            have b0 : ¬ (k : Int) < (k : Int) := by omega
            have b0' : decide ((k : Int) < (k : Int)) = false := by simp
            have hr2 := hrd.out
            rw [Nat.sub_self, rdHashN] at hr2
            have hrr : rdHashes st.rest many = .good l' (s.data.toList.drop T) := hRe.out.trans hr2.symm
            have hg := X1.good (pf_hashes many) he hrr
            have hv : st.val [] (rdHashes st.rest many) = l' := by rw [hrr, val_good he]
            rw [show s.size - (s.data.toList.drop T).length = T from by rw [List.length_drop, data_length]; omega] at hg
            have G := hid hg
            have hv' := hid hv
            have hne := hid (ho.out.neb hbl)
            have hTT := hid hT
            clear hg hrr hrd hr2 hv X1 hT
            go_wp2_with (go_at_call 83; refine (ends_ok b _ _ _ _ _ hX.out.1).mono ?_; rintro e w2 ⟨rfl, hw2⟩; rw [hw2]; clear hw2 w2)
            go_ret
            refine ⟨_, rfl, ?_, G.out, (But.ofBelow hB.out).setCell 1 _⟩
            rw [hv'.out]
            exact ho.out.but (XRd.but1 _ b 1 _) hne.out
  · rw [val_bad he, step_bad he]
    have b0 : (st.err != 0) = true := by simpa using he
    have b1 : (st.err == 0) = false := by simpa using he
    clear h
    go_enter Tryd.func46, Tryd.ntmps46
    go_wp2
    go_ret
    exact ⟨_, rfl, Own.nil _ _, H.out, But.refl _ _⟩
end Go.Proofs.YtonmhimoglgbgaaDoor
