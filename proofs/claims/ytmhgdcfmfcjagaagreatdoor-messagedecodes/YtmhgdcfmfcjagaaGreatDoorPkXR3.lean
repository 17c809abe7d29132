import Derived.Test.YtmhgdcfmfcjagaaGreatDoorPkME13
import Derived.Test.YtmhgdcfmfcjagaaGreatDoorPkMT3
namespace Go.Proofs.YtmhgdcfmfcjagaaGreatDoor
open Go.RowKit Cod
theorem Own.neb {w : World} {base b : Nat} {v : Value} {cs : List Value} (h : Own w base v cs) (hb : b < base) : v.ownBlock ≠ some b := fun e => by
  have := h.ge b e
  omega
/-- where the document's list reading stands -/
def RiseAt (s : ByteArray) (n : Nat) (R : Rd (List Nat)) (w w' : World) (k : Nat) (to er lv la : Value) : Prop :=
  (∃ (L : Nat) (t la' : Int) (l' : List Nat) (r' : List UInt8), er = .int .i64 0 ∧ to = .int .i64 t ∧ la = .int .i64 la' ∧ la' + 1 = (L : Int) ∧ t = ((s.size - r'.length : Nat) : Int) ∧ L ≤ 4611686018427387905 ∧ l'.length = k ∧ r'.length + k ≤ s.size ∧ r' = s.data.toList.drop (s.size - r'.length) ∧ Own w' w.heap.size lv (nvs l') ∧ rdRiseN (n - k) L l' r' = R)
  ∨ ∃ (e : Nat) (t x : Int) (cs : List Value), 0 < e ∧ er = .int .i64 (e : Int) ∧ to = .int .i64 t ∧ la = .int .i64 x ∧ R = .bad e ∧ Own w' w.heap.size lv cs
set_option maxRecDepth 100000 in
set_option maxHeartbeats 3000000 in
theorem xRising_any (b : Nat) (s : ByteArray) (st : RS) (many : Int) (w : World) (h : XRd w b s st) :
    Calls Tryz.prog 85 #[.pointer (some ⟨b, 0, none⟩), .int .i64 many] w fun r w' => ∃ v, r = .returned v ∧ Own w' w.heap.size v (nvs (st.val [] (rdRising st.rest many))) ∧ XRd w' b s (st.step (rdRising st.rest many)) ∧ But b w w' := by
  obtain ⟨c0, c1, c2, f1, f2⟩ := err_cells h
  have H := hid h
  by_cases he : st.err = 0
  · have h3 := h.2.2.1
    have h4 := h.2.2.2
    have h2 := h.2.1
    have hl := h.len
    have hbl := h.lt
    rw [he] at c2
    have hN := xMany_any b s st many w h
    cases hR : rdMany st.rest many with
    | bad e =>
      have hz := nz_many _ _ e hR
      have hRR : rdRising st.rest many = .bad e := by rw [rdRising, hR]; rfl
      have hv : st.val [] (rdRising st.rest many) = [] := by rw [hRR, val_badx he]
      have z1 : ((e : Int) == 0) = false := by simp; omega
      rw [hR] at hN
      simp only [tupA] at hN
      rw [hv]
      clear h2 h hR hv
      go_enter Tryz.func85, Tryz.ntmps85
      go_wp2_with (go_at_call 101; fail)
      refine hN.mono ?_
      rintro x w1 ⟨rfl, hw1, hh1⟩
      have H1 := hid (H.out.below hw1)
      have B1 := hid hw1
      have G := hid (H1.out.bad he hRR)
      clear hw1 hh1 hN hRR
      go_wp2
      go_loopw [6, 7, 10] (fun to er i w' => to = .int .i64 0 ∧ er = .int .i64 (e : Int) ∧ i = .int .i64 0 ∧ w' = w1) (fun _ _ _ _ => 0)
      case atStart => exact ⟨rfl, rfl, rfl, rfl⟩
      case round =>
        obtain ⟨rfl, rfl, rfl, rfl⟩ := hrel
        go_wp2_with (go_at_call 102; refine (ends_bad b e _ _ _ _ _ hz H1.out.1).mono ?_; rintro e w1 ⟨rfl, hw1⟩; rw [hw1]; clear hw1 w1)
        go_ret
        exact ⟨_, rfl, Own.nil _ _, G.out, (But.ofBelow B1.out).setCell 2 _⟩
    | good n r =>
      obtain ⟨e1, e2⟩ := rest_of (pf_many many) (by rw [← h2]; exact hR) (by rw [data_length]; exact h3)
      rw [data_length] at e1 e2
      obtain ⟨hr1, hn62⟩ := many_len hR
      obtain ⟨R, hRR⟩ : ∃ R, Hid (rdRiseN n 0 [] r = R) := ⟨_, rfl⟩
      have hRe : Hid (rdRising st.rest many = R) := by
        show rdRising st.rest many = R
        rw [rdRising, hR]; exact hRR.out
      rw [hR] at hN
      simp only [tupA] at hN
      have hrl := hid hr1
      clear h2 h hR
      go_enter Tryz.func85, Tryz.ntmps85
      go_wp2_with (go_at_call 101; fail)
      refine hN.mono ?_
      rintro x w1 ⟨rfl, hw1, hh1⟩
      have B1 := hid hw1
      clear hw1 hh1 hN
      have I0 : Hid (RiseAt s n R w w1 0 (.int .i64 ((s.size - r.length : Nat) : Int)) (.int .i64 0) (.slice none 0 0) (.int .i64 (-1))) :=
        .inl ⟨0, _, -1, [], r, rfl, rfl, rfl, by omega, rfl, by omega, rfl, by have := hrl.out; omega, e1, Own.nil _ _, hRR.out⟩
      clear e1 e2 hr1
      go_wp2
      go_loopw [6, 7, 8, 9, 10] (fun to er lv la i w' => ∃ k : Nat, k ≤ n ∧ i = .int .i64 (k : Int) ∧ Hid (RiseAt s n R w w' k to er lv la) ∧ Hid (Below w.heap.size w w')) (fun _ _ _ _ i _ => n - (intOf i).toNat)
      case atStart => exact ⟨0, by omega, rfl, I0, B1⟩
      case round =>
        clear I0 B1
        obtain ⟨k, hk, rfl, hI, hB⟩ := hrel
        have X1 := H.out.below hB.out
        obtain ⟨d0, d1, d2, g1, g2⟩ := err_cells X1
        rcases hI.out with ⟨L, t, la', l', r', rfl, rfl, rfl, ela, et, hL, hl', hr', er', ho, hrd⟩ | ⟨e, t, x, cs, hz, rfl, rfl, rfl, hbad, ho⟩
        · have hX := hid X1
          by_cases hlt : k < n
          · have b0 : (k : Int) < (n : Int) := by omega
            have b0' : decide ((k : Int) < (n : Int)) = true := by simpa using b0
            obtain ⟨m, hm⟩ : ∃ m, n - k = m + 1 := ⟨n - k - 1, by omega⟩
            rw [hm, rdRiseN] at hrd
            have hNum := fun w => number_any s (s.size - r'.length) (by omega) (by omega) w
            rw [← er', ← et] at hNum
            have ho' := hid ho
            have bb := hB.out.size
            cases hq : rdNum r' with
            | bad e =>
              have hz := nz_num _ e hq
              have z1 : ((e : Int) == 0) = false := by simp; omega
              rw [hq, Rd.bind_bad] at hrd
              rw [hq] at hNum
              simp only [tupA] at hNum
              have hcc := app_cell Tryz.underlying22 infoI rfl wr w.heap.size _ (nvs l') (.int .i64 (L : Int)) rfl ho (by rw [nvs_length]; omega) (by rw [nvs_length]; omega) bb
              obtain ⟨v3, w3, hcc, o3, k3, _⟩ := hcc
              have O3 := hid o3
              have B3 := hid (below_new hB.out ho k3)
              have hbad := hid hrd
              clear hq ho k3 o3 X1 hI hB hrd er' et hm H hRe hRR
              go_wp2_with (first
                | (go_at_call 103; refine (hNum _).mono ?_; rintro x w2 ⟨rfl, hw2⟩; rw [hw2]; clear hw2 w2)
                | (at_builtin; go_must (refine Lib.wpList_append_run _ rfl _ _ 22 22 rfl _ _ rfl rfl _ _ hcc ?_)))
              exact ⟨⟨k + 1, by omega, by go_num, hid (.inr ⟨e, _, _, _, hz, rfl, rfl, rfl, hbad.out.symm, O3.out⟩), B3⟩, by simp [intOf]; omega⟩
            | good a r2 =>
              have hlen := num_len hq
              have ha62 := (num_back hq).2
              rw [top] at ha62
              obtain ⟨q1, q2⟩ := rest_of pf_num (l := s.data.toList) (a := s.size - r'.length) (by rw [← er']; exact hq) (by rw [data_length]; omega)
              rw [data_length] at q1
              rw [hq, Rd.bind_good] at hrd
              rw [hq] at hNum
              simp only [tupA] at hNum
              have b2 : (L : Int) ≤ 4611686018427387905 := by omega
              have b3 : (a : Int) ≤ 4611686018427387904 := by omega
              by_cases hc : top < L + a
              · rw [if_pos hc] at hrd
                have c3 : 4611686018427387903 - la' < (a : Int) := by rw [top] at hc; omega
                have c4 : decide (4611686018427387903 - la' < (a : Int)) = true := by simpa using c3
                obtain ⟨z, hzz⟩ : ∃ z, IntKind.i64.wrap ((L : Int) + (a : Int)) = z := ⟨_, rfl⟩
                have hcc := app_cell Tryz.underlying22 infoI rfl wr w.heap.size _ (nvs l') (.int .i64 z) rfl ho (by rw [nvs_length]; omega) (by rw [nvs_length]; omega) bb
                obtain ⟨v3, w3, hcc, o3, k3, _⟩ := hcc
                have O3 := hid o3
                have B3 := hid (below_new hB.out ho k3)
                have hbad := hid hrd
                clear hq ho k3 o3 X1 hI hB hrd er' et hm H hRe hRR q1 q2 hc
                go_wp2_with (first
                  | (go_at_call 103; refine (hNum _).mono ?_; rintro x w2 ⟨rfl, hw2⟩; rw [hw2]; clear hw2 w2)
                  | (at_builtin; go_must (refine Lib.wpList_append_run _ rfl _ _ 22 22 rfl _ _ rfl rfl _ _ hcc ?_)))
                exact ⟨⟨k + 1, by omega, by go_num, hid (.inr ⟨20, _, _, _, by omega, rfl, rfl, rfl, hbad.out.symm, O3.out⟩), B3⟩, by simp [intOf]; omega⟩
              · rw [if_neg hc] at hrd
                have c3 : ¬ 4611686018427387903 - la' < (a : Int) := by rw [top] at hc; omega
                have c4 : decide (4611686018427387903 - la' < (a : Int)) = false := by simpa using c3
                have c5 : (L : Int) + (a : Int) ≤ 4611686018427387904 := by rw [top] at hc; omega
                have hcc := app_cell Tryz.underlying22 infoI rfl wr w.heap.size _ (nvs l') (.int .i64 ((L : Int) + (a : Int))) rfl ho (by rw [nvs_length]; omega) (by rw [nvs_length]; omega) bb
                obtain ⟨v3, w3, hcc, o3, k3, _⟩ := hcc
                have O3 := hid o3
                have B3 := hid (below_new hB.out ho k3)
                have hgd := hid hrd
                have Q1 := hid q1
                clear hq ho k3 o3 X1 hI hB hrd er' et H hRe hRR q1 q2 hc
                go_wp2_with (first
                  | (go_at_call 103; refine (hNum _).mono ?_; rintro x w2 ⟨rfl, hw2⟩; rw [hw2]; clear hw2 w2)
                  | (at_builtin; go_must (refine Lib.wpList_append_run _ rfl _ _ 22 22 rfl _ _ rfl rfl _ _ hcc ?_)))
                refine ⟨⟨k + 1, by omega, by go_num, hid (.inl ⟨L + a + 1, _, _, l' ++ [L + a], r2, rfl, rfl, rfl, ?_, rfl, by omega, by rw [List.length_append, hl']; rfl, by omega, Q1.out, ?_, ?_⟩), B3⟩, by simp [intOf]; omega⟩
                · omega
                · have := O3.out
                  rw [nvs_append]
                  exact this
                · rw [show n - (k + 1) = m from by omega]; exact hgd.out
          · obtain rfl : k = n := by omega
            have b0 : ¬ (k : Int) < (k : Int) := by omega
            have b0' : decide ((k : Int) < (k : Int)) = false := by simp
            rw [Nat.sub_self, rdRiseN] at hrd
            have hrr : rdRising st.rest many = .good l' r' := hRe.out.trans hrd.symm
            have hg := X1.good (pf_rising many) he hrr
            have hv : st.val [] (rdRising st.rest many) = l' := by rw [hrr, val_good he]
            rw [← et] at hg
            have G := hid hg
            have O := hid ho
            have hv' := hid hv
            have hne := hid (ho.neb hbl)
            have B := hid hB.out
            clear hg hrr hrd hv X1 hI ho er' et
            go_wp2_with (go_at_call 102; refine (ends_ok b _ _ _ _ _ hX.out.1).mono ?_; rintro e w2 ⟨rfl, hw2⟩; rw [hw2]; clear hw2 w2)
            go_ret
            refine ⟨_, rfl, ?_, G.out, (But.ofBelow B.out).setCell 1 _⟩
            rw [hv'.out]
            exact O.out.but (XRd.but1 _ b 1 _) hne.out
        · have hX := hid X1
          have z1 : ((e : Int) == 0) = false := by simp; omega
          have hrr : rdRising st.rest many = .bad e := hRe.out.trans hbad
          have G := hid (X1.bad he hrr)
          have hv : st.val [] (rdRising st.rest many) = [] := by rw [hrr, val_badx he]
          have hv' := hid hv
          have B := hid hB.out
          clear hrr hv X1 hI ho hbad
          by_cases hlt : k < n
          · have b0 : (k : Int) < (n : Int) := by omega
            have b0' : decide ((k : Int) < (n : Int)) = true := by simpa using b0
            go_wp2_with (go_at_call 102; refine (ends_bad b e _ _ _ _ _ hz hX.out.1).mono ?_; rintro e w2 ⟨rfl, hw2⟩; rw [hw2]; clear hw2 w2)
            go_ret
            refine ⟨_, rfl, ?_, G.out, (But.ofBelow B.out).setCell 2 _⟩
            rw [hv'.out]
            exact Own.nil _ _
          · have b0 : ¬ (k : Int) < (n : Int) := by omega
            have b0' : decide ((k : Int) < (n : Int)) = false := by simpa using b0
            go_wp2_with (go_at_call 102; refine (ends_bad b e _ _ _ _ _ hz hX.out.1).mono ?_; rintro e w2 ⟨rfl, hw2⟩; rw [hw2]; clear hw2 w2)
            go_ret
            refine ⟨_, rfl, ?_, G.out, (But.ofBelow B.out).setCell 2 _⟩
            rw [hv'.out]
            exact Own.nil _ _
  · rw [val_bad he, step_bad he]
    have b0 : (st.err != 0) = true := by simpa using he
    have b1 : (st.err == 0) = false := by simpa using he
    clear h
    go_enter Tryz.func85, Tryz.ntmps85
    go_wp2
    go_ret
    exact ⟨_, rfl, Own.nil _ _, H.out, But.refl _ _⟩
end Go.Proofs.YtmhgdcfmfcjagaaGreatDoor

namespace Go.Proofs.YtmhgdcfmfcjagaaGreatDoor
open Go.RowKit Cod
/-- where the document's list reading stands -/
def TextsAt (s : ByteArray) (most : Int) (n : Nat) (R : Rd (List (List UInt8))) (w w' : World) (k : Nat) (to er lv : Value) : Prop :=
  (∃ (t : Int) (l' : List (List UInt8)) (r' : List UInt8), er = .int .i64 0 ∧ to = .int .i64 t ∧ t = ((s.size - r'.length : Nat) : Int) ∧ l'.length = k ∧ r'.length + k ≤ s.size ∧ r' = s.data.toList.drop (s.size - r'.length) ∧ Own w' w.heap.size lv (svs l') ∧ rdTextsN most (n - k) l' r' = R)
  ∨ ∃ (e : Nat) (t : Int) (cs : List Value), 0 < e ∧ er = .int .i64 (e : Int) ∧ to = .int .i64 t ∧ R = .bad e ∧ Own w' w.heap.size lv cs
set_option maxRecDepth 100000 in
set_option maxHeartbeats 3000000 in
theorem xTexts_any (b : Nat) (s : ByteArray) (st : RS) (many most : Int) (w : World) (h : XRd w b s st) :
    Calls Tryz.prog 83 #[.pointer (some ⟨b, 0, none⟩), .int .i64 many, .int .i64 most] w fun r w' => ∃ v, r = .returned v ∧ Own w' w.heap.size v (svs (st.val [] (rdTexts st.rest many most))) ∧ XRd w' b s (st.step (rdTexts st.rest many most)) ∧ But b w w' := by
  obtain ⟨c0, c1, c2, f1, f2⟩ := err_cells h
  have H := hid h
  by_cases he : st.err = 0
  · have h3 := h.2.2.1
    have h4 := h.2.2.2
    have h2 := h.2.1
    have hl := h.len
    have hbl := h.lt
    rw [he] at c2
    by_cases hmo : most < 0
    · have hRR : rdTexts st.rest many most = .bad 1 := by rw [rdTexts, if_pos hmo]
      have hv : st.val [] (rdTexts st.rest many most) = [] := by rw [hRR, val_badx he]
      have G := hid (H.out.bad he hRR)
      rw [hv]
      clear h2 h hRR hv
      go_enter Tryz.func83, Tryz.ntmps83
      go_wp2
      go_ret
      exact ⟨_, rfl, Own.nil _ _, G.out, (But.refl b w).setCell 2 _⟩
    · have hN := xMany_any b s st many w h
      cases hR : rdMany st.rest many with
      | bad e =>
        have hz := nz_many _ _ e hR
        have hRR : rdTexts st.rest many most = .bad e := by rw [rdTexts, if_neg hmo, hR]; rfl
        have hv : st.val [] (rdTexts st.rest many most) = [] := by rw [hRR, val_badx he]
        have z1 : ((e : Int) == 0) = false := by simp; omega
        rw [hR] at hN
        simp only [tupA] at hN
        rw [hv]
        clear h2 h hR hv
        go_enter Tryz.func83, Tryz.ntmps83
        go_wp2_with (go_at_call 101; fail)
        refine hN.mono ?_
        rintro x w1 ⟨rfl, hw1, hh1⟩
        have H1 := hid (H.out.below hw1)
        have B1 := hid hw1
        have G := hid (H1.out.bad he hRR)
        clear hw1 hh1 hN hRR
        go_wp2
        go_loopw [8, 9, 11] (fun to er i w' => to = .int .i64 0 ∧ er = .int .i64 (e : Int) ∧ i = .int .i64 0 ∧ w' = w1) (fun _ _ _ _ => 0)
        case atStart => exact ⟨rfl, rfl, rfl, rfl⟩
        case round =>
          obtain ⟨rfl, rfl, rfl, rfl⟩ := hrel
          go_wp2_with (go_at_call 102; refine (ends_bad b e _ _ _ _ _ hz H1.out.1).mono ?_; rintro e w1 ⟨rfl, hw1⟩; rw [hw1]; clear hw1 w1)
          go_ret
          exact ⟨_, rfl, Own.nil _ _, G.out, (But.ofBelow B1.out).setCell 2 _⟩
      | good n r =>
        obtain ⟨e1, e2⟩ := rest_of (pf_many many) (by rw [← h2]; exact hR) (by rw [data_length]; exact h3)
        rw [data_length] at e1 e2
        obtain ⟨hr1, hn62⟩ := many_len hR
        obtain ⟨R, hRR⟩ : ∃ R, Hid (rdTextsN most n [] r = R) := ⟨_, rfl⟩
        have hRe : Hid (rdTexts st.rest many most = R) := by
          show rdTexts st.rest many most = R
          rw [rdTexts, if_neg hmo, hR]; exact hRR.out
        rw [hR] at hN
        simp only [tupA] at hN
        have hrl := hid hr1
        clear h2 h hR
        go_enter Tryz.func83, Tryz.ntmps83
        go_wp2_with (go_at_call 101; fail)
        refine hN.mono ?_
        rintro x w1 ⟨rfl, hw1, hh1⟩
        have B1 := hid hw1
        clear hw1 hh1 hN
        have I0 : Hid (TextsAt s most n R w w1 0 (.int .i64 ((s.size - r.length : Nat) : Int)) (.int .i64 0) (.slice none 0 0)) :=
          .inl ⟨_, [], r, rfl, rfl, rfl, rfl, by have := hrl.out; omega, e1, Own.nil _ _, hRR.out⟩
        clear e1 e2 hr1
        go_wp2
        go_loopw [8, 9, 10, 11] (fun to er lv i w' => ∃ k : Nat, k ≤ n ∧ i = .int .i64 (k : Int) ∧ Hid (TextsAt s most n R w w' k to er lv) ∧ Hid (Below w.heap.size w w')) (fun _ _ _ i _ => n - (intOf i).toNat)
        case atStart => exact ⟨0, by omega, rfl, I0, B1⟩
        case round =>
          clear I0 B1
          obtain ⟨k, hk, rfl, hI, hB⟩ := hrel
          have X1 := H.out.below hB.out
          obtain ⟨d0, d1, d2, g1, g2⟩ := err_cells X1
          rcases hI.out with ⟨t, l', r', rfl, rfl, et, hl', hr', er', ho, hrd⟩ | ⟨e, t, cs, hz, rfl, rfl, hbad, ho⟩
          · have hX := hid X1
            by_cases hlt : k < n
            · have b0 : (k : Int) < (n : Int) := by omega
              have b0' : decide ((k : Int) < (n : Int)) = true := by simpa using b0
              obtain ⟨m, hm⟩ : ∃ m, n - k = m + 1 := ⟨n - k - 1, by omega⟩
              rw [hm, rdTextsN] at hrd
              have hNum := fun w => rtext_any s (s.size - r'.length) most (by omega) (by omega) (by omega) w
              rw [← er', ← et] at hNum
              have bb := hB.out.size
              cases hq : rdText r' most with
              | bad e =>
                have hz := nz_text _ _ e hq
                have z1 : ((e : Int) == 0) = false := by simp; omega
                rw [hq, Rd.bind_bad] at hrd
                rw [hq] at hNum
                simp only [tupT, svX] at hNum
                have hcc := app_cell Tryz.underlying23 infoS rfl wr w.heap.size _ (svs l') (.string ⟨([] : List UInt8).toArray⟩) rfl ho (by rw [svs_length]; omega) (by rw [svs_length]; omega) bb
                obtain ⟨v3, w3, hcc, o3, k3, _⟩ := hcc
                have O3 := hid o3
                have B3 := hid (below_new hB.out ho k3)
                have hbad := hid hrd
                clear hq ho k3 o3 X1 hI hB hrd er' et hm H hRe hRR
                go_wp2_with (first
                  | (go_at_call 100; refine (hNum _).mono ?_; rintro x w2 ⟨rfl, hw2⟩; rw [hw2]; clear hw2 w2)
                  | (at_builtin; go_must (refine Lib.wpList_append_run _ rfl _ _ 23 23 rfl _ _ rfl rfl _ _ hcc ?_)))
                exact ⟨⟨k + 1, by omega, by go_num, hid (.inr ⟨e, _, _, hz, rfl, rfl, hbad.out.symm, O3.out⟩), B3⟩, by simp [intOf]; omega⟩
              | good tx r2 =>
                have hlen := text_len hq
                obtain ⟨q1, q2⟩ := rest_of (pf_text most) (l := s.data.toList) (a := s.size - r'.length) (by rw [← er']; exact hq) (by rw [data_length]; omega)
                rw [data_length] at q1
                rw [hq, Rd.bind_good] at hrd
                rw [hq] at hNum
                simp only [tupT, svX] at hNum
                have hcc := app_cell Tryz.underlying23 infoS rfl wr w.heap.size _ (svs l') (.string ⟨tx.toArray⟩) rfl ho (by rw [svs_length]; omega) (by rw [svs_length]; omega) bb
                obtain ⟨v3, w3, hcc, o3, k3, _⟩ := hcc
                have O3 := hid o3
                have B3 := hid (below_new hB.out ho k3)
                have hgd := hid hrd
                have Q1 := hid q1
                clear hq ho k3 o3 X1 hI hB hrd er' et H hRe hRR q1 q2
                go_wp2_with (first
                  | (go_at_call 100; refine (hNum _).mono ?_; rintro x w2 ⟨rfl, hw2⟩; rw [hw2]; clear hw2 w2)
                  | (at_builtin; go_must (refine Lib.wpList_append_run _ rfl _ _ 23 23 rfl _ _ rfl rfl _ _ hcc ?_)))
                refine ⟨⟨k + 1, by omega, by go_num, hid (.inl ⟨_, l' ++ [tx], r2, rfl, rfl, rfl, by rw [List.length_append, hl']; rfl, by omega, Q1.out, ?_, ?_⟩), B3⟩, by simp [intOf]; omega⟩
                · have := O3.out
                  rw [svs_append]
                  exact this
                · rw [show n - (k + 1) = m from by omega]; exact hgd.out
            · obtain rfl : k = n := by omega
              have b0 : ¬ (k : Int) < (k : Int) := by omega
              have b0' : decide ((k : Int) < (k : Int)) = false := by simp
              rw [Nat.sub_self, rdTextsN] at hrd
              have hrr : rdTexts st.rest many most = .good l' r' := hRe.out.trans hrd.symm
              have hg := X1.good (pf_texts many most) he hrr
              have hv : st.val [] (rdTexts st.rest many most) = l' := by rw [hrr, val_good he]
              rw [← et] at hg
              have G := hid hg
              have O := hid ho
              have hv' := hid hv
              have hne := hid (ho.neb hbl)
              have B := hid hB.out
              clear hg hrr hrd hv X1 hI ho er' et
              go_wp2_with (go_at_call 102; refine (ends_ok b _ _ _ _ _ hX.out.1).mono ?_; rintro e w2 ⟨rfl, hw2⟩; rw [hw2]; clear hw2 w2)
              go_ret
              refine ⟨_, rfl, ?_, G.out, (But.ofBelow B.out).setCell 1 _⟩
              rw [hv'.out]
              exact O.out.but (XRd.but1 _ b 1 _) hne.out
          · have hX := hid X1
            have z1 : ((e : Int) == 0) = false := by simp; omega
            have hrr : rdTexts st.rest many most = .bad e := hRe.out.trans hbad
            have G := hid (X1.bad he hrr)
            have hv : st.val [] (rdTexts st.rest many most) = [] := by rw [hrr, val_badx he]
            have hv' := hid hv
            have B := hid hB.out
            clear hrr hv X1 hI ho hbad
            by_cases hlt : k < n
            · have b0 : (k : Int) < (n : Int) := by omega
              have b0' : decide ((k : Int) < (n : Int)) = true := by simpa using b0
              go_wp2_with (go_at_call 102; refine (ends_bad b e _ _ _ _ _ hz hX.out.1).mono ?_; rintro e w2 ⟨rfl, hw2⟩; rw [hw2]; clear hw2 w2)
              go_ret
              refine ⟨_, rfl, ?_, G.out, (But.ofBelow B.out).setCell 2 _⟩
              rw [hv'.out]
              exact Own.nil _ _
            · have b0 : ¬ (k : Int) < (n : Int) := by omega
              have b0' : decide ((k : Int) < (n : Int)) = false := by simpa using b0
              go_wp2_with (go_at_call 102; refine (ends_bad b e _ _ _ _ _ hz hX.out.1).mono ?_; rintro e w2 ⟨rfl, hw2⟩; rw [hw2]; clear hw2 w2)
              go_ret
              refine ⟨_, rfl, ?_, G.out, (But.ofBelow B.out).setCell 2 _⟩
              rw [hv'.out]
              exact Own.nil _ _
  · rw [val_bad he, step_bad he]
    have b0 : (st.err != 0) = true := by simpa using he
    have b1 : (st.err == 0) = false := by simpa using he
    clear h
    go_enter Tryz.func83, Tryz.ntmps83
    go_wp2
    go_ret
    exact ⟨_, rfl, Own.nil _ _, H.out, But.refl _ _⟩
end Go.Proofs.YtmhgdcfmfcjagaaGreatDoor

namespace Go.Proofs.YtmhgdcfmfcjagaaGreatDoor
open Go.RowKit Cod
set_option maxRecDepth 100000 in
set_option maxHeartbeats 3000000 in
theorem xHashes_any (b : Nat) (s : ByteArray) (st : RS) (many : Int) (w : World) (h : XRd w b s st) :
    Calls Tryz.prog 90 #[.pointer (some ⟨b, 0, none⟩), .int .i64 many] w fun r w' => ∃ v, r = .returned v ∧ Own w' w.heap.size v (svs (st.val [] (rdHashes st.rest many))) ∧ XRd w' b s (st.step (rdHashes st.rest many)) ∧ But b w w' := by
  obtain ⟨c0, c1, c2, f1, f2⟩ := err_cells h
  have H := hid h
  by_cases he : st.err = 0
  · have h3 := h.2.2.1
    have h4 := h.2.2.2
    have h2 := h.2.1
    have hl := h.len
    have hbl := h.lt
    rw [he] at c2
    have hN := xMany_any b s st many w h
    cases hR : rdMany st.rest many with
    | bad e =>
      have hz := nz_many _ _ e hR
      have hRR : rdHashes st.rest many = .bad e := by rw [rdHashes, hR]; rfl
      have hv : st.val [] (rdHashes st.rest many) = [] := by rw [hRR, val_badx he]
      have z1 : ((e : Int) == 0) = false := by simp; omega
      rw [hR] at hN
      simp only [tupA] at hN
      rw [hv]
      clear h2 h hR hv
      go_enter Tryz.func90, Tryz.ntmps90
      go_wp2_with (go_at_call 101; fail)
      refine hN.mono ?_
      rintro x w1 ⟨rfl, hw1, hh1⟩
      have H1 := hid (H.out.below hw1)
      have B1 := hid hw1
      have G := hid (H1.out.bad he hRR)
      clear hw1 hh1 hN hRR
      go_wp2
      go_loopw [6, 9] (fun to i w' => to = .int .i64 0 ∧ i = .int .i64 0 ∧ w' = w1) (fun _ _ _ => 0)
      case atStart => exact ⟨rfl, rfl, rfl⟩
      case round =>
        obtain ⟨rfl, rfl, rfl⟩ := hrel
        go_wp2_with (go_at_call 102; refine (ends_bad b e _ _ _ _ _ hz H1.out.1).mono ?_; rintro e w1 ⟨rfl, hw1⟩; rw [hw1]; clear hw1 w1)
        go_ret
        exact ⟨_, rfl, Own.nil _ _, G.out, (But.ofBelow B1.out).setCell 2 _⟩
    | good n r =>
      obtain ⟨e1, e2⟩ := rest_of (pf_many many) (by rw [← h2]; exact hR) (by rw [data_length]; exact h3)
      rw [data_length] at e1 e2
      obtain ⟨hr1, hn62⟩ := many_len hR
      rw [hR] at hN
      simp only [tupA] at hN
      obtain ⟨T0, hT0⟩ : ∃ T0, s.size - r.length = T0 := ⟨_, rfl⟩
      have hrT : r.length = s.size - T0 := by omega
      have hT1 : T0 ≤ s.size := by omega
      rw [hT0] at hN e1
      have x1 : IntKind.i64.wrap ((s.size : Int) - (T0 : Int)) = (s.size : Int) - (T0 : Int) := by rw [IntKind.wrap_i64]; omega
      by_cases hc : r.length / 32 < n
      · have hRR : rdHashes st.rest many = .bad 21 := by rw [rdHashes, hR, Rd.bind_good, if_pos hc]
        have hv : st.val [] (rdHashes st.rest many) = [] := by rw [hRR, val_badx he]
        rw [hv]
        have z1 : ((s.size : Int) - (T0 : Int)) / 32 < (n : Int) := by omega
        have z2 : decide (((s.size : Int) - (T0 : Int)) / 32 < (n : Int)) = true := by simpa using z1
        clear h2 h hR hv hc hT0 hrT e1 e2
        go_enter Tryz.func90, Tryz.ntmps90
        go_wp2_with (go_at_call 101; fail)
        refine hN.mono ?_
        rintro x w1 ⟨rfl, hw1, hh1⟩
        have H1 := hid (H.out.below hw1)
        have B1 := hid hw1
        have G := hid (H1.out.bad he hRR)
        obtain ⟨d0, d1, d2, g1, g2⟩ := err_cells H1.out
        clear hw1 hh1 hN hRR c0 c1 c2 f1 f2
        go_wp2
        go_loopw [6, 9] (fun to i w' => to = .int .i64 (T0 : Int) ∧ i = .int .i64 0 ∧ w' = w1) (fun _ _ _ => 0)
        case atStart => exact ⟨rfl, rfl, rfl⟩
        case round =>
          obtain ⟨rfl, rfl, rfl⟩ := hrel
          go_wp2_with (go_at_call 102; refine (ends_bad b 21 _ _ _ _ _ (by omega) H1.out.1).mono ?_; rintro e w1 ⟨rfl, hw1⟩; rw [hw1]; clear hw1 w1)
          go_ret
          exact ⟨_, rfl, Own.nil _ _, G.out, (But.ofBelow B1.out).setCell 2 _⟩
      · have hn32 : n * 32 ≤ r.length := by omega
        obtain ⟨R, hRR⟩ : ∃ R, Hid (rdHashN n [] r = R) := ⟨_, rfl⟩
        have hRe : Hid (rdHashes st.rest many = R) := by
          show rdHashes st.rest many = R
          rw [rdHashes, hR, Rd.bind_good, if_neg hc]; exact hRR.out
        have z1 : ¬ ((s.size : Int) - (T0 : Int)) / 32 < (n : Int) := by omega
        have z2 : decide (((s.size : Int) - (T0 : Int)) / 32 < (n : Int)) = false := by simpa using z1
        have hn33 : T0 + n * 32 ≤ s.size := by omega
        have E1 := hid e1
        clear h2 h hR hc hT0 e1 e2
        go_enter Tryz.func90, Tryz.ntmps90
        go_wp2_with (go_at_call 101; fail)
        refine hN.mono ?_
        rintro x w1 ⟨rfl, hw1, hh1⟩
        have B1 := hid hw1
        obtain ⟨d0, d1, d2, g1, g2⟩ := err_cells (H.out.below hw1)
        clear hw1 hh1 hN c0 c1 c2 f1 f2
        go_wp2
        go_loopw [6, 8, 9] (fun to lv i w' => ∃ (k T : Nat) (l' : List (List UInt8)), k ≤ n ∧ i = .int .i64 (k : Int) ∧ to = .int .i64 (T : Int) ∧ T = T0 + k * 32 ∧ l'.length = k ∧ Hid (Own w' w.heap.size lv (svs l')) ∧ Hid (rdHashN (n - k) l' (s.data.toList.drop T) = R) ∧ Hid (Below w.heap.size w w')) (fun _ _ i _ => n - (intOf i).toNat)
        case atStart => exact ⟨0, T0, [], by omega, rfl, rfl, by omega, rfl, Own.nil _ _, hid (by rw [← E1.out]; exact hRR.out), B1⟩
        case round =>
          clear B1 d0 d1 d2 g1 g2
          obtain ⟨k, T, l', hk, rfl, rfl, hT, hl', ho, hrd, hB⟩ := hrel
          have X1 := H.out.below hB.out
          obtain ⟨d0, d1, d2, g1, g2⟩ := err_cells X1
          have hX := hid X1
          by_cases hlt : k < n
          · have b0 : (k : Int) < (n : Int) := by omega
            have b0' : decide ((k : Int) < (n : Int)) = true := by simpa using b0
            obtain ⟨m, hm⟩ : ∃ m, n - k = m + 1 := ⟨n - k - 1, by omega⟩
            have hr2 := hrd.out
            rw [hm, rdHashN, List.drop_drop] at hr2
            have bb := hB.out.size
            have hT32 : T + 32 ≤ s.size := by omega
            have w1' : (T : Int) + 32 ≤ (s.size : Int) := by omega
            have w2' : (T : Int) ≤ (T : Int) + 32 := by omega
            have w3' : ((T : Int) + 32).toNat = T + 32 := by omega
            have w4' : (0 : Int) ≤ (T : Int) + 32 := by omega
            have hcc := app_cell Tryz.underlying23 infoS rfl wr w.heap.size _ (svs l') (.string (s.extract T (T + 32))) rfl ho.out (by rw [svs_length]; omega) (by rw [svs_length]; omega) bb
            obtain ⟨v3, w3, hcc, o3, k3, _⟩ := hcc
            have O3 := hid o3
            have B3 := hid (below_new hB.out ho.out k3)
            have hgd := hid hr2
            have hTT := hid hT
            clear ho k3 o3 X1 hB hrd hr2 H hRe hRR E1 hT
            go_wp2_with (at_builtin; go_must (refine Lib.wpList_append_run _ rfl _ _ 23 23 rfl _ _ rfl rfl _ _ hcc ?_))
            refine ⟨⟨k + 1, T + 32, l' ++ [(s.data.toList.drop T).take 32], by omega, by go_num, by go_num, by have := hTT.out; omega, by rw [List.length_append, hl']; rfl, hid ?_, hid ?_, B3⟩, by simp [intOf]; omega⟩
            · have := O3.out
              rw [svs_append, sv_mid]
              exact this
            · rw [show n - (k + 1) = m from by omega]; exact hgd.out
          · obtain rfl : k = n := by omega
            have b0 : ¬ (k : Int) < (k : Int) := by omega
            have b0' : decide ((k : Int) < (k : Int)) = false := by simp
            have hr2 := hrd.out
            rw [Nat.sub_self, rdHashN] at hr2
            have hrr : rdHashes st.rest many = .good l' (s.data.toList.drop T) := hRe.out.trans hr2.symm
            have hg := X1.good (pf_hashes many) he hrr
            have hv : st.val [] (rdHashes st.rest many) = l' := by rw [hrr, val_good he]
            rw [show s.size - (s.data.toList.drop T).length = T from by rw [List.length_drop, data_length]; omega] at hg
            have G := hid hg
            have hv' := hid hv
            have hne := hid (ho.out.neb hbl)
            have hTT := hid hT
            clear hg hrr hrd hr2 hv X1 hT
            go_wp2_with (go_at_call 102; refine (ends_ok b _ _ _ _ _ hX.out.1).mono ?_; rintro e w2 ⟨rfl, hw2⟩; rw [hw2]; clear hw2 w2)
            go_ret
            refine ⟨_, rfl, ?_, G.out, (But.ofBelow hB.out).setCell 1 _⟩
            rw [hv'.out]
            exact ho.out.but (XRd.but1 _ b 1 _) hne.out
  · rw [val_bad he, step_bad he]
    have b0 : (st.err != 0) = true := by simpa using he
    have b1 : (st.err == 0) = false := by simpa using he
    clear h
    go_enter Tryz.func90, Tryz.ntmps90
    go_wp2
    go_ret
    exact ⟨_, rfl, Own.nil _ _, H.out, But.refl _ _⟩
end Go.Proofs.YtmhgdcfmfcjagaaGreatDoor

namespace Go.Proofs.YtmhgdcfmfcjagaaGreatDoor
open Go.RowKit Cod
namespace Msg

/-- what the document's take makes of a Reader: a field -/
abbrev DS := Ask × RS
def dF : Fq → DS → DS
  | .a, p => (⟨p.1.kind, ((p.2.val 0 (rdNum p.2.rest) : Nat) : Int), p.1.b, p.1.size, p.1.list, p.1.ent, p.1.n⟩, p.2.step (rdNum p.2.rest))
  | .b, p => (⟨p.1.kind, p.1.a, ((p.2.val 0 (rdNum p.2.rest) : Nat) : Int), p.1.size, p.1.list, p.1.ent, p.1.n⟩, p.2.step (rdNum p.2.rest))
  | .size, p => (⟨p.1.kind, p.1.a, p.1.b, ((p.2.val 0 (rdNum p.2.rest) : Nat) : Int), p.1.list, p.1.ent, p.1.n⟩, p.2.step (rdNum p.2.rest))
  | .indices, p => (⟨p.1.kind, p.1.a, p.1.b, p.1.size, ints (p.2.val [] (rdRising p.2.rest 256)), p.1.ent, p.1.n⟩, p.2.step (rdRising p.2.rest 256))
  | .heads, p => (⟨p.1.kind, p.1.a, p.1.b, p.1.size, ints (p.2.val [] (rdRising p.2.rest 64)), p.1.ent, p.1.n⟩, p.2.step (rdRising p.2.rest 64))
  | .entries, p => (⟨p.1.kind, p.1.a, p.1.b, p.1.size, p.1.list, p.2.val [] (rdTexts p.2.rest 32 4096), p.1.n⟩, p.2.step (rdTexts p.2.rest 32 4096))
  | .asks, p => p
def dFs (fs : List Fq) (p : DS) : DS := fs.foldl (fun p g => dF g p) p
theorem dFs_snoc (fs : List Fq) (k : Nat) (hk : k < fs.length) (p : DS) : dFs (fs.take (k + 1)) p = dF fs[k] (dFs (fs.take k) p) := by
  rw [dFs, List.take_add_one, List.getElem?_eq_getElem hk, List.foldl_append]; rfl
/-- a request as the document's take fills it: block d, the Reader in b -/
structure Dr (w : World) (B b d : Nat) (s : ByteArray) (p : DS) (vl ve va : Value) : Prop where
  rd : XRd w b s p.2
  row : w.heap[d]? = some (.cells #[.int .i64 p.1.kind, .int .i64 p.1.a, .int .i64 p.1.b, .int .i64 p.1.size, vl, ve, va] 26 (0, 0))
  db : d ≠ b
  hb : b < B
  hd : d < B
  s1 : SlcI w vl p.1.list
  n1 : Nw B w.heap.size vl
  s2 : Slc w ve p.1.ent
  n2 : Nw B w.heap.size ve
def DPo (w : World) (B b d : Nat) (s : ByteArray) (p : DS) (va : Value) (w' : World) : Prop := ∃ vl ve, Dr w' B b d s p vl ve va ∧ Keep (fun k => k = b ∨ k = d) w w'
theorem Dr.lt {w : World} {B b d : Nat} {s : ByteArray} {p : DS} {vl ve va : Value} (h : Dr w B b d s p vl ve va) : d < w.heap.size := lt_of_heap h.row
theorem Dr.row2 {w w2 : World} {B b d : Nat} {s : ByteArray} {p : DS} {vl ve va : Value} (h : Dr w B b d s p vl ve va) (hk : But b w w2) : w2.heap[d]? = some (.cells #[.int .i64 p.1.kind, .int .i64 p.1.a, .int .i64 p.1.b, .int .i64 p.1.size, vl, ve, va] 26 (0, 0)) :=
  ((Keep.ofBut hk rfl : Keep (fun k => k = b) w w2).block d h.lt h.db).trans h.row
/-- a cell of it is set, the Reader has read -/
theorem Dr.put {w w2 : World} {B b d : Nat} {s : ByteArray} {p p' : DS} {vl ve va vl' ve' : Value} (h : Dr w B b d s p vl ve va) (hk : But b w w2) (hr : XRd w2 b s p'.2) (o : Nat) (u : Value)
    (ha : (#[Value.int .i64 p.1.kind, .int .i64 p.1.a, .int .i64 p.1.b, .int .i64 p.1.size, vl, ve, va] : Array Value).setIfInBounds o u = #[.int .i64 p'.1.kind, .int .i64 p'.1.a, .int .i64 p'.1.b, .int .i64 p'.1.size, vl', ve', va])
    (h1 : SlcI w2 vl' p'.1.list ∧ Nw B w2.heap.size vl') (h2 : Slc w2 ve' p'.1.ent ∧ Nw B w2.heap.size ve') : DPo w B b d s p' va (w2.setCell ⟨d, o, none⟩ u) := by
  have k0 : Keep (fun k => k = b) w w2 := Keep.ofBut hk rfl
  have k2 : Keep (fun k => k = d) w2 (w2.setCell ⟨d, o, none⟩ u) := Keep.ofBut ((But.refl d w2).setCell o u) rfl
  have hS : ∀ k, B ≤ k → k < w2.heap.size → ¬ k = d := fun k k1 _ e => by have := h.hd; omega
  refine ⟨vl', ve', ⟨hr.keep k2 (fun e => h.db e.symm), row_set o u (h.row2 hk) ha, h.db, h.hb, h.hd, h1.2.slcI h1.1 k2 hS, h1.2.mono (Nat.le_refl _) k2.size, h2.2.slc h2.1 k2 hS, h2.2.mono (Nat.le_refl _) k2.size⟩, ?_⟩
  exact (k0.mono (T := fun k => k = b ∨ k = d) fun _ _ e => .inl e).trans k2 (fun _ _ e => .inr e)
theorem Dr.o1 {w w2 : World} {B b d : Nat} {s : ByteArray} {p : DS} {vl ve va : Value} (h : Dr w B b d s p vl ve va) (hk : But b w w2) : SlcI w2 vl p.1.list ∧ Nw B w2.heap.size vl := by
  have k0 : Keep (fun k => k = b) w w2 := Keep.ofBut hk rfl
  exact ⟨h.n1.slcI h.s1 k0 (fun k k1 _ e => by have := h.hb; omega), h.n1.mono (Nat.le_refl _) k0.size⟩
theorem Dr.o2 {w w2 : World} {B b d : Nat} {s : ByteArray} {p : DS} {vl ve va : Value} (h : Dr w B b d s p vl ve va) (hk : But b w w2) : Slc w2 ve p.1.ent ∧ Nw B w2.heap.size ve := by
  have k0 : Keep (fun k => k = b) w w2 := Keep.ofBut hk rfl
  exact ⟨h.n2.slc h.s2 k0 (fun k k1 _ e => by have := h.hb; omega), h.n2.mono (Nat.le_refl _) k0.size⟩
theorem DPo.step {w w1 w2 : World} {B b d : Nat} {s : ByteArray} {p : DS} {va : Value} (k : Keep (fun k => k = b ∨ k = d) w w1) (h : DPo w1 B b d s p va w2) : DPo w B b d s p va w2 := by
  obtain ⟨vl, ve, h1, h2⟩ := h
  exact ⟨vl, ve, h1, k.trans h2 (fun _ _ e => e)⟩
end Msg
end Go.Proofs.YtmhgdcfmfcjagaaGreatDoor
