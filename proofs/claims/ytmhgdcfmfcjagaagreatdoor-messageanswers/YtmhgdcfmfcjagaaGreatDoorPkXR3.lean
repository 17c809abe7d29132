import Derived.Test.YtmhgdcfmfcjagaaGreatDoorPkMN1
import Derived.Test.YtmhgdcfmfcjagaaGreatDoorPkYW2
import Derived.Test.YtmhgdcfmfcjagaaGreatDoorPkMW10
import Derived.Test.YtmhgdcfmfcjagaaGreatDoorPkG4N
import Derived.Test.YtmhgdcfmfcjagaaGreatDoorPkP1
import Derived.Test.YtmhgdcfmfcjagaaGreatDoorPkMT3
namespace Go.Proofs.YtmhgdcfmfcjagaaGreatDoor
open Go.RowKit Cod
theorem Own.neb {w : World} {base b : Nat} {v : Value} {cs : List Value} (h : Own w base v cs) (hb : b < base) : v.ownBlock ≠ some b := fun e => by
  have := h.ge b e
  omega
end Go.Proofs.YtmhgdcfmfcjagaaGreatDoor

namespace Go.Proofs.YtmhgdcfmfcjagaaGreatDoor
open Go.RowKit Cod
def TextsAt (s : ByteArray) (most : Int) (n : Nat) (R : Rd (List (List UInt8))) (w w' : World) (k : Nat) (tz er lv : Value) : Prop :=
  (∃ (t : Int) (l' : List (List UInt8)) (r' : List UInt8), er = .int .i64 0 ∧ tz = .int .i64 t ∧ t = ((s.size - r'.length : Nat) : Int) ∧ l'.length = k ∧ r'.length + k ≤ s.size ∧ r' = s.data.toList.drop (s.size - r'.length) ∧ Own w' w.heap.size lv (svs l') ∧ rdTextsN most (n - k) l' r' = R)
  ∨ ∃ (e : Nat) (t : Int) (cs : List Value), 0 < e ∧ er = .int .i64 (e : Int) ∧ tz = .int .i64 t ∧ R = .bad e ∧ Own w' w.heap.size lv cs
set_option maxRecDepth 100000 in
set_option maxHeartbeats 3000000 in
theorem xTexts_any (b : Nat) (s : ByteArray) (st : RS) (many most : Int) (w : World) (h : XRd w b s st) :
    Calls Tryz.prog 83 #[.pointer (some ⟨b, 0, none⟩), .int .i64 many, .int .i64 most] w fun r w' => ∃ v, r = .returned v ∧ Own w' w.heap.size v (svs (st.val [] (rdTexts st.rest many most))) ∧ XRd w' b s (st.step (rdTexts st.rest many most)) ∧ But b w w' := by
  obtain ⟨c0, c1, c2, f1, f2⟩ := err_cells h
  have H := hid h
  by_cases he : st.err = 0
  · have h3 := h.2.2.1
    have h4 := h.2.2.2
    have h2 := h.2.1
    have hl := h.len
    have hbl := h.lt
    rw [he] at c2
    by_cases hmo : most < 0
    · have hRR : rdTexts st.rest many most = .bad 1 := by rw [rdTexts, if_pos hmo]
      have hv : st.val [] (rdTexts st.rest many most) = [] := by rw [hRR, val_badx he]
      have G := hid (H.out.bad he hRR)
      rw [hv]
      clear h2 h hRR hv
      go_enter Tryz.func83, Tryz.ntmps83
      go_wp2
      go_ret
      exact ⟨_, rfl, Own.nil _ _, G.out, (But.refl b w).setCell 2 _⟩
    · have hN := xMany_any b s st many w h
      cases hR : rdMany st.rest many with
      | bad e =>
        have hz := nz_many _ _ e hR
        have hRR : rdTexts st.rest many most = .bad e := by rw [rdTexts, if_neg hmo, hR]; rfl
        have hv : st.val [] (rdTexts st.rest many most) = [] := by rw [hRR, val_badx he]
        have z1 : ((e : Int) == 0) = false := by simp; omega
        rw [hR] at hN
        simp only [tupA] at hN
        rw [hv]
        clear h2 h hR hv
        go_enter Tryz.func83, Tryz.ntmps83
        go_wp2_with (go_at_call 101; fail)
        refine hN.mono ?_
        rintro x w1 ⟨rfl, hw1, hh1⟩
        have H1 := hid (H.out.below hw1)
        have B1 := hid hw1
        have G := hid (H1.out.bad he hRR)
        clear hw1 hh1 hN hRR
        go_wp2
        go_loopw [8, 9, 11] (fun tz er i w' => tz = .int .i64 0 ∧ er = .int .i64 (e : Int) ∧ i = .int .i64 0 ∧ w' = w1) (fun _ _ _ _ => 0)
        case atStart => exact ⟨rfl, rfl, rfl, rfl⟩
        case round =>
          obtain ⟨rfl, rfl, rfl, rfl⟩ := hrel
          go_wp2_with (go_at_call 102; refine (ends_bad b e _ _ _ _ _ hz H1.out.1).mono ?_; rintro e w1 ⟨rfl, hw1⟩; rw [hw1]; clear hw1 w1)
          go_ret
          exact ⟨_, rfl, Own.nil _ _, G.out, (But.ofBelow B1.out).setCell 2 _⟩
      | good n r =>
        obtain ⟨e1, e2⟩ := rest_of (pf_many many) (by rw [← h2]; exact hR) (by rw [data_length]; exact h3)
        rw [data_length] at e1 e2
        obtain ⟨hr1, hn62⟩ := many_len hR
        obtain ⟨R, hRR⟩ : ∃ R, Hid (rdTextsN most n [] r = R) := ⟨_, rfl⟩
        have hRe : Hid (rdTexts st.rest many most = R) := by
          show rdTexts st.rest many most = R
          rw [rdTexts, if_neg hmo, hR]; exact hRR.out
        rw [hR] at hN
        simp only [tupA] at hN
        have hrl := hid hr1
        clear h2 h hR
        go_enter Tryz.func83, Tryz.ntmps83
        go_wp2_with (go_at_call 101; fail)
        refine hN.mono ?_
        rintro x w1 ⟨rfl, hw1, hh1⟩
        have B1 := hid hw1
        clear hw1 hh1 hN
        have I0 : Hid (TextsAt s most n R w w1 0 (.int .i64 ((s.size - r.length : Nat) : Int)) (.int .i64 0) (.slice none 0 0)) :=
          .inl ⟨_, [], r, rfl, rfl, rfl, rfl, by have := hrl.out; omega, e1, Own.nil _ _, hRR.out⟩
        clear e1 e2 hr1
        go_wp2
        go_loopw [8, 9, 10, 11] (fun tz er lv i w' => ∃ k : Nat, k ≤ n ∧ i = .int .i64 (k : Int) ∧ Hid (TextsAt s most n R w w' k tz er lv) ∧ Hid (Below w.heap.size w w')) (fun _ _ _ i _ => n - (intOf i).toNat)
        case atStart => exact ⟨0, by omega, rfl, I0, B1⟩
        case round =>
          clear I0 B1
          obtain ⟨k, hk, rfl, hI, hB⟩ := hrel
          have X1 := H.out.below hB.out
          obtain ⟨d0, d1, d2, g1, g2⟩ := err_cells X1
          rcases hI.out with ⟨t, l', r', rfl, rfl, et, hl', hr', er', ho, hrd⟩ | ⟨e, t, cs, hz, rfl, rfl, hbad, ho⟩
          · have hX := hid X1
            by_cases hlt : k < n
            · have b0 : (k : Int) < (n : Int) := by omega
              have b0' : decide ((k : Int) < (n : Int)) = true := by simpa using b0
              obtain ⟨m, hm⟩ : ∃ m, n - k = m + 1 := ⟨n - k - 1, by omega⟩
              rw [hm, rdTextsN] at hrd
              have hNum := fun w => rtext_any s (s.size - r'.length) most (by omega) (by omega) (by omega) w
              rw [← er', ← et] at hNum
              have bb := hB.out.size
              cases hq : rdText r' most with
              | bad e =>
                have hz := nz_text _ _ e hq
                have z1 : ((e : Int) == 0) = false := by simp; omega
                rw [hq, Rd.bind_bad] at hrd
                rw [hq] at hNum
                simp only [tupT, svX] at hNum
                have hcc := app_cell Tryz.underlying23 infoS rfl wr w.heap.size _ (svs l') (.string ⟨([] : List UInt8).toArray⟩) rfl ho (by rw [svs_length]; omega) (by rw [svs_length]; omega) bb
                obtain ⟨v3, w3, hcc, o3, k3, _⟩ := hcc
                have O3 := hid o3
                have B3 := hid (below_new hB.out ho k3)
                have hbad := hid hrd
                clear hq ho k3 o3 X1 hI hB hrd er' et hm H hRe hRR
                go_wp2_with (first
                  | (go_at_call 100; refine (hNum _).mono ?_; rintro x w2 ⟨rfl, hw2⟩; rw [hw2]; clear hw2 w2)
                  | (at_builtin; go_must (refine Lib.wpList_append_run _ rfl _ _ 23 23 rfl _ _ rfl rfl _ _ hcc ?_)))
                exact ⟨⟨k + 1, by omega, by go_num, hid (.inr ⟨e, _, _, hz, rfl, rfl, hbad.out.symm, O3.out⟩), B3⟩, by simp [intOf]; omega⟩
              | good tx r2 =>
                have hlen := text_len hq
                obtain ⟨q1, q2⟩ := rest_of (pf_text most) (l := s.data.toList) (a := s.size - r'.length) (by rw [← er']; exact hq) (by rw [data_length]; omega)
                rw [data_length] at q1
                rw [hq, Rd.bind_good] at hrd
                rw [hq] at hNum
                simp only [tupT, svX] at hNum
                have hcc := app_cell Tryz.underlying23 infoS rfl wr w.heap.size _ (svs l') (.string ⟨tx.toArray⟩) rfl ho (by rw [svs_length]; omega) (by rw [svs_length]; omega) bb
                obtain ⟨v3, w3, hcc, o3, k3, _⟩ := hcc
                have O3 := hid o3
                have B3 := hid (below_new hB.out ho k3)
                have hgd := hid hrd
                have Q1 := hid q1
                clear hq ho k3 o3 X1 hI hB hrd er' et H hRe hRR q1 q2
                go_wp2_with (first
                  | (go_at_call 100; refine (hNum _).mono ?_; rintro x w2 ⟨rfl, hw2⟩; rw [hw2]; clear hw2 w2)
                  | (at_builtin; go_must (refine Lib.wpList_append_run _ rfl _ _ 23 23 rfl _ _ rfl rfl _ _ hcc ?_)))
                refine ⟨⟨k + 1, by omega, by go_num, hid (.inl ⟨_, l' ++ [tx], r2, rfl, rfl, rfl, by rw [List.length_append, hl']; rfl, by omega, Q1.out, ?_, ?_⟩), B3⟩, by simp [intOf]; omega⟩
                · have := O3.out
                  rw [svs_append]
                  exact this
                · rw [show n - (k + 1) = m from by omega]; exact hgd.out
            · obtain rfl : k = n := by omega
              have b0 : ¬ (k : Int) < (k : Int) := by omega
              have b0' : decide ((k : Int) < (k : Int)) = false := by simp
              rw [Nat.sub_self, rdTextsN] at hrd
              have hrr : rdTexts st.rest many most = .good l' r' := hRe.out.trans hrd.symm
              have hg := X1.good (pf_texts many most) he hrr
              have hv : st.val [] (rdTexts st.rest many most) = l' := by rw [hrr, val_good he]
              rw [← et] at hg
              have G := hid hg
              have O := hid ho
              have hv' := hid hv
              have hne := hid (ho.neb hbl)
              have B := hid hB.out
              clear hg hrr hrd hv X1 hI ho er' et
              go_wp2_with (go_at_call 102; refine (ends_ok b _ _ _ _ _ hX.out.1).mono ?_; rintro e w2 ⟨rfl, hw2⟩; rw [hw2]; clear hw2 w2)
              go_ret
              refine ⟨_, rfl, ?_, G.out, (But.ofBelow B.out).setCell 1 _⟩
              rw [hv'.out]
              exact O.out.but (XRd.but1 _ b 1 _) hne.out
          · have hX := hid X1
            have z1 : ((e : Int) == 0) = false := by simp; omega
            have hrr : rdTexts st.rest many most = .bad e := hRe.out.trans hbad
            have G := hid (X1.bad he hrr)
            have hv : st.val [] (rdTexts st.rest many most) = [] := by rw [hrr, val_badx he]
            have hv' := hid hv
            have B := hid hB.out
            clear hrr hv X1 hI ho hbad
            by_cases hlt : k < n
            · have b0 : (k : Int) < (n : Int) := by omega
              have b0' : decide ((k : Int) < (n : Int)) = true := by simpa using b0
              go_wp2_with (go_at_call 102; refine (ends_bad b e _ _ _ _ _ hz hX.out.1).mono ?_; rintro e w2 ⟨rfl, hw2⟩; rw [hw2]; clear hw2 w2)
              go_ret
              refine ⟨_, rfl, ?_, G.out, (But.ofBelow B.out).setCell 2 _⟩
              rw [hv'.out]
              exact Own.nil _ _
            · have b0 : ¬ (k : Int) < (n : Int) := by omega
              have b0' : decide ((k : Int) < (n : Int)) = false := by simpa using b0
              go_wp2_with (go_at_call 102; refine (ends_bad b e _ _ _ _ _ hz hX.out.1).mono ?_; rintro e w2 ⟨rfl, hw2⟩; rw [hw2]; clear hw2 w2)
              go_ret
              refine ⟨_, rfl, ?_, G.out, (But.ofBelow B.out).setCell 2 _⟩
              rw [hv'.out]
              exact Own.nil _ _
  · rw [val_bad he, step_bad he]
    have b0 : (st.err != 0) = true := by simpa using he
    have b1 : (st.err == 0) = false := by simpa using he
    clear h
    go_enter Tryz.func83, Tryz.ntmps83
    go_wp2
    go_ret
    exact ⟨_, rfl, Own.nil _ _, H.out, But.refl _ _⟩
end Go.Proofs.YtmhgdcfmfcjagaaGreatDoor

namespace Go.Proofs.YtmhgdcfmfcjagaaGreatDoor
open Go.RowKit Cod
set_option maxRecDepth 100000 in
set_option maxHeartbeats 3000000 in
theorem xHashes_any (b : Nat) (s : ByteArray) (st : RS) (many : Int) (w : World) (h : XRd w b s st) :
    Calls Tryz.prog 90 #[.pointer (some ⟨b, 0, none⟩), .int .i64 many] w fun r w' => ∃ v, r = .returned v ∧ Own w' w.heap.size v (svs (st.val [] (rdHashes st.rest many))) ∧ XRd w' b s (st.step (rdHashes st.rest many)) ∧ But b w w' := by
  obtain ⟨c0, c1, c2, f1, f2⟩ := err_cells h
  have H := hid h
  by_cases he : st.err = 0
  · have h3 := h.2.2.1
    have h4 := h.2.2.2
    have h2 := h.2.1
    have hl := h.len
    have hbl := h.lt
    rw [he] at c2
    have hN := xMany_any b s st many w h
    cases hR : rdMany st.rest many with
    | bad e =>
      have hz := nz_many _ _ e hR
      have hRR : rdHashes st.rest many = .bad e := by rw [rdHashes, hR]; rfl
      have hv : st.val [] (rdHashes st.rest many) = [] := by rw [hRR, val_badx he]
      have z1 : ((e : Int) == 0) = false := by simp; omega
      rw [hR] at hN
      simp only [tupA] at hN
      rw [hv]
      clear h2 h hR hv
      go_enter Tryz.func90, Tryz.ntmps90
      go_wp2_with (go_at_call 101; fail)
      refine hN.mono ?_
      rintro x w1 ⟨rfl, hw1, hh1⟩
      have H1 := hid (H.out.below hw1)
      have B1 := hid hw1
      have G := hid (H1.out.bad he hRR)
      clear hw1 hh1 hN hRR
      go_wp2
      go_loopw [6, 9] (fun tz i w' => tz = .int .i64 0 ∧ i = .int .i64 0 ∧ w' = w1) (fun _ _ _ => 0)
      case atStart => exact ⟨rfl, rfl, rfl⟩
      case round =>
        obtain ⟨rfl, rfl, rfl⟩ := hrel
        go_wp2_with (go_at_call 102; refine (ends_bad b e _ _ _ _ _ hz H1.out.1).mono ?_; rintro e w1 ⟨rfl, hw1⟩; rw [hw1]; clear hw1 w1)
        go_ret
        exact ⟨_, rfl, Own.nil _ _, G.out, (But.ofBelow B1.out).setCell 2 _⟩
    | good n r =>
      obtain ⟨e1, e2⟩ := rest_of (pf_many many) (by rw [← h2]; exact hR) (by rw [data_length]; exact h3)
      rw [data_length] at e1 e2
      obtain ⟨hr1, hn62⟩ := many_len hR
      rw [hR] at hN
      simp only [tupA] at hN
      obtain ⟨T0, hT0⟩ : ∃ T0, s.size - r.length = T0 := ⟨_, rfl⟩
      have hrT : r.length = s.size - T0 := by omega
      have hT1 : T0 ≤ s.size := by omega
      rw [hT0] at hN e1
      have x1 : IntKind.i64.wrap ((s.size : Int) - (T0 : Int)) = (s.size : Int) - (T0 : Int) := by rw [IntKind.wrap_i64]; omega
      by_cases hc : r.length / 32 < n
      · have hRR : rdHashes st.rest many = .bad 21 := by rw [rdHashes, hR, Rd.bind_good, if_pos hc]
        have hv : st.val [] (rdHashes st.rest many) = [] := by rw [hRR, val_badx he]
        rw [hv]
        have z1 : ((s.size : Int) - (T0 : Int)) / 32 < (n : Int) := by omega
        have z2 : decide (((s.size : Int) - (T0 : Int)) / 32 < (n : Int)) = true := by simpa using z1
        clear h2 h hR hv hc hT0 hrT e1 e2
        go_enter Tryz.func90, Tryz.ntmps90
        go_wp2_with (go_at_call 101; fail)
        refine hN.mono ?_
        rintro x w1 ⟨rfl, hw1, hh1⟩
        have H1 := hid (H.out.below hw1)
        have B1 := hid hw1
        have G := hid (H1.out.bad he hRR)
        obtain ⟨d0, d1, d2, g1, g2⟩ := err_cells H1.out
        clear hw1 hh1 hN hRR c0 c1 c2 f1 f2
        go_wp2
        go_loopw [6, 9] (fun tz i w' => tz = .int .i64 (T0 : Int) ∧ i = .int .i64 0 ∧ w' = w1) (fun _ _ _ => 0)
        case atStart => exact ⟨rfl, rfl, rfl⟩
        case round =>
          obtain ⟨rfl, rfl, rfl⟩ := hrel
          go_wp2_with (go_at_call 102; refine (ends_bad b 21 _ _ _ _ _ (by omega) H1.out.1).mono ?_; rintro e w1 ⟨rfl, hw1⟩; rw [hw1]; clear hw1 w1)
          go_ret
          exact ⟨_, rfl, Own.nil _ _, G.out, (But.ofBelow B1.out).setCell 2 _⟩
      · have hn32 : n * 32 ≤ r.length := by omega
        obtain ⟨R, hRR⟩ : ∃ R, Hid (rdHashN n [] r = R) := ⟨_, rfl⟩
        have hRe : Hid (rdHashes st.rest many = R) := by
          show rdHashes st.rest many = R
          rw [rdHashes, hR, Rd.bind_good, if_neg hc]; exact hRR.out
        have z1 : ¬ ((s.size : Int) - (T0 : Int)) / 32 < (n : Int) := by omega
        have z2 : decide (((s.size : Int) - (T0 : Int)) / 32 < (n : Int)) = false := by simpa using z1
        have hn33 : T0 + n * 32 ≤ s.size := by omega
        have E1 := hid e1
        clear h2 h hR hc hT0 e1 e2
        go_enter Tryz.func90, Tryz.ntmps90
        go_wp2_with (go_at_call 101; fail)
        refine hN.mono ?_
        rintro x w1 ⟨rfl, hw1, hh1⟩
        have B1 := hid hw1
        obtain ⟨d0, d1, d2, g1, g2⟩ := err_cells (H.out.below hw1)
        clear hw1 hh1 hN c0 c1 c2 f1 f2
        go_wp2
        go_loopw [6, 8, 9] (fun tz lv i w' => ∃ (k T : Nat) (l' : List (List UInt8)), k ≤ n ∧ i = .int .i64 (k : Int) ∧ tz = .int .i64 (T : Int) ∧ T = T0 + k * 32 ∧ l'.length = k ∧ Hid (Own w' w.heap.size lv (svs l')) ∧ Hid (rdHashN (n - k) l' (s.data.toList.drop T) = R) ∧ Hid (Below w.heap.size w w')) (fun _ _ i _ => n - (intOf i).toNat)
        case atStart => exact ⟨0, T0, [], by omega, rfl, rfl, by omega, rfl, Own.nil _ _, hid (by rw [← E1.out]; exact hRR.out), B1⟩
        case round =>
          clear B1 d0 d1 d2 g1 g2
          obtain ⟨k, T, l', hk, rfl, rfl, hT, hl', ho, hrd, hB⟩ := hrel
          have X1 := H.out.below hB.out
          obtain ⟨d0, d1, d2, g1, g2⟩ := err_cells X1
          have hX := hid X1
          by_cases hlt : k < n
          · have b0 : (k : Int) < (n : Int) := by omega
            have b0' : decide ((k : Int) < (n : Int)) = true := by simpa using b0
            obtain ⟨m, hm⟩ : ∃ m, n - k = m + 1 := ⟨n - k - 1, by omega⟩
            have hr2 := hrd.out
            rw [hm, rdHashN, List.drop_drop] at hr2
            have bb := hB.out.size
            have hT32 : T + 32 ≤ s.size := by omega
            have w1' : (T : Int) + 32 ≤ (s.size : Int) := by omega
            have w2' : (T : Int) ≤ (T : Int) + 32 := by omega
            have w3' : ((T : Int) + 32).toNat = T + 32 := by omega
            have w4' : (0 : Int) ≤ (T : Int) + 32 := by omega
            have hcc := app_cell Tryz.underlying23 infoS rfl wr w.heap.size _ (svs l') (.string (s.extract T (T + 32))) rfl ho.out (by rw [svs_length]; omega) (by rw [svs_length]; omega) bb
            obtain ⟨v3, w3, hcc, o3, k3, _⟩ := hcc
            have O3 := hid o3
            have B3 := hid (below_new hB.out ho.out k3)
            have hgd := hid hr2
            have hTT := hid hT
            clear ho k3 o3 X1 hB hrd hr2 H hRe hRR E1 hT
            go_wp2_with (at_builtin; go_must (refine Lib.wpList_append_run _ rfl _ _ 23 23 rfl _ _ rfl rfl _ _ hcc ?_))
            refine ⟨⟨k + 1, T + 32, l' ++ [(s.data.toList.drop T).take 32], by omega, by go_num, by go_num, by have := hTT.out; omega, by rw [List.length_append, hl']; rfl, hid ?_, hid ?_, B3⟩, by simp [intOf]; omega⟩
            · have := O3.out
              rw [svs_append, sv_mid]
              exact this
            · rw [show n - (k + 1) = m from by omega]; exact hgd.out
          · obtain rfl : k = n := by omega
            have b0 : ¬ (k : Int) < (k : Int) := by omega
            have b0' : decide ((k : Int) < (k : Int)) = false := by simp
            have hr2 := hrd.out
            rw [Nat.sub_self, rdHashN] at hr2
            have hrr : rdHashes st.rest many = .good l' (s.data.toList.drop T) := hRe.out.trans hr2.symm
            have hg := X1.good (pf_hashes many) he hrr
            have hv : st.val [] (rdHashes st.rest many) = l' := by rw [hrr, val_good he]
            rw [show s.size - (s.data.toList.drop T).length = T from by rw [List.length_drop, data_length]; omega] at hg
            have G := hid hg
            have hv' := hid hv
            have hne := hid (ho.out.neb hbl)
            have hTT := hid hT
            clear hg hrr hrd hr2 hv X1 hT
            go_wp2_with (go_at_call 102; refine (ends_ok b _ _ _ _ _ hX.out.1).mono ?_; rintro e w2 ⟨rfl, hw2⟩; rw [hw2]; clear hw2 w2)
            go_ret
            refine ⟨_, rfl, ?_, G.out, (But.ofBelow hB.out).setCell 1 _⟩
            rw [hv'.out]
            exact ho.out.but (XRd.but1 _ b 1 _) hne.out
  · rw [val_bad he, step_bad he]
    have b0 : (st.err != 0) = true := by simpa using he
    have b1 : (st.err == 0) = false := by simpa using he
    clear h
    go_enter Tryz.func90, Tryz.ntmps90
    go_wp2
    go_ret
    exact ⟨_, rfl, Own.nil _ _, H.out, But.refl _ _⟩
end Go.Proofs.YtmhgdcfmfcjagaaGreatDoor

namespace Go.Proofs.YtmhgdcfmfcjagaaGreatDoor
open Go.RowKit Cod
namespace Msg
abbrev DS := Ask × RS
end Msg
end Go.Proofs.YtmhgdcfmfcjagaaGreatDoor

namespace Go.Proofs.YtmhgdcfmfcjagaaGreatDoor
open Go.RowKit Cod
namespace Msg
theorem Part.ext' {x y : Part} (h1 : x.status = y.status) (h2 : x.size = y.size) (h3 : x.a = y.a) (h4 : x.b = y.b) (h0 : x.root = y.root) (h5 : x.hs = y.hs) (h6 : x.ent = y.ent) (h7 : x.n = y.n) : x = y := by
  cases x; cases y; simp_all
theorem wholeP_parts {x t : Part} (h : wholeP x t = true) : x.status = t.status ∧ x.size = t.size ∧ x.a = t.a ∧ x.b = t.b ∧ x.root = t.root ∧ x.hs.length = t.hs.length ∧ x.ent.length = t.ent.length ∧ x.n = t.n := by
  unfold wholeP at h
  rw [Bool.and_eq_true, Bool.and_eq_true, Bool.and_eq_true, Bool.and_eq_true, Bool.and_eq_true, Bool.and_eq_true, Bool.and_eq_true] at h
  obtain ⟨h1, h2, h3, h4, h0, h5, h6, h7⟩ := h
  exact ⟨of_decide_eq_true h1, of_decide_eq_true h2, of_decide_eq_true h3, of_decide_eq_true h4, of_decide_eq_true h0, of_decide_eq_true h5, of_decide_eq_true h6, of_decide_eq_true h7⟩
theorem wholeP_of {x : Part} {k : Int} (h : wholeP x (Part.of k) = true) : x = Part.of k := by
  obtain ⟨p1, p2, p3, p4, p0, p5, p6, p7⟩ := wholeP_parts h
  exact Part.ext' p1 p2 p3 p4 p0 (List.length_eq_zero_iff.1 p5) (List.length_eq_zero_iff.1 p6) p7
theorem wholeP_fs (x : Part) (fs : List Fr) (hf : fs = [.hashes] ∨ fs = [.root] ∨ ∃ k, fs = rflds k) (h : wholeP x (setRs x fs (Part.of 0)) = true) : setRs x fs (Part.of 0) = x := by
  obtain ⟨p1, p2, p3, p4, p0, p5, p6, p7⟩ := wholeP_parts h
  rcases hf with rfl | rfl | ⟨k, rfl⟩
  · exact Part.ext' p1.symm p2.symm p3.symm p4.symm p0.symm rfl (List.length_eq_zero_iff.1 p6).symm p7.symm
  · exact Part.ext' p1.symm p2.symm p3.symm p4.symm rfl (List.length_eq_zero_iff.1 p5).symm (List.length_eq_zero_iff.1 p6).symm p7.symm
  · match k with
    | 0 | 1 | 2 | 3 | 4 | 5 | 6 | 7 | 8 | 9 | 10 | 11 | 12 | n + 13 =>
      exact Part.ext' p1.symm p2.symm p3.symm p4.symm p0.symm (by first | rfl | exact (List.length_eq_zero_iff.1 p5).symm) (by first | rfl | exact (List.length_eq_zero_iff.1 p6).symm) p7.symm
def lsP (l : List Part) : Fr → List Part → List Part
  | .parts, _ => l
  | _, l0 => l0
def lsPs (l : List Part) (fs : List Fr) (l0 : List Part) : List Part := fs.foldl (fun l0 g => lsP l g l0) l0
theorem abs_fr (x : Part) (db : LS → LS) (hd : Abs db) (g : Fr) : Abs (lFr x db g) := by
  cases g with
  | size => exact abs_lif _ _ _
  | a => exact abs_lif _ _ _
  | over => exact abs_lif _ _ _
  | root => exact abs_lif _ _ _
  | hashes => exact abs_lif true _ _
  | parts => exact hd
  | entries => exact abs_lif (decide ((0:Int) ≤ (x.ent.length:Int))) _ _
theorem abs_frs (x : Part) (db : LS → LS) (hd : Abs db) : ∀ fs : List Fr, Abs (lFrs x db fs)
  | [] => Abs.id
  | g :: fs => (abs_fr x db hd g).comp (abs_frs x db hd fs)
theorem mark_pos {n lo hi : Int} {acc out : List UInt8} (h : lMark n lo hi (.ok acc, false) = (.ok out, false)) : (n.toNat : Int) = n ∧ wi n lo hi = true := by
  obtain ⟨h1, a2, _⟩ := lif_ok h
  refine ⟨Int.toNat_of_nonneg ?_, h1⟩
  rw [byteErr] at a2
  split at a2
  · cases a2
  · omega
theorem fr_back (x : Part) (db : LS → LS) (da : TS → List Part × TS) (l : List Part) (hb : Bk db da l) (hn : x.n = l.length) (g : Fr) (acc out : List UInt8) (h : lFr x db g (.ok acc, false) = (.ok out, false)) :
    ∃ bs, out = acc ++ bs ∧ ∀ t l0 rest k, tFr da g ((t, l0), (⟨bs ++ rest, k, 0⟩, false)) = ((setR x g t, lsP l g l0), (⟨rest, k + bs.length, 0⟩, false)) := by
  cases g with
  | size =>
    obtain ⟨bs, h1, h2⟩ := bk_size x.size acc out h
    exact ⟨bs, h1, fun t l0 rest k => by rw [tFr, h2, size_pos h]; rfl⟩
  | a =>
    obtain ⟨bs, h1, h2⟩ := bk_size x.a acc out h
    exact ⟨bs, h1, fun t l0 rest k => by rw [tFr, h2, size_pos h]; rfl⟩
  | over =>
    obtain ⟨bs, h1, h2⟩ := bk_mark x.b 0 1 acc out h
    obtain ⟨e1, e2⟩ := mark_pos h
    exact ⟨bs, h1, fun t l0 rest k => by rw [tFr, h2, e1, setR, if_pos e2]; rfl⟩
  | root =>
    obtain ⟨bs, h1, h2⟩ := bk_root x.root acc out h
    exact ⟨bs, h1, fun t l0 rest k => by rw [tFr, h2]; rfl⟩
  | hashes =>
    obtain ⟨bs, h1, h2⟩ := bk_hashes x.hs acc out h
    exact ⟨bs, h1, fun t l0 rest k => by rw [tFr, h2]; rfl⟩
  | parts =>
    obtain ⟨bs, h1, h2⟩ := hb acc out h
    exact ⟨bs, h1, fun t l0 rest k => by rw [tFr, h2, ← hn]; rfl⟩
  | entries =>
    obtain ⟨bs, h1, h2⟩ := bk_texts x.ent 0 4096 1000 (by omega) (by omega) acc out h
    exact ⟨bs, h1, fun t l0 rest k => by rw [tFr, h2]; rfl⟩
theorem frs_back (x : Part) (db : LS → LS) (da : TS → List Part × TS) (l : List Part) (hd : Abs db) (hb : Bk db da l) (hn : x.n = l.length) : ∀ (fs : List Fr) (acc out : List UInt8), lFrs x db fs (.ok acc, false) = (.ok out, false) →
    ∃ bs, out = acc ++ bs ∧ ∀ t l0 rest k, tFrs da fs ((t, l0), (⟨bs ++ rest, k, 0⟩, false)) = ((setRs x fs t, lsPs l fs l0), (⟨rest, k + bs.length, 0⟩, false))
  | [], acc, out, h => by
    have h : acc = out := by
      have := (Prod.mk.inj h).1
      injection this
    exact ⟨[], by rw [← h, List.append_nil], fun t l0 rest k => rfl⟩
  | g :: fs, acc, out, h => by
    have h : lFrs x db fs (lFr x db g (.ok acc, false)) = (.ok out, false) := h
    obtain ⟨m, hm⟩ := (abs_frs x db hd fs).mid h
    rw [hm] at h
    obtain ⟨bs1, e1, g1⟩ := fr_back x db da l hb hn g acc m hm
    obtain ⟨bs2, e2, g2⟩ := frs_back x db da l hd hb hn fs m out h
    refine ⟨bs1 ++ bs2, by rw [e2, e1, List.append_assoc], fun t l0 rest k => ?_⟩
    show tFrs da fs (tFr da g ((t, l0), (⟨bs1 ++ bs2 ++ rest, k, 0⟩, false))) = _
    rw [List.append_assoc, g1, g2, List.length_append, Nat.add_assoc]
    rfl
theorem abs_tail (x : Part) (least : Int) (L : LS → LS) (hL : Abs L) (t : Part) : Abs (lTail x least L t) := by
  have h1 := abs_lif (wi x.status least 8) (byteErr x.status) [UInt8.ofNat x.status.toNat]
  have h0 := h1.comp hL
  refine ⟨fun e q => ?_, fun s h => ?_⟩
  · rw [lTail]
    split
    · obtain ⟨f, r, e1⟩ := h0.bad e q
      have e1 : L (lMark x.status least 8 (.bad e, q)) = (.bad f, r) := e1
      exact ⟨f, _, by rw [e1]⟩
    · obtain ⟨f, r, e1⟩ := h1.bad e q
      have e1 : lMark x.status least 8 (.bad e, q) = (.bad f, r) := e1
      exact ⟨f, _, by rw [e1]⟩
  · rw [lTail]
    split
    · have this : (L (lMark x.status least 8 s)).2 = true := h0.wr s h
      show (_ || _) = true
      rw [this, Bool.true_or]
    · have this : (lMark x.status least 8 s).2 = true := h1.wr s h
      show (_ || _) = true
      rw [this, Bool.true_or]
theorem tail_back (x : Part) (least : Int) (L : LS → LS) (hL : Abs L) (t : Part) (K : TS → PR) (l' : List Part) (acc out : List UInt8) (h : lTail x least L t (.ok acc, false) = (.ok out, false))
    (hK : x.status = 0 → wholeP x t = true → ∀ a o, L (.ok a, false) = (.ok o, false) → ∃ bs, o = a ++ bs ∧ ∀ rest k, K (⟨bs ++ rest, k, 0⟩, false) = ((x, l'), (⟨rest, k + bs.length, 0⟩, false))) :
    ∃ bs, out = acc ++ bs ∧ ∀ rest k, tTail least K (⟨bs ++ rest, k, 0⟩, false) = ((x, if x.status = 0 then l' else []), (⟨rest, k + bs.length, 0⟩, false)) := by
  rw [lTail] at h
  by_cases hd : isDn x.status least = true
  · rw [if_pos hd] at h
    have h2 := (Prod.mk.inj h).2
    rw [Bool.or_eq_false_iff, Bool.not_eq_false'] at h2
    have h1 : L (lMark x.status least 8 (.ok acc, false)) = (.ok out, false) := Prod.ext (Prod.mk.inj h).1 h2.1
    have h0 : x.status = 0 := by
      rw [isDn, Bool.and_eq_true, decide_eq_true_eq] at hd
      exact hd.2
    obtain ⟨m, hm⟩ := hL.mid h1
    rw [hm] at h1
    obtain ⟨bs1, e1, g1⟩ := bk_mark x.status least 8 acc m hm
    obtain ⟨bs2, e2, g2⟩ := hK h0 h2.2 m out h1
    obtain ⟨e3, _⟩ := mark_pos hm
    refine ⟨bs1 ++ bs2, by rw [e2, e1, List.append_assoc], fun rest k => ?_⟩
    rw [tTail, List.append_assoc, g1]
    rw [e3, if_pos hd, g2, if_pos h0, List.length_append, Nat.add_assoc]
  · rw [if_neg hd] at h
    have h2 := (Prod.mk.inj h).2
    rw [Bool.or_eq_false_iff, Bool.not_eq_false'] at h2
    have hm : lMark x.status least 8 (.ok acc, false) = (.ok out, false) := Prod.ext (Prod.mk.inj h).1 h2.1
    obtain ⟨bs1, e1, g1⟩ := bk_mark x.status least 8 acc out hm
    obtain ⟨e3, e4⟩ := mark_pos hm
    have hx := h2.2
    rw [stB, if_pos e4] at hx
    have hx := wholeP_of hx
    have h0 : ¬ x.status = 0 := fun e => hd (by rw [isDn, e4, Bool.true_and]; exact decide_eq_true e)
    refine ⟨bs1, e1, fun rest k => ?_⟩
    rw [tTail, g1, e3, if_neg hd, if_neg h0]
    show ((Part.of x.status, ([] : List Part)), _) = _
    rw [← hx]
theorem bk_nil : Bk (id : LS → LS) (fun s => (([] : List Part), s)) [] := fun acc out h => ⟨[], by
  have := (Prod.mk.inj h).1
  injection this with this
  rw [← this, List.append_nil], fun rest k => rfl⟩
theorem part_back (x : Part) (acc out : List UInt8) (h : lPart x (.ok acc, false) = (.ok out, false)) : ∃ bs, out = acc ++ bs ∧ ∀ rest k, tPart (⟨bs ++ rest, k, 0⟩, false) = (x, (⟨rest, k + bs.length, 0⟩, false)) := by
  have hL : Abs (fun s => lFrs x id (fmF x) (lMark (fm x) 0 1 s)) := (abs_lif _ _ _).comp (abs_frs x id Abs.id (fmF x))
  obtain ⟨bs, e, g⟩ := tail_back x 0 _ hL _ tForm [] acc out h (fun h0 hw a o h => by
    have hn : x.n = 0 := by
      have this := (wholeP_parts hw).2.2.2.2.2.2.2
      unfold fmF at this
      split at this <;> exact this
    have h : lFrs x id (fmF x) (lMark (fm x) 0 1 (.ok a, false)) = (.ok o, false) := h
    obtain ⟨m, hm⟩ := (abs_frs x id Abs.id (fmF x)).mid h
    rw [hm] at h
    obtain ⟨bs1, e1, g1⟩ := bk_mark (fm x) 0 1 a m hm
    obtain ⟨e3, e4⟩ := mark_pos hm
    obtain ⟨bs2, e2, g2⟩ := frs_back x id (fun s => ([], s)) [] Abs.id bk_nil hn (fmF x) m o h
    have ef : (if (fm x).toNat = 0 then [Fr.hashes] else [Fr.root]) = fmF x := by
      unfold fm fmF
      split <;> rfl
    have es := wholeP_fs x (fmF x) (by unfold fmF; split; · exact .inl rfl
                                       · exact .inr (.inl rfl)) hw
    have el : lsPs [] (fmF x) [] = [] := by
      unfold fmF
      split <;> rfl
    refine ⟨bs1 ++ bs2, by rw [e2, e1, List.append_assoc], fun rest k => ?_⟩
    rw [tForm, List.append_assoc, g1]
    rw [e3, if_pos e4, ef, g2, es, el, List.length_append, Nat.add_assoc])
  exact ⟨bs, e, fun rest k => by rw [tPart, g]⟩
theorem abs_part (x : Part) : Abs (lPart x) := abs_tail x 0 _ ((abs_lif _ _ _).comp (abs_frs x id Abs.id (fmF x))) _
theorem abs_partsl : ∀ l : List Part, Abs (fun s => l.foldl (fun s x => lPart x s) s)
  | [] => Abs.id
  | x :: l => (abs_part x).comp (abs_partsl l)
theorem manyP_back : ∀ (l : List Part) (acc out : List UInt8), l.foldl (fun s x => lPart x s) (.ok acc, false) = (.ok out, false) → ∃ bs, out = acc ++ bs ∧ ∀ l0 rest k, tManyP l.length l0 (⟨bs ++ rest, k, 0⟩, false) = (l0 ++ l, (⟨rest, k + bs.length, 0⟩, false))
  | [], acc, out, h => by
    have h : acc = out := by
      have := (Prod.mk.inj h).1
      injection this
    exact ⟨[], by rw [← h, List.append_nil], fun l0 rest k => by rw [List.length_nil, tManyP, List.append_nil]; rfl⟩
  | x :: l, acc, out, h => by
    rw [List.foldl_cons] at h
    obtain ⟨m, hm⟩ := (abs_partsl l).mid h
    rw [hm] at h
    obtain ⟨bs1, e1, g1⟩ := part_back x acc m hm
    obtain ⟨bs2, e2, g2⟩ := manyP_back l m out h
    refine ⟨bs1 ++ bs2, by rw [e2, e1, List.append_assoc], fun l0 rest k => ?_⟩
    rw [List.length_cons, tManyP, List.append_assoc, g1, g2, List.append_assoc, List.length_append, Nat.add_assoc]
    rfl
theorem count_back {l : Nat} (hw : wi (l : Int) 1 64 = true) : ∀ rest k, tCount (⟨digs l ++ rest, k, 0⟩, false) = (l, (⟨rest, k + (digs l).length, 0⟩, false)) := fun rest k => by
  have hle := wi_iff.1 hw
  have ht : tk rdNum (fun n => wi (n : Int) 1 64) 0 (⟨digs l ++ rest, k, 0⟩, false) = (l, (⟨rest, k + (digs l).length, 0⟩, false)) := by
    unfold tk
    simp only [num_there (show l ≤ top by rw [top]; omega), RS.val, RS.step, if_true, hw, Bool.not_true, Bool.or_false, List.length_append, Nat.add_sub_cancel]
  rw [tCount, ht, if_pos hw]
theorem parts_back (l : List Part) : Bk (lParts l) tParts l := fun acc out h => by
  rw [lParts] at h
  by_cases hw : wi (l.length : Int) 1 64 = true
  · rw [if_pos hw] at h
    obtain ⟨m, hm⟩ := (abs_partsl l).mid h
    rw [hm] at h
    obtain ⟨_, _, e1⟩ := lif_ok hm
    obtain ⟨bs2, e2, g2⟩ := manyP_back l m out h
    refine ⟨digs (l.length : Int).toNat ++ bs2, by rw [e2, e1, List.append_assoc], fun rest k => ?_⟩
    rw [Int.toNat_natCast, tParts, List.append_assoc, count_back hw, g2, List.nil_append, List.length_append, Nat.add_assoc]
  · rw [if_neg hw] at h
    cases (Prod.mk.inj h).2
theorem abs_lParts (l : List Part) : Abs (lParts l) := by
  have h0 := (abs_lif true (numErr (l.length : Int)) (digs (l.length : Int).toNat)).comp (abs_partsl l)
  refine ⟨fun e q => ?_, fun s h => ?_⟩
  · rw [lParts]
    split
    · exact h0.bad e q
    · exact ⟨e, true, rfl⟩
  · rw [lParts]
    split
    · exact h0.wr s h
    · rfl
theorem reply_back (kind : Nat) (x : Part) (l : List Part) (hn : x.n = l.length) (acc out : List UInt8) (h : lReply (kind : Int) x l (.ok acc, false) = (.ok out, false)) :
    ∃ bs, out = acc ++ bs ∧ ∀ rest k, tReply kind (⟨bs ++ rest, k, 0⟩, false) = ((x, if x.status = 0 then lsPs l (rflds kind) [] else []), (⟨rest, k + bs.length, 0⟩, false)) := by
  rw [lReply, Int.toNat_natCast] at h
  have hL := abs_frs x (lParts l) (abs_lParts l) (rflds kind)
  obtain ⟨m, hm⟩ := (abs_tail x (leastOf (kind : Int)) _ hL (setRs x (rflds kind) (Part.of 0))).mid h
  rw [hm] at h
  obtain ⟨bs1, e1, g1⟩ := bk_mark (kind : Int) kind kind acc m hm
  obtain ⟨bs2, e2, g2⟩ := tail_back x (leastOf (kind : Int)) _ hL _ (fun s => tFrs tParts (rflds kind) ((Part.of 0, []), s)) (lsPs l (rflds kind) []) m out h (fun h0 hw a o h => by
    obtain ⟨bs, e, g⟩ := frs_back x (lParts l) tParts l (abs_lParts l) (parts_back l) hn (rflds kind) a o h
    have es := wholeP_fs x (rflds kind) (.inr (.inr ⟨kind, rfl⟩)) hw
    exact ⟨bs, e, fun rest k => by rw [g, es]⟩)
  refine ⟨bs1 ++ bs2, by rw [e2, e1, List.append_assoc], fun rest k => ?_⟩
  rw [tReply, List.append_assoc, g1, Int.toNat_natCast, if_pos (wi_iff.2 ⟨Int.le_refl _, Int.le_refl _⟩), g2, List.length_append, Nat.add_assoc]
theorem reply_there (kind : Nat) (x : Part) (l : List Part) (hn : x.n = l.length) (p : List UInt8) (h : lReply (kind : Int) x l (.ok [], false) = (.ok p, false)) :
    tReply kind (⟨p, 0, 0⟩, false) = ((x, if x.status = 0 then lsPs l (rflds kind) [] else []), (⟨[], p.length, 0⟩, false)) := by
  obtain ⟨bs, h1, h2⟩ := reply_back kind x l hn [] p h
  rw [List.nil_append] at h1
  subst h1
  have := h2 [] 0
  rw [List.append_nil, Nat.zero_add] at this
  exact this
end Msg
end Go.Proofs.YtmhgdcfmfcjagaaGreatDoor
