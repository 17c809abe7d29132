import Derived.Test.YtonmhimoglgbgaaDoorXR3
namespace Go.Proofs.YtonmhimoglgbgaaDoor
open Go.RowKit Cod
/-- where the document's list reading stands -/
def TextsAt (s : ByteArray) (most : Int) (n : Nat) (R : Rd (List (List UInt8))) (w w' : World) (k : Nat) (to er lv : Value) : Prop :=
  (∃ (t : Int) (l' : List (List UInt8)) (r' : List UInt8), er = .int .i64 0 ∧ to = .int .i64 t ∧ t = ((s.size - r'.length : Nat) : Int) ∧ l'.length = k ∧ r'.length + k ≤ s.size ∧ r' = s.data.toList.drop (s.size - r'.length) ∧ Own w' w.heap.size lv (svs l') ∧ rdTextsN most (n - k) l' r' = R)
  ∨ ∃ (e : Nat) (t : Int) (cs : List Value), 0 < e ∧ er = .int .i64 (e : Int) ∧ to = .int .i64 t ∧ R = .bad e ∧ Own w' w.heap.size lv cs
set_option maxRecDepth 100000 in
set_option maxHeartbeats 3000000 in
theorem xTexts_any (b : Nat) (s : ByteArray) (st : RS) (many most : Int) (w : World) (h : XRd w b s st) :
    Calls Tryd.prog 44 #[.pointer (some ⟨b, 0, none⟩), .int .i64 many, .int .i64 most] w fun r w' => ∃ v, r = .returned v ∧ Own w' w.heap.size v (svs (st.val [] (rdTexts st.rest many most))) ∧ XRd w' b s (st.step (rdTexts st.rest many most)) ∧ But b w w' := by
  obtain ⟨c0, c1, c2, f1, f2⟩ := err_cells h
  have H := hid h
  by_cases he : st.err = 0
  · have h3 := h.2.2.1
    have h4 := h.2.2.2
    have h2 := h.2.1
    have hl := h.len
    have hbl := h.lt
    rw [he] at c2
    by_cases hmo : most < 0
    · have hRR : rdTexts st.rest many most = .bad 1 := by rw [rdTexts, if_pos hmo]
      have hv : st.val [] (rdTexts st.rest many most) = [] := by rw [hRR, val_badx he]
      have G := hid (H.out.bad he hRR)
      rw [hv]
      clear h2 h hRR hv
      go_enter Tryd.func44, Tryd.ntmps44
      go_wp2
      go_ret
      exact ⟨_, rfl, Own.nil _ _, G.out, (But.refl b w).setCell 2 _⟩
    · have hN := xMany_any b s st many w h
      cases hR : rdMany st.rest many with
      | bad e =>
        have hz := nz_many _ _ e hR
        have hRR : rdTexts st.rest many most = .bad e := by rw [rdTexts, if_neg hmo, hR]; rfl
        have hv : st.val [] (rdTexts st.rest many most) = [] := by rw [hRR, val_badx he]
        have z1 : ((e : Int) == 0) = false := by simp; omega
        rw [hR] at hN
        simp only [tupA] at hN
        rw [hv]
        clear h2 h hR hv
        go_enter Tryd.func44, Tryd.ntmps44
        go_wp2_with (go_at_call 84; fail)
        refine hN.mono ?_
        rintro x w1 ⟨rfl, hw1, hh1⟩
        have H1 := hid (H.out.below hw1)
        have B1 := hid hw1
        have G := hid (H1.out.bad he hRR)
        clear hw1 hh1 hN hRR
        go_wp2
        go_loopw [8, 9, 11] (fun to er i w' => to = .int .i64 0 ∧ er = .int .i64 (e : Int) ∧ i = .int .i64 0 ∧ w' = w1) (fun _ _ _ _ => 0)
        case atStart => exact ⟨rfl, rfl, rfl, rfl⟩
        case round =>
          obtain ⟨rfl, rfl, rfl, rfl⟩ := hrel
          go_wp2_with (go_at_call 83; refine (ends_bad b e _ _ _ _ _ hz H1.out.1).mono ?_; rintro e w1 ⟨rfl, hw1⟩; rw [hw1]; clear hw1 w1)
          go_ret
          exact ⟨_, rfl, Own.nil _ _, G.out, (But.ofBelow B1.out).setCell 2 _⟩
      | good n r =>
        obtain ⟨e1, e2⟩ := rest_of (pf_many many) (by rw [← h2]; exact hR) (by rw [data_length]; exact h3)
        rw [data_length] at e1 e2
        obtain ⟨hr1, hn62⟩ := many_len hR
        obtain ⟨R, hRR⟩ : ∃ R, Hid (rdTextsN most n [] r = R) := ⟨_, rfl⟩
        have hRe : Hid (rdTexts st.rest many most = R) := by
          show rdTexts st.rest many most = R
          rw [rdTexts, if_neg hmo, hR]; exact hRR.out
        rw [hR] at hN
        simp only [tupA] at hN
        have hrl := hid hr1
        clear h2 h hR
        go_enter Tryd.func44, Tryd.ntmps44
        go_wp2_with (go_at_call 84; fail)
        refine hN.mono ?_
        rintro x w1 ⟨rfl, hw1, hh1⟩
        have B1 := hid hw1
        clear hw1 hh1 hN
        have I0 : Hid (TextsAt s most n R w w1 0 (.int .i64 ((s.size - r.length : Nat) : Int)) (.int .i64 0) (.slice none 0 0)) :=
          .inl ⟨_, [], r, rfl, rfl, rfl, rfl, by have := hrl.out; omega, e1, Own.nil _ _, hRR.out⟩
        clear e1 e2 hr1
        go_wp2
        go_loopw [8, 9, 10, 11] (fun to er lv i w' => ∃ k : Nat, k ≤ n ∧ i = .int .i64 (k : Int) ∧ Hid (TextsAt s most n R w w' k to er lv) ∧ Hid (Below w.heap.size w w')) (fun _ _ _ i _ => n - (intOf i).toNat)
        case atStart => exact ⟨0, by omega, rfl, I0, B1⟩
        case round =>
          clear I0 B1
          obtain ⟨k, hk, rfl, hI, hB⟩ := hrel
          have X1 := H.out.below hB.out
          obtain ⟨d0, d1, d2, g1, g2⟩ := err_cells X1
          rcases hI.out with ⟨t, l', r', rfl, rfl, et, hl', hr', er', ho, hrd⟩ | ⟨e, t, cs, hz, rfl, rfl, hbad, ho⟩
          · have hX := hid X1
            by_cases hlt : k < n
            · have b0 : (k : Int) < (n : Int) := by omega
              have b0' : decide ((k : Int) < (n : Int)) = true := by simpa using b0
              obtain ⟨m, hm⟩ : ∃ m, n - k = m + 1 := ⟨n - k - 1, by omega⟩
              rw [hm, rdTextsN] at hrd
              have hNum := fun w => rtext_any s (s.size - r'.length) most (by omega) (by omega) (by omega) w
              rw [← er', ← et] at hNum
              have bb := hB.out.size
              cases hq : rdText r' most with
              | bad e =>
                have hz := nz_text _ _ e hq
                have z1 : ((e : Int) == 0) = false := by simp; omega
                rw [hq, Rd.bind_bad] at hrd
                rw [hq] at hNum
                simp only [tupT, svX] at hNum
                have hcc := app_cell Tryd.underlying46 infoS rfl wr w.heap.size _ (svs l') (.string ⟨([] : List UInt8).toArray⟩) rfl ho (by rw [svs_length]; omega) (by rw [svs_length]; omega) bb
                obtain ⟨v3, w3, hcc, o3, k3, _⟩ := hcc
                have O3 := hid o3
                have B3 := hid (below_new hB.out ho k3)
                have hbad := hid hrd
                clear hq ho k3 o3 X1 hI hB hrd er' et hm H hRe hRR
                go_wp2_with (first
                  | (go_at_call 86; refine (hNum _).mono ?_; rintro x w2 ⟨rfl, hw2⟩; rw [hw2]; clear hw2 w2)
                  | (at_builtin; go_must (refine Lib.wpList_append_run _ rfl _ _ 46 46 rfl _ _ rfl rfl _ _ hcc ?_)))
                exact ⟨⟨k + 1, by omega, by go_num, hid (.inr ⟨e, _, _, hz, rfl, rfl, hbad.out.symm, O3.out⟩), B3⟩, by simp [intOf]; omega⟩
              | good tx r2 =>
                have hlen := text_len hq
                obtain ⟨q1, q2⟩ := rest_of (pf_text most) (l := s.data.toList) (a := s.size - r'.length) (by rw [← er']; exact hq) (by rw [data_length]; omega)
                rw [data_length] at q1
                rw [hq, Rd.bind_good] at hrd
                rw [hq] at hNum
                simp only [tupT, svX] at hNum
                have hcc := app_cell Tryd.underlying46 infoS rfl wr w.heap.size _ (svs l') (.string ⟨tx.toArray⟩) rfl ho (by rw [svs_length]; omega) (by rw [svs_length]; omega) bb
                obtain ⟨v3, w3, hcc, o3, k3, _⟩ := hcc
                have O3 := hid o3
                have B3 := hid (below_new hB.out ho k3)
                have hgd := hid hrd
                have Q1 := hid q1
                clear hq ho k3 o3 X1 hI hB hrd er' et H hRe hRR q1 q2
                go_wp2_with (first
                  | (go_at_call 86; refine (hNum _).mono ?_; rintro x w2 ⟨rfl, hw2⟩; rw [hw2]; clear hw2 w2)
                  | (at_builtin; go_must (refine Lib.wpList_append_run _ rfl _ _ 46 46 rfl _ _ rfl rfl _ _ hcc ?_)))
                refine ⟨⟨k + 1, by omega, by go_num, hid (.inl ⟨_, l' ++ [tx], r2, rfl, rfl, rfl, by rw [List.length_append, hl']; rfl, by omega, Q1.out, ?_, ?_⟩), B3⟩, by simp [intOf]; omega⟩
                · have := O3.out
                  rw [svs_append]
                  exact this
                · rw [show n - (k + 1) = m from by omega]; exact hgd.out
            · obtain rfl : k = n := by omega
              have b0 : ¬ (k : Int) < (k : Int) := by omega
              have b0' : decide ((k : Int) < (k : Int)) = false := by simp
              rw [Nat.sub_self, rdTextsN] at hrd
              have hrr : rdTexts st.rest many most = .good l' r' := hRe.out.trans hrd.symm
              have hg := X1.good (pf_texts many most) he hrr
              have hv : st.val [] (rdTexts st.rest many most) = l' := by rw [hrr, val_good he]
              rw [← et] at hg
              have G := hid hg
              have O := hid ho
              have hv' := hid hv
              have hne := hid (ho.neb hbl)
              have B := hid hB.out
              clear hg hrr hrd hv X1 hI ho er' et
              go_wp2_with (go_at_call 83; refine (ends_ok b _ _ _ _ _ hX.out.1).mono ?_; rintro e w2 ⟨rfl, hw2⟩; rw [hw2]; clear hw2 w2)
              go_ret
              refine ⟨_, rfl, ?_, G.out, (But.ofBelow B.out).setCell 1 _⟩
              rw [hv'.out]
              exact O.out.but (XRd.but1 _ b 1 _) hne.out
          · have hX := hid X1
            have z1 : ((e : Int) == 0) = false := by simp; omega
            have hrr : rdTexts st.rest many most = .bad e := hRe.out.trans hbad
            have G := hid (X1.bad he hrr)
            have hv : st.val [] (rdTexts st.rest many most) = [] := by rw [hrr, val_badx he]
            have hv' := hid hv
            have B := hid hB.out
            clear hrr hv X1 hI ho hbad
            by_cases hlt : k < n
            · have b0 : (k : Int) < (n : Int) := by omega
              have b0' : decide ((k : Int) < (n : Int)) = true := by simpa using b0
              go_wp2_with (go_at_call 83; refine (ends_bad b e _ _ _ _ _ hz hX.out.1).mono ?_; rintro e w2 ⟨rfl, hw2⟩; rw [hw2]; clear hw2 w2)
              go_ret
              refine ⟨_, rfl, ?_, G.out, (But.ofBelow B.out).setCell 2 _⟩
              rw [hv'.out]
              exact Own.nil _ _
            · have b0 : ¬ (k : Int) < (n : Int) := by omega
              have b0' : decide ((k : Int) < (n : Int)) = false := by simpa using b0
              go_wp2_with (go_at_call 83; refine (ends_bad b e _ _ _ _ _ hz hX.out.1).mono ?_; rintro e w2 ⟨rfl, hw2⟩; rw [hw2]; clear hw2 w2)
              go_ret
              refine ⟨_, rfl, ?_, G.out, (But.ofBelow B.out).setCell 2 _⟩
              rw [hv'.out]
              exact Own.nil _ _
  · rw [val_bad he, step_bad he]
    have b0 : (st.err != 0) = true := by simpa using he
    have b1 : (st.err == 0) = false := by simpa using he
    clear h
    go_enter Tryd.func44, Tryd.ntmps44
    go_wp2
    go_ret
    exact ⟨_, rfl, Own.nil _ _, H.out, But.refl _ _⟩
end Go.Proofs.YtonmhimoglgbgaaDoor
