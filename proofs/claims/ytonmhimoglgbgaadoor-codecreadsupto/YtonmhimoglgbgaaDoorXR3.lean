import Derived.Test.YtonmhimoglgbgaaDoorXR2
namespace Go.Proofs.YtonmhimoglgbgaaDoor
open Go.RowKit Cod
theorem Own.neb {w : World} {base b : Nat} {v : Value} {cs : List Value} (h : Own w base v cs) (hb : b < base) : v.ownBlock ≠ some b := fun e => by
  have := h.ge b e
  omega
/-- where the document's list reading stands -/
def RiseAt (s : ByteArray) (n : Nat) (R : Rd (List Nat)) (w w' : World) (k : Nat) (to er lv la : Value) : Prop :=
  (∃ (L : Nat) (t la' : Int) (l' : List Nat) (r' : List UInt8), er = .int .i64 0 ∧ to = .int .i64 t ∧ la = .int .i64 la' ∧ la' + 1 = (L : Int) ∧ t = ((s.size - r'.length : Nat) : Int) ∧ L ≤ 4611686018427387905 ∧ l'.length = k ∧ r'.length + k ≤ s.size ∧ r' = s.data.toList.drop (s.size - r'.length) ∧ Own w' w.heap.size lv (nvs l') ∧ rdRiseN (n - k) L l' r' = R)
  ∨ ∃ (e : Nat) (t x : Int) (cs : List Value), 0 < e ∧ er = .int .i64 (e : Int) ∧ to = .int .i64 t ∧ la = .int .i64 x ∧ R = .bad e ∧ Own w' w.heap.size lv cs
set_option maxRecDepth 100000 in
set_option maxHeartbeats 3000000 in
theorem xRising_any (b : Nat) (s : ByteArray) (st : RS) (many : Int) (w : World) (h : XRd w b s st) :
    Calls Tryd.prog 41 #[.pointer (some ⟨b, 0, none⟩), .int .i64 many] w fun r w' => ∃ v, r = .returned v ∧ Own w' w.heap.size v (nvs (st.val [] (rdRising st.rest many))) ∧ XRd w' b s (st.step (rdRising st.rest many)) ∧ But b w w' := by
  obtain ⟨c0, c1, c2, f1, f2⟩ := err_cells h
  have H := hid h
  by_cases he : st.err = 0
  · have h3 := h.2.2.1
    have h4 := h.2.2.2
    have h2 := h.2.1
    have hl := h.len
    have hbl := h.lt
    rw [he] at c2
    have hN := xMany_any b s st many w h
    cases hR : rdMany st.rest many with
    | bad e =>
      have hz := nz_many _ _ e hR
      have hRR : rdRising st.rest many = .bad e := by rw [rdRising, hR]; rfl
      have hv : st.val [] (rdRising st.rest many) = [] := by rw [hRR, val_badx he]
      have z1 : ((e : Int) == 0) = false := by simp; omega
      rw [hR] at hN
      simp only [tupA] at hN
      rw [hv]
      clear h2 h hR hv
      go_enter Tryd.func41, Tryd.ntmps41
      go_wp2_with (go_at_call 84; fail)
      refine hN.mono ?_
      rintro x w1 ⟨rfl, hw1, hh1⟩
      have H1 := hid (H.out.below hw1)
      have B1 := hid hw1
      have G := hid (H1.out.bad he hRR)
      clear hw1 hh1 hN hRR
      go_wp2
      go_loopw [6, 7, 10] (fun to er i w' => to = .int .i64 0 ∧ er = .int .i64 (e : Int) ∧ i = .int .i64 0 ∧ w' = w1) (fun _ _ _ _ => 0)
      case atStart => exact ⟨rfl, rfl, rfl, rfl⟩
      case round =>
        obtain ⟨rfl, rfl, rfl, rfl⟩ := hrel
        go_wp2_with (go_at_call 83; refine (ends_bad b e _ _ _ _ _ hz H1.out.1).mono ?_; rintro e w1 ⟨rfl, hw1⟩; rw [hw1]; clear hw1 w1)
        go_ret
        exact ⟨_, rfl, Own.nil _ _, G.out, (But.ofBelow B1.out).setCell 2 _⟩
    | good n r =>
      obtain ⟨e1, e2⟩ := rest_of (pf_many many) (by rw [← h2]; exact hR) (by rw [data_length]; exact h3)
      rw [data_length] at e1 e2
      obtain ⟨hr1, hn62⟩ := many_len hR
      obtain ⟨R, hRR⟩ : ∃ R, Hid (rdRiseN n 0 [] r = R) := ⟨_, rfl⟩
      have hRe : Hid (rdRising st.rest many = R) := by
        show rdRising st.rest many = R
        rw [rdRising, hR]; exact hRR.out
      rw [hR] at hN
      simp only [tupA] at hN
      have hrl := hid hr1
      clear h2 h hR
      go_enter Tryd.func41, Tryd.ntmps41
      go_wp2_with (go_at_call 84; fail)
      refine hN.mono ?_
      rintro x w1 ⟨rfl, hw1, hh1⟩
      have B1 := hid hw1
      clear hw1 hh1 hN
      have I0 : Hid (RiseAt s n R w w1 0 (.int .i64 ((s.size - r.length : Nat) : Int)) (.int .i64 0) (.slice none 0 0) (.int .i64 (-1))) :=
        .inl ⟨0, _, -1, [], r, rfl, rfl, rfl, by omega, rfl, by omega, rfl, by have := hrl.out; omega, e1, Own.nil _ _, hRR.out⟩
      clear e1 e2 hr1
      go_wp2
      go_loopw [6, 7, 8, 9, 10] (fun to er lv la i w' => ∃ k : Nat, k ≤ n ∧ i = .int .i64 (k : Int) ∧ Hid (RiseAt s n R w w' k to er lv la) ∧ Hid (Below w.heap.size w w')) (fun _ _ _ _ i _ => n - (intOf i).toNat)
      case atStart => exact ⟨0, by omega, rfl, I0, B1⟩
      case round =>
        clear I0 B1
        obtain ⟨k, hk, rfl, hI, hB⟩ := hrel
        have X1 := H.out.below hB.out
        obtain ⟨d0, d1, d2, g1, g2⟩ := err_cells X1
        rcases hI.out with ⟨L, t, la', l', r', rfl, rfl, rfl, ela, et, hL, hl', hr', er', ho, hrd⟩ | ⟨e, t, x, cs, hz, rfl, rfl, rfl, hbad, ho⟩
        · have hX := hid X1
          by_cases hlt : k < n
          · have b0 : (k : Int) < (n : Int) := by omega
            have b0' : decide ((k : Int) < (n : Int)) = true := by simpa using b0
            obtain ⟨m, hm⟩ : ∃ m, n - k = m + 1 := ⟨n - k - 1, by omega⟩
            rw [hm, rdRiseN] at hrd
            have hNum := fun w => number_any s (s.size - r'.length) (by omega) (by omega) w
            rw [← er', ← et] at hNum
            have ho' := hid ho
            have bb := hB.out.size
            cases hq : rdNum r' with
            | bad e =>
              have hz := nz_num _ e hq
              have z1 : ((e : Int) == 0) = false := by simp; omega
              rw [hq, Rd.bind_bad] at hrd
              rw [hq] at hNum
              simp only [tupA] at hNum
              have hcc := app_cell Tryd.underlying45 infoI rfl wr w.heap.size _ (nvs l') (.int .i64 (L : Int)) rfl ho (by rw [nvs_length]; omega) (by rw [nvs_length]; omega) bb
              obtain ⟨v3, w3, hcc, o3, k3, _⟩ := hcc
              have O3 := hid o3
              have B3 := hid (below_new hB.out ho k3)
              have hbad := hid hrd
              clear hq ho k3 o3 X1 hI hB hrd er' et hm H hRe hRR
              go_wp2_with (first
                | (go_at_call 82; refine (hNum _).mono ?_; rintro x w2 ⟨rfl, hw2⟩; rw [hw2]; clear hw2 w2)
                | (at_builtin; go_must (refine Lib.wpList_append_run _ rfl _ _ 45 45 rfl _ _ rfl rfl _ _ hcc ?_)))
              exact ⟨⟨k + 1, by omega, by go_num, hid (.inr ⟨e, _, _, _, hz, rfl, rfl, rfl, hbad.out.symm, O3.out⟩), B3⟩, by simp [intOf]; omega⟩
            | good a r2 =>
              have hlen := num_len hq
              have ha62 := (num_back hq).2
              rw [top] at ha62
              obtain ⟨q1, q2⟩ := rest_of pf_num (l := s.data.toList) (a := s.size - r'.length) (by rw [← er']; exact hq) (by rw [data_length]; omega)
              rw [data_length] at q1
              rw [hq, Rd.bind_good] at hrd
              rw [hq] at hNum
              simp only [tupA] at hNum
              have b2 : (L : Int) ≤ 4611686018427387905 := by omega
              have b3 : (a : Int) ≤ 4611686018427387904 := by omega
              by_cases hc : top < L + a
              · rw [if_pos hc] at hrd
                have c3 : 4611686018427387903 - la' < (a : Int) := by rw [top] at hc; omega
                have c4 : decide (4611686018427387903 - la' < (a : Int)) = true := by simpa using c3
                obtain ⟨z, hzz⟩ : ∃ z, IntKind.i64.wrap ((L : Int) + (a : Int)) = z := ⟨_, rfl⟩
                have hcc := app_cell Tryd.underlying45 infoI rfl wr w.heap.size _ (nvs l') (.int .i64 z) rfl ho (by rw [nvs_length]; omega) (by rw [nvs_length]; omega) bb
                obtain ⟨v3, w3, hcc, o3, k3, _⟩ := hcc
                have O3 := hid o3
                have B3 := hid (below_new hB.out ho k3)
                have hbad := hid hrd
                clear hq ho k3 o3 X1 hI hB hrd er' et hm H hRe hRR q1 q2 hc
                go_wp2_with (first
                  | (go_at_call 82; refine (hNum _).mono ?_; rintro x w2 ⟨rfl, hw2⟩; rw [hw2]; clear hw2 w2)
                  | (at_builtin; go_must (refine Lib.wpList_append_run _ rfl _ _ 45 45 rfl _ _ rfl rfl _ _ hcc ?_)))
                exact ⟨⟨k + 1, by omega, by go_num, hid (.inr ⟨20, _, _, _, by omega, rfl, rfl, rfl, hbad.out.symm, O3.out⟩), B3⟩, by simp [intOf]; omega⟩
              · rw [if_neg hc] at hrd
                have c3 : ¬ 4611686018427387903 - la' < (a : Int) := by rw [top] at hc; omega
                have c4 : decide (4611686018427387903 - la' < (a : Int)) = false := by simpa using c3
                have c5 : (L : Int) + (a : Int) ≤ 4611686018427387904 := by rw [top] at hc; omega
                have hcc := app_cell Tryd.underlying45 infoI rfl wr w.heap.size _ (nvs l') (.int .i64 ((L : Int) + (a : Int))) rfl ho (by rw [nvs_length]; omega) (by rw [nvs_length]; omega) bb
                obtain ⟨v3, w3, hcc, o3, k3, _⟩ := hcc
                have O3 := hid o3
                have B3 := hid (below_new hB.out ho k3)
                have hgd := hid hrd
                have Q1 := hid q1
                clear hq ho k3 o3 X1 hI hB hrd er' et H hRe hRR q1 q2 hc
                go_wp2_with (first
                  | (go_at_call 82; refine (hNum _).mono ?_; rintro x w2 ⟨rfl, hw2⟩; rw [hw2]; clear hw2 w2)
                  | (at_builtin; go_must (refine Lib.wpList_append_run _ rfl _ _ 45 45 rfl _ _ rfl rfl _ _ hcc ?_)))
                refine ⟨⟨k + 1, by omega, by go_num, hid (.inl ⟨L + a + 1, _, _, l' ++ [L + a], r2, rfl, rfl, rfl, ?_, rfl, by omega, by rw [List.length_append, hl']; rfl, by omega, Q1.out, ?_, ?_⟩), B3⟩, by simp [intOf]; omega⟩
                · omega
                · have := O3.out
                  rw [nvs_append]
                  exact this
                · rw [show n - (k + 1) = m from by omega]; exact hgd.out
          · obtain rfl : k = n := by omega
            have b0 : ¬ (k : Int) < (k : Int) := by omega
            have b0' : decide ((k : Int) < (k : Int)) = false := by simp
            rw [Nat.sub_self, rdRiseN] at hrd
            have hrr : rdRising st.rest many = .good l' r' := hRe.out.trans hrd.symm
            have hg := X1.good (pf_rising many) he hrr
            have hv : st.val [] (rdRising st.rest many) = l' := by rw [hrr, val_good he]
            rw [← et] at hg
            have G := hid hg
            have O := hid ho
            have hv' := hid hv
            have hne := hid (ho.neb hbl)
            have B := hid hB.out
            clear hg hrr hrd hv X1 hI ho er' et
            go_wp2_with (go_at_call 83; refine (ends_ok b _ _ _ _ _ hX.out.1).mono ?_; rintro e w2 ⟨rfl, hw2⟩; rw [hw2]; clear hw2 w2)
            go_ret
            refine ⟨_, rfl, ?_, G.out, (But.ofBelow B.out).setCell 1 _⟩
            rw [hv'.out]
            exact O.out.but (XRd.but1 _ b 1 _) hne.out
        · have hX := hid X1
          have z1 : ((e : Int) == 0) = false := by simp; omega
          have hrr : rdRising st.rest many = .bad e := hRe.out.trans hbad
          have G := hid (X1.bad he hrr)
          have hv : st.val [] (rdRising st.rest many) = [] := by rw [hrr, val_badx he]
          have hv' := hid hv
          have B := hid hB.out
          clear hrr hv X1 hI ho hbad
          by_cases hlt : k < n
          · have b0 : (k : Int) < (n : Int) := by omega
            have b0' : decide ((k : Int) < (n : Int)) = true := by simpa using b0
            go_wp2_with (go_at_call 83; refine (ends_bad b e _ _ _ _ _ hz hX.out.1).mono ?_; rintro e w2 ⟨rfl, hw2⟩; rw [hw2]; clear hw2 w2)
            go_ret
            refine ⟨_, rfl, ?_, G.out, (But.ofBelow B.out).setCell 2 _⟩
            rw [hv'.out]
            exact Own.nil _ _
          · have b0 : ¬ (k : Int) < (n : Int) := by omega
            have b0' : decide ((k : Int) < (n : Int)) = false := by simpa using b0
            go_wp2_with (go_at_call 83; refine (ends_bad b e _ _ _ _ _ hz hX.out.1).mono ?_; rintro e w2 ⟨rfl, hw2⟩; rw [hw2]; clear hw2 w2)
            go_ret
            refine ⟨_, rfl, ?_, G.out, (But.ofBelow B.out).setCell 2 _⟩
            rw [hv'.out]
            exact Own.nil _ _
  · rw [val_bad he, step_bad he]
    have b0 : (st.err != 0) = true := by simpa using he
    have b1 : (st.err == 0) = false := by simpa using he
    clear h
    go_enter Tryd.func41, Tryd.ntmps41
    go_wp2
    go_ret
    exact ⟨_, rfl, Own.nil _ _, H.out, But.refl _ _⟩
end Go.Proofs.YtonmhimoglgbgaaDoor
