import Derived.Test.YtonmhimoglgbgaaDoorXR1
namespace Go.Proofs.YtonmhimoglgbgaaDoor
open Go.RowKit Cod
theorem svX (l : List UInt8) : sv l = .string ⟨l.toArray⟩ := rfl
theorem drewN_row {w : World} {b : Nat} {o : Obj} (n : Nat) (h : w.heap[b]? = some o) : (w.drewN n).heap[b]? = some o := h
theorem XRd.drewN {w : World} {b : Nat} {s : ByteArray} {st : RS} (h : XRd w b s st) (n : Nat) : XRd (w.drewN n) b s st := h
theorem err_cells {w : World} {b : Nat} {s : ByteArray} {st : RS} (h : XRd w b s st) : w.cell? ⟨b, 0, none⟩ = some (.string s) ∧ w.cell? ⟨b, 1, none⟩ = some (.int .i64 (st.taken : Int)) ∧ w.cell? ⟨b, 2, none⟩ = some (.int .i64 st.err) ∧ w.frozen? ⟨b, 1, none⟩ = false ∧ w.frozen? ⟨b, 2, none⟩ = false :=
  ⟨by rw [cell_of_row _ _ _ _ _ _ h.1]; rfl, by rw [cell_of_row _ _ _ _ _ _ h.1]; rfl, by rw [cell_of_row _ _ _ _ _ _ h.1]; rfl, frozen_of_row _ _ _ _ _ h.1, frozen_of_row _ _ _ _ _ h.1⟩
set_option maxRecDepth 100000 in
set_option maxHeartbeats 1000000 in
theorem xByte_any (b : Nat) (s : ByteArray) (st : RS) (w : World) (h : XRd w b s st) :
    Calls Tryd.prog 39 #[.pointer (some ⟨b, 0, none⟩)] w fun r w' => r = .returned (.int .i64 ((st.val 0 (rdByte st.rest) : Nat) : Int)) ∧ XRd w' b s (st.step (rdByte st.rest)) ∧ But b w w' := by
  obtain ⟨c0, c1, c2, f1, f2⟩ := err_cells h
  have H := hid h
  by_cases he : st.err = 0
  · have h3 := h.2.2.1
    have h4 := h.2.2.2
    have h2 := h.2.1
    rw [he] at c2
    by_cases h0 : st.taken < s.size
    · obtain ⟨x, hx, hx2, hi, hi2⟩ := index_any s (st.taken : Int) st.taken rfl h0
      have hcons : s.data.toList.drop st.taken = UInt8.ofNat x :: s.data.toList.drop (st.taken + 1) := by
        have hk' : st.taken < s.data.toList.length := by rw [data_length]; exact h0
        rw [List.drop_eq_getElem_cons hk']
        congr 1
        rw [hx.out, List.getD_eq_getElem?_getD, List.getElem?_eq_getElem hk']
        simp
      have hxu : (UInt8.ofNat x).toNat = x := by simp; omega
      have hr : rdByte st.rest = .good x (s.data.toList.drop (st.taken + 1)) := by rw [h2, hcons, rdByte, hxu]
      have hg := H.out.good pf_byte he hr
      have hv : st.val 0 (rdByte st.rest) = x := by rw [hr, val_good he]
      rw [hv]
      have hto : s.size - (s.data.toList.drop (st.taken + 1)).length = st.taken + 1 := by rw [List.length_drop, data_length]; omega
      rw [hto] at hg
      have G := hid hg
      have g0 : (w.setCell ⟨b, 1, none⟩ (.int .i64 ((st.taken + 1 : Nat) : Int))).cell? ⟨b, 0, none⟩ = some (.string s) := (err_cells hg).1
      have g1 : (w.setCell ⟨b, 1, none⟩ (.int .i64 ((st.taken + 1 : Nat) : Int))).cell? ⟨b, 1, none⟩ = some (.int .i64 ((st.taken + 1 : Nat) : Int)) := by
        have := (err_cells hg).2.1
        rw [hr, step_good he] at this
        have hl : st.taken + (st.rest.length - (s.data.toList.drop (st.taken + 1)).length) = st.taken + 1 := by
          rw [h2, List.length_drop, List.length_drop, data_length]; omega
        simp only at this
        rw [hl] at this
        exact this
      have b0 : ((st.taken : Int) == (s.size : Int)) = false := by
        have : ¬ (st.taken : Int) = (s.size : Int) := by omega
        simpa using this
      have e1 : ((st.taken + 1 : Nat) : Int) = (st.taken : Int) + 1 := by omega
      rw [e1] at g0 g1 G
      have s0 := hi2 h0
      clear hg hcons hxu hr hto hv h h2 H hi2
      generalize st.taken = tk at *
      have x1 : IntKind.i64.wrap ((tk : Int) + 1 - 1) = (tk : Int) := by rw [show (tk : Int) + 1 - 1 = (tk : Int) from by omega, IntKind.wrap_i64]; omega
      have x2 : (tk : Int) + 1 - 1 = (tk : Int) := by omega
      go_enter Tryd.func39, Tryd.ntmps39
      go_wp2
      go_quiet (fail)
      go_wp2
      go_quiet (fail)
      go_wp2
      go_ret
      exact ⟨rfl, G.out, (((But.refl b w).drewN _).setCell 1 _).drewN _⟩
    · have hn : st.rest = [] := by rw [h2, List.drop_eq_nil_of_le (by rw [data_length]; omega)]
      have hr : rdByte st.rest = .bad 21 := by rw [hn]; rfl
      have G := hid (H.out.bad he hr)
      have hv : st.val 0 (rdByte st.rest) = 0 := by rw [hr, val_badx he]
      rw [hv]
      have e0 : st.taken = s.size := by omega
      rw [e0] at c1
      have b0 : ((s.size : Int) == (s.size : Int)) = true := by simp
      clear hn hr hv h h2 H e0
      go_enter Tryd.func39, Tryd.ntmps39
      go_wp2
      go_quiet (fail)
      go_wp2
      go_ret
      exact ⟨rfl, G.out, ((But.refl b w).drewN _).setCell 2 _⟩
  · rw [val_bad he, step_bad he]
    have b0 : (st.err != 0) = true := by simpa using he
    have b1 : (st.err == 0) = false := by simpa using he
    clear h
    go_enter Tryd.func39, Tryd.ntmps39
    go_wp2
    go_ret
    exact ⟨rfl, H.out, But.refl _ _⟩
set_option maxRecDepth 100000 in
set_option maxHeartbeats 1000000 in
theorem xNum_any (b : Nat) (s : ByteArray) (st : RS) (w : World) (h : XRd w b s st) :
    Calls Tryd.prog 40 #[.pointer (some ⟨b, 0, none⟩)] w fun r w' => r = .returned (.int .i64 ((st.val 0 (rdNum st.rest) : Nat) : Int)) ∧ XRd w' b s (st.step (rdNum st.rest)) ∧ But b w w' := by
  obtain ⟨c0, c1, c2, f1, f2⟩ := err_cells h
  have H := hid h
  by_cases he : st.err = 0
  · have h3 := h.2.2.1
    have h4 := h.2.2.2
    have h2 := h.2.1
    rw [he] at c2
    have hN := fun w => number_any s st.taken h3 (by omega) w
    rw [← h2] at hN
    cases hR : rdNum st.rest with
    | good n r =>
      have G := hid (H.out.good pf_num he hR)
      rw [hR] at G hN
      rw [val_good he]
      simp only [tupA] at hN
      have hrow := hid h.1
      clear h2 h hR
      go_enter Tryd.func40, Tryd.ntmps40
      go_wp2
      go_quiet ((go_at_call 82; exact Calls.quiet_of_same (hN _)))
      go_wp2_with (go_at_call 83; refine (ends_ok b _ _ _ _ (w.drewN _) hrow.out).mono ?_; rintro e w1 ⟨rfl, hw1⟩; rw [hw1]; clear hw1 w1)
      go_ret
      exact ⟨rfl, G.out, ((But.refl b w).drewN _).setCell 1 _⟩
    | bad e =>
      have hz := nz_num _ e hR
      have G := hid (H.out.bad he hR)
      rw [hR] at G hN
      rw [val_badx he]
      simp only [tupA] at hN
      have hrow := hid h.1
      clear h2 h hR
      go_enter Tryd.func40, Tryd.ntmps40
      go_wp2
      go_quiet ((go_at_call 82; exact Calls.quiet_of_same (hN _)))
      go_wp2_with (go_at_call 83; refine (ends_bad b e _ _ _ _ (w.drewN _) hz hrow.out).mono ?_; rintro e w1 ⟨rfl, hw1⟩; rw [hw1]; clear hw1 w1)
      go_ret
      exact ⟨rfl, G.out, ((But.refl b w).drewN _).setCell 2 _⟩
  · rw [val_bad he, step_bad he]
    have b0 : (st.err != 0) = true := by simpa using he
    have b1 : (st.err == 0) = false := by simpa using he
    clear h
    go_enter Tryd.func40, Tryd.ntmps40
    go_wp2
    go_ret
    exact ⟨rfl, H.out, But.refl _ _⟩
set_option maxRecDepth 100000 in
set_option maxHeartbeats 1000000 in
theorem xMany_any (b : Nat) (s : ByteArray) (st : RS) (most : Int) (w : World) (h : XRd w b s st) :
    Calls Tryd.prog 84 #[.pointer (some ⟨b, 0, none⟩), .int .i64 most] w fun r w' => r = .returned (tupA s.size (rdMany st.rest most)) ∧ Below w.heap.size w w' ∧ w'.heap = w.heap := by
  obtain ⟨c0, c1, c2, f1, f2⟩ := err_cells h
  have h3 := h.2.2.1
  have h4 := h.2.2.2
  have h2 := h.2.1
  have hN := fun w => number_any s st.taken h3 (by omega) w
  rw [← h2] at hN
  rw [rdMany]
  by_cases hm : most < 0
  · rw [if_pos hm]
    simp only [tupA]
    clear h h2 hN
    go_enter Tryd.func84, Tryd.ntmps84
    go_wp2
    go_ret3
    exact ⟨rfl, Below.refl _ _, rfl⟩
  · rw [if_neg hm]
    cases hR : rdNum st.rest with
    | bad e =>
      have hz := nz_num _ e hR
      have z1 : ((e : Int) == 0) = false := by simp; omega
      rw [hR] at hN
      rw [Rd.bind_bad]
      simp only [tupA] at hN ⊢
      clear h h2 hR
      go_enter Tryd.func84, Tryd.ntmps84
      go_wp2
      go_quiet ((go_at_call 82; exact Calls.quiet_of_same (hN _)))
      go_wp2
      go_ret3
      exact ⟨rfl, below_drewN (Below.refl _ _) _, rfl⟩
    | good n r =>
      rw [hR] at hN
      rw [Rd.bind_good]
      simp only [tupA] at hN
      by_cases hc : most < (n : Int)
      · rw [if_pos hc]
        simp only [tupA]
        have z1 : (n : Int) > most := hc
        have z2 : decide (most < (n : Int)) = true := by simpa using hc
        clear h h2 hR
        go_enter Tryd.func84, Tryd.ntmps84
        go_wp2
        go_quiet ((go_at_call 82; exact Calls.quiet_of_same (hN _)))
        go_wp2
        go_ret3
        exact ⟨rfl, below_drewN (Below.refl _ _) _, rfl⟩
      · rw [if_neg hc]
        simp only [tupA]
        have z2 : decide (most < (n : Int)) = false := by simpa using hc
        clear h h2 hR
        go_enter Tryd.func84, Tryd.ntmps84
        go_wp2
        go_quiet ((go_at_call 82; exact Calls.quiet_of_same (hN _)))
        go_wp2
        go_ret3
        exact ⟨rfl, below_drewN (Below.refl _ _) _, rfl⟩
set_option maxRecDepth 100000 in
set_option maxHeartbeats 1000000 in
theorem xText_any (b : Nat) (s : ByteArray) (st : RS) (most : Int) (w : World) (h : XRd w b s st) :
    Calls Tryd.prog 43 #[.pointer (some ⟨b, 0, none⟩), .int .i64 most] w fun r w' => r = .returned (sv (st.val [] (rdText st.rest most))) ∧ XRd w' b s (st.step (rdText st.rest most)) ∧ But b w w' := by
  obtain ⟨c0, c1, c2, f1, f2⟩ := err_cells h
  have H := hid h
  by_cases he : st.err = 0
  · have h3 := h.2.2.1
    have h4 := h.2.2.2
    have h2 := h.2.1
    rw [he] at c2
    by_cases hm : most < 0
    · have hR : rdText st.rest most = .bad 1 := by rw [rdText, rdMany, if_pos hm]; rfl
      have G := hid (H.out.bad he hR)
      have hv : st.val [] (rdText st.rest most) = [] := by rw [hR, val_badx he]
      rw [hv, svX]
      clear h2 h hR hv
      go_enter Tryd.func43, Tryd.ntmps43
      go_wp2
      go_ret
      exact ⟨rfl, G.out, (But.refl b w).setCell 2 _⟩
    · have hN := fun w => rtext_any s st.taken most (by omega) h3 (by omega) w
      rw [← h2] at hN
      cases hR : rdText st.rest most with
      | good t r =>
        have G := hid (H.out.good (pf_text most) he hR)
        rw [hR] at G hN
        rw [val_good he, svX]
        simp only [tupT, svX] at hN
        have hrow := hid h.1
        clear h2 h hR
        go_enter Tryd.func43, Tryd.ntmps43
        go_wp2
        go_quiet ((go_at_call 86; exact Calls.quiet_of_same (hN _)))
        go_wp2_with (go_at_call 83; refine (ends_ok b _ _ _ _ (w.drewN _) hrow.out).mono ?_; rintro e w1 ⟨rfl, hw1⟩; rw [hw1]; clear hw1 w1)
        go_ret
        exact ⟨rfl, G.out, ((But.refl b w).drewN _).setCell 1 _⟩
      | bad e =>
        have hz := nz_text _ _ e hR
        have G := hid (H.out.bad he hR)
        rw [hR] at G hN
        rw [val_badx he, svX]
        simp only [tupT, svX] at hN
        have hrow := hid h.1
        clear h2 h hR
        go_enter Tryd.func43, Tryd.ntmps43
        go_wp2
        go_quiet ((go_at_call 86; exact Calls.quiet_of_same (hN _)))
        go_wp2_with (go_at_call 83; refine (ends_bad b e _ _ _ _ (w.drewN _) hz hrow.out).mono ?_; rintro e w1 ⟨rfl, hw1⟩; rw [hw1]; clear hw1 w1)
        go_ret
        exact ⟨rfl, G.out, ((But.refl b w).drewN _).setCell 2 _⟩
  · rw [val_bad he, step_bad he, svX]
    have b0 : (st.err != 0) = true := by simpa using he
    have b1 : (st.err == 0) = false := by simpa using he
    clear h
    go_enter Tryd.func43, Tryd.ntmps43
    go_wp2
    go_ret
    exact ⟨rfl, H.out, But.refl _ _⟩
set_option maxRecDepth 100000 in
set_option maxHeartbeats 1000000 in
theorem xRaw_any (b : Nat) (s : ByteArray) (st : RS) (n : Int) (w : World) (hn9 : n ≤ 9223372036854775807) (h : XRd w b s st) :
    Calls Tryd.prog 47 #[.pointer (some ⟨b, 0, none⟩), .int .i64 n] w fun r w' => r = .returned (sv (st.val [] (rdRaw st.rest n))) ∧ XRd w' b s (st.step (rdRaw st.rest n)) ∧ But b w w' := by
  obtain ⟨c0, c1, c2, f1, f2⟩ := err_cells h
  have H := hid h
  by_cases he : st.err = 0
  · have h3 := h.2.2.1
    have h4 := h.2.2.2
    have h2 := h.2.1
    have hl := h.len
    rw [he] at c2
    by_cases hm : n < 0
    · have hR : rdRaw st.rest n = .bad 1 := by rw [rdRaw, if_pos hm]
      have G := hid (H.out.bad he hR)
      have hv : st.val [] (rdRaw st.rest n) = [] := by rw [hR, val_badx he]
      rw [hv, svX]
      clear h2 h hR hv
      go_enter Tryd.func47, Tryd.ntmps47
      go_wp2
      go_ret
      exact ⟨rfl, G.out, (But.refl b w).setCell 2 _⟩
    · have x1 : IntKind.i64.wrap ((s.size : Int) - (st.taken : Int)) = (s.size : Int) - (st.taken : Int) := by rw [IntKind.wrap_i64]; omega
      by_cases hc : (st.rest.length : Int) < n
      · have hR : rdRaw st.rest n = .bad 21 := by rw [rdRaw, if_neg hm, if_pos hc]
        have G := hid (H.out.bad he hR)
        have hv : st.val [] (rdRaw st.rest n) = [] := by rw [hR, val_badx he]
        rw [hv, svX]
        have z1 : (s.size : Int) - (st.taken : Int) < n := by omega
        have z2 : decide ((s.size : Int) - (st.taken : Int) < n) = true := by simpa using z1
        clear h2 h hR hv hl hc
        go_enter Tryd.func47, Tryd.ntmps47
        go_wp2
        go_quiet (fail)
        go_wp2
        go_ret
        exact ⟨rfl, G.out, ((But.refl b w).drewN _).setCell 2 _⟩
      · have hR : rdRaw st.rest n = .good (st.rest.take n.toNat) (st.rest.drop n.toNat) := by rw [rdRaw, if_neg hm, if_neg hc]
        have hg := H.out.good (pf_raw n) he hR
        have hv : st.val [] (rdRaw st.rest n) = st.rest.take n.toNat := by rw [hR, val_good he]
        have hto : ((s.size - (st.rest.drop n.toNat).length : Nat) : Int) = (st.taken : Int) + n := by rw [List.length_drop, hl]; omega
        rw [hto] at hg
        have G := hid hg
        have hsv : sv (st.rest.take n.toNat) = .string (s.extract st.taken (st.taken + n.toNat)) := by rw [h2, sv_mid]
        rw [hv, hsv]
        have z1 : ¬ (s.size : Int) - (st.taken : Int) < n := by omega
        have z2 : decide ((s.size : Int) - (st.taken : Int) < n) = false := by simpa using z1
        have z3 : (st.taken : Int) + n ≤ (s.size : Int) := by omega
        have z4 : (st.taken : Int) + n - n = (st.taken : Int) := by omega
        have z5 : IntKind.i64.wrap ((st.taken : Int) + n) = (st.taken : Int) + n := by rw [IntKind.wrap_i64]; omega
        have z6 : (st.taken : Int) ≤ (st.taken : Int) + n := by omega
        have z7 : ((st.taken : Int) + n).toNat = st.taken + n.toNat := by omega
        have z8 : (0 : Int) ≤ (st.taken : Int) + n := by omega
        have z9 : IntKind.i64.wrap (st.taken : Int) = (st.taken : Int) := by rw [IntKind.wrap_i64]; omega
        clear h2 h hR hv hl hc hg hto hsv
        go_enter Tryd.func47, Tryd.ntmps47
        go_wp2
        go_quiet (fail)
        go_wp2
        go_quiet (fail)
        go_wp2
        go_ret
        exact ⟨rfl, G.out, (((But.refl b w).drewN _).setCell 1 _).drewN _⟩
  · rw [val_bad he, step_bad he, svX]
    have b0 : (st.err != 0) = true := by simpa using he
    have b1 : (st.err == 0) = false := by simpa using he
    clear h
    go_enter Tryd.func47, Tryd.ntmps47
    go_wp2
    go_ret
    exact ⟨rfl, H.out, But.refl _ _⟩
end Go.Proofs.YtonmhimoglgbgaaDoor
