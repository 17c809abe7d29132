import Derived.Test.YtipcpdoejkoadaaDoorY1
namespace Go.Proofs.YtipcpdoejkoadaaDoor
open Go.RowKit Cod

set_option maxRecDepth 100000 in
set_option maxHeartbeats 2000000 in
theorem xText_any (x : Nat) (S : List UInt8) (E : Int) (s : ByteArray) (most : Int) (w : World) (h : RWr w x S E) (hl : S.length ≤ 4611686018427000000) (hs : s.size ≤ 4611686018427000000) :
    Calls Tryd.prog 78 #[.pointer (some ⟨x, 0, none⟩), .string s, .int .i64 most] w (RPut w x S E (textErr s.size most) (wrText s.data.toList)) := by
  by_cases h0 : most < 0
  · have e1 : textErr s.size most = 1 := by rw [textErr, if_pos h0]
    rw [e1]
    have H := hid h
    clear h e1
    go_enter Tryd.func78, Tryd.ntmps78
    go_wp2_with (go_at_call 91; refine (wrong_any x S E 1 _ H.out).mono ?_; rintro y w1 ⟨rfl, k1, k2⟩; have K1 := hid k1; have K2 := hid k2; clear k1 k2)
    go_end0
    exact rput_no (by omega) K1.out K2.out
  by_cases h1 : most < (s.size : Int)
  · have e1 : textErr s.size most = 22 := by rw [textErr, if_neg h0, if_pos h1]
    rw [e1]
    have H := hid h
    clear h e1
    go_enter Tryd.func78, Tryd.ntmps78
    go_wp2_with (go_at_call 91; refine (wrong_any x S E 22 _ H.out).mono ?_; rintro y w1 ⟨rfl, k1, k2⟩; have K1 := hid k1; have K2 := hid k2; clear k1 k2)
    go_end0
    exact rput_no (by omega) K1.out K2.out
  · have e1 : textErr s.size most = 0 := by rw [textErr, if_neg h0, if_neg h1]
    rw [e1]
    have h9 := digs_len9 (n := s.size) (by omega)
    have hx := h.lt
    have c0 := h.cell0
    have f0 : w.frozen? ⟨x, 0, none⟩ = false := frozen_of_row _ _ _ _ _ h
    have hD := fun w => digits_any s.size (by omega) w
    have hadd := add_sv Tryd.prog 9 S (digs s.size) (by omega)
    have hadd2 := add_sv Tryd.prog 9 (S ++ digs s.size) s.data.toList (by rw [List.length_append, data_length]; omega)
    obtain ⟨z, hz⟩ : ∃ z, Hid (sv (S ++ wrText s.data.toList) = .string z) := ⟨_, rfl⟩
    rw [sv_of, List.append_assoc, show digs s.size ++ s.data.toList = wrText s.data.toList from by rw [wrText, data_length], hz.out] at hadd2
    have H := hid h
    have HD := hid hD
    clear h hD h9 e1
    go_enter Tryd.func78, Tryd.ntmps78
    go_wp2
    go_region_with ((go_at_call 65; refine (HD.out _).mono ?_; rintro y w1 ⟨rfl, k1⟩; have K1 := hid k1; have c1 := (k1.cell (p := ⟨x, 0, none⟩) hx).trans c0; have f1 := (k1.frozen (p := ⟨x, 0, none⟩) hx).trans f0; clear k1))
    all_goals go_end0
    all_goals exact rput_yes H.out hz.out (undrew K1.out)
set_option maxRecDepth 100000 in
set_option maxHeartbeats 1000000 in
theorem xDone_any (x : Nat) (S : List UInt8) (E : Int) (w : World) (h : RWr w x S E) :
    Calls Tryd.prog 38 #[.pointer (some ⟨x, 0, none⟩)] w fun r w' => r = .returned (.tuple #[sv (if E = 0 then S else []), .int .i64 E]) ∧ Below w.heap.size w w' := by
  have c0 := h.cell0
  have c1 := h.cell1
  clear h
  by_cases hE : E = 0
  · subst hE
    rw [if_pos rfl]
    go_enter Tryd.func38, Tryd.ntmps38
    go_wp2
    go_ret2
    exact ⟨rfl, Below.refl _ _⟩
  · rw [if_neg hE]
    have hE' : (E == 0) = false := by simp; exact hE
    have hE2 : (E != 0) = true := by simp; exact hE
    go_enter Tryd.func38, Tryd.ntmps38
    go_wp2
    go_quiet (fail)
    go_wp2
    go_ret2
    exact ⟨rfl, below_drewN (Below.refl _ _) _⟩
set_option maxRecDepth 100000 in
set_option maxHeartbeats 2000000 in
theorem xRising_any (x : Nat) (S : List UInt8) (E : Int) (u : Value) (l : List Int) (hb : ∀ c ∈ l, -9223372036854775808 ≤ c ∧ c ≤ 9223372036854775807) (hll : l.length ≤ 1000000000) (w : World) (hs : SlcI w u l) (h : RWr w x S E) (hl : S.length ≤ 4611686018427000000) :
    Calls Tryd.prog 76 #[.pointer (some ⟨x, 0, none⟩), u] w (RPut w x S E (risingErr l) (wrRising (l.map Int.toNat))) := by
  have hx := h.lt
  have H := hid h
  have HS := hid hs
  have HB := hid hb
  obtain ⟨a, cap, rfl, _⟩ := hs
  have hD := digits_any l.length (by omega) w
  have hd10 := digs_len9 (n := l.length) (by omega)
  clear h hb
  go_enter Tryd.func76, Tryd.ntmps76
  go_wp2_with (go_at_call 65; refine hD.mono ?_; rintro y w1 ⟨rfl, k1⟩; have K1 := hid k1; clear k1)
  clear hD
  go_loopw [4, 5, 6] (fun s la i w' => ∃ (k L : Nat) (t : List UInt8), k ≤ l.length ∧ i = .int .i64 k ∧ la = .int .i64 ((L : Int) - 1) ∧ L ≤ 4611686018427387905 ∧ s = sv t ∧ t.length ≤ 9 + 9 * k ∧ Hid (risesB ((L : Int) - 1) (l.drop k) = risesB (-1) l) ∧ Hid (risesB (-1) l = true → t ++ wrRise L ((l.drop k).map Int.toNat) = wrRising (l.map Int.toNat)) ∧ Hid (Below w.heap.size w w')) (fun _ _ i _ => l.length - (intOf i).toNat)
  case atStart => exact ⟨0, 0, _, by omega, rfl, rfl, by omega, rfl, by omega, hid rfl, hid (fun _ => by rw [List.drop_zero, wrRising, List.length_map]), K1⟩
  case round =>
    obtain ⟨k, L, t, hk, rfl, rfl, hL, rfl, htl, hr, ht, hbl⟩ := hrel
    by_cases hlt : k < l.length
    · have hlt' : (k : Int) < (l.length : Int) := by omega
      obtain ⟨a', cap', hu, hcs⟩ := HS.out.keep (S := fun _ => False) (Keep.ofBelow hbl.out) (fun _ _ _ _ h => h)
      cases hu
      obtain ⟨xx, hxx, hxb, hc⟩ := hcs k _ (List.getElem?_eq_getElem hlt)
      subst hxx
      obtain ⟨g1, g2⟩ := HB.out _ (List.getElem_mem hlt)
      have hr2 := hr.out
      have ht2 := ht.out
      rw [List.drop_eq_getElem_cons hlt, risesB] at hr2
      rw [List.drop_eq_getElem_cons hlt, List.map_cons, wrRise_cons] at ht2
      generalize l[k] = c at *
      clear hcs
      have R1 := hid (H.out.below hbl.out)
      by_cases hn : 0 ≤ c ∧ c ≤ 4611686018427387904
      · have e : decide (0 ≤ c ∧ c ≤ 4611686018427387904) = true := decide_eq_true hn
        by_cases hLc : (L : Int) - 1 < c
        · rw [decide_eq_true ⟨hn.1, hn.2, hLc⟩, Bool.true_and] at hr2
          obtain ⟨m, rfl⟩ := Int.eq_ofNat_of_zero_le hn.1
          rw [Int.toNat_natCast] at ht2
          have b0 : ¬ (m : Int) ≤ (L : Int) - 1 := by omega
          have e1 : (m : Int) - ((L : Int) - 1) - 1 = ((m - L : Nat) : Int) := by omega
          have b1 : (m : Int) - ((L : Int) - 1) ≤ 9223372036854775807 := by omega
          have b2 : 0 ≤ (m : Int) - ((L : Int) - 1) := by omega
          have h9 := digs_len9 (n := m - L) (by omega)
          have hD2 := digits_any (m - L) (by omega) wr
          have hadd := add_sv Tryd.prog 9 t (digs (m - L)) (by omega)
          have HR2 := hid hr2
          have HT2 := hid ht2
          have h9' := hid h9
          have hm62 : m ≤ 4611686018427387904 := by omega
          clear hr2 ht2 hn h9
          go_wp2_with (first
            | (go_at_call 92; refine (may_any (m : Int) _).mono ?_; rw [e]; rintro y w' ⟨rfl, hw'⟩; rw [hw']; clear hw' w')
            | (go_at_call 65; fail))
          go_at_call 65
          first | refine hD2.mono ?_ | (rw [e1]; refine hD2.mono ?_)
          rintro y w2 ⟨rfl, k2⟩
          have K2 := hid (hbl.out.trans (k2.mono hbl.out.size))
          have c2 := (k2.cell (p := xx.add k) (by rw [add_block]; exact hxb)).trans hc
          clear k2
          go_wp2
          refine ⟨⟨k + 1, m + 1, _, by omega, by go_num, by go_num, by omega, rfl, ?_, ?_, ?_, K2⟩, by simp [intOf]; omega⟩
          · rw [List.length_append]; have := h9'.out; omega
          · show _ = _
            rw [show ((m + 1 : Nat) : Int) - 1 = (m : Int) from by omega]; exact HR2.out
          · exact hid (fun hh => by rw [List.append_assoc]; exact HT2.out hh)
        · have e20 : risingErr l = 20 := by
            rw [risingErr, ← hr2, decide_eq_false (by omega), Bool.false_and]; rfl
          rw [e20]
          have b0 : c ≤ (L : Int) - 1 := by omega
          clear hr2 ht2 hn e20
          go_wp2_with (first
            | (go_at_call 92; refine (may_any c _).mono ?_; rw [e]; rintro y w' ⟨rfl, hw'⟩; rw [hw']; clear hw' w')
            | (go_at_call 91; refine (wrong_any x S E 20 _ R1.out).mono ?_; rintro y w2 ⟨rfl, k1, k2⟩; have K3 := hid k1; have K4 := hid (But.below_trans hbl.out k2); clear k1 k2))
          go_end0
          exact rput_no (by omega) K3.out K4.out
      · have e : decide (0 ≤ c ∧ c ≤ 4611686018427387904) = false := decide_eq_false hn
        have e20 : risingErr l = 20 := by
          rw [risingErr, ← hr2, decide_eq_false (by omega), Bool.false_and]; rfl
        rw [e20]
        clear hr2 ht2 hn e20
        go_wp2_with (first
          | (go_at_call 92; refine (may_any c _).mono ?_; rw [e]; rintro y w' ⟨rfl, hw'⟩; rw [hw']; clear hw' w')
          | (go_at_call 91; refine (wrong_any x S E 20 _ R1.out).mono ?_; rintro y w2 ⟨rfl, k1, k2⟩; have K3 := hid k1; have K4 := hid (But.below_trans hbl.out k2); clear k1 k2))
        go_end0
        exact rput_no (by omega) K3.out K4.out
    · obtain rfl : k = l.length := by omega
      have hr2 := hr.out
      rw [List.drop_length, risesB] at hr2
      have e0 : risingErr l = 0 := by rw [risingErr, ← hr2]; rfl
      have ht2 := ht.out hr2.symm
      rw [List.drop_length, List.map_nil, wrRise, List.append_nil] at ht2
      subst ht2
      have E0 := hid e0
      have R1 := H.out.below hbl.out
      have c0 := R1.cell0
      have f0 : wr.frozen? ⟨x, 0, none⟩ = false := frozen_of_row _ _ _ _ _ R1
      have hadd := add_sv Tryd.prog 9 S (wrRising (l.map Int.toNat)) (by omega)
      obtain ⟨z, hz⟩ : ∃ z, Hid (sv (S ++ wrRising (l.map Int.toNat)) = .string z) := ⟨_, rfl⟩
      rw [hz.out] at hadd
      clear R1 hr2 e0
      go_wp2
      go_end0
      rw [E0.out]
      exact rput_yes H.out hz.out hbl.out
end Go.Proofs.YtipcpdoejkoadaaDoor
