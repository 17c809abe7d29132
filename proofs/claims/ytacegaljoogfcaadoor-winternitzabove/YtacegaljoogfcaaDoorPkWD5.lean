import Derived.Test.YtacegaljoogfcaaDoorPkWD4
/- Layer 20: WinternitzAbove -/
namespace Go.Proofs.YtacegaljoogfcaaDoor
open Go.RowKit
namespace Wz
theorem sum_w (s d : ByteArray) (hs : s.size ≤ 2305843009213690000) (A : List UInt8) (hA : Hid (Sha.sha (109 :: s.data.toList) = A)) (hD : Hid (sv A = .string d)) (w : World) (T : Tabs w) :
    Calls Tryd.prog 7 #[.slice (some ⟨w.heap.size, 0, none⟩) 2 2] (w.alloc (.cells #[.string { data := #[109] }, .string s] 9)) fun e w' => e = .returned (.string d) ∧ Below w.heap.size w w' := by
  have hsl := data_length s
  have hT := T.lt
  have h := sum_any w.heap.size 0 2 [[109], s.data.toList] (by simp [total]; omega) (by simp [maxLen]) (w.alloc (.cells #[sv [109], sv s.data.toList] 9)) (T.below ((Below.refl _ _).alloc (Nat.le_refl _) _) hT) (by rw [size_alloc]; omega) (texts2 w [109] s.data.toList _)
  rw [show ([[109], s.data.toList] : List (List UInt8)).flatten = 109 :: s.data.toList by simp, hA.out, hD.out] at h
  exact h.mono fun e w' ⟨h1, h2⟩ => ⟨h1, ((Below.refl _ _).alloc (Nat.le_refl _) _).trans (h2.mono (by rw [size_alloc]; omega))⟩
theorem bdrew {B : Nat} {a w : World} (h : Below B a w) (n : Nat) : Below B a (w.drewN n) := ⟨h.os, h.tape, h.output, h.size, h.block⟩
set_option maxRecDepth 100000 in
set_option maxHeartbeats 4000000 in
theorem above_law (s t : ByteArray) (hs : s.size ≤ 2305843009213690000) (ht : t.size ≤ 2305843009213690000) (w : World) (T : Tabs w) :
    Calls Tryd.prog 3 #[.string s, .string t] w fun e w' => e = .returned (.bool true) ∧ Below w.heap.size w w' := by
  have hT := T.lt
  obtain ⟨A, hA⟩ : ∃ A, Hid (Sha.sha (109 :: s.data.toList) = A) := ⟨_, rfl⟩
  obtain ⟨B, hB⟩ : ∃ B, Hid (Sha.sha (109 :: t.data.toList) = B) := ⟨_, rfl⟩
  obtain ⟨d, hD⟩ : ∃ d, Hid (sv A = .string d) := ⟨_, rfl⟩
  obtain ⟨e', hE⟩ : ∃ d, Hid (sv B = .string d) := ⟨_, rfl⟩
  have hAl : Hid (A.length = 32) := by rw [← hA.out]; exact Sha.sha_length _
  have hBl : Hid (B.length = 32) := by rw [← hB.out]; exact Sha.sha_length _
  have hda : Hid (d.data.toList = A) := by
    have := hD.out
    rw [sv] at this
    injection this with this
    rw [← this]; rfl
  have hea : Hid (e'.data.toList = B) := by
    have := hE.out
    rw [sv] at this
    injection this with this
    rw [← this]; rfl
  have hds : d.size = 32 := by rw [← data_length, hda.out, hAl.out]
  have hes : e'.size = 32 := by rw [← data_length, hea.out, hBl.out]
  go_enter Tryd.func3, Tryd.ntmps3
  go_wp2_with (go_at_call 5; refine (known20_any _ T).mono ?_)
  rintro e w1 ⟨rfl, B1⟩
  have T1 := T.below B1 hT
  go_wp2_with (go_at_call 6; refine (digits_any s hs A hA _ T1).mono ?_)
  rintro e w2 ⟨v2, rfl, O2, B2⟩
  have T2 := T1.below B2 T1.lt
  obtain ⟨g, cap, rfl, L2, ge2⟩ := own_lsn O2 (by rw [dg_len A hAl.out]; omega)
  rw [dg_len A hAl.out]
  have l2 := L2.lt
  have B12 := B1.trans (B2.mono B1.size)
  clear O2
  go_wp2_with (go_at_call 6; refine (digits_any t ht B hB _ T2).mono ?_)
  rintro e w3 ⟨v3, rfl, O3, B3⟩
  have T3 := T2.below B3 T2.lt
  obtain ⟨g3, cap3, rfl, L3, ge3⟩ := own_lsn O3 (by rw [dg_len B hBl.out]; omega)
  rw [dg_len B hBl.out]
  have l3 := L3.lt
  have B13 := B12.trans (B3.mono B12.size)
  have L2 := L2.below B3 l2
  have s3 := B3.size
  clear O3 B12 B3 B1 B2
  go_wp2_with (go_at_call 7; refine (sum_w s d hs A hA hD _ T3).mono ?_)
  rintro e w4 ⟨rfl, B4⟩
  have T4 := T3.below B4 T3.lt
  have s4 := B4.size
  have L2 := L2.below B4 (by omega)
  have L3 := L3.below B4 l3
  have B14 := B13.trans (B4.mono B13.size)
  clear B13 B4
  go_wp2_with (go_at_call 7; refine (sum_w t e' ht B hB hE _ T4).mono ?_)
  rintro e w5 ⟨rfl, B5⟩
  have s5 := B5.size
  have L2 := hid (L2.below B5 (by omega))
  have L3 := hid (L3.below B5 (by omega))
  have B15 := hid (B14.trans (B5.mono B14.size))
  clear B14 B5 T T1 T2 T3 T4 ge2 ge3 s3 s4 s5 l2 l3 hA hB hD hE hs ht hT
  have n1 : ((67 : Int) != 67) = false := rfl
  have n2 : ((d.size : Int) != 32) = false := by rw [hds]; rfl
  have n3 : ((e'.size : Int) != 32) = false := by rw [hes]; rfl
  go_wp2
  go_loopw [10, 11, 12, 13] (fun u v q i w' => ∃ I : Nat, I ≤ 67 ∧ i = .int .i64 (I : Int) ∧ u = .bool (upB (dg A) (dg B) I) ∧ v = .bool (upB (dg B) (dg A) I) ∧ q = .int .i64 ((sm ((hl A).take I) : Nat) : Int) ∧ Hid (LsN w' g (dg A)) ∧ Hid (LsN w' g3 (dg B)) ∧ Hid (Below w.heap.size w w')) (fun _ _ _ i _ => 67 - (intOf i).toNat)
  case atStart => exact ⟨0, by omega, rfl, rfl, rfl, rfl, L2, L3, B15⟩
  case round =>
    clear L2 L3 B15
    obtain ⟨I, hI, rfl, rfl, rfl, rfl, L2, L3, B15⟩ := hrel
    have hsl := sm_le ((hl A).take I)
    have hsl2 : ((hl A).take I).length ≤ 64 := by rw [List.length_take, hl_len, hAl.out]; omega
    by_cases hlt : I < 67
    · have c1 : (I : Int) < 67 := by omega
      have i0 : (0 : Int) ≤ (I : Int) := by omega
      have ca := L2.out.get (j := I) (by rw [dg_len A hAl.out]; exact hlt)
      have cb := L3.out.get (j := I) (by rw [dg_len B hBl.out]; exact hlt)
      have hxl : (dg A).getD I 0 ≤ 15 := by
        rw [List.getD_eq_getElem?_getD, List.getElem?_eq_getElem (by rw [dg_len A hAl.out]; exact hlt)]
        exact dg_lt A hAl.out _ (List.getElem_mem _)
      have eu := upB_succ (dg A) (dg B) I
      have ed := upB_succ (dg B) (dg A) I
      have es : I < 64 → Hid (sm ((hl A).take (I + 1)) = sm ((hl A).take I) + (15 - (dg A).getD I 0)) := fun h => by
        have hh : I < (hl A).length := by rw [hl_len, hAl.out]; omega
        rw [sm_take _ hh, dg_at A hAl.out h, List.getD_eq_getElem?_getD, List.getElem?_eq_getElem hh]; exact rfl
      have es2 : ¬ I < 64 → Hid (sm ((hl A).take (I + 1)) = sm ((hl A).take I)) := fun h => by
        rw [List.take_of_length_le (by rw [hl_len, hAl.out]; omega), List.take_of_length_le (by rw [hl_len, hAl.out]; omega)]; exact rfl
      have es3 : sm ((hl A).take I) ≤ 960 := by omega
      clear hsl hsl2
      have EU := hid eu
      have ED := hid ed
      clear eu ed
      generalize sm ((hl A).take I) = S at *
      generalize (dg A).getD I 0 = x at *
      generalize (dg B).getD I 0 = y at *
      generalize upB (dg A) (dg B) I = U at *
      generalize upB (dg B) (dg A) I = V at *
      have x0 : ¬ (x : Int) < 0 := by omega
      have x1 : ¬ (15 : Int) < (x : Int) := by omega
      have xs : (S : Int) + 15 - (x : Int) = ((S + (15 - x) : Nat) : Int) := by omega
      by_cases h64 : I < 64
      · have c2 : (I : Int) < 64 := by omega
        have es := es h64
        clear es2
        rcases Nat.lt_trichotomy x y with h | h | h
        · {
          have d1 : decide (y < x) = false := by simp; omega
          have d2 : decide (x < y) = true := by simp; omega
          have d3 : ¬ (y : Int) < (x : Int) := by omega
          have d4 : (x : Int) < (y : Int) := by omega
          cases U <;> cases V <;> (go_wp2; go_quiet (fail); go_wp2; go_quiet (fail); go_wp2)
          all_goals exact ⟨⟨I + 1, by omega, by go_num, by rw [EU.out]; simp [d1], by rw [ED.out]; simp [d2], val_int (by have := es.out; omega), hid (L2.out.drewN _), hid (L3.out.drewN _), hid (bdrew B15.out _)⟩, by simp [intOf]; omega⟩ }
        · {
          have d1 : decide (y < x) = false := by simp; omega
          have d2 : decide (x < y) = false := by simp; omega
          have d3 : ¬ (y : Int) < (x : Int) := by omega
          have d4 : ¬ (x : Int) < (y : Int) := by omega
          cases U <;> cases V <;> (go_wp2; go_quiet (fail); go_wp2; go_quiet (fail); go_wp2)
          all_goals exact ⟨⟨I + 1, by omega, by go_num, by rw [EU.out]; simp [d1], by rw [ED.out]; simp [d2], val_int (by have := es.out; omega), hid (L2.out.drewN _), hid (L3.out.drewN _), hid (bdrew B15.out _)⟩, by simp [intOf]; omega⟩ }
        · {
          have d1 : decide (y < x) = true := by simp; omega
          have d2 : decide (x < y) = false := by simp; omega
          have d3 : (y : Int) < (x : Int) := by omega
          have d4 : ¬ (x : Int) < (y : Int) := by omega
          cases U <;> cases V <;> (go_wp2; go_quiet (fail); go_wp2; go_quiet (fail); go_wp2)
          all_goals exact ⟨⟨I + 1, by omega, by go_num, by rw [EU.out]; simp [d1], by rw [ED.out]; simp [d2], val_int (by have := es.out; omega), hid (L2.out.drewN _), hid (L3.out.drewN _), hid (bdrew B15.out _)⟩, by simp [intOf]; omega⟩ }
      · have c2 : ¬ (I : Int) < 64 := by omega
        have es := es2 h64
        clear es2
        rcases Nat.lt_trichotomy x y with h | h | h
        · {
          have d1 : decide (y < x) = false := by simp; omega
          have d2 : decide (x < y) = true := by simp; omega
          have d3 : ¬ (y : Int) < (x : Int) := by omega
          have d4 : (x : Int) < (y : Int) := by omega
          cases U <;> cases V <;> (go_wp2; go_quiet (fail); go_wp2; go_quiet (fail); go_wp2)
          all_goals exact ⟨⟨I + 1, by omega, by go_num, by rw [EU.out]; simp [d1], by rw [ED.out]; simp [d2], val_int (by have := es.out; omega), hid (L2.out.drewN _), hid (L3.out.drewN _), hid (bdrew B15.out _)⟩, by simp [intOf]; omega⟩ }
        · {
          have d1 : decide (y < x) = false := by simp; omega
          have d2 : decide (x < y) = false := by simp; omega
          have d3 : ¬ (y : Int) < (x : Int) := by omega
          have d4 : ¬ (x : Int) < (y : Int) := by omega
          cases U <;> cases V <;> (go_wp2; go_quiet (fail); go_wp2; go_quiet (fail); go_wp2)
          all_goals exact ⟨⟨I + 1, by omega, by go_num, by rw [EU.out]; simp [d1], by rw [ED.out]; simp [d2], val_int (by have := es.out; omega), hid (L2.out.drewN _), hid (L3.out.drewN _), hid (bdrew B15.out _)⟩, by simp [intOf]; omega⟩ }
        · {
          have d1 : decide (y < x) = true := by simp; omega
          have d2 : decide (x < y) = false := by simp; omega
          have d3 : (y : Int) < (x : Int) := by omega
          have d4 : ¬ (x : Int) < (y : Int) := by omega
          cases U <;> cases V <;> (go_wp2; go_quiet (fail); go_wp2; go_quiet (fail); go_wp2)
          all_goals exact ⟨⟨I + 1, by omega, by go_num, by rw [EU.out]; simp [d1], by rw [ED.out]; simp [d2], val_int (by have := es.out; omega), hid (L2.out.drewN _), hid (L3.out.drewN _), hid (bdrew B15.out _)⟩, by simp [intOf]; omega⟩ }
    · obtain rfl : I = 67 := by omega
      have c1 : ¬ (67 : Int) < 67 := by omega
      rw [List.take_of_length_le (by rw [hl_len, hAl.out]; omega)] at hsl hsl2 ⊢
      have e0 := dg_end A hAl.out 0
      have e1 := dg_end A hAl.out 1
      have e2 := dg_end A hAl.out 2
      rw [show 64 + 0 = 64 from rfl] at e0
      rw [show 64 + 1 = 65 from rfl] at e1
      rw [show 64 + 2 = 66 from rfl] at e2
      obtain ⟨S, hS⟩ : ∃ S, sm (hl A) = S := ⟨_, rfl⟩
      rw [hS] at e0 e1 e2 hsl ⊢
      have s960 : S ≤ 960 := by omega
      have e0 := hid (show (dg A).getD 64 0 = S / 256 from e0)
      have e1 := hid (show (dg A).getD 65 0 = S / 16 % 16 from e1)
      have e2 := hid (show (dg A).getD 66 0 = S % 16 from e2)
      clear hS hsl2 hsl L3
      have UAB : Hid (A = B → upB (dg A) (dg B) 67 = false ∧ upB (dg B) (dg A) 67 = false) := fun h => by subst h; exact ⟨upB_self _ _, upB_self _ _⟩
      have UNE : Hid (A ≠ B → upB (dg A) (dg B) 67 = true ∧ upB (dg B) (dg A) 67 = true) := fun h => ⟨upB_above hAl.out hBl.out h, upB_above hBl.out hAl.out (Ne.symm h)⟩
      generalize upB (dg A) (dg B) 67 = U at *
      generalize upB (dg B) (dg A) 67 = V at *
      clear hI hlt
      go_wp2
      go_loopw [14] (fun i w' => ∃ I : Nat, I ≤ 32 ∧ i = .int .i64 (I : Int) ∧ Hid (LsN w' g (dg A)) ∧ Hid (Below w.heap.size w w')) (fun i _ => 32 - (intOf i).toNat)
      case atStart => exact ⟨0, by omega, rfl, L2, B15⟩
      case round =>
        clear L2 B15
        obtain ⟨I, hI, rfl, L2, B15⟩ := hrel
        by_cases hlt : I < 32
        · have c1 : (I : Int) < 32 := by omega
          have i0 : (0 : Int) ≤ (I : Int) := by omega
          have i1 : ((2 * I : Nat) : Int) = 2 * (I : Int) := by omega
          have i2 : (2 * (I : Int)) < 67 := by omega
          have i3 : (0 : Int) ≤ (2 * (I : Int)) := by omega
          have i4 : (2 * (I : Int)) + 1 < 67 := by omega
          have i5 : (0 : Int) ≤ (2 * (I : Int)) + 1 := by omega
          have ca := L2.out.get (j := 2 * I) (by rw [dg_len A hAl.out]; omega)
          have cb := L2.out.get (j := 2 * I + 1) (by rw [dg_len A hAl.out]; omega)
          obtain ⟨z, hz, lz, iz⟩ := index_w d (I : Int) I rfl (by omega)
          have hzA := hz.out
          rw [hda.out] at hzA
          have hb := dg_byte A hAl.out hlt
          rw [← hzA] at hb
          clear hz hzA
          have t1 : (2 * (I : Int)).toNat = 2 * I := by omega
          have t2 : (2 * (I : Int) + 1).toNat = 2 * I + 1 := by omega
          generalize (dg A).getD (2 * I) 0 = x at *
          generalize (dg A).getD (2 * I + 1) 0 = y at *
          have nz : (16 * (x : Int) + (y : Int) != (z : Int)) = false := by
            have : 16 * (x : Int) + (y : Int) = (z : Int) := by omega
            rw [this]; simp
          have x15 : (x : Int) ≤ 15 := by omega
          have y15 : (y : Int) ≤ 255 := by omega
          clear hb
          go_wp2
          go_quiet (fail)
          go_wp2
          exact ⟨⟨I + 1, by omega, by go_num, hid (L2.out.drewN _), hid (bdrew B15.out _)⟩, by simp [intOf]; omega⟩
        · obtain rfl : I = 32 := by omega
          have c1 : ¬ (32 : Int) < 32 := by omega
          have c64 := L2.out.get (j := 64) (by rw [dg_len A hAl.out]; omega)
          have c65 := L2.out.get (j := 65) (by rw [dg_len A hAl.out]; omega)
          have c66 := L2.out.get (j := 66) (by rw [dg_len A hAl.out]; omega)
          rw [e0.out] at c64
          rw [e1.out] at c65
          rw [e2.out] at c66
          have q0 : S / 256 ≤ 3 := by omega
          have q1 : S / 16 % 16 ≤ 15 := by omega
          have q2 : S % 16 ≤ 15 := by omega
          have nz : (256 * ((S / 256 : Nat) : Int) + 16 * ((S / 16 % 16 : Nat) : Int) + ((S % 16 : Nat) : Int) != (S : Int)) = false := by
            have : 256 * ((S / 256 : Nat) : Int) + 16 * ((S / 16 % 16 : Nat) : Int) + ((S % 16 : Nat) : Int) = (S : Int) := by omega
            rw [this]; simp
          clear e0 e1 e2 L2
          generalize S / 256 = a at *
          generalize S / 16 % 16 = b at *
          generalize S % 16 = c at *
          have a3 : (a : Int) ≤ 3 := by omega
          have b3 : (b : Int) ≤ 15 := by omega
          have c3 : (c : Int) ≤ 15 := by omega
          by_cases hAB : A = B
          · obtain ⟨rfl, rfl⟩ := UAB.out hAB
            have hde : d = e' := by
              have h1 := hda.out
              rw [hAB, ← hea.out] at h1
              exact ByteArray.ext (Array.toList_inj.1 h1)
            subst hde
            have yb : (d.toList == d.toList) = true := by simp
            clear UAB UNE hAB hda hea hAl hBl
            go_wp2
            go_quiet (fail)
            go_wp2
            go_ret
            exact ⟨rfl, bdrew B15.out _⟩
          · obtain ⟨rfl, rfl⟩ := UNE.out hAB
            have yb : (d.toList == e'.toList) = false := by
              simp only [beq_eq_false_iff_ne, ne_eq]
              intro h
              apply hAB
              rw [← hda.out, ← hea.out]
              have h2 : d.data.toList = e'.data.toList := by
                rw [ByteArray.toList_eq, ByteArray.toList_eq] at h
                exact h
              exact h2
            clear UAB UNE hAB hda hea hAl hBl
            go_wp2
            go_quiet (fail)
            go_wp2
            go_ret
            exact ⟨rfl, bdrew B15.out _⟩
end Wz
end Go.Proofs.YtacegaljoogfcaaDoor
