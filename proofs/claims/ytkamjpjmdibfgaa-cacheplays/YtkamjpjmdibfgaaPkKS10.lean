import Derived.Test.YtkamjpjmdibfgaaPkKS9
import Derived.Test.YtkamjpjmdibfgaaPkDC0
import Derived.Test.YtkamjpjmdibfgaaPkKL1
import Derived.BigRegion
import Derived.Deep.CutRange
import Derived.Deep.DeepCutAuto
/- Layer 15, the law: CachePlays -/
namespace Go.Proofs.Ytkamjpjmdibfgaa
open Go.RowKit Go.Maps
namespace Kc
theorem mk_dataP (s : ByteArray) : (⟨s.data.toList.toArray⟩ : ByteArray) = s := by cases s; simp
set_option maxRecDepth 1000000 in
set_option maxHeartbeats 8000000 in
theorem plays15_bad (one two : Int) (v : Value) (N : Nat) (w : World) (ho : one < 0 ∨ 16777216 < one) (o3 : -9223372036854775808 ≤ two) (o4 : two ≤ 9223372036854775807) (hv : SlcO w v N) (_hl : N ≤ 9223372036854775807) :
    Calls Try.prog 3 #[.int .i64 one, .int .i64 two, v] w fun r w' => r = .returned (.bool true) ∧ Below w.heap.size w w' := by
  obtain ⟨xa, cap, rfl, hx⟩ := hv
  have i0 := known15_any w
  have ip := fun w' => pick15_any two 60 o3 o4 (by omega) (by omega) w'
  obtain ⟨B, hB⟩ : ∃ p : Nat, pk two 60 = (p : Int) := ⟨(pk two 60).toNat, by have := pk_nonneg two 60 (by omega); omega⟩
  have q1 : B < 60 := by have := pk_lt two 60 (by omega); omega
  rw [hB] at ip
  have iB := fun w' => new_ok B (by omega) w'
  have iY := fun w' => rnew_ok B (by omega) w'
  have HX := hid hx
  have iA := fun w' => new_bad one ho w'
  have iX := fun w' => rnew_bad one ho w'
  clear hx hB q1 ho
  go_enter Try.func3, Try.ntmps3
  go_upto_region 2 with (go_at_call 4; refine i0.mono ?_; rintro r w1 ⟨rfl, b1⟩)
  go_upto_region 3 with (go_at_call 5; (with_reducible refine (iA _).mono ?_); rintro r w9 ⟨rfl, hw9⟩; replace hw9 := hw9.symm; subst hw9)
  go_upto_region 4 with (go_at_call 6; (with_reducible refine (iX _).mono ?_); rintro r w9 ⟨rfl, hw9⟩; replace hw9 := hw9.symm; subst hw9)
  clear iA iX
  go_upto_region 7 with (first
    | (go_at_call 7; (with_reducible refine (ip _).mono ?_); rintro r w9 ⟨rfl, hw9⟩; replace hw9 := hw9.symm; subst hw9)
    | (go_at_call 5; (with_reducible refine (iB _).mono ?_); rintro r w2 ⟨rfl, C2, b2⟩))
  go_upto_region 8 with (first
    | (go_at_call 7; (with_reducible refine (ip _).mono ?_); rintro r w9 ⟨rfl, hw9⟩; replace hw9 := hw9.symm; subst hw9)
    | (go_at_call 6; (with_reducible refine (iY _).mono ?_); rintro r w3 ⟨rfl, C3, b3⟩))
  obtain ⟨b, hb⟩ : ∃ b, w1.heap.size = b := ⟨_, rfl⟩
  obtain ⟨y, hy⟩ : ∃ y, w2.heap.size = y := ⟨_, rfl⟩
  have TS := st_one b1 C2 b2 C3 b3 hb hy
  rw [hb, hy]
  clear i0 ip iB iY C2 b1 b2 C3 b3 hb hy
  go_upto_region 14 with fail
  obtain ⟨r1, hr1⟩ : ∃ r1, w3.heap.size = r1 := ⟨_, rfl⟩
  rw [hr1] at TS ⊢
  obtain ⟨r2, hr2⟩ : ∃ r2, r1 + 1 = r2 := ⟨_, rfl⟩
  rw [hr2] at TS ⊢
  unfold pRow at TS
  generalize World.alloc _ _ = w5 at *
  clear hr1 hr2
  obtain ⟨a, ha⟩ : ∃ a, b = a := ⟨_, rfl⟩
  obtain ⟨x, hx⟩ : ∃ x, y = x := ⟨_, rfl⟩
  have TS : Hid (St w w5 r1 r2 b y a x 0) := by subst ha hx; exact TS
  clear ha hx
  go_wp2
  go_loopw [18] (fun i w' => ∃ k : Nat, k ≤ N ∧ k ≤ 100 ∧ i = .int .i64 (k : Int) ∧ Hid (St w w' r1 r2 b y a x k)) (fun i _ => N - (intOf i).toNat)
  case atStart => exact ⟨0, Nat.zero_le _, Nat.zero_le _, rfl, TS⟩
  case round =>
    obtain ⟨k, hk, hk2, rfl, M⟩ := hrel
    have m0 : wr.cell? ⟨r1, 0, none⟩ = some (.pointer (some ⟨b, 0, none⟩)) := by rw [cell_of_row _ _ _ _ _ _ M.out.h1]; rfl
    have m1 : wr.cell? ⟨r1, 1, none⟩ = some (.pointer (some ⟨y, 0, none⟩)) := by rw [cell_of_row _ _ _ _ _ _ M.out.h1]; rfl
    have m2 : wr.cell? ⟨r2, 0, none⟩ = some (.pointer (some ⟨a, 0, none⟩)) := by rw [cell_of_row _ _ _ _ _ _ M.out.h2]; rfl
    have m3 : wr.cell? ⟨r2, 1, none⟩ = some (.pointer (some ⟨x, 0, none⟩)) := by rw [cell_of_row _ _ _ _ _ _ M.out.h2]; rfl
    have l1 := lt_of_heap M.out.h1
    have l2 := lt_of_heap M.out.h2
    by_cases hkN : k < N ∧ k < 100
    · obtain ⟨hkN, hk100⟩ := hkN
      have hkN' := hid hkN
      have hk100' := hid hk100
      have z1 : (k : Int) < (N : Int) := by omega
      have z2 : (k : Int) < 100 := by omega
      have z3 : (0 : Int) ≤ (k : Int) := by omega
      obtain ⟨xx, fl, kd, nn, KB, VB, rfl, xb, hc0, hc1, hc2, hc3, hc4, _, hn, hs3, hs4⟩ := HX.out k hkN
      have DS : Hid (∀ w', Below w.heap.size w w' → w'.cell? (xx.add (k * 5)) = some (.bool fl) ∧ w'.cell? ⟨(xx.add (k * 5)).block, (xx.add (k * 5)).off + 1, none⟩ = some (.int .i64 kd) ∧ w'.cell? ⟨(xx.add (k * 5)).block, (xx.add (k * 5)).off + 2, none⟩ = some (.int .i64 nn) ∧ w'.cell? ⟨(xx.add (k * 5)).block, (xx.add (k * 5)).off + 3, none⟩ = some (.string KB) ∧ w'.cell? ⟨(xx.add (k * 5)).block, (xx.add (k * 5)).off + 4, none⟩ = some (.string VB)) := fun w' BL => by
        refine ⟨(BL.cell (p := xx.add (k * 5)) (by rw [addr_block]; exact xb)).trans hc0, ?_, ?_, ?_, ?_⟩
        · show w'.cell? ((xx.add (k * 5)).add 1) = _
          rw [Go.Deep.add_add]; exact (BL.cell (p := xx.add (k * 5 + 1)) (by rw [addr_block]; exact xb)).trans hc1
        · show w'.cell? ((xx.add (k * 5)).add 2) = _
          rw [Go.Deep.add_add]; exact (BL.cell (p := xx.add (k * 5 + 2)) (by rw [addr_block]; exact xb)).trans hc2
        · show w'.cell? ((xx.add (k * 5)).add 3) = _
          rw [Go.Deep.add_add]; exact (BL.cell (p := xx.add (k * 5 + 3)) (by rw [addr_block]; exact xb)).trans hc3
        · show w'.cell? ((xx.add (k * 5)).add 4) = _
          rw [Go.Deep.add_add]; exact (BL.cell (p := xx.add (k * 5 + 4)) (by rw [addr_block]; exact xb)).trans hc4
      have d0 := (DS.out wr M.out.bl).1
      have PL : Hid (∀ (w' : World) (d z : Nat), St w w' r1 r2 b y a x k → ((d = b ∧ z = y) ∨ (d = a ∧ z = x)) → Calls Try.prog 8 #[.agg #[.pointer (some ⟨d, 0, none⟩), .pointer (some ⟨z, 0, none⟩)], .agg #[.bool fl, .int .i64 kd, .int .i64 nn, .string KB, .string VB]] w' fun r w'' => r = .returned (.bool true) ∧ St w w'' r1 r2 b y a x (k + 1)) := fun w' d z T hd => by
        have := T.plays (by omega) hd fl kd nn hn.1 hn.2 KB.data.toList VB.data.toList (by rw [data_length]; omega) (by rw [data_length]; omega)
        rwa [mk_dataP, mk_dataP] at this
      have BA : Below wr.heap.size wr (wr.alloc (pRow b y)) := (Below.refl _ _).alloc (Nat.le_refl _) _
      have m2a := (BA.cell (p := ⟨r2, 0, none⟩) l2).trans m2
      have m3a := (BA.cell (p := ⟨r2, 1, none⟩) l2).trans m3
      unfold pRow at m2a m3a
      have d0a := (DS.out (wr.alloc (pRow b y)) (M.out.bl.alloc M.out.bl.size _)).1
      unfold pRow at d0a
      clear hc0 hc1 hc2 hc3 hc4 xb hkN hk100 hn hs3 hs4 l1 l2 BA
      cases fl with
      | false =>
        go_wp2
        have BZ : Below wr.heap.size wr (wr.alloc (pRow b y)) := (Below.refl _ _).alloc (Nat.le_refl _) _
        have RZ : (wr.alloc (pRow b y)).heap[wr.heap.size]? = some (pRow b y) := heap_alloc_new _ _
        unfold pRow at BZ RZ
        clear d0a m2a m3a
        generalize wr.alloc _ = wz at *
        have TZ := hid (M.out.below BZ)
        obtain ⟨_, d1, d2, d3, d4⟩ := DS.out wz TZ.out.bl
        have d0 := (DS.out wz TZ.out.bl).1
        have q0 : wz.cell? ⟨wr.heap.size, 0, none⟩ = some (.pointer (some ⟨b, 0, none⟩)) := by rw [cell_of_row _ _ _ _ _ _ RZ]; rfl
        have q1 : wz.cell? ⟨wr.heap.size, 1, none⟩ = some (.pointer (some ⟨y, 0, none⟩)) := by rw [cell_of_row _ _ _ _ _ _ RZ]; rfl
        have iP := PL.out wz.drew b y (TZ.out.below (Below.refl _ _).drew) (.inl ⟨rfl, rfl⟩)
        clear BZ RZ m0 m1 m2 m3 DS PL
        go_region_with (go_at_call 8; (with_reducible refine iP.mono ?_); rintro r w4 ⟨rfl, T4⟩; have T4 := hid T4; clear iP)
        all_goals go_wp2
        all_goals exact ⟨⟨k + 1, hkN'.out, hk100'.out, by go_num, T4⟩, by have := hkN'.out; simp [RowKit.intOf]; omega⟩
      | true =>
        go_wp2
        have BZ : Below wr.heap.size wr (wr.alloc (pRow a x)) := (Below.refl _ _).alloc (Nat.le_refl _) _
        have RZ : (wr.alloc (pRow a x)).heap[wr.heap.size]? = some (pRow a x) := heap_alloc_new _ _
        unfold pRow at BZ RZ
        clear d0a m2a m3a
        generalize World.alloc _ _ = wz at *
        have TZ := hid (M.out.below BZ)
        obtain ⟨_, d1, d2, d3, d4⟩ := DS.out wz TZ.out.bl
        have d0 := (DS.out wz TZ.out.bl).1
        have q0 : wz.cell? ⟨wr.heap.size, 0, none⟩ = some (.pointer (some ⟨a, 0, none⟩)) := by rw [cell_of_row _ _ _ _ _ _ RZ]; rfl
        have q1 : wz.cell? ⟨wr.heap.size, 1, none⟩ = some (.pointer (some ⟨x, 0, none⟩)) := by rw [cell_of_row _ _ _ _ _ _ RZ]; rfl
        have iP := PL.out wz.drew a x (TZ.out.below (Below.refl _ _).drew) (.inr ⟨rfl, rfl⟩)
        clear BZ RZ m0 m1 m2 m3 DS PL
        go_region_with (go_at_call 8; (with_reducible refine iP.mono ?_); rintro r w4 ⟨rfl, T4⟩; have T4 := hid T4; clear iP)
        all_goals go_wp2
        all_goals exact ⟨⟨k + 1, hkN'.out, hk100'.out, by go_num, T4⟩, by have := hkN'.out; simp [RowKit.intOf]; omega⟩
    · have TM := M.out
      have iK := TM.keys (by omega) (.inl ⟨rfl, rfl⟩)
      have iL : Hid (∀ w', Below wr.heap.size wr w' → Calls Try.prog 9 #[.agg #[.pointer (some ⟨a, 0, none⟩), .pointer (some ⟨x, 0, none⟩)]] w' fun r w'' => r = .returned (.bool true) ∧ Below w'.heap.size w' w'') := fun w' hb => (TM.below hb).keys (by omega) (.inr ⟨rfl, rfl⟩)
      have M2 : Hid (∀ w', Below wr.heap.size wr w' → w'.cell? ⟨r2, 0, none⟩ = some (.pointer (some ⟨a, 0, none⟩)) ∧ w'.cell? ⟨r2, 1, none⟩ = some (.pointer (some ⟨x, 0, none⟩))) := fun w' hb => ⟨(hb.cell (p := ⟨r2, 0, none⟩) l2).trans m2, (hb.cell (p := ⟨r2, 1, none⟩) l2).trans m3⟩
      clear TM l1 l2
      by_cases hlt : (k : Int) < (N : Int)
      · have y2 : ¬ (k : Int) < 100 := by omega
        clear hkN
        go_upto_region 24 with (go_at_call 9; (with_reducible refine iK.mono ?_); rintro r w5 ⟨rfl, b5⟩)
        obtain ⟨e2, e3⟩ := M2.out _ b5
        have iZ := iL.out _ b5
        have B5 := hid b5
        clear iK b5
        go_wp2_with (go_at_call 9; (with_reducible refine iZ.mono ?_); rintro r w6 ⟨rfl, b6⟩; have B6 := hid b6; clear iZ b6)
        go_ret
        exact ⟨rfl, ((M.out.below B5.out).below B6.out).bl⟩
      · clear hkN
        go_upto_region 24 with (go_at_call 9; (with_reducible refine iK.mono ?_); rintro r w5 ⟨rfl, b5⟩)
        obtain ⟨e2, e3⟩ := M2.out _ b5
        have iZ := iL.out _ b5
        have B5 := hid b5
        clear iK b5
        go_wp2_with (go_at_call 9; (with_reducible refine iZ.mono ?_); rintro r w6 ⟨rfl, b6⟩; have B6 := hid b6; clear iZ b6)
        go_ret
        exact ⟨rfl, ((M.out.below B5.out).below B6.out).bl⟩
set_option maxRecDepth 1000000 in
set_option maxHeartbeats 8000000 in
theorem plays15_ok (A : Nat) (two : Int) (v : Value) (N : Nat) (w : World) (ho : A ≤ 16777216) (o3 : -9223372036854775808 ≤ two) (o4 : two ≤ 9223372036854775807) (hv : SlcO w v N) (_hl : N ≤ 9223372036854775807) :
    Calls Try.prog 3 #[.int .i64 (A : Int), .int .i64 two, v] w fun r w' => r = .returned (.bool true) ∧ Below w.heap.size w w' := by
  obtain ⟨xa, cap, rfl, hx⟩ := hv
  have i0 := known15_any w
  have ip := fun w' => pick15_any two 60 o3 o4 (by omega) (by omega) w'
  obtain ⟨B, hB⟩ : ∃ p : Nat, pk two 60 = (p : Int) := ⟨(pk two 60).toNat, by have := pk_nonneg two 60 (by omega); omega⟩
  have q1 : B < 60 := by have := pk_lt two 60 (by omega); omega
  rw [hB] at ip
  have iB := fun w' => new_ok B (by omega) w'
  have iY := fun w' => rnew_ok B (by omega) w'
  have HX := hid hx
  have iA := fun w' => new_ok A ho w'
  have iX := fun w' => rnew_ok A ho w'
  clear hx hB q1 ho
  go_enter Try.func3, Try.ntmps3
  go_upto_region 2 with (go_at_call 4; refine i0.mono ?_; rintro r w1 ⟨rfl, b1⟩)
  go_upto_region 3 with (go_at_call 5; (with_reducible refine (iA _).mono ?_); rintro r w2 ⟨rfl, C2, b2⟩)
  go_upto_region 4 with (go_at_call 6; (with_reducible refine (iX _).mono ?_); rintro r w3 ⟨rfl, C3, b3⟩)
  clear iA iX
  go_upto_region 7 with (first
    | (go_at_call 7; (with_reducible refine (ip _).mono ?_); rintro r w9 ⟨rfl, hw9⟩; replace hw9 := hw9.symm; subst hw9)
    | (go_at_call 5; (with_reducible refine (iB _).mono ?_); rintro r w4 ⟨rfl, C4, b4⟩))
  go_upto_region 8 with (first
    | (go_at_call 7; (with_reducible refine (ip _).mono ?_); rintro r w9 ⟨rfl, hw9⟩; replace hw9 := hw9.symm; subst hw9)
    | (go_at_call 6; (with_reducible refine (iY _).mono ?_); rintro r w5 ⟨rfl, C5, b5⟩))
  obtain ⟨a, ha⟩ : ∃ a, w1.heap.size = a := ⟨_, rfl⟩
  obtain ⟨x, hx⟩ : ∃ x, w2.heap.size = x := ⟨_, rfl⟩
  obtain ⟨b, hb⟩ : ∃ b, w3.heap.size = b := ⟨_, rfl⟩
  obtain ⟨y, hy⟩ : ∃ y, w4.heap.size = y := ⟨_, rfl⟩
  have TS := fun w' => st_two b1 C2 b2 C3 b3 C4 b4 C5 b5 ha hx hb hy (w5 := w')
  rw [ha, hx, hb, hy]
  clear i0 ip iB iY C2 b1 b2 C3 b3 C4 b4 C5 b5 ha hx hb hy
  go_upto_region 14 with fail
  obtain ⟨r1, hr1⟩ : ∃ r1, w5.heap.size = r1 := ⟨_, rfl⟩
  have z1 : (w5.alloc (pRow b y)).heap.size = r1 + 1 := by rw [size_alloc, hr1]
  have TS := TS ((w5.alloc (pRow b y)).alloc (pRow a x)) (((Below.refl _ _).alloc (Nat.le_refl _) _).alloc (by rw [z1]; omega) _)
    (by
      rw [((Below.refl (w5.alloc (pRow b y)).heap.size (w5.alloc (pRow b y))).alloc (Nat.le_refl _) (pRow a x)).block _ (by rw [z1]; omega)]
      exact heap_alloc_new _ _)
    (by rw [hr1]; exact heap_alloc_at _ _ _ z1)
  clear z1
  rw [hr1] at TS ⊢
  obtain ⟨r2, hr2⟩ : ∃ r2, r1 + 1 = r2 := ⟨_, rfl⟩
  rw [hr2] at TS ⊢
  unfold pRow at TS
  generalize World.alloc _ _ = w6 at *
  clear hr1 hr2
  have TS := hid TS
  go_wp2
  go_loopw [18] (fun i w' => ∃ k : Nat, k ≤ N ∧ k ≤ 100 ∧ i = .int .i64 (k : Int) ∧ Hid (St w w' r1 r2 b y a x k)) (fun i _ => N - (intOf i).toNat)
  case atStart => exact ⟨0, Nat.zero_le _, Nat.zero_le _, rfl, TS⟩
  case round =>
    obtain ⟨k, hk, hk2, rfl, M⟩ := hrel
    have m0 : wr.cell? ⟨r1, 0, none⟩ = some (.pointer (some ⟨b, 0, none⟩)) := by rw [cell_of_row _ _ _ _ _ _ M.out.h1]; rfl
    have m1 : wr.cell? ⟨r1, 1, none⟩ = some (.pointer (some ⟨y, 0, none⟩)) := by rw [cell_of_row _ _ _ _ _ _ M.out.h1]; rfl
    have m2 : wr.cell? ⟨r2, 0, none⟩ = some (.pointer (some ⟨a, 0, none⟩)) := by rw [cell_of_row _ _ _ _ _ _ M.out.h2]; rfl
    have m3 : wr.cell? ⟨r2, 1, none⟩ = some (.pointer (some ⟨x, 0, none⟩)) := by rw [cell_of_row _ _ _ _ _ _ M.out.h2]; rfl
    have l1 := lt_of_heap M.out.h1
    have l2 := lt_of_heap M.out.h2
    by_cases hkN : k < N ∧ k < 100
    · obtain ⟨hkN, hk100⟩ := hkN
      have hkN' := hid hkN
      have hk100' := hid hk100
      have z1 : (k : Int) < (N : Int) := by omega
      have z2 : (k : Int) < 100 := by omega
      have z3 : (0 : Int) ≤ (k : Int) := by omega
      obtain ⟨xx, fl, kd, nn, KB, VB, rfl, xb, hc0, hc1, hc2, hc3, hc4, _, hn, hs3, hs4⟩ := HX.out k hkN
      have DS : Hid (∀ w', Below w.heap.size w w' → w'.cell? (xx.add (k * 5)) = some (.bool fl) ∧ w'.cell? ⟨(xx.add (k * 5)).block, (xx.add (k * 5)).off + 1, none⟩ = some (.int .i64 kd) ∧ w'.cell? ⟨(xx.add (k * 5)).block, (xx.add (k * 5)).off + 2, none⟩ = some (.int .i64 nn) ∧ w'.cell? ⟨(xx.add (k * 5)).block, (xx.add (k * 5)).off + 3, none⟩ = some (.string KB) ∧ w'.cell? ⟨(xx.add (k * 5)).block, (xx.add (k * 5)).off + 4, none⟩ = some (.string VB)) := fun w' BL => by
        refine ⟨(BL.cell (p := xx.add (k * 5)) (by rw [addr_block]; exact xb)).trans hc0, ?_, ?_, ?_, ?_⟩
        · show w'.cell? ((xx.add (k * 5)).add 1) = _
          rw [Go.Deep.add_add]; exact (BL.cell (p := xx.add (k * 5 + 1)) (by rw [addr_block]; exact xb)).trans hc1
        · show w'.cell? ((xx.add (k * 5)).add 2) = _
          rw [Go.Deep.add_add]; exact (BL.cell (p := xx.add (k * 5 + 2)) (by rw [addr_block]; exact xb)).trans hc2
        · show w'.cell? ((xx.add (k * 5)).add 3) = _
          rw [Go.Deep.add_add]; exact (BL.cell (p := xx.add (k * 5 + 3)) (by rw [addr_block]; exact xb)).trans hc3
        · show w'.cell? ((xx.add (k * 5)).add 4) = _
          rw [Go.Deep.add_add]; exact (BL.cell (p := xx.add (k * 5 + 4)) (by rw [addr_block]; exact xb)).trans hc4
      have d0 := (DS.out wr M.out.bl).1
      have PL : Hid (∀ (w' : World) (d z : Nat), St w w' r1 r2 b y a x k → ((d = b ∧ z = y) ∨ (d = a ∧ z = x)) → Calls Try.prog 8 #[.agg #[.pointer (some ⟨d, 0, none⟩), .pointer (some ⟨z, 0, none⟩)], .agg #[.bool fl, .int .i64 kd, .int .i64 nn, .string KB, .string VB]] w' fun r w'' => r = .returned (.bool true) ∧ St w w'' r1 r2 b y a x (k + 1)) := fun w' d z T hd => by
        have := T.plays (by omega) hd fl kd nn hn.1 hn.2 KB.data.toList VB.data.toList (by rw [data_length]; omega) (by rw [data_length]; omega)
        rwa [mk_dataP, mk_dataP] at this
      have BA : Below wr.heap.size wr (wr.alloc (pRow b y)) := (Below.refl _ _).alloc (Nat.le_refl _) _
      have m2a := (BA.cell (p := ⟨r2, 0, none⟩) l2).trans m2
      have m3a := (BA.cell (p := ⟨r2, 1, none⟩) l2).trans m3
      unfold pRow at m2a m3a
      have d0a := (DS.out (wr.alloc (pRow b y)) (M.out.bl.alloc M.out.bl.size _)).1
      unfold pRow at d0a
      clear hc0 hc1 hc2 hc3 hc4 xb hkN hk100 hn hs3 hs4 l1 l2 BA
      cases fl with
      | false =>
        go_wp2
        have BZ : Below wr.heap.size wr (wr.alloc (pRow b y)) := (Below.refl _ _).alloc (Nat.le_refl _) _
        have RZ : (wr.alloc (pRow b y)).heap[wr.heap.size]? = some (pRow b y) := heap_alloc_new _ _
        unfold pRow at BZ RZ
        clear d0a m2a m3a
        generalize wr.alloc _ = wz at *
        have TZ := hid (M.out.below BZ)
        obtain ⟨_, d1, d2, d3, d4⟩ := DS.out wz TZ.out.bl
        have d0 := (DS.out wz TZ.out.bl).1
        have q0 : wz.cell? ⟨wr.heap.size, 0, none⟩ = some (.pointer (some ⟨b, 0, none⟩)) := by rw [cell_of_row _ _ _ _ _ _ RZ]; rfl
        have q1 : wz.cell? ⟨wr.heap.size, 1, none⟩ = some (.pointer (some ⟨y, 0, none⟩)) := by rw [cell_of_row _ _ _ _ _ _ RZ]; rfl
        have iP := PL.out wz.drew b y (TZ.out.below (Below.refl _ _).drew) (.inl ⟨rfl, rfl⟩)
        clear BZ RZ m0 m1 m2 m3 DS PL
        go_region_with (go_at_call 8; (with_reducible refine iP.mono ?_); rintro r w4 ⟨rfl, T4⟩; have T4 := hid T4; clear iP)
        all_goals go_wp2
        all_goals exact ⟨⟨k + 1, hkN'.out, hk100'.out, by go_num, T4⟩, by have := hkN'.out; simp [RowKit.intOf]; omega⟩
      | true =>
        go_wp2
        have BZ : Below wr.heap.size wr (wr.alloc (pRow a x)) := (Below.refl _ _).alloc (Nat.le_refl _) _
        have RZ : (wr.alloc (pRow a x)).heap[wr.heap.size]? = some (pRow a x) := heap_alloc_new _ _
        unfold pRow at BZ RZ
        clear d0a m2a m3a
        generalize World.alloc _ _ = wz at *
        have TZ := hid (M.out.below BZ)
        obtain ⟨_, d1, d2, d3, d4⟩ := DS.out wz TZ.out.bl
        have d0 := (DS.out wz TZ.out.bl).1
        have q0 : wz.cell? ⟨wr.heap.size, 0, none⟩ = some (.pointer (some ⟨a, 0, none⟩)) := by rw [cell_of_row _ _ _ _ _ _ RZ]; rfl
        have q1 : wz.cell? ⟨wr.heap.size, 1, none⟩ = some (.pointer (some ⟨x, 0, none⟩)) := by rw [cell_of_row _ _ _ _ _ _ RZ]; rfl
        have iP := PL.out wz.drew a x (TZ.out.below (Below.refl _ _).drew) (.inr ⟨rfl, rfl⟩)
        clear BZ RZ m0 m1 m2 m3 DS PL
        go_region_with (go_at_call 8; (with_reducible refine iP.mono ?_); rintro r w4 ⟨rfl, T4⟩; have T4 := hid T4; clear iP)
        all_goals go_wp2
        all_goals exact ⟨⟨k + 1, hkN'.out, hk100'.out, by go_num, T4⟩, by have := hkN'.out; simp [RowKit.intOf]; omega⟩
    · have TM := M.out
      have iK := TM.keys (by omega) (.inl ⟨rfl, rfl⟩)
      have iL : Hid (∀ w', Below wr.heap.size wr w' → Calls Try.prog 9 #[.agg #[.pointer (some ⟨a, 0, none⟩), .pointer (some ⟨x, 0, none⟩)]] w' fun r w'' => r = .returned (.bool true) ∧ Below w'.heap.size w' w'') := fun w' hb => (TM.below hb).keys (by omega) (.inr ⟨rfl, rfl⟩)
      have M2 : Hid (∀ w', Below wr.heap.size wr w' → w'.cell? ⟨r2, 0, none⟩ = some (.pointer (some ⟨a, 0, none⟩)) ∧ w'.cell? ⟨r2, 1, none⟩ = some (.pointer (some ⟨x, 0, none⟩))) := fun w' hb => ⟨(hb.cell (p := ⟨r2, 0, none⟩) l2).trans m2, (hb.cell (p := ⟨r2, 1, none⟩) l2).trans m3⟩
      clear TM l1 l2
      by_cases hlt : (k : Int) < (N : Int)
      · have y2 : ¬ (k : Int) < 100 := by omega
        clear hkN
        go_upto_region 24 with (go_at_call 9; (with_reducible refine iK.mono ?_); rintro r w5 ⟨rfl, b5⟩)
        obtain ⟨e2, e3⟩ := M2.out _ b5
        have iZ := iL.out _ b5
        have B5 := hid b5
        clear iK b5
        go_wp2_with (go_at_call 9; (with_reducible refine iZ.mono ?_); rintro r w6 ⟨rfl, b6⟩; have B6 := hid b6; clear iZ b6)
        go_ret
        exact ⟨rfl, ((M.out.below B5.out).below B6.out).bl⟩
      · clear hkN
        go_upto_region 24 with (go_at_call 9; (with_reducible refine iK.mono ?_); rintro r w5 ⟨rfl, b5⟩)
        obtain ⟨e2, e3⟩ := M2.out _ b5
        have iZ := iL.out _ b5
        have B5 := hid b5
        clear iK b5
        go_wp2_with (go_at_call 9; (with_reducible refine iZ.mono ?_); rintro r w6 ⟨rfl, b6⟩; have B6 := hid b6; clear iZ b6)
        go_ret
        exact ⟨rfl, ((M.out.below B5.out).below B6.out).bl⟩
theorem plays15_law (one two : Int) (v : Value) (N : Nat) (w : World) (o3 : -9223372036854775808 ≤ two) (o4 : two ≤ 9223372036854775807) (hv : SlcO w v N) (hl : N ≤ 9223372036854775807) :
    Calls Try.prog 3 #[.int .i64 one, .int .i64 two, v] w fun r w' => r = .returned (.bool true) ∧ Below w.heap.size w w' := by
  by_cases ho : one < 0 ∨ 16777216 < one
  · exact plays15_bad one two v N w ho o3 o4 hv hl
  · obtain ⟨A, hA⟩ : ∃ A : Nat, one = (A : Int) := ⟨one.toNat, by omega⟩
    subst hA
    exact plays15_ok A two v N w (by omega) o3 o4 hv hl
end Kc
end Go.Proofs.Ytkamjpjmdibfgaa
