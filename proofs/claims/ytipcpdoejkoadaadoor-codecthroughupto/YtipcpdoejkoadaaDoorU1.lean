import Derived.Test.YtipcpdoejkoadaaDoorQ3
namespace Go.Proofs.YtipcpdoejkoadaaDoor
open Go.RowKit Cod

set_option maxRecDepth 100000 in
set_option maxHeartbeats 400000 in
theorem pick_any (c n : Int) (hc1 : -9223372036854775808 ≤ c) (hc2 : c ≤ 9223372036854775807) (hn : 0 < n) (hn2 : n ≤ 9223372036854775807) (w : World) :
    Calls Tryd.prog 10 #[.int .i64 c, .int .i64 n] w fun e w' => e = .returned (.int .i64 (pk c n)) ∧ w' = w := by
  have hp0 := pk_nonneg c n hn
  have hp1 := pk_lt c n hn
  have hn0 : ¬ n = 0 := by omega
  by_cases h : c < 0
  · have e1 : IntKind.i64.wrap (c + 1) = c + 1 := by rw [IntKind.wrap_i64]; omega
    have e2 : IntKind.i64.wrap (-(c + 1)) = -(c + 1) := by rw [IntKind.wrap_i64]; omega
    have e3 : Int.tmod (-(c + 1)) n = pk c n := by rw [Int.tmod_eq_emod_of_nonneg (by omega), pk, if_pos h]
    have e4 : IntKind.i64.wrap (pk c n) = pk c n := wrap_small _ (by omega) (by omega)
    go_enter Tryd.func10, Tryd.ntmps10
    go_wp2
    go_ret
    exact ⟨rfl, rfl⟩
  · have e3 : Int.tmod c n = pk c n := by rw [Int.tmod_eq_emod_of_nonneg (by omega), pk, if_neg h]
    have e4 : IntKind.i64.wrap (pk c n) = pk c n := wrap_small _ (by omega) (by omega)
    go_enter Tryd.func10, Tryd.ntmps10
    go_wp2
    go_ret
    exact ⟨rfl, rfl⟩
theorem pick_at {c n : Int} {r : Nat} (h : Hid (pk c n = (r : Int))) (hc1 : -9223372036854775808 ≤ c) (hc2 : c ≤ 9223372036854775807) (hn : 0 < n) (hn2 : n ≤ 9223372036854775807) (w : World) :
    Calls Tryd.prog 10 #[.int .i64 c, .int .i64 n] w fun e w' => e = .returned (.int .i64 (r : Int)) ∧ w' = w := by
  have := pick_any c n hc1 hc2 hn hn2 w
  rwa [h.out] at this
theorem pk_nat (c n : Int) (hn : 0 < n) : ∃ r : Nat, Hid (pk c n = (r : Int)) ∧ (r : Int) < n := by
  have h1 := pk_nonneg c n hn
  have h2 := pk_lt c n hn
  exact ⟨(pk c n).toNat, by unfold Hid; omega, by omega⟩
set_option maxRecDepth 100000 in
/-- make([]byte, c) -/
theorem make_bytes (w : World) (c : Nat) (hc : c ≤ 20000000) :
    (Instr.makeSlice 24 (.int .i64 (c : Int)) (.int .i64 (c : Int))).run Tryd.prog w = .ok (.slice (some ⟨w.heap.size, 0, none⟩) c c) (w.alloc (.cells (bv (List.replicate c 0)).toArray 5)) := by
  obtain ⟨i0, hi, hz0, hz1, hz2⟩ := info_parts info5'
  have h := run_make (P := Tryd.prog) w 24 5 i0 (.int .u8 0) Tryd.underlying24 hi hz0 .i64 .i64 (c : Int) (c : Int) (by omega) (by omega) (by rw [hz2]; omega) (by omega)
  rw [Int.toNat_natCast, hz1, Nat.mul_one] at h
  rw [h]
  congr 3
  apply Array.ext'
  rw [show (madeCells (Value.int .u8 0).cells c).toList = List.replicate c (.int .u8 0) from toList_madeCells_one _ _]
  simp [bv]
theorem conv_row (w : World) (bs : List UInt8) (n : Nat) (hn : bs.length = n) :
    (convert 24 9 (.slice (some ⟨w.heap.size, 0, none⟩) n n)).run Tryd.prog (w.alloc (.cells (bv bs).toArray 5)) = .ok (sv bs) (w.alloc (.cells (bv bs).toArray 5)) := by
  refine run_conv_bytes (P := Tryd.prog) _ 24 9 5 w.heap.size 0 n n bs hn Tryd.underlying24 Tryd.underlying5 Tryd.underlying9 (fun j v hv => ?_)
  rw [cell_of_row _ _ _ _ _ _ (heap_alloc_new w _), Nat.zero_add]
  simpa using hv

theorem app_data (a b : ByteArray) : (a ++ b).data.toList = a.data.toList ++ b.data.toList := by
  cases a; cases b
  rw [ByteArray.mk_append_mk]
set_option maxRecDepth 100000 in
set_option maxHeartbeats 1000000 in
theorem long_any (more : Int) (h1 : -9223372036854775808 ≤ more) (h2 : more ≤ 9223372036854775807) (bh : ByteArray) (hs : bh.size ≤ 4611686018427380000) (w : World) (T : Lay w) :
    Calls Tryd.prog 3 #[.int .i64 more, .string bh] w fun r w' => r = .returned (.bool true) ∧ Below w.heap.size w w' := by
  have hK := hid (known_any w T)
  obtain ⟨r, hr, hr2⟩ := pk_nat more 12 (by omega)
  obtain ⟨m, hm⟩ : ∃ m : Nat, 1048570 + r = m := ⟨_, rfl⟩
  have hmi : 1048570 + (r : Int) = (m : Int) := by omega
  obtain ⟨Z, hZ⟩ : ∃ Z : List UInt8, Hid (List.replicate m 0 = Z) := ⟨_, rfl⟩
  have hZl : Z.length = m := by rw [← hZ.out, List.length_replicate]
  obtain ⟨b, hb⟩ : ∃ b, Hid (sv Z = .string b) := ⟨_, rfl⟩
  have hbd : b.data.toList = Z := by
    have e := hb.out
    unfold sv at e
    injection e with e
    rw [← e, sv_data]
  have hbz : b.size = m := by rw [← data_length, hbd, hZl]
  have hmk := fun w => make_bytes w m (by omega)
  have hcv := fun w => conv_row w Z m hZl
  rw [hZ.out] at hmk
  rw [hb.out] at hcv
  have hF := fun w => frame_any b w
  have yb : (b.toList == b.toList) = true := by simp
  have yh : (bh.toList == bh.toList) = true := by simp
  by_cases hbig : 1048576 < m
  · rw [hbz] at hF
    simp only [if_pos hbig] at hF
    rw [show sv [] = .string ⟨#[]⟩ from rfl] at hF
    have HF := hid hF
    have b0 : (1048576 : Int) < (m : Int) := by omega
    clear hF hbd hbz hZl hm
    go_enter Tryd.func3, Tryd.ntmps3
    go_wp2_with (first
      | (go_at_call 9; refine hK.out.mono ?_; rintro z w1 ⟨rfl, k1⟩; have K1 := hid k1; have B1 := hid (k1.alloc k1.size (.cells (bv Z).toArray 5)); clear k1)
      | (go_at_call 10; refine (pick_at hr h1 h2 (by omega) (by omega) _).mono ?_; rintro z w' ⟨rfl, hw'⟩; rw [hw']; clear hw' w')
      | (go_at_call 11; refine (HF.out _).mono ?_; rintro z w2 ⟨rfl, k2⟩; have K2 := hid (B1.out.trans (k2.mono B1.out.size)); clear k2))
    go_ret
    exact ⟨rfl, K2.out⟩
  · rw [hbz] at hF
    simp only [if_neg hbig] at hF
    rw [hbd] at hF
    obtain ⟨fb, hfb⟩ : ∃ fb, Hid (sv (wrText Z) = .string fb) := ⟨_, rfl⟩
    rw [hfb.out] at hF
    have b0 : ¬ (1048576 : Int) < (m : Int) := by omega
    have h9 : (digs Z.length).length ≤ 9 := digs_len9 (by omega)
    have hfd : fb.data.toList = wrText Z := by
      have e := hfb.out
      unfold sv at e
      injection e with e
      rw [← e, sv_data]
    have hgd : (fb ++ bh).data.toList = wrText Z ++ bh.data.toList := by rw [app_data, hfd]
    have hfz : fb.size + bh.size ≤ 9223372036854775807 := by rw [← data_length fb, hfd, wrText, List.length_append]; omega
    have hfz' : (fb.size : Int) + (bh.size : Int) ≤ 9223372036854775807 := by omega
    have hgz : (fb ++ bh).size ≤ maxLen := by rw [← data_length, hgd, ← hfd, List.length_append, data_length, data_length]; unfold maxLen; omega
    have hU := fun w => unframe_any (fb ++ bh) w hgz
    rw [hgd, text_there (by rw [top]; omega) (by omega), tupS, hb.out, sv_of] at hU
    have HF := hid hF
    have HU := hid hU
    clear hF hU hbd hbz hZl hm hgd hgz h9 hfd
    go_enter Tryd.func3, Tryd.ntmps3
    go_wp2_with (first
      | (go_at_call 9; refine hK.out.mono ?_; rintro z w1 ⟨rfl, k1⟩; have K1 := hid k1; have B1 := hid (k1.alloc k1.size (.cells (bv Z).toArray 5)); clear k1)
      | (go_at_call 10; refine (pick_at hr h1 h2 (by omega) (by omega) _).mono ?_; rintro z w' ⟨rfl, hw'⟩; rw [hw']; clear hw' w')
      | (go_at_call 11; refine (HF.out _).mono ?_; rintro z w2 ⟨rfl, k2⟩; have K2 := hid (B1.out.trans (k2.mono B1.out.size)); clear k2)
      | (go_at_call 12; refine (HU.out _).mono ?_; rintro z w3 ⟨rfl, k3⟩; have K3 := hid (K2.out.trans (k3.mono K2.out.size)); clear k3))
    go_ret
    exact ⟨rfl, K3.out⟩
end Go.Proofs.YtipcpdoejkoadaaDoor
