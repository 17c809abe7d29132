import Derived.Test.YtonmhimoglgbgaaDoorQ3
namespace Go.Proofs.YtonmhimoglgbgaaDoor
open Go.RowKit Cod

set_option maxRecDepth 100000 in
set_option maxHeartbeats 400000 in
theorem pick_any (c n : Int) (hc1 : -9223372036854775808 ≤ c) (hc2 : c ≤ 9223372036854775807) (hn : 0 < n) (hn2 : n ≤ 9223372036854775807) (w : World) :
    Calls Tryd.prog 25 #[.int .i64 c, .int .i64 n] w fun e w' => e = .returned (.int .i64 (pk c n)) ∧ w' = w := by
  have hp0 := pk_nonneg c n hn
  have hp1 := pk_lt c n hn
  have hn0 : ¬ n = 0 := by omega
  by_cases h : c < 0
  · have e1 : IntKind.i64.wrap (c + 1) = c + 1 := by rw [IntKind.wrap_i64]; omega
    have e2 : IntKind.i64.wrap (-(c + 1)) = -(c + 1) := by rw [IntKind.wrap_i64]; omega
    have e3 : Int.tmod (-(c + 1)) n = pk c n := by rw [Int.tmod_eq_emod_of_nonneg (by omega), pk, if_pos h]
    have e4 : IntKind.i64.wrap (pk c n) = pk c n := wrap_small _ (by omega) (by omega)
    go_enter Tryd.func25, Tryd.ntmps25
    go_wp2
    go_ret
    exact ⟨rfl, rfl⟩
  · have e3 : Int.tmod c n = pk c n := by rw [Int.tmod_eq_emod_of_nonneg (by omega), pk, if_neg h]
    have e4 : IntKind.i64.wrap (pk c n) = pk c n := wrap_small _ (by omega) (by omega)
    go_enter Tryd.func25, Tryd.ntmps25
    go_wp2
    go_ret
    exact ⟨rfl, rfl⟩
theorem pick_at {c n : Int} {r : Nat} (h : Hid (pk c n = (r : Int))) (hc1 : -9223372036854775808 ≤ c) (hc2 : c ≤ 9223372036854775807) (hn : 0 < n) (hn2 : n ≤ 9223372036854775807) (w : World) :
    Calls Tryd.prog 25 #[.int .i64 c, .int .i64 n] w fun e w' => e = .returned (.int .i64 (r : Int)) ∧ w' = w := by
  have := pick_any c n hc1 hc2 hn hn2 w
  rwa [h.out] at this
theorem pk_nat (c n : Int) (hn : 0 < n) : ∃ r : Nat, Hid (pk c n = (r : Int)) ∧ (r : Int) < n := by
  have h1 := pk_nonneg c n hn
  have h2 := pk_lt c n hn
  exact ⟨(pk c n).toNat, by unfold Hid; omega, by omega⟩
set_option maxRecDepth 100000 in
/-- make([]byte, c) -/
theorem make_bytes (w : World) (c : Nat) (hc : c ≤ 20000000) :
    (Instr.makeSlice 57 (.int .i64 (c : Int)) (.int .i64 (c : Int))).run Tryd.prog w = .ok (.slice (some ⟨w.heap.size, 0, none⟩) c c) (w.alloc (.cells (bv (List.replicate c 0)).toArray 5)) := by
  obtain ⟨i0, hi, hz0, hz1, hz2⟩ := info_parts info5'
  have h := run_make (P := Tryd.prog) w 57 5 i0 (.int .u8 0) Tryd.underlying57 hi hz0 .i64 .i64 (c : Int) (c : Int) (by omega) (by omega) (by rw [hz2]; omega) (by omega)
  rw [Int.toNat_natCast, hz1, Nat.mul_one] at h
  rw [h]
  congr 3
  apply Array.ext'
  rw [show (madeCells (Value.int .u8 0).cells c).toList = List.replicate c (.int .u8 0) from toList_madeCells_one _ _]
  simp [bv]
theorem conv_row (w : World) (bs : List UInt8) (n : Nat) (hn : bs.length = n) :
    (convert 57 9 (.slice (some ⟨w.heap.size, 0, none⟩) n n)).run Tryd.prog (w.alloc (.cells (bv bs).toArray 5)) = .ok (sv bs) (w.alloc (.cells (bv bs).toArray 5)) := by
  refine run_conv_bytes (P := Tryd.prog) _ 57 9 5 w.heap.size 0 n n bs hn Tryd.underlying57 Tryd.underlying5 Tryd.underlying9 (fun j v hv => ?_)
  rw [cell_of_row _ _ _ _ _ _ (heap_alloc_new w _), Nat.zero_add]
  simpa using hv

theorem app_data (a b : ByteArray) : (a ++ b).data.toList = a.data.toList ++ b.data.toList := by
  cases a; cases b
  rw [ByteArray.mk_append_mk]
end Go.Proofs.YtonmhimoglgbgaaDoor
