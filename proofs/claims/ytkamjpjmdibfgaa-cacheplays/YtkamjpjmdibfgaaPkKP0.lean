import Derived.Test.YtkamjpjmdibfgaaPkKP1
import Derived.Lib.UnsafeStr
import Derived.Lib.BufferWrite
import Derived.Laws.MakeOwn
import Derived.Deep.RegionLaw
/- Layer 15, the program: strings.Clone -/
namespace Go.Proofs.Ytkamjpjmdibfgaa
open Go.RowKit Go.Shelf
namespace Kc
theorem infoB15 : (Try.prog.info? 5).map (fun i => (i.zero, i.size, i.bytes)) = some (some (.int .u8 0), 1, 1) := by kernel_rfl
theorem sizeB15 : (Try.prog.info? 5).map (·.size) = some 1 := by kernel_rfl
theorem cellsB15 : Try.prog.cellsOf 5 = 1 := by kernel_rfl
set_option maxRecDepth 100000 in
set_option maxHeartbeats 4000000 in
theorem sclone15 (s : ByteArray) (hs : s.size ≤ 20000000) (w : World) : Calls Try.prog 47 #[.string s] w fun r w' => r = .returned (.string s) ∧ Below w.heap.size w w' := by
  by_cases h0 : s.size = 0
  · obtain rfl : s = ⟨#[]⟩ := ByteArray.ext (Array.eq_empty_of_size_eq_zero h0)
    go_enter Try.func47, Try.ntmps47
    go_wp2
    go_ret
    exact ⟨rfl, Below.refl _ _⟩
  · obtain ⟨i0, hi, hz0, hz1, hz2⟩ := info_parts infoB15
    obtain ⟨M, hM⟩ : ∃ M, madeCells (Value.int .u8 0).cells (s.size * 1) = M := ⟨_, rfl⟩
    have hMs : M.size = s.size := by rw [← hM, size_madeCells, Nat.mul_one]
    have hmk := run_make (P := Try.prog) w 55 5 i0 (.int .u8 0) Try.underlying55 hi hz0 .i64 .i64 (s.size : Int) (s.size : Int) (by omega) (by omega) (by rw [hz2]; omega) (by omega)
    rw [Int.toNat_natCast, hz1, hM] at hmk
    have hrow := heap_alloc_new w (.cells M 5)
    have hcp := Lib.run_copy_row_string (P := Try.prog) (w.alloc (.cells M 5)) 55 9 3 5 w.heap.size 0 s.size s.size s M 5 Try.underlying55 sizeB15 hrow (Nat.le_refl _) (by omega)
    rw [List.take_zero, List.nil_append, List.drop_of_length_le (by rw [Array.length_toList]; omega), List.append_nil] at hcp
    have hY : (Lib.byteCells s.data.toList).toArray.size = s.size := by rw [List.size_toArray, Lib.byteCells_length, ← Lib.size_eq]
    have hrow2 := setRow_heap (w.alloc (.cells M 5)) w.heap.size M (Lib.byteCells s.data.toList).toArray 5 (0, 0) hrow
    have hne : s.data.toList ≠ [] := fun e => h0 (by rw [Lib.size_eq, e]; rfl)
    have hus := Lib.run_unsafeString_row (P := Try.prog) ((w.alloc (.cells M 5)).setRow w.heap.size (Lib.byteCells s.data.toList).toArray) 90 3 9 5 Try.underlying90 cellsB15 w.heap.size (Lib.byteCells s.data.toList).toArray.size (by unfold World.shape?; rw [hrow2]) s.data.toList hne (by rw [← Lib.size_eq]; omega) (by rw [← Lib.size_eq]; omega)
      (fun j x hx => by
        rw [Addr.add_mid, cell_of_row _ _ _ _ _ _ hrow2, Nat.zero_add]
        simp [Lib.byteCells, hx])
    rw [← Lib.size_eq] at hus
    have q0 : ((s.size : Int) == 0) = false := by rw [beq_eq_false_iff_ne]; omega
    have q1 : (0 : Int) < (s.size : Int) := by omega
    have B2 : Hid (Below w.heap.size w ((w.alloc (.cells M 5)).setRow w.heap.size (Lib.byteCells s.data.toList).toArray)) :=
      ((Below.refl _ w).alloc (Nat.le_refl _) (.cells M 5)).trans ⟨rfl, rfl, rfl, by simp, fun k hk => setRow_other _ _ _ _ (Nat.ne_of_lt hk)⟩
    generalize Lib.byteCells s.data.toList = Y at *
    clear hM hi hz0 hz1 hz2 hrow hrow2 hY hMs
    go_enter Try.func47, Try.ntmps47
    go_wp2
    go_ret
    exact ⟨rfl, Lib.below_freeze B2.out (p := ⟨w.heap.size, 0, none⟩) (Nat.le_refl _) _⟩
set_option maxRecDepth 100000 in
theorem strClone15 (s : ByteArray) (hs : s.size ≤ 20000000) (w : World) : Calls Try.prog 45 #[.string s] w fun r w' => r = .returned (.string s) ∧ Below w.heap.size w w' := by
  have i1 := sclone15 s hs w
  go_enter Try.func45, Try.ntmps45
  go_wp2_with (go_at_call 47; refine i1.mono ?_; rintro r w1 ⟨rfl, b1⟩)
  go_ret
  exact ⟨rfl, b1⟩
end Kc
end Go.Proofs.Ytkamjpjmdibfgaa
