import Derived.Test.YtkbngmhhlpdpnaaDoorO10
namespace Go.Proofs.YtkbngmhhlpdpnaaDoor
open Go.RowKit

def u8 (c : Int) : UInt8 := UInt8.ofNat (c % 256).toNat
theorem u8_toNat (c : Int) : (((u8 c).toNat : Nat) : Int) = c % 256 := by
  unfold u8
  rw [UInt8.toNat_ofNat']
  omega
/-- the law's leaf of a number -/
def lf (c : Int) : List UInt8 := u8 c :: (List.replicate 30 0 ++ [u8 (c / 256)])
theorem lf_length (c : Int) : (lf c).length = 32 := by simp [lf]
theorem make32 (w : World) : (Instr.makeSlice 71 (.int .i64 32) (.int .i64 32)).run Tryd.prog w = .ok (.slice (some ⟨w.heap.size, 0, none⟩) 32 32) (w.alloc (.cells (bv (List.replicate 32 0)).toArray 5)) := by
  obtain ⟨i0, hi, hz0, hz1, hz2⟩ := info_parts info5'
  have h := run_make (P := Tryd.prog) w 71 5 i0 (.int .u8 0) Tryd.underlying71 hi hz0 .i64 .i64 32 32 (by omega) (by omega) (by rw [hz2]; decide) (by omega)
  rw [hz1] at h
  have e : madeCells (Value.int .u8 0).cells (Int.toNat 32 * 1) = (bv (List.replicate 32 0)).toArray := by
    apply Array.ext'
    have h1 : (madeCells (Value.int .u8 0).cells (Int.toNat 32 * 1)).toList = List.replicate (Int.toNat 32 * 1) (.int .u8 0) := toList_madeCells_one _ _
    rw [h1, bv, List.map_replicate]
    rfl
  rw [e] at h
  exact h
theorem lf_one (c : Int) : (bv (List.replicate 32 0)).toArray.setIfInBounds 0 (.int .u8 (c % 256)) = (bv (u8 c :: List.replicate 31 0)).toArray := by
  rw [← u8_toNat c]; rfl
theorem lf_two (c : Int) : (bv (u8 c :: List.replicate 31 0)).toArray.setIfInBounds 31 (.int .u8 (c / 256 % 256)) = (bv (lf c)).toArray := by
  rw [← u8_toNat (c / 256)]; rfl
set_option maxRecDepth 100000 in
set_option maxHeartbeats 400000 in
theorem lleaf_any (c : Int) (w : World) :
    Calls Tryd.prog 39 #[.int .i64 c] w fun e w' => e = .returned (sv (lf c)) ∧ Below w.heap.size w w' := by
  have hmk := make32 w
  have hh := heap_alloc_new w (.cells (bv (List.replicate 32 0)).toArray 5)
  have hb := (Below.refl w.heap.size w).alloc (Nat.le_refl _) (.cells (bv (List.replicate 32 0)).toArray 5)
  generalize w.alloc (.cells (bv (List.replicate 32 0)).toArray 5) = w1 at *
  obtain ⟨y, _, _, c1⟩ := bv_cell hh 0 (by simp)
  have f1 : w1.frozen? ⟨w.heap.size, 0, none⟩ = false := frozen_of_row _ _ _ _ _ hh
  have hh2 := heap_setCell_same w1 w.heap.size 0 _ _ (.int .u8 (c % 256)) hh
  rw [lf_one] at hh2
  have hb2 := hb.setCell (Nat.le_refl _) (p := ⟨w.heap.size, 0, none⟩) (.int .u8 (c % 256))
  obtain ⟨y2, _, _, c2⟩ := bv_cell hh2 31 (by simp)
  have f2 : (w1.setCell ⟨w.heap.size, 0, none⟩ (.int .u8 (c % 256))).frozen? ⟨w.heap.size, 31, none⟩ = false := frozen_of_row _ _ _ _ _ hh2
  have hh3 := heap_setCell_same _ w.heap.size 31 _ _ (.int .u8 (c / 256 % 256)) hh2
  rw [lf_two] at hh3
  have hb3 := hid (hb2.setCell (Nat.le_refl _) (p := ⟨w.heap.size, 31, none⟩) (.int .u8 (c / 256 % 256)))
  have hcv := run_conv_bytes (P := Tryd.prog) _ 71 9 5 w.heap.size 0 32 32 (lf c) (lf_length c) Tryd.underlying71 Tryd.underlying5 Tryd.underlying9 (rangeAt_of_list hh3 (fun j v hv => by rw [Nat.zero_add]; exact hv))
  generalize lf c = L at *
  clear hh hb hh2 hb2 hh3
  go_enter Tryd.func39, Tryd.ntmps39
  go_wp2
  go_ret
  exact ⟨rfl, hb3.out⟩
set_option maxRecDepth 100000 in
set_option maxHeartbeats 400000 in
theorem lnode_any (l r : List UInt8) (w : World) (T : Tabs w) :
    Calls Tryd.prog 40 #[sv l, sv r] w fun e w' => e = .returned (sv (Tree.nd l r)) ∧ Below w.heap.size w w' := by
  obtain ⟨m, d, hm⟩ : ∃ m d, Hid (nodeOf l r = (m, d)) := ⟨_, _, rfl⟩
  have e' := hid (show Tree.nd l r = m by rw [← nodeOf_nd, hm.out])
  go_enter Tryd.func40, Tryd.ntmps40
  go_wp2_with (go_at_call 76; refine (node_at hm _ T).mono ?_; rintro e w1 ⟨rfl, hw1⟩)
  go_ret
  exact ⟨by rw [e'.out]; rfl, hw1⟩
end Go.Proofs.YtkbngmhhlpdpnaaDoor
