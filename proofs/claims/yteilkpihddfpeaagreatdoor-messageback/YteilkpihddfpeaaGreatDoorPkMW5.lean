import Derived.Test.YteilkpihddfpeaaGreatDoorPkMW4
namespace Go.Proofs.YteilkpihddfpeaaGreatDoor
open Go.RowKit Cod
namespace Msg

def fnum : Fq → Nat
  | .a => 58
  | .b => 61
  | .size => 57
  | .indices => 59
  | .heads => 60
  | .asks => 62
  | .entries => 56
def fv (g : Fq) : Value := .func (.func (fnum g)) #[] #[]
theorem alloc_lt {w : World} {ob : Obj} {k : Nat} (h : k < w.heap.size) : (w.alloc ob).heap[k]? = w.heap[k]? := (((Below.refl _ w).alloc (Nat.le_refl _) ob).block k h)
/-- what requestFields answers -/
def FsPost (k : Nat) (w : World) (e : Ending) (w' : World) : Prop :=
  ∃ g, e = .returned (.slice (some ⟨g, 0, none⟩) (flds k).length (flds k).length) ∧ w.heap.size ≤ g ∧ w'.heap[g]? = some (.cells ((flds k).map fv).toArray 104 (0, 0)) ∧ Below w.heap.size w w'
set_option maxRecDepth 100000 in
set_option maxHeartbeats 2000000 in
theorem rq_1 (w : World) : Calls Tryz.prog 43 #[.int .i64 1] w (FsPost 1 w) := by
  go_enter Tryz.func43, Tryz.ntmps43
  go_wp2
  go_ret
  refine ⟨w.heap.size, rfl, by omega, ?_, ?_⟩
  · rw [alloc_lt (by simp only [size_alloc]; omega)]
    rw [alloc_lt (by simp only [size_alloc]; omega)]
    rw [alloc_lt (by simp only [size_alloc]; omega)]
    rw [alloc_lt (by simp only [size_alloc]; omega)]
    rw [alloc_lt (by simp only [size_alloc]; omega)]
    rw [alloc_lt (by simp only [size_alloc]; omega)]
    rw [alloc_lt (by simp only [size_alloc]; omega)]
    rw [alloc_lt (by simp only [size_alloc]; omega)]
    rw [alloc_lt (by simp only [size_alloc]; omega)]
    rw [alloc_lt (by simp only [size_alloc]; omega)]
    rw [alloc_lt (by simp only [size_alloc]; omega)]
    rw [alloc_lt (by simp only [size_alloc]; omega)]
    exact heap_alloc_at _ _ _ (by first | rfl | simp only [size_alloc])
  · repeat' refine Below.alloc ?_ (by first | exact Nat.le_refl _ | (simp only [size_alloc]; omega)) _
    exact Below.refl _ _
set_option maxRecDepth 100000 in
set_option maxHeartbeats 2000000 in
theorem rq_2 (w : World) : Calls Tryz.prog 43 #[.int .i64 2] w (FsPost 2 w) := by
  go_enter Tryz.func43, Tryz.ntmps43
  go_wp2
  go_ret
  refine ⟨w.heap.size + 1, rfl, by omega, ?_, ?_⟩
  · rw [alloc_lt (by simp only [size_alloc]; omega)]
    rw [alloc_lt (by simp only [size_alloc]; omega)]
    rw [alloc_lt (by simp only [size_alloc]; omega)]
    rw [alloc_lt (by simp only [size_alloc]; omega)]
    rw [alloc_lt (by simp only [size_alloc]; omega)]
    rw [alloc_lt (by simp only [size_alloc]; omega)]
    rw [alloc_lt (by simp only [size_alloc]; omega)]
    rw [alloc_lt (by simp only [size_alloc]; omega)]
    rw [alloc_lt (by simp only [size_alloc]; omega)]
    rw [alloc_lt (by simp only [size_alloc]; omega)]
    rw [alloc_lt (by simp only [size_alloc]; omega)]
    exact heap_alloc_at _ _ _ (by first | rfl | simp only [size_alloc])
  · repeat' refine Below.alloc ?_ (by first | exact Nat.le_refl _ | (simp only [size_alloc]; omega)) _
    exact Below.refl _ _
set_option maxRecDepth 100000 in
set_option maxHeartbeats 2000000 in
theorem rq_3 (w : World) : Calls Tryz.prog 43 #[.int .i64 3] w (FsPost 3 w) := by
  go_enter Tryz.func43, Tryz.ntmps43
  go_wp2
  go_ret
  refine ⟨w.heap.size + 1 + 1, rfl, by omega, ?_, ?_⟩
  · rw [alloc_lt (by simp only [size_alloc]; omega)]
    rw [alloc_lt (by simp only [size_alloc]; omega)]
    rw [alloc_lt (by simp only [size_alloc]; omega)]
    rw [alloc_lt (by simp only [size_alloc]; omega)]
    rw [alloc_lt (by simp only [size_alloc]; omega)]
    rw [alloc_lt (by simp only [size_alloc]; omega)]
    rw [alloc_lt (by simp only [size_alloc]; omega)]
    rw [alloc_lt (by simp only [size_alloc]; omega)]
    rw [alloc_lt (by simp only [size_alloc]; omega)]
    rw [alloc_lt (by simp only [size_alloc]; omega)]
    exact heap_alloc_at _ _ _ (by first | rfl | simp only [size_alloc])
  · repeat' refine Below.alloc ?_ (by first | exact Nat.le_refl _ | (simp only [size_alloc]; omega)) _
    exact Below.refl _ _
set_option maxRecDepth 100000 in
set_option maxHeartbeats 2000000 in
theorem rq_4 (w : World) : Calls Tryz.prog 43 #[.int .i64 4] w (FsPost 4 w) := by
  go_enter Tryz.func43, Tryz.ntmps43
  go_wp2
  go_ret
  refine ⟨w.heap.size + 1 + 1 + 1, rfl, by omega, ?_, ?_⟩
  · rw [alloc_lt (by simp only [size_alloc]; omega)]
    rw [alloc_lt (by simp only [size_alloc]; omega)]
    rw [alloc_lt (by simp only [size_alloc]; omega)]
    rw [alloc_lt (by simp only [size_alloc]; omega)]
    rw [alloc_lt (by simp only [size_alloc]; omega)]
    rw [alloc_lt (by simp only [size_alloc]; omega)]
    rw [alloc_lt (by simp only [size_alloc]; omega)]
    rw [alloc_lt (by simp only [size_alloc]; omega)]
    rw [alloc_lt (by simp only [size_alloc]; omega)]
    exact heap_alloc_at _ _ _ (by first | rfl | simp only [size_alloc])
  · repeat' refine Below.alloc ?_ (by first | exact Nat.le_refl _ | (simp only [size_alloc]; omega)) _
    exact Below.refl _ _
set_option maxRecDepth 100000 in
set_option maxHeartbeats 2000000 in
theorem rq_5 (w : World) : Calls Tryz.prog 43 #[.int .i64 5] w (FsPost 5 w) := by
  go_enter Tryz.func43, Tryz.ntmps43
  go_wp2
  go_ret
  refine ⟨w.heap.size + 1 + 1 + 1 + 1, rfl, by omega, ?_, ?_⟩
  · rw [alloc_lt (by simp only [size_alloc]; omega)]
    rw [alloc_lt (by simp only [size_alloc]; omega)]
    rw [alloc_lt (by simp only [size_alloc]; omega)]
    rw [alloc_lt (by simp only [size_alloc]; omega)]
    rw [alloc_lt (by simp only [size_alloc]; omega)]
    rw [alloc_lt (by simp only [size_alloc]; omega)]
    rw [alloc_lt (by simp only [size_alloc]; omega)]
    rw [alloc_lt (by simp only [size_alloc]; omega)]
    exact heap_alloc_at _ _ _ (by first | rfl | simp only [size_alloc])
  · repeat' refine Below.alloc ?_ (by first | exact Nat.le_refl _ | (simp only [size_alloc]; omega)) _
    exact Below.refl _ _
set_option maxRecDepth 100000 in
set_option maxHeartbeats 2000000 in
theorem rq_6 (w : World) : Calls Tryz.prog 43 #[.int .i64 6] w (FsPost 6 w) := by
  go_enter Tryz.func43, Tryz.ntmps43
  go_wp2
  go_ret
  refine ⟨w.heap.size + 1 + 1 + 1 + 1 + 1, rfl, by omega, ?_, ?_⟩
  · rw [alloc_lt (by simp only [size_alloc]; omega)]
    rw [alloc_lt (by simp only [size_alloc]; omega)]
    rw [alloc_lt (by simp only [size_alloc]; omega)]
    rw [alloc_lt (by simp only [size_alloc]; omega)]
    rw [alloc_lt (by simp only [size_alloc]; omega)]
    rw [alloc_lt (by simp only [size_alloc]; omega)]
    rw [alloc_lt (by simp only [size_alloc]; omega)]
    exact heap_alloc_at _ _ _ (by first | rfl | simp only [size_alloc])
  · repeat' refine Below.alloc ?_ (by first | exact Nat.le_refl _ | (simp only [size_alloc]; omega)) _
    exact Below.refl _ _
set_option maxRecDepth 100000 in
set_option maxHeartbeats 2000000 in
theorem rq_7 (w : World) : Calls Tryz.prog 43 #[.int .i64 7] w (FsPost 7 w) := by
  go_enter Tryz.func43, Tryz.ntmps43
  go_wp2
  go_ret
  refine ⟨w.heap.size + 1 + 1 + 1 + 1 + 1 + 1, rfl, by omega, ?_, ?_⟩
  · rw [alloc_lt (by simp only [size_alloc]; omega)]
    rw [alloc_lt (by simp only [size_alloc]; omega)]
    rw [alloc_lt (by simp only [size_alloc]; omega)]
    rw [alloc_lt (by simp only [size_alloc]; omega)]
    rw [alloc_lt (by simp only [size_alloc]; omega)]
    rw [alloc_lt (by simp only [size_alloc]; omega)]
    exact heap_alloc_at _ _ _ (by first | rfl | simp only [size_alloc])
  · repeat' refine Below.alloc ?_ (by first | exact Nat.le_refl _ | (simp only [size_alloc]; omega)) _
    exact Below.refl _ _
set_option maxRecDepth 100000 in
set_option maxHeartbeats 2000000 in
theorem rq_8 (w : World) : Calls Tryz.prog 43 #[.int .i64 8] w (FsPost 8 w) := by
  go_enter Tryz.func43, Tryz.ntmps43
  go_wp2
  go_ret
  refine ⟨w.heap.size + 1 + 1 + 1 + 1 + 1 + 1 + 1, rfl, by omega, ?_, ?_⟩
  · rw [alloc_lt (by simp only [size_alloc]; omega)]
    rw [alloc_lt (by simp only [size_alloc]; omega)]
    rw [alloc_lt (by simp only [size_alloc]; omega)]
    rw [alloc_lt (by simp only [size_alloc]; omega)]
    rw [alloc_lt (by simp only [size_alloc]; omega)]
    exact heap_alloc_at _ _ _ (by first | rfl | simp only [size_alloc])
  · repeat' refine Below.alloc ?_ (by first | exact Nat.le_refl _ | (simp only [size_alloc]; omega)) _
    exact Below.refl _ _
set_option maxRecDepth 100000 in
set_option maxHeartbeats 2000000 in
theorem rq_9 (w : World) : Calls Tryz.prog 43 #[.int .i64 9] w (FsPost 9 w) := by
  go_enter Tryz.func43, Tryz.ntmps43
  go_wp2
  go_ret
  refine ⟨w.heap.size + 1 + 1 + 1 + 1 + 1 + 1 + 1 + 1, rfl, by omega, ?_, ?_⟩
  · rw [alloc_lt (by simp only [size_alloc]; omega)]
    rw [alloc_lt (by simp only [size_alloc]; omega)]
    rw [alloc_lt (by simp only [size_alloc]; omega)]
    rw [alloc_lt (by simp only [size_alloc]; omega)]
    exact heap_alloc_at _ _ _ (by first | rfl | simp only [size_alloc])
  · repeat' refine Below.alloc ?_ (by first | exact Nat.le_refl _ | (simp only [size_alloc]; omega)) _
    exact Below.refl _ _
set_option maxRecDepth 100000 in
set_option maxHeartbeats 2000000 in
theorem rq_10 (w : World) : Calls Tryz.prog 43 #[.int .i64 10] w (FsPost 10 w) := by
  go_enter Tryz.func43, Tryz.ntmps43
  go_wp2
  go_ret
  refine ⟨w.heap.size + 1 + 1 + 1 + 1 + 1 + 1 + 1 + 1 + 1, rfl, by omega, ?_, ?_⟩
  · rw [alloc_lt (by simp only [size_alloc]; omega)]
    rw [alloc_lt (by simp only [size_alloc]; omega)]
    rw [alloc_lt (by simp only [size_alloc]; omega)]
    exact heap_alloc_at _ _ _ (by first | rfl | simp only [size_alloc])
  · repeat' refine Below.alloc ?_ (by first | exact Nat.le_refl _ | (simp only [size_alloc]; omega)) _
    exact Below.refl _ _
set_option maxRecDepth 100000 in
set_option maxHeartbeats 2000000 in
theorem rq_11 (w : World) : Calls Tryz.prog 43 #[.int .i64 11] w (FsPost 11 w) := by
  go_enter Tryz.func43, Tryz.ntmps43
  go_wp2
  go_ret
  refine ⟨w.heap.size + 1 + 1 + 1 + 1 + 1 + 1 + 1 + 1 + 1 + 1, rfl, by omega, ?_, ?_⟩
  · rw [alloc_lt (by simp only [size_alloc]; omega)]
    rw [alloc_lt (by simp only [size_alloc]; omega)]
    exact heap_alloc_at _ _ _ (by first | rfl | simp only [size_alloc])
  · repeat' refine Below.alloc ?_ (by first | exact Nat.le_refl _ | (simp only [size_alloc]; omega)) _
    exact Below.refl _ _
set_option maxRecDepth 100000 in
set_option maxHeartbeats 2000000 in
theorem rq_12 (w : World) : Calls Tryz.prog 43 #[.int .i64 12] w (FsPost 12 w) := by
  go_enter Tryz.func43, Tryz.ntmps43
  go_wp2
  go_ret
  refine ⟨w.heap.size + 1 + 1 + 1 + 1 + 1 + 1 + 1 + 1 + 1 + 1 + 1, rfl, by omega, ?_, ?_⟩
  · rw [alloc_lt (by simp only [size_alloc]; omega)]
    exact heap_alloc_at _ _ _ (by first | rfl | simp only [size_alloc])
  · repeat' refine Below.alloc ?_ (by first | exact Nat.le_refl _ | (simp only [size_alloc]; omega)) _
    exact Below.refl _ _
theorem requestFields_any (k : Nat) (h1 : 1 ≤ k) (h2 : k ≤ 12) (w : World) : Calls Tryz.prog 43 #[.int .i64 (k : Int)] w (FsPost k w) := by
  match k, h1, h2 with
  | 1, _, _ => exact rq_1 w
  | 2, _, _ => exact rq_2 w
  | 3, _, _ => exact rq_3 w
  | 4, _, _ => exact rq_4 w
  | 5, _, _ => exact rq_5 w
  | 6, _, _ => exact rq_6 w
  | 7, _, _ => exact rq_7 w
  | 8, _, _ => exact rq_8 w
  | 9, _, _ => exact rq_9 w
  | 10, _, _ => exact rq_10 w
  | 11, _, _ => exact rq_11 w
  | 12, _, _ => exact rq_12 w
end Msg
end Go.Proofs.YteilkpihddfpeaaGreatDoor
