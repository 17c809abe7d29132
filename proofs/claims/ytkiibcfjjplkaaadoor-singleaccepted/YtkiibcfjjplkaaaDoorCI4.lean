import Derived.Test.YtkiibcfjjplkaaaDoorCI3
import Derived.Test.YtkiibcfjjplkaaaDoorCI2
namespace Go.Proofs.YtkiibcfjjplkaaaDoor
open Go.RowKit
set_option maxRecDepth 100000 in
set_option maxHeartbeats 2000000 in
theorem steps_any (p l : Nat) (hp : p ≤ l) (hl : l < 9223372036854775807) (w : World) :
    Calls Tryd.prog 88 #[wy p l] w fun e w' => e = .returned (.int .i64 ((Tree.U p l).length : Nat)) ∧ Below w.heap.size w w' := by
  obtain ⟨T, hT⟩ : ∃ T, Hid ((Tree.U p l).length = T) := ⟨_, rfl⟩
  go_enter Tryd.func88, Tryd.ntmps88
  go_wp2
  go_loopw [3] (fun c w' => ∃ x y C : Nat, c = .int .i64 (C : Int) ∧ x ≤ y ∧ C + y ≤ l ∧ Hid (C + (Tree.U x y).length = T) ∧ Hid (Wy w' w.heap.size x y) ∧ Hid (Below w.heap.size w w')) (fun _ w' => numAt w' w.heap.size 1)
  case atStart => exact ⟨p, l, 0, rfl, hp, by omega, by unfold Hid; rw [Nat.zero_add]; exact hT.out, Wy.new w p l, (Below.refl _ _).alloc (Nat.le_refl _) _⟩
  case round =>
    obtain ⟨x, y, C, rfl, hxy, hC, hU, hW, hB⟩ := hrel
    have c0 := hW.out.c0
    have c1 := hW.out.c1
    by_cases h0 : y = 0
    · subst h0
      have e := hid (show T = C by have := hU.out; rw [Tree.U_zero] at this; simpa using this.symm)
      go_wp2
      go_ret
      exact ⟨by rw [hT.out, e.out]; rfl, hB.out⟩
    · have b0 : ((y : Int) != 0) = true := by simp; omega
      have b1 : ((y : Int) == 0) = false := by simp; omega
      have hc := above_any x y hxy h0 (by omega) wr
      go_wp2_with (first
        | ((with_reducible show wpList _ _ _ (Oper.mk _ (Op.load 105 _) _ _ _ _ :: _) _ _); go_must (refine wpList_load_row rfl 105 _ rfl w.heap.size rfl 105 _ (0, 0) _ hW.out.row Tryd.underlying105 rfl (sizeW' _ _) ?_))
        | (go_at_call 92; refine hc.mono ?_; rintro e w1 ⟨x', y', rfl, hw1, hx', hy', hU'⟩)
        | ((with_reducible show wpList _ _ _ (Oper.mk _ (Op.store 105 _ _) _ _ _ _ :: _) _ _); go_must (refine wpList_store_row rfl 105 _ _ rfl w.heap.size _ rfl rfl 105 _ (hW.out.below hw1).row (sizeW' _ _) rfl (oneW _ _) ?_)))
      have hW1 := (hW.out.below hw1).set x' y'
      have hm : numAt (w1.setRow w.heap.size #[.int .i64 (x' : Int), .int .i64 (y' : Int)]) w.heap.size 1 < numAt wr w.heap.size 1 := by rw [hW1.n1, hW.out.n1]; exact hy'
      refine ⟨?_, hm⟩
      have fin : ∃ x y C' : Nat, Value.int .i64 ((C : Int) + 1) = .int .i64 (C' : Int) ∧ x ≤ y ∧ C' + y ≤ l ∧ Hid (C' + (Tree.U x y).length = T) ∧ Hid (Wy (w1.setRow w.heap.size #[.int .i64 (x' : Int), .int .i64 (y' : Int)]) w.heap.size x y) ∧ Hid (Below w.heap.size w (w1.setRow w.heap.size #[.int .i64 (x' : Int), .int .i64 (y' : Int)])) :=
        ⟨x', y', C + 1, by go_num, hx', by omega, by have := hU.out; rw [hU'.out] at this; unfold Hid; simp at this; omega, hid hW1, hid (Below.setRow (hB.out.trans (hw1.mono hB.out.size)) (Nat.le_refl _) _)⟩
      first
        | exact fin
        | (repeat apply Exists.intro
           exact ⟨fin, rfl⟩)
set_option maxRecDepth 100000 in
set_option maxHeartbeats 2000000 in
theorem pathWay_any (n m : Nat) (hn : 1 ≤ n) (hl : n < 9223372036854775807) (w : World) :
    Calls Tryd.prog 70 #[.int .i64 n, .int .i64 m] w fun e w' => e = .returned (wy m (n - 1)) ∧ Below w.heap.size w w' := by
  have e1 : ((n : Int) - 1) = ((n - 1 : Nat) : Int) := by omega
  go_enter Tryd.func70, Tryd.ntmps70
  go_wp2
  refine bodyPost_ret (v := wy m (n - 1)) (results_cell_row rfl _ _ w.heap.size 105 _ (0, 0) _ rfl ?_ Tryd.underlying105 rfl (sizeW' _ _)) rfl ⟨rfl, ?_⟩
  · first
      | exact heap_alloc_new _ _
      | (rw [← e1]; exact heap_alloc_new _ _)
  · exact (Below.refl _ _).alloc (Nat.le_refl _) _
set_option maxRecDepth 100000 in
set_option maxHeartbeats 2000000 in
theorem proofWay_any (m n : Nat) (hm : 1 ≤ m) (hn : 1 ≤ n) (h1 : m < 9223372036854775807) (h2 : n < 9223372036854775807) (w : World) :
    Calls Tryd.prog 73 #[.int .i64 m, .int .i64 n] w fun e w' => e = .returned (wy (Tree.St (m - 1) (n - 1)).1 (Tree.St (m - 1) (n - 1)).2) ∧ Below w.heap.size w w' := by
  have e1 : ((n : Int) - 1) = ((n - 1 : Nat) : Int) := by omega
  have e2 : ((m : Int) - 1) = ((m - 1 : Nat) : Int) := by omega
  obtain ⟨P, L, hT⟩ : ∃ P L, Hid (Tree.St (m - 1) (n - 1) = (P, L)) := ⟨_, _, rfl⟩
  go_enter Tryd.func73, Tryd.ntmps73
  go_wp2
  go_loopw [] (fun w' => ∃ x y : Nat, x < 9223372036854775807 ∧ y < 9223372036854775807 ∧ Hid (Tree.St x y = (P, L)) ∧ Hid (Wy w' (w.heap.size + 1) x y) ∧ Hid (Wy w' w.heap.size 0 0) ∧ Hid (Below w.heap.size w w')) (fun w' => numAt w' (w.heap.size + 1) 0)
  case atStart =>
    have s1 := size_alloc w (.cells #[Value.int .i64 0, Value.int .i64 0] 105)
    refine ⟨m - 1, n - 1, by omega, by omega, hT, ?_, (Below.heap_alloc _ _ _ (by omega)).trans (heap_alloc_new w _), ((Below.refl _ _).alloc (Nat.le_refl _) _).alloc (by omega) _⟩
    show _ = some (Obj.cells #[.int .i64 ((m - 1 : Nat) : Int), .int .i64 ((n - 1 : Nat) : Int)] _ _)
    rw [← e1, ← e2]
    exact heap_alloc_at _ _ _ s1
  case round =>
    obtain ⟨x, y, hx, hy, hU, hW, hR, hB⟩ := hrel
    have c0 := hW.out.c0
    have c1 := hW.out.c1
    by_cases ho : x % 2 = 1
    · have b0 : (x : Int) % 2 = 1 := by omega
      have b1 : ((x : Int) % 2 == 1) = true := by simp; omega
      have hc := halved_any x y (by omega) (by omega) wr
      go_wp2_with (first
        | ((with_reducible show wpList _ _ _ (Oper.mk _ (Op.load 105 _) _ _ _ _ :: _) _ _); go_must (refine wpList_load_row rfl 105 _ rfl (w.heap.size + 1) rfl 105 _ (0, 0) _ hW.out.row Tryd.underlying105 rfl (sizeW' _ _) ?_))
        | (go_at_call 95; refine hc.mono ?_; rintro e w1 ⟨rfl, hw1⟩)
        | ((with_reducible show wpList _ _ _ (Oper.mk _ (Op.store 105 _ _) _ _ _ _ :: _) _ _); go_must (refine wpList_store_row rfl 105 _ _ rfl (w.heap.size + 1) _ rfl rfl 105 _ (hW.out.below hw1).row (sizeW' _ _) rfl (oneW _ _) ?_)))
      have hW1 := (hW.out.below hw1).set (x / 2) (y / 2)
      have hm : numAt (w1.setRow (w.heap.size + 1) #[.int .i64 ((x / 2 : Nat) : Int), .int .i64 ((y / 2 : Nat) : Int)]) (w.heap.size + 1) 0 < numAt wr (w.heap.size + 1) 0 := by rw [hW1.n0, hW.out.n0]; omega
      refine ⟨?_, hm⟩
      repeat apply Exists.intro
      exact ⟨⟨x / 2, y / 2, by omega, by omega, hid ((Tree.St_odd y ho).symm.trans hU.out), hid hW1, hid ((hR.out.below hw1).setO _ (by omega)), hid (Below.setRow (hB.out.trans (hw1.mono hB.out.size)) (by omega) _)⟩, rfl⟩
    · have b0 : ¬ (x : Int) % 2 = 1 := by omega
      have b1 : ((x : Int) % 2 == 1) = false := by simp; omega
      have e := hid ((Tree.St_even y ho).symm.trans hU.out)
      go_wp2_with (first
        | ((with_reducible show wpList _ _ _ (Oper.mk _ (Op.load 105 _) _ _ _ _ :: _) _ _); go_must (refine wpList_load_row rfl 105 _ rfl (w.heap.size + 1) rfl 105 _ (0, 0) _ hW.out.row Tryd.underlying105 rfl (sizeW' _ _) ?_))
        | ((with_reducible show wpList _ _ _ (Oper.mk _ (Op.store 105 _ _) _ _ _ _ :: _) _ _); go_must (refine wpList_store_row rfl 105 _ _ rfl w.heap.size _ rfl rfl 105 _ hR.out.row (sizeW' _ _) rfl (oneW _ _) ?_)))
      refine bodyPost_ret (v := wy x y) (results_cell_row rfl _ _ w.heap.size 105 _ (0, 0) _ rfl (hR.out.set x y).row Tryd.underlying105 rfl (sizeW' _ _)) rfl ⟨?_, ?_⟩
      · rw [hT.out, ← e.out]
      · exact Below.setRow hB.out (Nat.le_refl _) _
end Go.Proofs.YtkiibcfjjplkaaaDoor
