import Derived.Test.YthoekndjeclimaaGreatDoorCI1
import Derived.Test.YthoekndjeclimaaGreatDoorCR6
import Derived.Test.YthoekndjeclimaaGreatDoorCO28
namespace Go.Proofs.YthoekndjeclimaaGreatDoor
open Go.RowKit
set_option maxRecDepth 100000 in
set_option maxHeartbeats 2000000 in
theorem rsplit4_any (n : Nat) (h0 : 2 ≤ n) (h1 : n ≤ 4611686018427387903) (w : World) :
    Calls Tryz.prog 100 #[.int .i64 n] w fun e w' => e = .returned (.int .i64 (Tree.sp n : Nat)) ∧ w' = w := by
  go_enter Tryz.func100, Tryz.ntmps100
  go_wp2
  go_loopw [3] (fun k w' => ∃ a x : Nat, Hid (2 ^ a = x) ∧ k = .int .i64 (x : Int) ∧ x < n ∧ 0 < x ∧ w' = w) (fun k _ => n - (intOf k).toNat)
  case atStart => exact ⟨0, 1, rfl, rfl, by omega, by omega, rfl⟩
  case round =>
    obtain ⟨a, x, hx, rfl, hlt, hpos, rfl⟩ := hrel
    by_cases hk : 2 * (x : Int) < n
    · go_wp2
      exact ⟨⟨a + 1, 2 * x, by rw [Hid, Nat.pow_succ, hx.out, Nat.mul_comm], by go_num, by omega, by omega, trivial⟩, by simp [intOf]; omega⟩
    · have e := hid (show Tree.sp n = x by rw [Tree.sp_one h0 a (by rw [hx.out]; omega) (by rw [hx.out]; omega), hx.out])
      go_wp2
      go_ret
      exact ⟨by rw [e.out]; rfl, rfl⟩
set_option maxRecDepth 100000 in
set_option maxHeartbeats 2000000 in
theorem rway_any (n m : Nat) (h0 : n ≤ 1099511627776) (h1 : m < n) (w : World) :
    Calls Tryz.prog 99 #[.int .i64 n, .int .i64 m] w fun e w' => e = .returned (.int .i64 ((Tree.D n m).length : Nat)) ∧ w' = w := by
  obtain ⟨T, hT⟩ : ∃ T, Hid ((Tree.D n m).length = T) := ⟨_, rfl⟩
  go_enter Tryz.func99, Tryz.ntmps99
  go_wp2
  go_loopw [0, 1, 5] (fun s i c w' => ∃ S I C : Nat, s = .int .i64 (S : Int) ∧ i = .int .i64 (I : Int) ∧ c = .int .i64 (C : Int) ∧ I < S ∧ C + S ≤ n ∧ Hid (C + (Tree.D S I).length = T) ∧ w' = w) (fun s _ _ _ => (intOf s).toNat)
  case atStart => exact ⟨n, m, 0, rfl, rfl, rfl, h1, by omega, by unfold Hid; rw [Nat.zero_add]; exact hT.out, rfl⟩
  case round =>
    obtain ⟨S, I, C, rfl, rfl, rfl, hI, hC, hD, rfl⟩ := hrel
    by_cases hS : 2 ≤ S
    · have b0 : (1 : Int) < (S : Int) := by omega
      have k1 := Tree.sp_lt hS
      have k2 := Tree.sp_pos hS
      have hc := rsplit4_any S hS (by omega)
      have dl := hid (@Tree.D_left S I hS)
      have dr := hid (@Tree.D_right S I hS)
      generalize Tree.sp S = k at *
      by_cases hi : I < k
      · have b1 : (I : Int) < (k : Int) := by omega
        go_wp2_with (go_at_call 100; refine (hc _).mono ?_; rintro e w' ⟨rfl, rfl⟩)
        exact ⟨⟨k, I, C + 1, rfl, rfl, by go_num, by omega, by omega, by have := hD.out; rw [dl.out hi] at this; unfold Hid; simp at this; omega, trivial⟩, by simp [intOf]; omega⟩
      · have b1 : ¬ (I : Int) < (k : Int) := by omega
        go_wp2_with (go_at_call 100; refine (hc _).mono ?_; rintro e w' ⟨rfl, rfl⟩)
        exact ⟨⟨S - k, I - k, C + 1, by go_num, by go_num, by go_num, by omega, by omega, by have := hD.out; rw [dr.out hi] at this; unfold Hid; simp at this; omega, trivial⟩, by simp [intOf]; omega⟩
    · have b0 : ¬ (1 : Int) < (S : Int) := by omega
      have e := hid (show T = C by have := hD.out; rw [Tree.D_one _ (by omega)] at this; simpa using this.symm)
      go_wp2
      go_ret
      exact ⟨by rw [hT.out, e.out]; rfl, rfl⟩
/-- V1 -/
def lenOf (n m : Int) : Int × Int := if n < 1 ∨ 1099511627776 < n then (0, 41) else if m < 0 ∨ n ≤ m then (0, 40) else ((Tree.D n.toNat m.toNat).length, 0)
set_option maxRecDepth 100000 in
set_option maxHeartbeats 2000000 in
theorem rPathLen_any (n m : Int) (w : World) :
    Calls Tryz.prog 73 #[.int .i64 n, .int .i64 m] w fun e w' => e = .returned (.tuple #[.int .i64 (lenOf n m).1, .int .i64 (lenOf n m).2]) ∧ w' = w := by
  by_cases h1 : n < 1
  · rw [lenOf, if_pos (Or.inl h1)]
    go_enter Tryz.func73, Tryz.ntmps73
    go_wp2
    go_ret2
    exact ⟨rfl, rfl⟩
  · by_cases h2 : 1099511627776 < n
    · rw [lenOf, if_pos (Or.inr h2)]
      go_enter Tryz.func73, Tryz.ntmps73
      go_wp2
      go_ret2
      exact ⟨rfl, rfl⟩
    · rw [lenOf, if_neg (by omega)]
      by_cases h3 : m < 0
      · rw [if_pos (Or.inl h3)]
        go_enter Tryz.func73, Tryz.ntmps73
        go_wp2
        go_ret2
        exact ⟨rfl, rfl⟩
      · by_cases h4 : n ≤ m
        · rw [if_pos (Or.inr h4)]
          go_enter Tryz.func73, Tryz.ntmps73
          go_wp2
          go_ret2
          exact ⟨rfl, rfl⟩
        · rw [if_neg (by omega)]
          have hc := rway_any n.toNat m.toNat (by omega) (by omega)
          rw [Int.toNat_of_nonneg (by omega), Int.toNat_of_nonneg (by omega)] at hc
          generalize (Tree.D n.toNat m.toNat).length = L at *
          go_enter Tryz.func73, Tryz.ntmps73
          go_wp2_with (go_at_call 99; refine (hc _).mono ?_; rintro e w' ⟨rfl, rfl⟩)
          go_ret2
          exact ⟨rfl, rfl⟩
set_option maxRecDepth 100000 in
set_option maxHeartbeats 2000000 in
theorem told_any : ∀ (f m n : Nat) (whole : Bool) (w : World), n ≤ f → n ≤ 1099511627776 → 1 ≤ m → m ≤ n →
    Calls Tryz.prog 109 #[.int .i64 m, .int .i64 n, .bool whole] w fun e w' => e = .returned (.int .i64 (Tree.pl m n whole : Nat)) ∧ w' = w := by
  intro f
  induction f with
  | zero => intro m n whole w hf _ h1 h2; omega
  | succ f ih =>
    intro m n whole w hf hn h1 h2
    by_cases h : m = n
    · subst h
      rw [Tree.pl_same]
      have b0 : ((m : Int) == (m : Int)) = true := by simp
      clear ih
      cases whole
      · go_enter Tryz.func109, Tryz.ntmps109
        go_wp2
        go_ret
        exact ⟨rfl, rfl⟩
      · go_enter Tryz.func109, Tryz.ntmps109
        go_wp2
        go_ret
        exact ⟨rfl, rfl⟩
    · have b0 : ((m : Int) == (n : Int)) = false := by simp; omega
      have k1 := Tree.sp_lt (n := n) (by omega)
      have k2 := Tree.sp_pos (n := n) (by omega)
      have hc := rsplit4_any n (by omega) (by omega)
      have pL := @Tree.pl_left m n h1 (by omega)
      have pR := @Tree.pl_right m n h1 (by omega)
      generalize Tree.sp n = k at *
      by_cases hm : m ≤ k
      · have b1 : (m : Int) ≤ (k : Int) := by omega
        have i1 := ih m k whole w (by omega) (by omega) h1 hm
        have i2 := Tree.pl_le _ m k whole (Nat.le_refl _) h1 hm
        have e := hid (pL hm whole)
        generalize Tree.pl m k whole = L at *
        generalize Tree.pl m n whole = R at *
        clear ih pL pR
        go_enter Tryz.func109, Tryz.ntmps109
        go_wp2_with (first
          | (go_at_call 100; refine (hc _).mono ?_; rintro e w' ⟨rfl, rfl⟩)
          | (go_at_call 109; refine i1.mono ?_; rintro e w' ⟨rfl, rfl⟩))
        go_ret
        exact ⟨by rw [e.out]; go_num, rfl⟩
      · have b1 : ¬ (m : Int) ≤ (k : Int) := by omega
        have i1 := ih (m - k) (n - k) false w (by omega) (by omega) (by omega) (by omega)
        have i2 := Tree.pl_le _ (m - k) (n - k) false (Nat.le_refl _) (by omega) (by omega)
        have e := hid (pR hm whole)
        rw [show ((m - k : Nat) : Int) = (m : Int) - (k : Int) from by omega, show ((n - k : Nat) : Int) = (n : Int) - (k : Int) from by omega] at i1
        generalize Tree.pl (m - k) (n - k) false = L at *
        generalize Tree.pl m n whole = R at *
        clear ih pL pR
        go_enter Tryz.func109, Tryz.ntmps109
        go_wp2_with (first
          | (go_at_call 100; refine (hc _).mono ?_; rintro e w' ⟨rfl, rfl⟩)
          | (go_at_call 109; refine i1.mono ?_; rintro e w' ⟨rfl, rfl⟩))
        go_ret
        exact ⟨by rw [e.out]; go_num, rfl⟩
/-- V1 -/
def prfLen (m n : Int) : Int × Int := if m < 1 ∨ n < m ∨ 1099511627776 < n then (0, 41) else (Tree.pl m.toNat n.toNat true, 0)
set_option maxRecDepth 100000 in
set_option maxHeartbeats 2000000 in
theorem rProofLen_any (m n : Int) (w : World) :
    Calls Tryz.prog 87 #[.int .i64 m, .int .i64 n] w fun e w' => e = .returned (.tuple #[.int .i64 (prfLen m n).1, .int .i64 (prfLen m n).2]) ∧ w' = w := by
  by_cases h1 : m < 1
  · rw [prfLen, if_pos (Or.inl h1)]
    go_enter Tryz.func87, Tryz.ntmps87
    go_wp2
    go_ret2
    exact ⟨rfl, rfl⟩
  · by_cases h2 : n < m
    · rw [prfLen, if_pos (Or.inr (Or.inl h2))]
      go_enter Tryz.func87, Tryz.ntmps87
      go_wp2
      go_ret2
      exact ⟨rfl, rfl⟩
    · by_cases h3 : 1099511627776 < n
      · rw [prfLen, if_pos (Or.inr (Or.inr h3))]
        go_enter Tryz.func87, Tryz.ntmps87
        go_wp2
        go_ret2
        exact ⟨rfl, rfl⟩
      · rw [prfLen, if_neg (by omega)]
        have hc := told_any _ m.toNat n.toNat true w (Nat.le_refl _) (by omega) (by omega) (by omega)
        rw [Int.toNat_of_nonneg (by omega), Int.toNat_of_nonneg (by omega)] at hc
        generalize Tree.pl m.toNat n.toNat true = L at *
        go_enter Tryz.func87, Tryz.ntmps87
        go_wp2_with (go_at_call 109; refine hc.mono ?_; rintro e w' ⟨rfl, rfl⟩)
        go_ret2
        exact ⟨rfl, rfl⟩
end Go.Proofs.YthoekndjeclimaaGreatDoor

namespace Go.Proofs.YthoekndjeclimaaGreatDoor
open Go.RowKit
set_option maxRecDepth 100000 in
set_option maxHeartbeats 2000000 in
theorem steps_any (p l : Nat) (hp : p ≤ l) (hl : l < 9223372036854775807) (w : World) :
    Calls Tryz.prog 92 #[wy p l] w fun e w' => e = .returned (.int .i64 ((Tree.U p l).length : Nat)) ∧ Below w.heap.size w w' := by
  obtain ⟨T, hT⟩ : ∃ T, Hid ((Tree.U p l).length = T) := ⟨_, rfl⟩
  go_enter Tryz.func92, Tryz.ntmps92
  go_wp2
  go_loopw [3] (fun c w' => ∃ x y C : Nat, c = .int .i64 (C : Int) ∧ x ≤ y ∧ C + y ≤ l ∧ Hid (C + (Tree.U x y).length = T) ∧ Hid (Wy w' w.heap.size x y) ∧ Hid (Below w.heap.size w w')) (fun _ w' => numAt w' w.heap.size 1)
  case atStart => exact ⟨p, l, 0, rfl, hp, by omega, by unfold Hid; rw [Nat.zero_add]; exact hT.out, Wy.new w p l, (Below.refl _ _).alloc (Nat.le_refl _) _⟩
  case round =>
    obtain ⟨x, y, C, rfl, hxy, hC, hU, hW, hB⟩ := hrel
    have c0 := hW.out.c0
    have c1 := hW.out.c1
    by_cases h0 : y = 0
    · subst h0
      have e := hid (show T = C by have := hU.out; rw [Tree.U_zero] at this; simpa using this.symm)
      go_wp2
      go_ret
      exact ⟨by rw [hT.out, e.out]; rfl, hB.out⟩
    · have b0 : ((y : Int) != 0) = true := by simp; omega
      have b1 : ((y : Int) == 0) = false := by simp; omega
      have hc := above_any x y hxy h0 (by omega) wr
      go_wp2_with (first
        | ((with_reducible show wpList _ _ _ (Oper.mk _ (Op.load 93 _) _ _ _ _ :: _) _ _); go_must (refine wpList_load_row rfl 93 _ rfl w.heap.size rfl 93 _ (0, 0) _ hW.out.row Tryz.underlying93 rfl (sizeW' _ _) ?_))
        | (go_at_call 96; refine hc.mono ?_; rintro e w1 ⟨x', y', rfl, hw1, hx', hy', hU'⟩)
        | ((with_reducible show wpList _ _ _ (Oper.mk _ (Op.store 93 _ _) _ _ _ _ :: _) _ _); go_must (refine wpList_store_row rfl 93 _ _ rfl w.heap.size _ rfl rfl 93 _ (hW.out.below hw1).row (sizeW' _ _) rfl (oneW _ _) ?_)))
      have hW1 := (hW.out.below hw1).set x' y'
      have hm : numAt (w1.setRow w.heap.size #[.int .i64 (x' : Int), .int .i64 (y' : Int)]) w.heap.size 1 < numAt wr w.heap.size 1 := by rw [hW1.n1, hW.out.n1]; exact hy'
      refine ⟨?_, hm⟩
      have fin : ∃ x y C' : Nat, Value.int .i64 ((C : Int) + 1) = .int .i64 (C' : Int) ∧ x ≤ y ∧ C' + y ≤ l ∧ Hid (C' + (Tree.U x y).length = T) ∧ Hid (Wy (w1.setRow w.heap.size #[.int .i64 (x' : Int), .int .i64 (y' : Int)]) w.heap.size x y) ∧ Hid (Below w.heap.size w (w1.setRow w.heap.size #[.int .i64 (x' : Int), .int .i64 (y' : Int)])) :=
        ⟨x', y', C + 1, by go_num, hx', by omega, by have := hU.out; rw [hU'.out] at this; unfold Hid; simp at this; omega, hid hW1, hid (Below.setRow (hB.out.trans (hw1.mono hB.out.size)) (Nat.le_refl _) _)⟩
      first
        | exact fin
        | (repeat apply Exists.intro
           exact ⟨fin, rfl⟩)
set_option maxRecDepth 100000 in
set_option maxHeartbeats 2000000 in
theorem pathWay_any (n m : Nat) (hn : 1 ≤ n) (hl : n < 9223372036854775807) (w : World) :
    Calls Tryz.prog 71 #[.int .i64 n, .int .i64 m] w fun e w' => e = .returned (wy m (n - 1)) ∧ Below w.heap.size w w' := by
  have e1 : ((n : Int) - 1) = ((n - 1 : Nat) : Int) := by omega
  go_enter Tryz.func71, Tryz.ntmps71
  go_wp2
  refine bodyPost_ret (v := wy m (n - 1)) (results_cell_row rfl _ _ w.heap.size 93 _ (0, 0) _ rfl ?_ Tryz.underlying93 rfl (sizeW' _ _)) rfl ⟨rfl, ?_⟩
  · first
      | exact heap_alloc_new _ _
      | (rw [← e1]; exact heap_alloc_new _ _)
  · exact (Below.refl _ _).alloc (Nat.le_refl _) _
set_option maxRecDepth 100000 in
set_option maxHeartbeats 2000000 in
theorem proofWay_any (m n : Nat) (hm : 1 ≤ m) (hn : 1 ≤ n) (h1 : m < 9223372036854775807) (h2 : n < 9223372036854775807) (w : World) :
    Calls Tryz.prog 84 #[.int .i64 m, .int .i64 n] w fun e w' => e = .returned (wy (Tree.St (m - 1) (n - 1)).1 (Tree.St (m - 1) (n - 1)).2) ∧ Below w.heap.size w w' := by
  have e1 : ((n : Int) - 1) = ((n - 1 : Nat) : Int) := by omega
  have e2 : ((m : Int) - 1) = ((m - 1 : Nat) : Int) := by omega
  obtain ⟨P, L, hT⟩ : ∃ P L, Hid (Tree.St (m - 1) (n - 1) = (P, L)) := ⟨_, _, rfl⟩
  go_enter Tryz.func84, Tryz.ntmps84
  go_wp2
  go_loopw [] (fun w' => ∃ x y : Nat, x < 9223372036854775807 ∧ y < 9223372036854775807 ∧ Hid (Tree.St x y = (P, L)) ∧ Hid (Wy w' (w.heap.size + 1) x y) ∧ Hid (Wy w' w.heap.size 0 0) ∧ Hid (Below w.heap.size w w')) (fun w' => numAt w' (w.heap.size + 1) 0)
  case atStart =>
    have s1 := size_alloc w (.cells #[Value.int .i64 0, Value.int .i64 0] 93)
    refine ⟨m - 1, n - 1, by omega, by omega, hT, ?_, (Below.heap_alloc _ _ _ (by omega)).trans (heap_alloc_new w _), ((Below.refl _ _).alloc (Nat.le_refl _) _).alloc (by omega) _⟩
    show _ = some (Obj.cells #[.int .i64 ((m - 1 : Nat) : Int), .int .i64 ((n - 1 : Nat) : Int)] _ _)
    rw [← e1, ← e2]
    exact heap_alloc_at _ _ _ s1
  case round =>
    obtain ⟨x, y, hx, hy, hU, hW, hR, hB⟩ := hrel
    have c0 := hW.out.c0
    have c1 := hW.out.c1
    by_cases ho : x % 2 = 1
    · have b0 : (x : Int) % 2 = 1 := by omega
      have b1 : ((x : Int) % 2 == 1) = true := by simp; omega
      have hc := halved_any x y (by omega) (by omega) wr
      go_wp2_with (first
        | ((with_reducible show wpList _ _ _ (Oper.mk _ (Op.load 93 _) _ _ _ _ :: _) _ _); go_must (refine wpList_load_row rfl 93 _ rfl (w.heap.size + 1) rfl 93 _ (0, 0) _ hW.out.row Tryz.underlying93 rfl (sizeW' _ _) ?_))
        | (go_at_call 108; refine hc.mono ?_; rintro e w1 ⟨rfl, hw1⟩)
        | ((with_reducible show wpList _ _ _ (Oper.mk _ (Op.store 93 _ _) _ _ _ _ :: _) _ _); go_must (refine wpList_store_row rfl 93 _ _ rfl (w.heap.size + 1) _ rfl rfl 93 _ (hW.out.below hw1).row (sizeW' _ _) rfl (oneW _ _) ?_)))
      have hW1 := (hW.out.below hw1).set (x / 2) (y / 2)
      have hm : numAt (w1.setRow (w.heap.size + 1) #[.int .i64 ((x / 2 : Nat) : Int), .int .i64 ((y / 2 : Nat) : Int)]) (w.heap.size + 1) 0 < numAt wr (w.heap.size + 1) 0 := by rw [hW1.n0, hW.out.n0]; omega
      refine ⟨?_, hm⟩
      repeat apply Exists.intro
      exact ⟨⟨x / 2, y / 2, by omega, by omega, hid ((Tree.St_odd y ho).symm.trans hU.out), hid hW1, hid ((hR.out.below hw1).setO _ (by omega)), hid (Below.setRow (hB.out.trans (hw1.mono hB.out.size)) (by omega) _)⟩, rfl⟩
    · have b0 : ¬ (x : Int) % 2 = 1 := by omega
      have b1 : ((x : Int) % 2 == 1) = false := by simp; omega
      have e := hid ((Tree.St_even y ho).symm.trans hU.out)
      go_wp2_with (first
        | ((with_reducible show wpList _ _ _ (Oper.mk _ (Op.load 93 _) _ _ _ _ :: _) _ _); go_must (refine wpList_load_row rfl 93 _ rfl (w.heap.size + 1) rfl 93 _ (0, 0) _ hW.out.row Tryz.underlying93 rfl (sizeW' _ _) ?_))
        | ((with_reducible show wpList _ _ _ (Oper.mk _ (Op.store 93 _ _) _ _ _ _ :: _) _ _); go_must (refine wpList_store_row rfl 93 _ _ rfl w.heap.size _ rfl rfl 93 _ hR.out.row (sizeW' _ _) rfl (oneW _ _) ?_)))
      refine bodyPost_ret (v := wy x y) (results_cell_row rfl _ _ w.heap.size 93 _ (0, 0) _ rfl (hR.out.set x y).row Tryz.underlying93 rfl (sizeW' _ _)) rfl ⟨?_, ?_⟩
      · rw [hT.out, ← e.out]
      · exact Below.setRow hB.out (Nat.le_refl _) _
end Go.Proofs.YthoekndjeclimaaGreatDoor

namespace Go.Proofs.YthoekndjeclimaaGreatDoor
open Go.RowKit
def plc (n m : Int) : Int := if n < 1 ∨ 1099511627776 < n then 41 else if m < 0 ∨ n ≤ m then 40 else 0
set_option maxRecDepth 100000 in
set_option maxHeartbeats 2000000 in
theorem checkPlace_any (n m : Int) (w : World) :
    Calls Tryz.prog 91 #[.int .i64 n, .int .i64 m] w fun e w' => e = .returned (.int .i64 (plc n m)) ∧ w' = w := by
  by_cases h1 : n < 1
  · rw [plc, if_pos (Or.inl h1)]
    go_enter Tryz.func91, Tryz.ntmps91
    go_wp2
    go_ret
    exact ⟨rfl, rfl⟩
  · by_cases h2 : 1099511627776 < n
    · rw [plc, if_pos (Or.inr h2)]
      go_enter Tryz.func91, Tryz.ntmps91
      go_wp2
      go_ret
      exact ⟨rfl, rfl⟩
    · rw [plc, if_neg (by omega)]
      by_cases h3 : m < 0
      · rw [if_pos (Or.inl h3)]
        go_enter Tryz.func91, Tryz.ntmps91
        go_wp2
        go_ret
        exact ⟨rfl, rfl⟩
      · by_cases h4 : n ≤ m
        · rw [if_pos (Or.inr h4)]
          go_enter Tryz.func91, Tryz.ntmps91
          go_wp2
          go_ret
          exact ⟨rfl, rfl⟩
        · rw [if_neg (by omega)]
          go_enter Tryz.func91, Tryz.ntmps91
          go_wp2
          go_ret
          exact ⟨rfl, rfl⟩
def szs (m n : Int) : Int := if m < 1 ∨ n < m ∨ 1099511627776 < n then 41 else 0
set_option maxRecDepth 100000 in
set_option maxHeartbeats 2000000 in
theorem checkSizes_any (m n : Int) (w : World) :
    Calls Tryz.prog 106 #[.int .i64 m, .int .i64 n] w fun e w' => e = .returned (.int .i64 (szs m n)) ∧ w' = w := by
  by_cases h1 : m < 1
  · rw [szs, if_pos (Or.inl h1)]
    go_enter Tryz.func106, Tryz.ntmps106
    go_wp2
    go_ret
    exact ⟨rfl, rfl⟩
  · by_cases h2 : n < m
    · rw [szs, if_pos (Or.inr (Or.inl h2))]
      go_enter Tryz.func106, Tryz.ntmps106
      go_wp2
      go_ret
      exact ⟨rfl, rfl⟩
    · by_cases h3 : 1099511627776 < n
      · rw [szs, if_pos (Or.inr (Or.inr h3))]
        go_enter Tryz.func106, Tryz.ntmps106
        go_wp2
        go_ret
        exact ⟨rfl, rfl⟩
      · rw [szs, if_neg (by omega)]
        go_enter Tryz.func106, Tryz.ntmps106
        go_wp2
        go_ret
        exact ⟨rfl, rfl⟩
set_option maxRecDepth 100000 in
set_option maxHeartbeats 2000000 in
theorem PathLen_any (n m : Int) (w : World) :
    Calls Tryz.prog 68 #[.int .i64 n, .int .i64 m] w fun e w' => e = .returned (.tuple #[.int .i64 (lenOf n m).1, .int .i64 (lenOf n m).2]) ∧ Below w.heap.size w w' := by
  have h1 := checkPlace_any n m w
  by_cases h : plc n m = 0
  · have hb : 1 ≤ n ∧ n ≤ 1099511627776 ∧ 0 ≤ m ∧ m < n := by
      unfold plc at h
      split at h
      · omega
      · split at h <;> omega
    obtain ⟨a1, a2, a3, a4⟩ := hb
    have ho : lenOf n m = ((((Tree.U m.toNat (n.toNat - 1)).length : Nat) : Int), 0) := by rw [lenOf, if_neg (by omega), if_neg (by omega), Tree.D_U _ _ _ (Nat.le_refl _) (by omega)]
    rw [ho]
    rw [h] at h1
    have h2 := pathWay_any n.toNat m.toNat (by omega) (by omega) w
    rw [Int.toNat_of_nonneg a3, Int.toNat_of_nonneg (show 0 ≤ n by omega)] at h2
    have h3 := steps_any m.toNat (n.toNat - 1) (by omega) (by omega)
    clear h ho
    generalize (Tree.U m.toNat (n.toNat - 1)).length = L at *
    generalize m.toNat = m' at *
    generalize n.toNat - 1 = n' at *
    go_enter Tryz.func68, Tryz.ntmps68
    go_wp2_with (first
      | (go_at_call 91; refine h1.mono ?_; rintro e w1 ⟨rfl, rfl⟩)
      | (go_at_call 71; refine h2.mono ?_; rintro e w2 ⟨rfl, hw2⟩)
      | (go_at_call 92; refine (h3 _).mono ?_; rintro e w3 ⟨rfl, hw3⟩))
    go_ret2
    exact ⟨rfl, hw2.trans (hw3.mono hw2.size)⟩
  · have ho : lenOf n m = (0, plc n m) := by
      unfold lenOf plc at *
      split
      · rfl
      · rename_i h'
        rw [if_neg h'] at h
        split
        · rfl
        · rename_i h''
          rw [if_neg h''] at h
          omega
    rw [ho]
    generalize plc n m = z at *
    have b0 : (z != 0) = true := by simpa using h
    go_enter Tryz.func68, Tryz.ntmps68
    go_wp2_with (go_at_call 91; refine h1.mono ?_; rintro e w1 ⟨rfl, rfl⟩)
    go_ret2
    exact ⟨rfl, Below.refl _ _⟩
theorem Tree.pl_St {m n P L : Nat} (h1 : 1 ≤ m) (h2 : m < n) (h : Tree.St (m - 1) (n - 1) = (P, L)) : Tree.pl m n true = (Tree.U P L).length + if P = 0 then 0 else 1 := by
  obtain ⟨a, b⟩ := Tree.PD_SU _ m n (Nat.le_refl _) h1 h2
  unfold Tree.pl Tree.fl
  rw [b, a]
  unfold Tree.SU
  rw [h]
  by_cases hp : P = 0
  · simp [hp]
  · simp [hp]
set_option maxRecDepth 100000 in
set_option maxHeartbeats 2000000 in
theorem proofLen_any (m n : Nat) (h1 : 1 ≤ m) (h2 : m ≤ n) (hn : n ≤ 1099511627776) (w : World) :
    Calls Tryz.prog 107 #[.int .i64 m, .int .i64 n] w fun e w' => e = .returned (.int .i64 (Tree.pl m n true : Nat)) ∧ Below w.heap.size w w' := by
  by_cases h : m = n
  · subst h
    rw [Tree.pl_same]
    have b0 : ((m : Int) == (m : Int)) = true := by simp
    go_enter Tryz.func107, Tryz.ntmps107
    go_wp2
    go_ret
    exact ⟨rfl, Below.refl _ _⟩
  · have b0 : ((m : Int) == (n : Int)) = false := by simp; omega
    have hq := proofWay_any m n h1 (by omega) (by omega) (by omega) w
    have hlt := Tree.St_lt (m - 1) (n - 1) (by omega)
    have hle := Tree.St_le (m - 1) (n - 1)
    obtain ⟨P, L, hS⟩ : ∃ P L, Tree.St (m - 1) (n - 1) = (P, L) := ⟨_, _, rfl⟩
    have e := hid (Tree.pl_St h1 (by omega) hS)
    rw [hS] at hq hlt hle
    simp only at hq hlt hle
    have hs := steps_any P L (by omega) (by omega)
    have hul := Tree.U_len 40 P L (by omega)
    generalize Tree.pl m n true = T at *
    generalize (Tree.U P L).length = U at *
    clear hS
    by_cases hP : P = 0
    · subst hP
      have e' := hid (show T = U by have := e.out; simpa using this)
      clear e
      go_enter Tryz.func107, Tryz.ntmps107
      go_wp2_with (first
        | (go_at_call 84; refine hq.mono ?_; rintro e w1 ⟨rfl, hw1⟩)
        | (go_at_call 92; refine (hs _).mono ?_; rintro e w2 ⟨rfl, hw2⟩))
      go_ret
      have hb := hw1.alloc hw1.size (.cells #[Value.int .i64 ((0 : Nat) : Int), Value.int .i64 (L : Int)] 93)
      exact ⟨by rw [e'.out]; rfl, hb.trans (hw2.mono hb.size)⟩
    · have b1 : ((P : Int) == 0) = false := by simp; omega
      have e' := hid (show T = U + 1 by have := e.out; simpa [hP] using this)
      clear e
      go_enter Tryz.func107, Tryz.ntmps107
      go_wp2_with (first
        | (go_at_call 84; refine hq.mono ?_; rintro e w1 ⟨rfl, hw1⟩)
        | (go_at_call 92; refine (hs _).mono ?_; rintro e w2 ⟨rfl, hw2⟩))
      go_ret
      have hb := hw1.alloc hw1.size (.cells #[Value.int .i64 (P : Int), Value.int .i64 (L : Int)] 93)
      exact ⟨by rw [e'.out]; go_num, hb.trans (hw2.mono hb.size)⟩
set_option maxRecDepth 100000 in
set_option maxHeartbeats 2000000 in
theorem ProofLen_any (m n : Int) (w : World) :
    Calls Tryz.prog 82 #[.int .i64 m, .int .i64 n] w fun e w' => e = .returned (.tuple #[.int .i64 (prfLen m n).1, .int .i64 (prfLen m n).2]) ∧ Below w.heap.size w w' := by
  have h1 := checkSizes_any m n w
  by_cases h : m < 1 ∨ n < m ∨ 1099511627776 < n
  · rw [prfLen, if_pos h]
    rw [szs, if_pos h] at h1
    clear h
    go_enter Tryz.func82, Tryz.ntmps82
    go_wp2_with (go_at_call 106; refine h1.mono ?_; rintro e w1 ⟨rfl, rfl⟩)
    go_ret2
    exact ⟨rfl, Below.refl _ _⟩
  · rw [prfLen, if_neg h]
    rw [szs, if_neg h] at h1
    have h2 := proofLen_any m.toNat n.toNat (by omega) (by omega) (by omega) w
    rw [Int.toNat_of_nonneg (by omega), Int.toNat_of_nonneg (by omega)] at h2
    generalize Tree.pl m.toNat n.toNat true = L at *
    clear h
    go_enter Tryz.func82, Tryz.ntmps82
    go_wp2_with (first
      | (go_at_call 106; refine h1.mono ?_; rintro e w1 ⟨rfl, rfl⟩)
      | (go_at_call 107; refine h2.mono ?_; rintro e w2 ⟨rfl, hw2⟩))
    go_ret2
    exact ⟨rfl, hw2⟩
end Go.Proofs.YthoekndjeclimaaGreatDoor
