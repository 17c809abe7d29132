import Derived.Test.YtlfmnedmbkpdbaaDoorCI1
import Derived.Test.YtlfmnedmbkpdbaaDoorCR3
import Derived.Test.YtlfmnedmbkpdbaaDoorCO24
import Derived.Test.YtlfmnedmbkpdbaaDoorCO7
namespace Go.Proofs.YtlfmnedmbkpdbaaDoor
open Go.RowKit
/-- V1 -/
def lenOf (n m : Int) : Int × Int := if n < 1 ∨ 1099511627776 < n then (0, 41) else if m < 0 ∨ n ≤ m then (0, 40) else ((Tree.D n.toNat m.toNat).length, 0)
/-- V1 -/
def prfLen (m n : Int) : Int × Int := if m < 1 ∨ n < m ∨ 1099511627776 < n then (0, 41) else (Tree.pl m.toNat n.toNat true, 0)
end Go.Proofs.YtlfmnedmbkpdbaaDoor

namespace Go.Proofs.YtlfmnedmbkpdbaaDoor
open Go.RowKit
set_option maxRecDepth 100000 in
set_option maxHeartbeats 2000000 in
theorem steps_any (p l : Nat) (hp : p ≤ l) (hl : l < 9223372036854775807) (w : World) :
    Calls Tryd.prog 76 #[wy p l] w fun e w' => e = .returned (.int .i64 ((Tree.U p l).length : Nat)) ∧ Below w.heap.size w w' := by
  obtain ⟨T, hT⟩ : ∃ T, Hid ((Tree.U p l).length = T) := ⟨_, rfl⟩
  go_enter Tryd.func76, Tryd.ntmps76
  go_wp2
  go_loopw [3] (fun c w' => ∃ x y C : Nat, c = .int .i64 (C : Int) ∧ x ≤ y ∧ C + y ≤ l ∧ Hid (C + (Tree.U x y).length = T) ∧ Hid (Wy w' w.heap.size x y) ∧ Hid (Below w.heap.size w w')) (fun _ w' => numAt w' w.heap.size 1)
  case atStart => exact ⟨p, l, 0, rfl, hp, by omega, by unfold Hid; rw [Nat.zero_add]; exact hT.out, Wy.new w p l, (Below.refl _ _).alloc (Nat.le_refl _) _⟩
  case round =>
    obtain ⟨x, y, C, rfl, hxy, hC, hU, hW, hB⟩ := hrel
    have c0 := hW.out.c0
    have c1 := hW.out.c1
    by_cases h0 : y = 0
    · subst h0
      have e := hid (show T = C by have := hU.out; rw [Tree.U_zero] at this; simpa using this.symm)
      go_wp2
      go_ret
      exact ⟨by rw [hT.out, e.out]; rfl, hB.out⟩
    · have b0 : ((y : Int) != 0) = true := by simp; omega
      have b1 : ((y : Int) == 0) = false := by simp; omega
      have hc := above_any x y hxy h0 (by omega) wr
      go_wp2_with (first
        | ((with_reducible show wpList _ _ _ (Oper.mk _ (Op.load 80 _) _ _ _ _ :: _) _ _); go_must (refine wpList_load_row rfl 80 _ rfl w.heap.size rfl 80 _ (0, 0) _ hW.out.row Tryd.underlying80 rfl (sizeW' _ _) ?_))
        | (go_at_call 68; refine hc.mono ?_; rintro e w1 ⟨x', y', rfl, hw1, hx', hy', hU'⟩)
        | ((with_reducible show wpList _ _ _ (Oper.mk _ (Op.store 80 _ _) _ _ _ _ :: _) _ _); go_must (refine wpList_store_row rfl 80 _ _ rfl w.heap.size _ rfl rfl 80 _ (hW.out.below hw1).row (sizeW' _ _) rfl (oneW _ _) ?_)))
      have hW1 := (hW.out.below hw1).set x' y'
      have hm : numAt (w1.setRow w.heap.size #[.int .i64 (x' : Int), .int .i64 (y' : Int)]) w.heap.size 1 < numAt wr w.heap.size 1 := by rw [hW1.n1, hW.out.n1]; exact hy'
      refine ⟨?_, hm⟩
      have fin : ∃ x y C' : Nat, Value.int .i64 ((C : Int) + 1) = .int .i64 (C' : Int) ∧ x ≤ y ∧ C' + y ≤ l ∧ Hid (C' + (Tree.U x y).length = T) ∧ Hid (Wy (w1.setRow w.heap.size #[.int .i64 (x' : Int), .int .i64 (y' : Int)]) w.heap.size x y) ∧ Hid (Below w.heap.size w (w1.setRow w.heap.size #[.int .i64 (x' : Int), .int .i64 (y' : Int)])) :=
        ⟨x', y', C + 1, by go_num, hx', by omega, by have := hU.out; rw [hU'.out] at this; unfold Hid; simp at this; omega, hid hW1, hid (Below.setRow (hB.out.trans (hw1.mono hB.out.size)) (Nat.le_refl _) _)⟩
      first
        | exact fin
        | (repeat apply Exists.intro
           exact ⟨fin, rfl⟩)
set_option maxRecDepth 100000 in
set_option maxHeartbeats 2000000 in
theorem pathWay_any (n m : Nat) (hn : 1 ≤ n) (hl : n < 9223372036854775807) (w : World) :
    Calls Tryd.prog 57 #[.int .i64 n, .int .i64 m] w fun e w' => e = .returned (wy m (n - 1)) ∧ Below w.heap.size w w' := by
  have e1 : ((n : Int) - 1) = ((n - 1 : Nat) : Int) := by omega
  go_enter Tryd.func57, Tryd.ntmps57
  go_wp2
  refine bodyPost_ret (v := wy m (n - 1)) (results_cell_row rfl _ _ w.heap.size 80 _ (0, 0) _ rfl ?_ Tryd.underlying80 rfl (sizeW' _ _)) rfl ⟨rfl, ?_⟩
  · first
      | exact heap_alloc_new _ _
      | (rw [← e1]; exact heap_alloc_new _ _)
  · exact (Below.refl _ _).alloc (Nat.le_refl _) _
set_option maxRecDepth 100000 in
set_option maxHeartbeats 2000000 in
theorem proofWay_any (m n : Nat) (hm : 1 ≤ m) (hn : 1 ≤ n) (h1 : m < 9223372036854775807) (h2 : n < 9223372036854775807) (w : World) :
    Calls Tryd.prog 52 #[.int .i64 m, .int .i64 n] w fun e w' => e = .returned (wy (Tree.St (m - 1) (n - 1)).1 (Tree.St (m - 1) (n - 1)).2) ∧ Below w.heap.size w w' := by
  have e1 : ((n : Int) - 1) = ((n - 1 : Nat) : Int) := by omega
  have e2 : ((m : Int) - 1) = ((m - 1 : Nat) : Int) := by omega
  obtain ⟨P, L, hT⟩ : ∃ P L, Hid (Tree.St (m - 1) (n - 1) = (P, L)) := ⟨_, _, rfl⟩
  go_enter Tryd.func52, Tryd.ntmps52
  go_wp2
  go_loopw [] (fun w' => ∃ x y : Nat, x < 9223372036854775807 ∧ y < 9223372036854775807 ∧ Hid (Tree.St x y = (P, L)) ∧ Hid (Wy w' (w.heap.size + 1) x y) ∧ Hid (Wy w' w.heap.size 0 0) ∧ Hid (Below w.heap.size w w')) (fun w' => numAt w' (w.heap.size + 1) 0)
  case atStart =>
    have s1 := size_alloc w (.cells #[Value.int .i64 0, Value.int .i64 0] 80)
    refine ⟨m - 1, n - 1, by omega, by omega, hT, ?_, (Below.heap_alloc _ _ _ (by omega)).trans (heap_alloc_new w _), ((Below.refl _ _).alloc (Nat.le_refl _) _).alloc (by omega) _⟩
    show _ = some (Obj.cells #[.int .i64 ((m - 1 : Nat) : Int), .int .i64 ((n - 1 : Nat) : Int)] _ _)
    rw [← e1, ← e2]
    exact heap_alloc_at _ _ _ s1
  case round =>
    obtain ⟨x, y, hx, hy, hU, hW, hR, hB⟩ := hrel
    have c0 := hW.out.c0
    have c1 := hW.out.c1
    by_cases ho : x % 2 = 1
    · have b0 : (x : Int) % 2 = 1 := by omega
      have b1 : ((x : Int) % 2 == 1) = true := by simp; omega
      have hc := halved_any x y (by omega) (by omega) wr
      go_wp2_with (first
        | ((with_reducible show wpList _ _ _ (Oper.mk _ (Op.load 80 _) _ _ _ _ :: _) _ _); go_must (refine wpList_load_row rfl 80 _ rfl (w.heap.size + 1) rfl 80 _ (0, 0) _ hW.out.row Tryd.underlying80 rfl (sizeW' _ _) ?_))
        | (go_at_call 69; refine hc.mono ?_; rintro e w1 ⟨rfl, hw1⟩)
        | ((with_reducible show wpList _ _ _ (Oper.mk _ (Op.store 80 _ _) _ _ _ _ :: _) _ _); go_must (refine wpList_store_row rfl 80 _ _ rfl (w.heap.size + 1) _ rfl rfl 80 _ (hW.out.below hw1).row (sizeW' _ _) rfl (oneW _ _) ?_)))
      have hW1 := (hW.out.below hw1).set (x / 2) (y / 2)
      have hm : numAt (w1.setRow (w.heap.size + 1) #[.int .i64 ((x / 2 : Nat) : Int), .int .i64 ((y / 2 : Nat) : Int)]) (w.heap.size + 1) 0 < numAt wr (w.heap.size + 1) 0 := by rw [hW1.n0, hW.out.n0]; omega
      refine ⟨?_, hm⟩
      repeat apply Exists.intro
      exact ⟨⟨x / 2, y / 2, by omega, by omega, hid ((Tree.St_odd y ho).symm.trans hU.out), hid hW1, hid ((hR.out.below hw1).setO _ (by omega)), hid (Below.setRow (hB.out.trans (hw1.mono hB.out.size)) (by omega) _)⟩, rfl⟩
    · have b0 : ¬ (x : Int) % 2 = 1 := by omega
      have b1 : ((x : Int) % 2 == 1) = false := by simp; omega
      have e := hid ((Tree.St_even y ho).symm.trans hU.out)
      go_wp2_with (first
        | ((with_reducible show wpList _ _ _ (Oper.mk _ (Op.load 80 _) _ _ _ _ :: _) _ _); go_must (refine wpList_load_row rfl 80 _ rfl (w.heap.size + 1) rfl 80 _ (0, 0) _ hW.out.row Tryd.underlying80 rfl (sizeW' _ _) ?_))
        | ((with_reducible show wpList _ _ _ (Oper.mk _ (Op.store 80 _ _) _ _ _ _ :: _) _ _); go_must (refine wpList_store_row rfl 80 _ _ rfl w.heap.size _ rfl rfl 80 _ hR.out.row (sizeW' _ _) rfl (oneW _ _) ?_)))
      refine bodyPost_ret (v := wy x y) (results_cell_row rfl _ _ w.heap.size 80 _ (0, 0) _ rfl (hR.out.set x y).row Tryd.underlying80 rfl (sizeW' _ _)) rfl ⟨?_, ?_⟩
      · rw [hT.out, ← e.out]
      · exact Below.setRow hB.out (Nat.le_refl _) _
end Go.Proofs.YtlfmnedmbkpdbaaDoor

namespace Go.Proofs.YtlfmnedmbkpdbaaDoor
open Go.RowKit
def plc (n m : Int) : Int := if n < 1 ∨ 1099511627776 < n then 41 else if m < 0 ∨ n ≤ m then 40 else 0
set_option maxRecDepth 100000 in
set_option maxHeartbeats 2000000 in
theorem checkPlace_any (n m : Int) (w : World) :
    Calls Tryd.prog 75 #[.int .i64 n, .int .i64 m] w fun e w' => e = .returned (.int .i64 (plc n m)) ∧ w' = w := by
  by_cases h1 : n < 1
  · rw [plc, if_pos (Or.inl h1)]
    go_enter Tryd.func75, Tryd.ntmps75
    go_wp2
    go_ret
    exact ⟨rfl, rfl⟩
  · by_cases h2 : 1099511627776 < n
    · rw [plc, if_pos (Or.inr h2)]
      go_enter Tryd.func75, Tryd.ntmps75
      go_wp2
      go_ret
      exact ⟨rfl, rfl⟩
    · rw [plc, if_neg (by omega)]
      by_cases h3 : m < 0
      · rw [if_pos (Or.inl h3)]
        go_enter Tryd.func75, Tryd.ntmps75
        go_wp2
        go_ret
        exact ⟨rfl, rfl⟩
      · by_cases h4 : n ≤ m
        · rw [if_pos (Or.inr h4)]
          go_enter Tryd.func75, Tryd.ntmps75
          go_wp2
          go_ret
          exact ⟨rfl, rfl⟩
        · rw [if_neg (by omega)]
          go_enter Tryd.func75, Tryd.ntmps75
          go_wp2
          go_ret
          exact ⟨rfl, rfl⟩
def szs (m n : Int) : Int := if m < 1 ∨ n < m ∨ 1099511627776 < n then 41 else 0
set_option maxRecDepth 100000 in
set_option maxHeartbeats 2000000 in
theorem checkSizes_any (m n : Int) (w : World) :
    Calls Tryd.prog 63 #[.int .i64 m, .int .i64 n] w fun e w' => e = .returned (.int .i64 (szs m n)) ∧ w' = w := by
  by_cases h1 : m < 1
  · rw [szs, if_pos (Or.inl h1)]
    go_enter Tryd.func63, Tryd.ntmps63
    go_wp2
    go_ret
    exact ⟨rfl, rfl⟩
  · by_cases h2 : n < m
    · rw [szs, if_pos (Or.inr (Or.inl h2))]
      go_enter Tryd.func63, Tryd.ntmps63
      go_wp2
      go_ret
      exact ⟨rfl, rfl⟩
    · by_cases h3 : 1099511627776 < n
      · rw [szs, if_pos (Or.inr (Or.inr h3))]
        go_enter Tryd.func63, Tryd.ntmps63
        go_wp2
        go_ret
        exact ⟨rfl, rfl⟩
      · rw [szs, if_neg (by omega)]
        go_enter Tryd.func63, Tryd.ntmps63
        go_wp2
        go_ret
        exact ⟨rfl, rfl⟩
set_option maxRecDepth 100000 in
set_option maxHeartbeats 2000000 in
theorem PathLen_any (n m : Int) (w : World) :
    Calls Tryd.prog 55 #[.int .i64 n, .int .i64 m] w fun e w' => e = .returned (.tuple #[.int .i64 (lenOf n m).1, .int .i64 (lenOf n m).2]) ∧ Below w.heap.size w w' := by
  have h1 := checkPlace_any n m w
  by_cases h : plc n m = 0
  · have hb : 1 ≤ n ∧ n ≤ 1099511627776 ∧ 0 ≤ m ∧ m < n := by
      unfold plc at h
      split at h
      · omega
      · split at h <;> omega
    obtain ⟨a1, a2, a3, a4⟩ := hb
    have ho : lenOf n m = ((((Tree.U m.toNat (n.toNat - 1)).length : Nat) : Int), 0) := by rw [lenOf, if_neg (by omega), if_neg (by omega), Tree.D_U _ _ _ (Nat.le_refl _) (by omega)]
    rw [ho]
    rw [h] at h1
    have h2 := pathWay_any n.toNat m.toNat (by omega) (by omega) w
    rw [Int.toNat_of_nonneg a3, Int.toNat_of_nonneg (show 0 ≤ n by omega)] at h2
    have h3 := steps_any m.toNat (n.toNat - 1) (by omega) (by omega)
    clear h ho
    generalize (Tree.U m.toNat (n.toNat - 1)).length = L at *
    generalize m.toNat = m' at *
    generalize n.toNat - 1 = n' at *
    go_enter Tryd.func55, Tryd.ntmps55
    go_wp2_with (first
      | (go_at_call 75; refine h1.mono ?_; rintro e w1 ⟨rfl, rfl⟩)
      | (go_at_call 57; refine h2.mono ?_; rintro e w2 ⟨rfl, hw2⟩)
      | (go_at_call 76; refine (h3 _).mono ?_; rintro e w3 ⟨rfl, hw3⟩))
    go_ret2
    exact ⟨rfl, hw2.trans (hw3.mono hw2.size)⟩
  · have ho : lenOf n m = (0, plc n m) := by
      unfold lenOf plc at *
      split
      · rfl
      · rename_i h'
        rw [if_neg h'] at h
        split
        · rfl
        · rename_i h''
          rw [if_neg h''] at h
          omega
    rw [ho]
    generalize plc n m = z at *
    have b0 : (z != 0) = true := by simpa using h
    go_enter Tryd.func55, Tryd.ntmps55
    go_wp2_with (go_at_call 75; refine h1.mono ?_; rintro e w1 ⟨rfl, rfl⟩)
    go_ret2
    exact ⟨rfl, Below.refl _ _⟩
theorem Tree.pl_St {m n P L : Nat} (h1 : 1 ≤ m) (h2 : m < n) (h : Tree.St (m - 1) (n - 1) = (P, L)) : Tree.pl m n true = (Tree.U P L).length + if P = 0 then 0 else 1 := by
  obtain ⟨a, b⟩ := Tree.PD_SU _ m n (Nat.le_refl _) h1 h2
  unfold Tree.pl Tree.fl
  rw [b, a]
  unfold Tree.SU
  rw [h]
  by_cases hp : P = 0
  · simp [hp]
  · simp [hp]
set_option maxRecDepth 100000 in
set_option maxHeartbeats 2000000 in
theorem proofLen_any (m n : Nat) (h1 : 1 ≤ m) (h2 : m ≤ n) (hn : n ≤ 1099511627776) (w : World) :
    Calls Tryd.prog 64 #[.int .i64 m, .int .i64 n] w fun e w' => e = .returned (.int .i64 (Tree.pl m n true : Nat)) ∧ Below w.heap.size w w' := by
  by_cases h : m = n
  · subst h
    rw [Tree.pl_same]
    have b0 : ((m : Int) == (m : Int)) = true := by simp
    go_enter Tryd.func64, Tryd.ntmps64
    go_wp2
    go_ret
    exact ⟨rfl, Below.refl _ _⟩
  · have b0 : ((m : Int) == (n : Int)) = false := by simp; omega
    have hq := proofWay_any m n h1 (by omega) (by omega) (by omega) w
    have hlt := Tree.St_lt (m - 1) (n - 1) (by omega)
    have hle := Tree.St_le (m - 1) (n - 1)
    obtain ⟨P, L, hS⟩ : ∃ P L, Tree.St (m - 1) (n - 1) = (P, L) := ⟨_, _, rfl⟩
    have e := hid (Tree.pl_St h1 (by omega) hS)
    rw [hS] at hq hlt hle
    simp only at hq hlt hle
    have hs := steps_any P L (by omega) (by omega)
    have hul := Tree.U_len 40 P L (by omega)
    generalize Tree.pl m n true = T at *
    generalize (Tree.U P L).length = U at *
    clear hS
    by_cases hP : P = 0
    · subst hP
      have e' := hid (show T = U by have := e.out; simpa using this)
      clear e
      go_enter Tryd.func64, Tryd.ntmps64
      go_wp2_with (first
        | (go_at_call 52; refine hq.mono ?_; rintro e w1 ⟨rfl, hw1⟩)
        | (go_at_call 76; refine (hs _).mono ?_; rintro e w2 ⟨rfl, hw2⟩))
      go_ret
      have hb := hw1.alloc hw1.size (.cells #[Value.int .i64 ((0 : Nat) : Int), Value.int .i64 (L : Int)] 80)
      exact ⟨by rw [e'.out]; rfl, hb.trans (hw2.mono hb.size)⟩
    · have b1 : ((P : Int) == 0) = false := by simp; omega
      have e' := hid (show T = U + 1 by have := e.out; simpa [hP] using this)
      clear e
      go_enter Tryd.func64, Tryd.ntmps64
      go_wp2_with (first
        | (go_at_call 52; refine hq.mono ?_; rintro e w1 ⟨rfl, hw1⟩)
        | (go_at_call 76; refine (hs _).mono ?_; rintro e w2 ⟨rfl, hw2⟩))
      go_ret
      have hb := hw1.alloc hw1.size (.cells #[Value.int .i64 (P : Int), Value.int .i64 (L : Int)] 80)
      exact ⟨by rw [e'.out]; go_num, hb.trans (hw2.mono hb.size)⟩
set_option maxRecDepth 100000 in
set_option maxHeartbeats 2000000 in
theorem ProofLen_any (m n : Int) (w : World) :
    Calls Tryd.prog 49 #[.int .i64 m, .int .i64 n] w fun e w' => e = .returned (.tuple #[.int .i64 (prfLen m n).1, .int .i64 (prfLen m n).2]) ∧ Below w.heap.size w w' := by
  have h1 := checkSizes_any m n w
  by_cases h : m < 1 ∨ n < m ∨ 1099511627776 < n
  · rw [prfLen, if_pos h]
    rw [szs, if_pos h] at h1
    clear h
    go_enter Tryd.func49, Tryd.ntmps49
    go_wp2_with (go_at_call 63; refine h1.mono ?_; rintro e w1 ⟨rfl, rfl⟩)
    go_ret2
    exact ⟨rfl, Below.refl _ _⟩
  · rw [prfLen, if_neg h]
    rw [szs, if_neg h] at h1
    have h2 := proofLen_any m.toNat n.toNat (by omega) (by omega) (by omega) w
    rw [Int.toNat_of_nonneg (by omega), Int.toNat_of_nonneg (by omega)] at h2
    generalize Tree.pl m.toNat n.toNat true = L at *
    clear h
    go_enter Tryd.func49, Tryd.ntmps49
    go_wp2_with (first
      | (go_at_call 63; refine h1.mono ?_; rintro e w1 ⟨rfl, rfl⟩)
      | (go_at_call 64; refine h2.mono ?_; rintro e w2 ⟨rfl, hw2⟩))
    go_ret2
    exact ⟨rfl, hw2⟩
end Go.Proofs.YtlfmnedmbkpdbaaDoor

namespace Go.Proofs.YtlfmnedmbkpdbaaDoor
open Go.RowKit
theorem svs_one' {L : List (List UInt8)} {v : Value} (h : v ∈ svs L) : v.oneCell' = true := by
  simp only [svs, List.mem_map] at h
  obtain ⟨n, _, rfl⟩ := h
  rfl
/-- a row of texts -/
def Row (w : World) (H : Nat) (L : List (List UInt8)) : Prop := w.heap[H]? = some (.cells (svs L).toArray 9 (0, 0))
theorem Row.lt {w : World} {H : Nat} {L : List (List UInt8)} (h : Row w H L) : H < w.heap.size := lt_of_heap h
theorem Row.cell {w : World} {H : Nat} {L : List (List UInt8)} (h : Row w H L) {j : Nat} {p : List UInt8} (hp : L[j]? = some p) : w.cell? ⟨H, j, none⟩ = some (sv p) := by
  rw [cell_of_row _ _ _ _ _ _ h]; simp [svs, hp]
theorem Row.at {w : World} {H : Nat} {L : List (List UInt8)} (h : Row w H L) : At w (some ⟨H, 0, none⟩) L := fun j p hp => ⟨_, rfl, h.lt, by rw [Addr.add_mid, Nat.zero_add]; exact h.cell hp⟩
theorem Row.free {w : World} {H : Nat} {L : List (List UInt8)} (h : Row w H L) {j : Nat} (hj : j < L.length) : w.frozen? ⟨H, j, none⟩ = false := by
  have := (there_of_row h 0 L.length (by simp [svs])) j hj
  rw [Nat.zero_add] at this
  exact this.2
theorem Row.below {w w' : World} {H B : Nat} {L : List (List UInt8)} (h : Row w H L) (hb : Below B w w') (hB : H < B) : Row w' H L := by
  unfold Row; rw [hb.block H hB]; exact h
theorem Row.heap {w w' : World} {H : Nat} {L : List (List UInt8)} (h : Row w H L) (e : w'.heap = w.heap) : Row w' H L := by
  unfold Row; rw [e]; exact h
theorem Row.set {w : World} {H : Nat} {L : List (List UInt8)} (h : Row w H L) (k : Nat) (x : List UInt8) : Row (w.setCell ⟨H, k, none⟩ (sv x)) H (L.set k x) := by
  have e := setCell_eq_setRow w H k (svs L).toArray 9 (0, 0) (sv x) h
  unfold Row
  rw [e, setRow_heap _ _ _ _ _ _ h]
  refine congrArg (fun A => some (Obj.cells A 9 (0, 0))) ?_
  simp [svs, List.map_set]
theorem infoS1 : (Tryd.prog.info? 9).map (·.size) = some 1 := by kernel_rfl
/-- make([]string, c) -/
theorem make_texts (w : World) (c : Nat) (hc : c ≤ 8796093021960) :
    (Instr.makeSlice 22 (.int .i64 (c : Int)) (.int .i64 (c : Int))).run Tryd.prog w = .ok (.slice (some ⟨w.heap.size, 0, none⟩) c c) (w.alloc (.cells (svs (List.replicate c [])).toArray 9)) := by
  obtain ⟨i0, hi, hz0, hz1, hz2⟩ := info_parts infoS
  have h := run_make (P := Tryd.prog) w 22 9 i0 (.string ⟨#[]⟩) Tryd.underlying22 hi hz0 .i64 .i64 (c : Int) (c : Int) (by omega) (by omega) (by rw [hz2]; omega) (by omega)
  rw [Int.toNat_natCast, hz1, Nat.mul_one] at h
  have e : madeCells (Value.string ⟨#[]⟩).cells c = (svs (List.replicate c [])).toArray := by
    apply Array.ext'
    rw [show (madeCells (Value.string ⟨#[]⟩).cells c).toList = List.replicate c (.string ⟨#[]⟩) from toList_madeCells_one _ _]
    simp [svs]; exact .inr rfl
  rw [e] at h
  exact h
/-- copy(own, l) -/
theorem copy_texts (w : World) (H : Nat) (a : Option Addr) (cap' : Nat) (ps rest : List (List UInt8)) (hs : At w a ps) (hR : Row w H (List.replicate ps.length [] ++ rest)) (m cap : Nat) (hm : m = ps.length + rest.length) :
    ∃ w', (Builtin.copy_ #[22, 22] 3 #[.slice (some ⟨H, 0, none⟩) m cap, .slice a ps.length cap']).run Tryd.prog w = .ok (goInt ps.length) w' ∧ Row w' H (ps ++ rest) ∧ But H w w' := by
  by_cases h0 : ps.length = 0
  · obtain rfl : ps = [] := List.length_eq_zero_iff.1 h0
    exact ⟨w, run_copy_none (P := Tryd.prog) w _ _ _ 9 _ _ _ _ _ _ Tryd.underlying22 infoS1 (by simp), by simpa using hR, But.refl _ _⟩
  · obtain ⟨x, rfl, hx, _⟩ := hs 0 _ (List.getElem?_eq_getElem (by omega))
    have h := run_copy_row (P := Tryd.prog) w 22 22 3 9 H 0 m cap x ps.length cap' _ 9 (svs ps) Tryd.underlying22 infoS1 hR
      (by rw [svs_length]; exact (Nat.min_eq_left (by omega)).symm) (fun j u hu => by
        simp only [svs, List.getElem?_map, Option.map_eq_some_iff] at hu
        obtain ⟨p, hp, rfl⟩ := hu
        obtain ⟨y, hy, _, hc⟩ := hs j p hp
        cases hy
        exact hc) (by simp [svs]) (fun u hu => svs_one' hu)
    refine ⟨_, h.trans (by rw [svs_length]), ?_, (But.refl _ _).setRow _⟩
    unfold Row
    rw [setRow_heap _ _ _ _ _ _ hR]
    refine congrArg (fun A => some (Obj.cells A 9 (0, 0))) ?_
    simp [svs]
end Go.Proofs.YtlfmnedmbkpdbaaDoor

namespace Go.Proofs.YtlfmnedmbkpdbaaDoor
open Go.RowKit
set_option maxRecDepth 100000 in
set_option maxHeartbeats 2000000 in
theorem vnode_any {l r m : List UInt8} (h : Hid (Tree.nd l r = m)) (w : World) (T : Tabs w) :
    Calls Tryd.prog 67 #[sv l, sv r] w fun e w' => e = .returned (sv m) ∧ Below w.heap.size w w' := by
  obtain ⟨m', d, hm⟩ : ∃ m' d, Hid (nodeOf l r = (m', d)) := ⟨_, _, rfl⟩
  have e' := hid (show m = m' by rw [← h.out, ← nodeOf_nd, hm.out])
  go_enter Tryd.func67, Tryd.ntmps67
  go_wp2_with (go_at_call 48; refine (node_at hm _ T).mono ?_; rintro e w1 ⟨rfl, hw1⟩)
  go_ret
  exact ⟨by rw [e'.out]; rfl, hw1⟩
set_option maxRecDepth 100000 in
set_option maxHeartbeats 2000000 in
theorem isHash_any (s : ByteArray) (w : World) :
    Calls Tryd.prog 26 #[.string s] w fun e w' => e = .returned (.bool ((s.size : Int) == 32)) ∧ w' = w := by
  go_enter Tryd.func26, Tryd.ntmps26
  go_wp2
  go_ret
  exact ⟨rfl, rfl⟩
/-- what is wrong with a list of hashes that should be n -/
def chk (x : List UInt8) (l : List (List UInt8)) (n : Int) : Int := if x.length = 32 ∧ l.all (·.length == 32) = true then (if (l.length : Int) = n then 0 else 43) else 42
theorem isHash_at (s : ByteArray) (b : Bool) (h : ((s.size : Int) == 32) = b) (w : World) :
    Calls Tryd.prog 26 #[.string s] w fun e w' => e = .returned (.bool b) ∧ w' = w := by
  have := isHash_any s w
  rwa [h] at this
set_option maxRecDepth 100000 in
set_option maxHeartbeats 2000000 in
theorem checkHashes_any (x : List UInt8) (l : List (List UInt8)) (n : Int) (a : Option Addr) (cap : Nat) (w : World) (hc : l.length ≤ 9223372036854775807) (hA : At w a l) :
    Calls Tryd.prog 50 #[sv x, .slice a l.length cap, .int .i64 n] w fun e w' => e = .returned (.int .i64 (chk x l n)) ∧ w' = w := by
  have hx : (ByteArray.mk x.toArray).size = x.length := sv_size x
  show Calls _ _ #[.string ⟨x.toArray⟩, _, _] _ _
  generalize ByteArray.mk x.toArray = X at *
  by_cases h1 : x.length = 32
  · have i1 := isHash_at X true (by simp; omega) w
    have e0 : chk x l n = if l.all (·.length == 32) = true then (if (l.length : Int) = n then 0 else 43) else 42 := by unfold chk; simp [h1]
    rw [e0]
    clear e0 h1 hx
    generalize hn : l.length = k at *
    have HA := hid hA
    obtain ⟨z, hz⟩ : ∃ z : Int, Hid ((if l.all (·.length == 32) = true then (if (k : Int) = n then 0 else 43) else 42) = z) := ⟨_, rfl⟩
    rw [hz.out]
    clear hA
    go_enter Tryd.func50, Tryd.ntmps50
    go_wp2_with (go_at_call 26; refine i1.mono ?_; rintro e w1 ⟨rfl, rfl⟩)
    go_loopw [14] (fun i w' => ∃ j : Nat, j ≤ k ∧ i = .int .i64 (j : Int) ∧ Hid ((l.take j).all (·.length == 32) = true) ∧ w' = w1) (fun i _ => k - (intOf i).toNat)
    case atStart => exact ⟨0, by omega, rfl, rfl, rfl⟩
    case round =>
      obtain ⟨j, hj, rfl, hall, rfl⟩ := hrel
      by_cases hjk : j < k
      · have b0 : (j : Int) < (k : Int) := by omega
        obtain ⟨y, rfl⟩ := HA.out.pos (by omega)
        obtain ⟨s, hs, hcell⟩ := HA.out.cell j (by omega)
        by_cases h32 : s.size = 32
        · have i2 := isHash_at s true (by simp; omega) wr
          have e2 := hid (all_take l j (by omega) hall.out (by rw [← hs.out, data_length]; exact h32))
          clear HA hall hs i1
          go_wp2_with (go_at_call 26; refine i2.mono ?_; rintro e w2 ⟨rfl, rfl⟩)
          exact ⟨⟨j + 1, by omega, by go_num, e2, trivial⟩, by simp [intOf]; omega⟩
        · have i2 := isHash_at s false (by simp; omega) wr
          have e2 := hid (all_not l j (by omega) (by rw [← hs.out, data_length]; exact h32))
          have e3 := hid (show z = 42 by have := hz.out; rw [e2.out] at this; exact this.symm)
          clear HA hall hs i1 e2 hz
          go_wp2_with (go_at_call 26; refine i2.mono ?_; rintro e w2 ⟨rfl, rfl⟩)
          go_ret
          exact ⟨by rw [e3.out]; rfl, rfl⟩
      · obtain rfl : j = k := by omega
        have b0 : ¬ (j : Int) < (j : Int) := by omega
        rw [← hn, List.take_length] at hall
        by_cases hk : (j : Int) = n
        · have b1 : ((j : Int) != n) = false := by simp; omega
          have e3 := hid (show z = 0 by have := hz.out; rw [hall.out, if_pos rfl, if_pos hk] at this; exact this.symm)
          clear HA hall hz i1
          go_wp2
          go_ret
          exact ⟨by rw [e3.out]; rfl, rfl⟩
        · have b1 : ((j : Int) != n) = true := by simp; omega
          have e3 := hid (show z = 43 by have := hz.out; rw [hall.out, if_pos rfl, if_neg hk] at this; exact this.symm)
          clear HA hall hz i1
          go_wp2
          go_ret
          exact ⟨by rw [e3.out]; rfl, rfl⟩
  · have i1 := isHash_at X false (by simp; omega) w
    have e0 : chk x l n = 42 := by unfold chk; rw [if_neg (fun h => h1 h.1)]
    rw [e0]
    clear e0 hx
    generalize l.length = k at *
    clear hA
    go_enter Tryd.func50, Tryd.ntmps50
    go_wp2_with (go_at_call 26; refine i1.mono ?_; rintro e w1 ⟨rfl, rfl⟩)
    go_ret
    exact ⟨rfl, rfl⟩
set_option maxRecDepth 100000 in
set_option maxHeartbeats 2000000 in
theorem vcopied_any (l : List (List UInt8)) (a : Option Addr) (cap : Nat) (w : World) (hn : l.length ≤ 8796093021952) (hA : At w a l) :
    Calls Tryd.prog 65 #[.slice a l.length cap] w fun e w' => e = .returned (.slice (some ⟨w.heap.size, 0, none⟩) l.length l.length) ∧ Row w' w.heap.size l ∧ Below w.heap.size w w' := by
  have hmk := make_texts w l.length (by omega)
  have R1 : Row (w.alloc (.cells (svs (List.replicate l.length [])).toArray 9)) w.heap.size (List.replicate l.length [] ++ []) := by
    rw [List.append_nil]; exact heap_alloc_new w _
  have hb1 := (Below.refl w.heap.size w).alloc (Nat.le_refl _) (.cells (svs (List.replicate l.length [])).toArray 9)
  obtain ⟨w2, hcp, hR2, hb2⟩ := copy_texts _ w.heap.size a cap l [] (hA.below hb1 (Nat.le_refl _)) R1 l.length l.length (by simp)
  have HB2 := hid (show Below w.heap.size w w2 from hb1.trans (hb2.below (Nat.le_refl _) (by rw [size_alloc]; omega)))
  rw [List.append_nil] at hR2
  have HR2 := hid hR2
  clear hR2 R1 hb2 hb1 hA
  generalize w.alloc (.cells (svs (List.replicate l.length [])).toArray 9) = w1 at *
  generalize l.length = n at *
  go_enter Tryd.func65, Tryd.ntmps65
  go_wp2
  go_ret
  exact ⟨rfl, HR2.out, HB2.out⟩
end Go.Proofs.YtlfmnedmbkpdbaaDoor
