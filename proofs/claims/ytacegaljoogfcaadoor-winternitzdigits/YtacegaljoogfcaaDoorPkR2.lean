import Derived.Test.YtacegaljoogfcaaDoorPkR1
namespace Go.Proofs.YtacegaljoogfcaaDoor
open Go.RowKit

def bigTo (n m k : Nat) : List UInt8 := List.replicate (m - k) 0 ++ Sha.be n k
theorem bigTo_set (n m k : Nat) (hk : k < m) : (bv (bigTo n m k)).toArray.setIfInBounds (m - 1 - k) (.int .u8 ((UInt8.ofNat (n / 256 ^ k)).toNat : Int)) = (bv (bigTo n m (k + 1))).toArray := by
  have e : bigTo n m k = List.replicate (m - 1 - k) 0 ++ 0 :: Sha.be n k := by
    rw [bigTo, show m - k = m - 1 - k + 1 from by omega, List.replicate_succ']; simp
  have g := bv_setAt (List.replicate (m - 1 - k) 0) 0 (UInt8.ofNat (n / 256 ^ k)) (Sha.be n k)
  rw [List.length_replicate] at g
  rw [e, g, bigTo, show m - (k + 1) = m - 1 - k from by omega]
  rfl
theorem big_walk (n k : Nat) : (n : Int) / 2 ^ (8 * k) % 256 = (((UInt8.ofNat (n / 256 ^ k)).toNat : Nat) : Int) := by
  have e : (n : Int) / 2 ^ (8 * k) = ((n / 256 ^ k : Nat) : Int) := by
    rw [Int.natCast_ediv, Int.natCast_pow]
    congr 1
    rw [show (((256 : Nat) : Int)) = 2 ^ 8 from rfl, ← Int.pow_mul]
  rw [e]
  simp [UInt8.toNat_ofNat']

set_option maxRecDepth 100000 in
set_option maxHeartbeats 400000 in
theorem big_gen (n m : Nat) (hm : m ≤ 8) (w : World)
    (hmk : ∀ w, (Instr.makeSlice 39 (.int .i64 (m : Int)) (.int .i64 (m : Int))).run Tryd.prog w = .ok (.slice (some ⟨w.heap.size, 0, none⟩) m m) (w.alloc (.cells (bv (List.replicate m 0)).toArray 5))) :
    Calls Tryd.prog 22 #[.int .i64 (n : Int), .int .i64 (m : Int)] w fun e w' => e = .returned (sv (Sha.be n m)) ∧ Below w.heap.size w w' := by
  have hm' : (m : Int) ≤ 8 := by omega
  go_enter Tryd.func22, Tryd.ntmps22
  go_wp2
  go_loopw [6] (fun i w' => ∃ k : Nat, k ≤ m ∧ i = .int .i64 k ∧ w'.heap[w.heap.size]? = some (.cells (bv (bigTo n m k)).toArray 5 (0, 0)) ∧ Below w.heap.size w w') (fun i _ => m - (intOf i).toNat)
  case atStart => exact ⟨0, by omega, rfl, by rw [heap_alloc_new]; simp [bigTo, Sha.be], (Below.refl _ _).alloc (Nat.le_refl _) _⟩
  case round =>
    obtain ⟨k, hk, rfl, b0, hb⟩ := hrel
    by_cases hlt : k < m
    · have b1 : (k : Int) < (m : Int) := by omega
      have b2 : (0 : Int) ≤ (m : Int) - 1 - (k : Int) := by omega
      have b3 : (m : Int) - 1 - (k : Int) < (m : Int) := by omega
      have t1 : ((m : Int) - 1 - (k : Int)).toNat = m - 1 - k := by omega
      obtain ⟨y, _, _, c4⟩ := bv_cell b0 (m - 1 - k) (by simp [bigTo, Sha.be_length]; omega)
      have f4 : wr.frozen? ⟨w.heap.size, m - 1 - k, none⟩ = false := frozen_of_row _ _ _ _ _ b0
      go_wp2
      refine ⟨⟨k + 1, by omega, by go_num, ?_, hb.setCell (Nat.le_refl _) _⟩, by simp [intOf]; omega⟩
      rw [big_walk, heap_setCell_same _ _ _ _ _ _ b0, bigTo_set n m k hlt]
    · obtain rfl : k = m := by omega
      have b1 : wr.heap[w.heap.size]? = some (.cells (bv (Sha.be n k)).toArray 5 (0, 0)) := by rw [b0, bigTo, Nat.sub_self]; rfl
      have hcv := run_conv_bytes (P := Tryd.prog) wr 39 9 5 w.heap.size 0 k k (Sha.be n k) (Sha.be_length n k) Tryd.underlying39 Tryd.underlying5 Tryd.underlying9 (rangeAt_of_list b1 (fun j v hv => by rw [Nat.zero_add]; exact hv))
      go_wp2
      go_ret
      exact ⟨rfl, hb⟩
theorem big8 (n : Nat) (N : Int) (hN : N = (n : Int)) (w : World) :
    Calls Tryd.prog 22 #[.int .i64 N, .int .i64 8] w fun e w' => e = .returned (sv (Sha.be n 8)) ∧ Below w.heap.size w w' :=
  hN ▸ big_gen n 8 (by omega) w (fun _ => by kernel_rfl)
theorem big4 (n : Nat) (N : Int) (hN : N = (n : Int)) (w : World) :
    Calls Tryd.prog 22 #[.int .i64 N, .int .i64 4] w fun e w' => e = .returned (sv (Sha.be n 4)) ∧ Below w.heap.size w w' :=
  hN ▸ big_gen n 4 (by omega) w (fun _ => by kernel_rfl)
end Go.Proofs.YtacegaljoogfcaaDoor
