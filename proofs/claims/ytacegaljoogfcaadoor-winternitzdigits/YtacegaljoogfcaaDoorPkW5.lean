import Derived.Test.YtacegaljoogfcaaDoorPkW4
namespace Go.Proofs.YtacegaljoogfcaaDoor
open Go.RowKit

theorem zero72 : ∀ w, (zeroValue 52).run Tryd.prog w = .ok (.agg (bv (List.replicate 72 0)).toArray) w :=
  (zero_of_info (P := Tryd.prog) (t := 52) (v := .agg (bv (List.replicate 72 0)).toArray) (n := 72) (by kernel_rfl)).1
theorem bv_setAt (a : List UInt8) (x v : UInt8) (b : List UInt8) : (bv (a ++ x :: b)).toArray.setIfInBounds a.length (.int .u8 (v.toNat : Int)) = (bv (a ++ v :: b)).toArray := by
  simp [bv]
theorem fillTo_set (n z k : Nat) (hk : k < 8) : (bv (Sha.fillTo n z k)).toArray.setIfInBounds (z + 8 - k) (.int .u8 ((UInt8.ofNat (8 * n / 256 ^ k)).toNat : Int)) = (bv (Sha.fillTo n z (k + 1))).toArray := by
  have e : Sha.fillTo n z k = (128 :: List.replicate (z + 8 - (k + 1)) 0) ++ 0 :: (Sha.be (8 * n) k ++ List.replicate (63 - z) 0) := by
    have : List.replicate (z + 8 - k) (0 : UInt8) = List.replicate (z + 8 - (k + 1)) 0 ++ [0] := by
      rw [show z + 8 - k = z + 8 - (k + 1) + 1 from by omega, List.replicate_succ']
    rw [Sha.fillTo, this]; simp
  have hl : ((128 : UInt8) :: List.replicate (z + 8 - (k + 1)) 0).length = z + 8 - k := by simp; omega
  have g := bv_setAt (128 :: List.replicate (z + 8 - (k + 1)) 0) 0 (UInt8.ofNat (8 * n / 256 ^ k)) (Sha.be (8 * n) k ++ List.replicate (63 - z) 0)
  rw [hl] at g
  rw [e, g]
  rfl

structure FillInv (n z : Nat) (w : World) (k : Nat) (w' : World) : Prop where
  b0 : w'.heap[w.heap.size]? = some (.cells (bv (Sha.fillTo n z k)).toArray 52 (0, 0))
  below : Below w.heap.size w w'

set_option maxRecDepth 100000 in
set_option maxHeartbeats 400000 in
theorem filling_any (n : Nat) (hn : n < 2305843009213693952) (w : World) :
    Calls Tryd.prog 17 #[.int .i64 (n : Int)] w fun e w' => e = .returned (sv (Sha.filling n)) ∧ Below w.heap.size w w' := by
  have hz := zero72
  obtain ⟨z, hzz⟩ : ∃ z, z = (119 - n % 64) % 64 := ⟨_, rfl⟩
  have z64 : z < 64 := by omega
  have zi : (119 - (n : Int) % 64) % 64 = (z : Int) := by omega
  have Hz : Hid _ := hzz
  clear hzz
  have hn' : (n : Int) ≤ 2305843009213693951 := by omega
  go_enter Tryd.func17, Tryd.ntmps17
  go_wp2
  go_loopw [16] (fun i w' => ∃ k : Nat, k ≤ 8 ∧ i = .int .i64 k ∧ FillInv n z w k w') (fun i _ => 8 - (intOf i).toNat)
  case atStart =>
    refine ⟨0, by omega, rfl, ?_, (Below.refl _ _).alloc (Nat.le_refl _) _⟩
    rw [Sha.fillTo_start n z z64]
    exact heap_alloc_new w _
  case round =>
    obtain ⟨k, hk, rfl, inv⟩ := hrel
    by_cases hlt : k < 8
    · have b1 : (k : Int) < 8 := by omega
      have b2 : (0 : Int) ≤ 9 + (z : Int) - 1 - (k : Int) := by omega
      have b3 : 9 + (z : Int) - 1 - (k : Int) < 72 := by omega
      have t1 : (9 + (z : Int) - 1 - (k : Int)).toNat = z + 8 - k := by omega
      obtain ⟨y, _, _, c4⟩ := bv_cell inv.b0 (z + 8 - k) (by rw [Sha.fillTo_length _ _ _ z64 (by omega)]; omega)
      have f4 : wr.frozen? ⟨w.heap.size, z + 8 - k, none⟩ = false := frozen_of_row _ _ _ _ _ inv.b0
      go_wp2
      refine ⟨⟨k + 1, by omega, by go_num, ?_, inv.below.setCell (Nat.le_refl _) _⟩, by simp [intOf]; omega⟩
      rw [Sha.fill_walk, heap_setCell_same _ _ _ _ _ _ inv.b0, fillTo_set n z k hlt]
    · obtain rfl : k = 8 := by omega
      have e8 := Sha.fillTo_end n
      rw [← Hz.out] at e8
      have hcv := run_conv_bytes (P := Tryd.prog) wr 39 9 5 w.heap.size 0 (9 + z) 72 (Sha.filling n) (by rw [Sha.filling_length, ← Hz.out]) Tryd.underlying39 Tryd.underlying5 Tryd.underlying9 (rangeAt_of_list inv.b0 (fun j v hv => by
        rw [← e8] at hv
        simp only [bv, List.map_take] at hv
        rw [Nat.zero_add]
        rw [List.getElem?_take] at hv
        split at hv
        · exact hv
        · cases hv))
      clear e8
      have b1 : (0 : Int) ≤ 9 + (z : Int) := by omega
      have b2 : 9 + (z : Int) ≤ 72 := by omega
      have t1 : (9 + (z : Int)).toNat = 9 + z := by omega
      go_wp2
      go_ret
      exact ⟨rfl, inv.below⟩
end Go.Proofs.YtacegaljoogfcaaDoor
