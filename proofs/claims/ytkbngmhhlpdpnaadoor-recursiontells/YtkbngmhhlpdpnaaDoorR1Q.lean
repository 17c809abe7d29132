import Derived.Test.YtkbngmhhlpdpnaaDoorW7Q
import Derived.Test.YtkbngmhhlpdpnaaDoorM3
namespace Go.Proofs.YtkbngmhhlpdpnaaDoor
open Go.RowKit

set_option maxHeartbeats 400000 in
theorem rror_any (x : Nat) (n : Int) (hx : x < 4294967296) (h1 : 1 ≤ n) (h2 : n ≤ 31) (w : World) :
    Calls Tryd.prog 105 #[.int .i64 (x : Int), .int .i64 n] w fun e w' => e = .returned (.int .i64 (Sha.ror n.toNat x : Nat)) ∧ ∃ nq, w' = w.drewN nq := by
  obtain ⟨n, rfl⟩ := Int.eq_ofNat_of_zero_le (show 0 ≤ n by omega)
  rw [Int.toNat_natCast]
  have HR := hid (Sha.rror_walk x n hx (by omega))
  obtain ⟨k, hk⟩ : ∃ k : Nat, k = 32 - n := ⟨_, rfl⟩
  rw [← hk] at HR
  have e1 : (32 : Int) - (n : Int) = (k : Int) := by omega
  have hk2 : (k : Int) ≤ 31 := by omega
  have hw : IntKind.i64.wrap ((x : Int) * 2 ^ k) = (x : Int) * 2 ^ k := by
    have e2 : (x : Int) * 2 ^ k = ((x * 2 ^ k : Nat) : Int) := by rw [Int.natCast_mul, Int.natCast_pow]; rfl
    rw [e2]; exact Sha.i64_small _ (Sha.mul_pow_lt x k hx (by omega))
  clear hk
  go_enter Tryd.func105, Tryd.ntmps105
  go_wp2
  go_quiet (fail)
  go_wp2
  go_ret
  exact ⟨ret_int HR.out, ⟨_, rfl⟩⟩

/-- numbers as ints -/
def nv (l : List Nat) : List Value := l.map fun n => .int .i64 ((n : Nat) : Int)
theorem nv_mem {l : List Nat} {v : Value} (h : v ∈ nv l) : v.oneCell' = true := by
  simp only [nv, List.mem_map] at h
  obtain ⟨n, _, rfl⟩ := h
  rfl
theorem nv_one (l : List Nat) : (nv l).toArray.all (·.oneCell') = true := oneCell_of fun _ h => nv_mem h
@[simp] theorem nv_length (l : List Nat) : (nv l).length = l.length := by simp [nv]
theorem nv_cell {l : List Nat} {w' : World} {g : Nat} {t : TypeId} (h : w'.heap[g]? = some (.cells (nv l).toArray t (0, 0))) (j : Nat) (hj : j < l.length) :
    w'.cell? ⟨g, j, none⟩ = some (.int .i64 ((l.getD j 0 : Nat) : Int)) := by
  rw [cell_of_row w' g j _ t _ h]
  simp [nv, hj]
theorem info64n : (Tryd.prog.info? 102).map (·.size) = some 64 := by kernel_rfl
theorem info8n : (Tryd.prog.info? 89).map (·.size) = some 8 := by kernel_rfl
theorem size8n {l : List Nat} (h : l.length = 8) : (Tryd.prog.info? 89).map (·.size) = some (nv l).toArray.size := by rw [info8n, List.size_toArray, nv_length, h]
theorem size64n {l : List Nat} (h : l.length = 64) : (Tryd.prog.info? 102).map (·.size) = some (nv l).toArray.size := by rw [info64n, List.size_toArray, nv_length, h]
theorem kTab_length : Sha.kTab.length = 64 := by decide +kernel

set_option maxRecDepth 100000 in
set_option maxHeartbeats 400000 in
theorem begins_any (w : World) :
    Calls Tryd.prog 91 #[] w fun e w' => e = .returned (.agg (nv Sha.iv.l).toArray) ∧ Below w.heap.size w w' := by
  go_enter Tryd.func91, Tryd.ntmps91
  go_wp2_with (with_reducible show wpList _ _ _ (Oper.mk _ (Op.store _ _ _) _ _ _ _ :: _) _ _; go_must (refine wpList_store_row rfl 89 _ _ rfl w.heap.size (nv Sha.iv.l).toArray rfl rfl 89 _ (heap_alloc_new w _) (size8n rfl) rfl (nv_one _) ?_))
  refine bodyPost_ret (v := .agg (nv Sha.iv.l).toArray) (results_cell_row rfl _ _ w.heap.size 89 _ (0, 0) _ rfl (setRow_heap _ _ _ _ _ _ (heap_alloc_new w _)) Tryd.underlying89 rfl (size8n rfl)) rfl ⟨rfl, ?_⟩
  exact Below.setRow ((Below.refl _ _).alloc (Nat.le_refl _) _) (Nat.le_refl _) _

set_option maxRecDepth 100000 in
set_option maxHeartbeats 1000000 in
theorem rounds_any (w : World) :
    Calls Tryd.prog 106 #[] w fun e w' => e = .returned (.agg (nv Sha.kTab).toArray) ∧ Below w.heap.size w w' := by
  go_enter Tryd.func106, Tryd.ntmps106
  go_wp2_with (first
    | (with_reducible show wpList _ _ _ (Oper.mk _ (Op.build _ _) _ _ _ _ :: _) _ _; go_must (refine wpList_build rfl 102 _ rfl (by kernel_rfl) ?_))
    | (with_reducible show wpList _ _ _ (Oper.mk _ (Op.store _ _ _) _ _ _ _ :: _) _ _; go_must (refine wpList_store_row rfl 102 _ _ rfl w.heap.size (nv Sha.kTab).toArray rfl (by kernel_rfl) 102 _ (heap_alloc_new w _) (size64n kTab_length) (by kernel_rfl) (nv_one _) ?_)))
  refine bodyPost_ret (v := .agg (nv Sha.kTab).toArray) (results_cell_row rfl _ _ w.heap.size 102 _ (0, 0) _ rfl (setRow_heap _ _ _ _ _ _ (heap_alloc_new w _)) Tryd.underlying102 rfl (size64n kTab_length)) rfl ⟨rfl, ?_⟩
  exact Below.setRow ((Below.refl _ _).alloc (Nat.le_refl _) _) (Nat.le_refl _) _
end Go.Proofs.YtkbngmhhlpdpnaaDoor

namespace Go.Proofs.YtkbngmhhlpdpnaaDoor
open Go.RowKit

def bigTo (n m k : Nat) : List UInt8 := List.replicate (m - k) 0 ++ Sha.be n k
theorem bigTo_set (n m k : Nat) (hk : k < m) : (bv (bigTo n m k)).toArray.setIfInBounds (m - 1 - k) (.int .u8 ((UInt8.ofNat (n / 256 ^ k)).toNat : Int)) = (bv (bigTo n m (k + 1))).toArray := by
  have e : bigTo n m k = List.replicate (m - 1 - k) 0 ++ 0 :: Sha.be n k := by
    rw [bigTo, show m - k = m - 1 - k + 1 from by omega, List.replicate_succ']; simp
  have g := bv_setAt (List.replicate (m - 1 - k) 0) 0 (UInt8.ofNat (n / 256 ^ k)) (Sha.be n k)
  rw [List.length_replicate] at g
  rw [e, g, bigTo, show m - (k + 1) = m - 1 - k from by omega]
  rfl
theorem big_walk (n k : Nat) : (n : Int) / 2 ^ (8 * k) % 256 = (((UInt8.ofNat (n / 256 ^ k)).toNat : Nat) : Int) := by
  have e : (n : Int) / 2 ^ (8 * k) = ((n / 256 ^ k : Nat) : Int) := by
    rw [Int.natCast_ediv, Int.natCast_pow]
    congr 1
    rw [show (((256 : Nat) : Int)) = 2 ^ 8 from rfl, ← Int.pow_mul]
  rw [e]
  simp [UInt8.toNat_ofNat']

set_option maxRecDepth 100000 in
set_option maxHeartbeats 400000 in
theorem big_gen (n m : Nat) (hm : m ≤ 8) (w : World)
    (hmk : ∀ w, (Instr.makeSlice 71 (.int .i64 (m : Int)) (.int .i64 (m : Int))).run Tryd.prog w = .ok (.slice (some ⟨w.heap.size, 0, none⟩) m m) (w.alloc (.cells (bv (List.replicate m 0)).toArray 5))) :
    Calls Tryd.prog 93 #[.int .i64 (n : Int), .int .i64 (m : Int)] w fun e w' => e = .returned (sv (Sha.be n m)) ∧ Below w.heap.size w w' := by
  have hm' : (m : Int) ≤ 8 := by omega
  go_enter Tryd.func93, Tryd.ntmps93
  go_wp2
  go_loopw [6] (fun i w' => ∃ k : Nat, k ≤ m ∧ i = .int .i64 k ∧ w'.heap[w.heap.size]? = some (.cells (bv (bigTo n m k)).toArray 5 (0, 0)) ∧ Below w.heap.size w w') (fun i _ => m - (intOf i).toNat)
  case atStart => exact ⟨0, by omega, rfl, by rw [heap_alloc_new]; simp [bigTo, Sha.be], (Below.refl _ _).alloc (Nat.le_refl _) _⟩
  case round =>
    obtain ⟨k, hk, rfl, b0, hb⟩ := hrel
    by_cases hlt : k < m
    · have b1 : (k : Int) < (m : Int) := by omega
      have b2 : (0 : Int) ≤ (m : Int) - 1 - (k : Int) := by omega
      have b3 : (m : Int) - 1 - (k : Int) < (m : Int) := by omega
      have t1 : ((m : Int) - 1 - (k : Int)).toNat = m - 1 - k := by omega
      obtain ⟨y, _, _, c4⟩ := bv_cell b0 (m - 1 - k) (by simp [bigTo, Sha.be_length]; omega)
      have f4 : wr.frozen? ⟨w.heap.size, m - 1 - k, none⟩ = false := frozen_of_row _ _ _ _ _ b0
      go_wp2
      refine ⟨⟨k + 1, by omega, by go_num, ?_, hb.setCell (Nat.le_refl _) _⟩, by simp [intOf]; omega⟩
      rw [big_walk, heap_setCell_same _ _ _ _ _ _ b0, bigTo_set n m k hlt]
    · obtain rfl : k = m := by omega
      have b1 : wr.heap[w.heap.size]? = some (.cells (bv (Sha.be n k)).toArray 5 (0, 0)) := by rw [b0, bigTo, Nat.sub_self]; rfl
      have hcv := run_conv_bytes (P := Tryd.prog) wr 71 9 5 w.heap.size 0 k k (Sha.be n k) (Sha.be_length n k) Tryd.underlying71 Tryd.underlying5 Tryd.underlying9 (rangeAt_of_list b1 (fun j v hv => by rw [Nat.zero_add]; exact hv))
      go_wp2
      go_ret
      exact ⟨rfl, hb⟩
theorem big8 (n : Nat) (N : Int) (hN : N = (n : Int)) (w : World) :
    Calls Tryd.prog 93 #[.int .i64 N, .int .i64 8] w fun e w' => e = .returned (sv (Sha.be n 8)) ∧ Below w.heap.size w w' :=
  hN ▸ big_gen n 8 (by omega) w (fun _ => by kernel_rfl)
theorem big4 (n : Nat) (N : Int) (hN : N = (n : Int)) (w : World) :
    Calls Tryd.prog 93 #[.int .i64 N, .int .i64 4] w fun e w' => e = .returned (sv (Sha.be n 4)) ∧ Below w.heap.size w w' :=
  hN ▸ big_gen n 4 (by omega) w (fun _ => by kernel_rfl)
end Go.Proofs.YtkbngmhhlpdpnaaDoor
