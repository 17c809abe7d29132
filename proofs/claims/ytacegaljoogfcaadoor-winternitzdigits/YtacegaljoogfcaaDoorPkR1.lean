import Derived.Test.YtacegaljoogfcaaDoorPkW8
import Derived.Test.YtacegaljoogfcaaDoorPkM3
namespace Go.Proofs.YtacegaljoogfcaaDoor
open Go.RowKit

set_option maxHeartbeats 400000 in
theorem rror_any (x : Nat) (n : Int) (hx : x < 4294967296) (h1 : 1 ≤ n) (h2 : n ≤ 31) (w : World) :
    Calls Tryd.prog 25 #[.int .i64 (x : Int), .int .i64 n] w fun e w' => e = .returned (.int .i64 (Sha.ror n.toNat x : Nat)) ∧ ∃ nq, w' = w.drewN nq := by
  obtain ⟨n, rfl⟩ := Int.eq_ofNat_of_zero_le (show 0 ≤ n by omega)
  rw [Int.toNat_natCast]
  have HR := hid (Sha.rror_walk x n hx (by omega))
  obtain ⟨k, hk⟩ : ∃ k : Nat, k = 32 - n := ⟨_, rfl⟩
  rw [← hk] at HR
  have e1 : (32 : Int) - (n : Int) = (k : Int) := by omega
  have hk2 : (k : Int) ≤ 31 := by omega
  have hw : IntKind.i64.wrap ((x : Int) * 2 ^ k) = (x : Int) * 2 ^ k := by
    have e2 : (x : Int) * 2 ^ k = ((x * 2 ^ k : Nat) : Int) := by rw [Int.natCast_mul, Int.natCast_pow]; rfl
    rw [e2]; exact Sha.i64_small _ (Sha.mul_pow_lt x k hx (by omega))
  clear hk
  go_enter Tryd.func25, Tryd.ntmps25
  go_wp2
  go_quiet (fail)
  go_wp2
  go_ret
  exact ⟨ret_int HR.out, ⟨_, rfl⟩⟩

/-- numbers as ints -/
def nv (l : List Nat) : List Value := l.map fun n => .int .i64 ((n : Nat) : Int)
theorem nv_mem {l : List Nat} {v : Value} (h : v ∈ nv l) : v.oneCell' = true := by
  simp only [nv, List.mem_map] at h
  obtain ⟨n, _, rfl⟩ := h
  rfl
theorem nv_one (l : List Nat) : (nv l).toArray.all (·.oneCell') = true := oneCell_of fun _ h => nv_mem h
@[simp] theorem nv_length (l : List Nat) : (nv l).length = l.length := by simp [nv]
theorem nv_cell {l : List Nat} {w' : World} {g : Nat} {t : TypeId} (h : w'.heap[g]? = some (.cells (nv l).toArray t (0, 0))) (j : Nat) (hj : j < l.length) :
    w'.cell? ⟨g, j, none⟩ = some (.int .i64 ((l.getD j 0 : Nat) : Int)) := by
  rw [cell_of_row w' g j _ t _ h]
  simp [nv, hj]
theorem info64n : (Tryd.prog.info? 55).map (·.size) = some 64 := by kernel_rfl
theorem info8n : (Tryd.prog.info? 45).map (·.size) = some 8 := by kernel_rfl
theorem size8n {l : List Nat} (h : l.length = 8) : (Tryd.prog.info? 45).map (·.size) = some (nv l).toArray.size := by rw [info8n, List.size_toArray, nv_length, h]
theorem size64n {l : List Nat} (h : l.length = 64) : (Tryd.prog.info? 55).map (·.size) = some (nv l).toArray.size := by rw [info64n, List.size_toArray, nv_length, h]
theorem kTab_length : Sha.kTab.length = 64 := by decide +kernel

set_option maxRecDepth 100000 in
set_option maxHeartbeats 400000 in
theorem begins_any (w : World) :
    Calls Tryd.prog 20 #[] w fun e w' => e = .returned (.agg (nv Sha.iv.l).toArray) ∧ Below w.heap.size w w' := by
  go_enter Tryd.func20, Tryd.ntmps20
  go_wp2_with (with_reducible show wpList _ _ _ (Oper.mk _ (Op.store _ _ _) _ _ _ _ :: _) _ _; go_must (refine wpList_store_row rfl 45 _ _ rfl w.heap.size (nv Sha.iv.l).toArray rfl rfl 45 _ (heap_alloc_new w _) (size8n rfl) rfl (nv_one _) ?_))
  refine bodyPost_ret (v := .agg (nv Sha.iv.l).toArray) (results_cell_row rfl _ _ w.heap.size 45 _ (0, 0) _ rfl (setRow_heap _ _ _ _ _ _ (heap_alloc_new w _)) Tryd.underlying45 rfl (size8n rfl)) rfl ⟨rfl, ?_⟩
  exact Below.setRow ((Below.refl _ _).alloc (Nat.le_refl _) _) (Nat.le_refl _) _

set_option maxRecDepth 100000 in
set_option maxHeartbeats 1000000 in
theorem rounds_any (w : World) :
    Calls Tryd.prog 26 #[] w fun e w' => e = .returned (.agg (nv Sha.kTab).toArray) ∧ Below w.heap.size w w' := by
  go_enter Tryd.func26, Tryd.ntmps26
  go_wp2_with (first
    | (with_reducible show wpList _ _ _ (Oper.mk _ (Op.build _ _) _ _ _ _ :: _) _ _; go_must (refine wpList_build rfl 55 _ rfl (by kernel_rfl) ?_))
    | (with_reducible show wpList _ _ _ (Oper.mk _ (Op.store _ _ _) _ _ _ _ :: _) _ _; go_must (refine wpList_store_row rfl 55 _ _ rfl w.heap.size (nv Sha.kTab).toArray rfl (by kernel_rfl) 55 _ (heap_alloc_new w _) (size64n kTab_length) (by kernel_rfl) (nv_one _) ?_)))
  refine bodyPost_ret (v := .agg (nv Sha.kTab).toArray) (results_cell_row rfl _ _ w.heap.size 55 _ (0, 0) _ rfl (setRow_heap _ _ _ _ _ _ (heap_alloc_new w _)) Tryd.underlying55 rfl (size64n kTab_length)) rfl ⟨rfl, ?_⟩
  exact Below.setRow ((Below.refl _ _).alloc (Nat.le_refl _) _) (Nat.le_refl _) _
end Go.Proofs.YtacegaljoogfcaaDoor
