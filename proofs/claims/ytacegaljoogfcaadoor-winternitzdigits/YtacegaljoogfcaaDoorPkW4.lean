import Derived.Test.YtacegaljoogfcaaDoorPkK2
import Derived.Deep.WholeRow
namespace Go.Proofs.YtacegaljoogfcaaDoor
open Go.RowKit

theorem lt_of_heap {w : World} {b : Nat} {o : Obj} (h : w.heap[b]? = some o) : b < w.heap.size := (Array.getElem?_eq_some_iff.1 h).1

theorem start_range {w : World} (T : Tabs w) : w.rangeAt 1 0 (wv Sha.iv.l) := fun j v hv => by
  have hj : j < (wv Sha.iv.l).length := (List.getElem?_eq_some_iff.1 hv).1
  have h8 : (wv Sha.iv.l).length = 8 := by simp [Sha.St.l]
  rw [Nat.zero_add, T.start j (by omega), ← hv]
  simp only [wv, List.getElem?_map, List.getD_eq_getElem?_getD]
  rw [List.getElem?_eq_getElem (by simpa [wv] using hj)]
  rfl
theorem size8 (s : Sha.St) : (Tryd.prog.info? 31).map (·.size) = some (wv s.l).length := by rw [info8w]; rfl
theorem size8' (s : Sha.St) : (Tryd.prog.info? 31).map (·.size) = some (wv s.l).toArray.size := by rw [info8w]; rfl

set_option maxHeartbeats 400000 in
theorem words_any (b n : Nat) (st : Sha.St) (rest : List UInt8) (hl : rest.length = 64) (w : World) (T : Tabs w)
    (hb : w.heap[b]? = some (.cells (hcells st rest n).toArray 34 (0, 0))) :
    Calls Tryd.prog 15 #[.pointer (some ⟨b, 0, none⟩)] w fun e w' => e = .returned (.agg (wv (if n < 64 then Sha.iv else st).l).toArray) ∧ Below w.heap.size w w' := by
  have hlt := lt_of_heap hb
  have c := hcells_taken hb hl
  have R : Hid (w.rangeAt b 0 (wv st.l)) := hcells_state hb
  have R2 : Hid (w.rangeAt 1 0 (wv Sha.iv.l)) := start_range T
  clear hb
  by_cases h : n < 64
  · have h' : (n : Int) < 64 := by omega
    rw [if_pos h]
    go_enter Tryd.func15, Tryd.ntmps15
    go_wp2_with (first
      | (with_reducible show wpList _ _ _ (Oper.mk _ (Op.load 31 _) _ _ _ _ :: _) _ _; go_must (refine wpList_load_mid rfl 31 _ rfl 1 0 rfl _ _ (World.rangeAt_alloc R2.out _) Tryd.underlying31 rfl (size8 _) ?_))
      | (with_reducible show wpList _ _ _ (Oper.mk _ (Op.store 31 _ _) _ _ _ _ :: _) _ _; go_must (refine wpList_store_row rfl 31 _ _ rfl w.heap.size _ rfl rfl 31 _ (heap_alloc_new w _) (size8' _) rfl (wv_one _) ?_)))
    refine bodyPost_ret (v := .agg (wv Sha.iv.l).toArray) (results_cell_row rfl _ _ w.heap.size 31 _ (0, 0) _ rfl (setRow_heap _ _ _ _ _ _ (heap_alloc_new w _)) Tryd.underlying31 rfl (size8' _)) rfl ⟨rfl, ?_⟩
    exact Below.setRow ((Below.refl _ _).alloc (Nat.le_refl _) _) (Nat.le_refl _) _
  · have h' : ¬ (n : Int) < 64 := by omega
    rw [if_neg h]
    go_enter Tryd.func15, Tryd.ntmps15
    go_wp2_with (first
      | (with_reducible show wpList _ _ _ (Oper.mk _ (Op.load 31 _) _ _ _ _ :: _) _ _; go_must (refine wpList_load_mid rfl 31 _ rfl b 0 rfl _ _ (World.rangeAt_alloc R.out _) Tryd.underlying31 rfl (size8 _) ?_))
      | (with_reducible show wpList _ _ _ (Oper.mk _ (Op.store 31 _ _) _ _ _ _ :: _) _ _; go_must (refine wpList_store_row rfl 31 _ _ rfl w.heap.size _ rfl rfl 31 _ (heap_alloc_new w _) (size8' _) rfl (wv_one _) ?_)))
    refine bodyPost_ret (v := .agg (wv st.l).toArray) (results_cell_row rfl _ _ w.heap.size 31 _ (0, 0) _ rfl (setRow_heap _ _ _ _ _ _ (heap_alloc_new w _)) Tryd.underlying31 rfl (size8' _)) rfl ⟨rfl, ?_⟩
    exact Below.setRow ((Below.refl _ _).alloc (Nat.le_refl _) _) (Nat.le_refl _) _

theorem info60 : (Tryd.prog.info? 34).map (·.size) = some 73 := by kernel_rfl
theorem size73 {st : Sha.St} {rest : List UInt8} {n : Nat} (hl : rest.length = 64) : (Tryd.prog.info? 34).map (·.size) = some (hcells st rest n).toArray.size := by
  rw [info60, List.size_toArray, hcells_length hl]
def z0 : Sha.St := ⟨0, 0, 0, 0, 0, 0, 0, 0⟩
def r0 : List UInt8 := List.replicate 64 0
theorem zero60 : ∀ w, (zeroValue 34).run Tryd.prog w = .ok (.agg (hcells z0 r0 0).toArray) w :=
  (zero_of_info (P := Tryd.prog) (t := 34) (v := .agg (hcells z0 r0 0).toArray) (n := 73) (by kernel_rfl)).1
theorem hcells_one (st : Sha.St) (rest : List UInt8) (n : Nat) : (hcells st rest n).toArray.all (·.oneCell') = true :=
  oneCell_of fun v hv => by
    simp only [hcells, List.mem_append, List.mem_singleton] at hv
    rcases hv with hv | hv | rfl
    · exact wv_mem hv
    · exact bv_mem hv
    · rfl

set_option maxRecDepth 100000 in
set_option maxHeartbeats 400000 in
theorem copied_any (b n : Nat) (st : Sha.St) (rest : List UInt8) (hl : rest.length = 64) (w : World)
    (hb : w.heap[b]? = some (.cells (hcells st rest n).toArray 34 (0, 0))) :
    Calls Tryd.prog 16 #[.pointer (some ⟨b, 0, none⟩)] w fun e w' => e = .returned (.agg (hcells st rest n).toArray) ∧ Below w.heap.size w w' := by
  have hlt := lt_of_heap hb
  have Hb : Hid _ := hb
  clear hb
  have hz := zero60
  go_enter Tryd.func16, Tryd.ntmps16
  go_wp2_with (first
    | (with_reducible show wpList _ _ _ (Oper.mk _ (Op.load 34 _) _ _ _ _ :: _) _ _; go_must (refine wpList_load_row rfl 34 _ rfl b rfl 34 _ (0, 0) _ ((Below.heap_alloc _ _ _ hlt).trans Hb.out) Tryd.underlying34 rfl (size73 hl) ?_))
    | (with_reducible show wpList _ _ _ (Oper.mk _ (Op.store 34 _ _) _ _ _ _ :: _) _ _; go_must (refine wpList_store_row rfl 34 _ _ rfl w.heap.size _ rfl rfl 34 _ (heap_alloc_new w _) (size73 hl) (by rw [List.size_toArray, List.size_toArray, hcells_length hl, hcells_length (by simp [r0])]) (hcells_one _ _ _) ?_)))
  refine bodyPost_ret (v := .agg (hcells st rest n).toArray) (results_cell_row rfl _ _ w.heap.size 34 _ (0, 0) _ rfl (setRow_heap _ _ _ _ _ _ (heap_alloc_new w _)) Tryd.underlying34 rfl (size73 hl)) rfl ⟨rfl, ?_⟩
  exact Below.setRow ((Below.refl _ _).alloc (Nat.le_refl _) _) (Nat.le_refl _) _

/-- the blocks of 'wordBytes' behind k bytes -/
structure WbInv (s : Sha.St) (w : World) (k : Nat) (w' : World) : Prop where
  b0 : w'.heap[w.heap.size]? = some (.cells (wv s.l).toArray 31 (0, 0))
  b1 : w'.heap[w.heap.size + 1]? = some (.cells (bv (s.bytes.take k ++ List.replicate (32 - k) 0)).toArray 54 (0, 0))
  size : w'.heap.size = w.heap.size + 2
  below : Below w.heap.size w w'
theorem wbInv_start (s : Sha.St) (w : World) : WbInv s w 0 ((w.alloc (.cells (wv s.l).toArray 31)).alloc (.cells (bv (List.replicate 32 0)).toArray 54)) := by
  have s1 := size_alloc w (.cells (wv s.l).toArray 31)
  refine ⟨?_, heap_alloc_at _ _ _ s1, by rw [size_alloc]; omega, ((Below.refl _ _).alloc (Nat.le_refl _) _).alloc (by omega) _⟩
  rw [Below.heap_alloc _ _ _ (by omega)]; exact heap_alloc_new w _
theorem bv_set (l : List UInt8) (m : Nat) (v : UInt8) (h : 0 < m) : (bv (l ++ List.replicate m 0)).toArray.setIfInBounds l.length (.int .u8 (v.toNat : Int)) = (bv ((l ++ [v]) ++ List.replicate (m - 1) 0)).toArray := by
  obtain ⟨m, rfl⟩ : ∃ n, m = n + 1 := ⟨m - 1, by omega⟩
  simp [bv, List.replicate_succ]
theorem WbInv.set {s : Sha.St} {w : World} {k : Nat} {w' : World} (inv : WbInv s w k w') (hk : k < 32) :
    WbInv s w (k + 1) (w'.setCell ⟨w.heap.size + 1, k, none⟩ (.int .u8 ((s.bytes.getD k 0).toNat : Int))) := by
  have hl := Sha.bytes_length s
  refine ⟨?_, ?_, ?_, ?_⟩
  · rw [heap_setCell_other _ _ _ _ (by show w.heap.size ≠ w.heap.size + 1; omega)]; exact inv.b0
  · rw [heap_setCell_same _ _ _ _ _ _ inv.b1]
    have := bv_set (s.bytes.take k) (32 - k) (s.bytes.getD k 0) (by omega)
    rw [List.length_take, hl, Nat.min_eq_left (by omega)] at this
    rw [this, show 32 - k - 1 = 32 - (k + 1) from by omega, List.getD_eq_getElem?_getD, List.getElem?_eq_getElem (by omega), Option.getD_some, List.take_append_getElem]
  · simpa using inv.size
  · exact inv.below.setCell (by simp) _

set_option maxRecDepth 100000 in
set_option maxHeartbeats 400000 in
theorem wordBytes_any (s : Sha.St) (hs : s.ok) (w : World) :
    Calls Tryd.prog 18 #[.agg (wv s.l).toArray] w fun e w' => e = .returned (sv s.bytes) ∧ Below w.heap.size w w' := by
  go_enter Tryd.func18, Tryd.ntmps18
  go_wp2
  go_loopw [5] (fun i w' => ∃ k : Nat, k ≤ 32 ∧ i = .int .i64 k ∧ WbInv s w k w') (fun i _ => 32 - (intOf i).toNat)
  case atStart => exact ⟨0, by omega, rfl, wbInv_start s w⟩
  case round =>
    obtain ⟨k, hk, rfl, inv⟩ := hrel
    by_cases hlt : k < 32
    · have b1 : (k : Int) < 32 := by omega
      have b2 : (k : Int) / 4 < 8 := by omega
      have b3 : (0 : Int) ≤ (k : Int) / 4 := by omega
      have t1 : ((k : Int) / 4).toNat = k / 4 := by omega
      obtain ⟨x, ex, lx, cx⟩ : ∃ y : Nat, Hid (y = s.l.getD (k / 4) 0) ∧ y < 4294967296 ∧ wr.cell? ⟨w.heap.size, k / 4, none⟩ = some (.int .u32 (y : Int)) := ⟨_, rfl, Sha.l_lt hs _, wv_cell inv.b0 (k / 4) (by simp [Sha.St.l]; omega)⟩
      have c4 := bv_cell inv.b1 k (by simp [Sha.bytes_length]; omega)
      obtain ⟨y, _, _, c4⟩ := c4
      have f4 : wr.frozen? ⟨w.heap.size + 1, k, none⟩ = false := frozen_of_row _ _ _ _ _ inv.b1
      go_wp2
      refine ⟨⟨k + 1, by omega, by go_num, ?_⟩, by simp [intOf]; omega⟩
      have g := WbInv.set inv hlt
      rw [Sha.bytes_at s k hlt, ← Sha.byte_walk, ← ex.out, IntKind.wrap_u8'] at g
      exact g
    · obtain rfl : k = 32 := by omega
      have b1 : wr.heap[w.heap.size + 1]? = some (.cells (bv s.bytes).toArray 54 (0, 0)) := by
        have := inv.b1
        rwa [List.take_of_length_le (by rw [Sha.bytes_length]; omega), Nat.sub_self, List.replicate_zero, List.append_nil] at this
      have hcv := run_conv_bytes (P := Tryd.prog) wr 39 9 5 (w.heap.size + 1) 0 32 32 s.bytes (Sha.bytes_length s) Tryd.underlying39 Tryd.underlying5 Tryd.underlying9 (rangeAt_of_list b1 (fun j v hv => by rw [Nat.zero_add]; exact hv))
      go_wp2
      go_ret
      exact ⟨rfl, inv.below⟩
end Go.Proofs.YtacegaljoogfcaaDoor
