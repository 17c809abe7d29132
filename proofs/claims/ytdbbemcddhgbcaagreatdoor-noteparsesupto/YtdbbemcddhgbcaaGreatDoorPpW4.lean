import Derived.Test.YtdbbemcddhgbcaaGreatDoorPpW3
import Derived.Deep.WholeRow
namespace Go.Proofs.YtdbbemcddhgbcaaGreatDoor
open Go.RowKit

theorem lt_of_heap {w : World} {b : Nat} {o : Obj} (h : w.heap[b]? = some o) : b < w.heap.size := (Array.getElem?_eq_some_iff.1 h).1

theorem start_range {w : World} (T : Tabs w) : w.rangeAt 12 0 (wv Sha.iv.l) := fun j v hv => by
  have hj : j < (wv Sha.iv.l).length := (List.getElem?_eq_some_iff.1 hv).1
  have h8 : (wv Sha.iv.l).length = 8 := by simp [Sha.St.l]
  rw [Nat.zero_add, T.start j (by omega), ← hv]
  simp only [wv, List.getElem?_map, List.getD_eq_getElem?_getD]
  rw [List.getElem?_eq_getElem (by simpa [wv] using hj)]
  rfl
theorem size8 (s : Sha.St) : (Tryz.prog.info? 206).map (·.size) = some (wv s.l).length := by rw [info8w]; rfl
theorem size8' (s : Sha.St) : (Tryz.prog.info? 206).map (·.size) = some (wv s.l).toArray.size := by rw [info8w]; rfl

set_option maxHeartbeats 400000 in
theorem words_any (b n : Nat) (st : Sha.St) (rest : List UInt8) (hl : rest.length = 64) (w : World) (T : Tabs w)
    (hb : w.heap[b]? = some (.cells (hcells st rest n).toArray 209 (0, 0))) :
    Calls Tryz.prog 194 #[.pointer (some ⟨b, 0, none⟩)] w fun e w' => e = .returned (.agg (wv (if n < 64 then Sha.iv else st).l).toArray) ∧ Below w.heap.size w w' := by
  have hlt := lt_of_heap hb
  have c := hcells_taken hb hl
  have R : Hid (w.rangeAt b 0 (wv st.l)) := hcells_state hb
  have R2 : Hid (w.rangeAt 12 0 (wv Sha.iv.l)) := start_range T
  clear hb
  by_cases h : n < 64
  · have h' : (n : Int) < 64 := by omega
    rw [if_pos h]
    go_enter Tryz.func194, Tryz.ntmps194
    go_wp2_with (first
      | (with_reducible show wpList _ _ _ (Oper.mk _ (Op.load 206 _) _ _ _ _ :: _) _ _; go_must (refine wpList_load_mid rfl 206 _ rfl 12 0 rfl _ _ (World.rangeAt_alloc R2.out _) Tryz.underlying206 rfl (size8 _) ?_))
      | (with_reducible show wpList _ _ _ (Oper.mk _ (Op.store 206 _ _) _ _ _ _ :: _) _ _; go_must (refine wpList_store_row rfl 206 _ _ rfl w.heap.size _ rfl rfl 206 _ (heap_alloc_new w _) (size8' _) rfl (wv_one _) ?_)))
    refine bodyPost_ret (v := .agg (wv Sha.iv.l).toArray) (results_cell_row rfl _ _ w.heap.size 206 _ (0, 0) _ rfl (setRow_heap _ _ _ _ _ _ (heap_alloc_new w _)) Tryz.underlying206 rfl (size8' _)) rfl ⟨rfl, ?_⟩
    exact Below.setRow ((Below.refl _ _).alloc (Nat.le_refl _) _) (Nat.le_refl _) _
  · have h' : ¬ (n : Int) < 64 := by omega
    rw [if_neg h]
    go_enter Tryz.func194, Tryz.ntmps194
    go_wp2_with (first
      | (with_reducible show wpList _ _ _ (Oper.mk _ (Op.load 206 _) _ _ _ _ :: _) _ _; go_must (refine wpList_load_mid rfl 206 _ rfl b 0 rfl _ _ (World.rangeAt_alloc R.out _) Tryz.underlying206 rfl (size8 _) ?_))
      | (with_reducible show wpList _ _ _ (Oper.mk _ (Op.store 206 _ _) _ _ _ _ :: _) _ _; go_must (refine wpList_store_row rfl 206 _ _ rfl w.heap.size _ rfl rfl 206 _ (heap_alloc_new w _) (size8' _) rfl (wv_one _) ?_)))
    refine bodyPost_ret (v := .agg (wv st.l).toArray) (results_cell_row rfl _ _ w.heap.size 206 _ (0, 0) _ rfl (setRow_heap _ _ _ _ _ _ (heap_alloc_new w _)) Tryz.underlying206 rfl (size8' _)) rfl ⟨rfl, ?_⟩
    exact Below.setRow ((Below.refl _ _).alloc (Nat.le_refl _) _) (Nat.le_refl _) _

theorem info60 : (Tryz.prog.info? 209).map (·.size) = some 73 := by kernel_rfl
theorem size73 {st : Sha.St} {rest : List UInt8} {n : Nat} (hl : rest.length = 64) : (Tryz.prog.info? 209).map (·.size) = some (hcells st rest n).toArray.size := by
  rw [info60, List.size_toArray, hcells_length hl]
def z0 : Sha.St := ⟨0, 0, 0, 0, 0, 0, 0, 0⟩
def r0 : List UInt8 := List.replicate 64 0
theorem zero60 : ∀ w, (zeroValue 209).run Tryz.prog w = .ok (.agg (hcells z0 r0 0).toArray) w :=
  (zero_of_info (P := Tryz.prog) (t := 209) (v := .agg (hcells z0 r0 0).toArray) (n := 73) (by kernel_rfl)).1
theorem hcells_one (st : Sha.St) (rest : List UInt8) (n : Nat) : (hcells st rest n).toArray.all (·.oneCell') = true :=
  oneCell_of fun v hv => by
    simp only [hcells, List.mem_append, List.mem_singleton] at hv
    rcases hv with hv | hv | rfl
    · exact wv_mem hv
    · exact bv_mem hv
    · rfl

set_option maxRecDepth 100000 in
set_option maxHeartbeats 400000 in
theorem copied_any (b n : Nat) (st : Sha.St) (rest : List UInt8) (hl : rest.length = 64) (w : World)
    (hb : w.heap[b]? = some (.cells (hcells st rest n).toArray 209 (0, 0))) :
    Calls Tryz.prog 195 #[.pointer (some ⟨b, 0, none⟩)] w fun e w' => e = .returned (.agg (hcells st rest n).toArray) ∧ Below w.heap.size w w' := by
  have hlt := lt_of_heap hb
  have Hb : Hid _ := hb
  clear hb
  have hz := zero60
  go_enter Tryz.func195, Tryz.ntmps195
  go_wp2_with (first
    | (with_reducible show wpList _ _ _ (Oper.mk _ (Op.load 209 _) _ _ _ _ :: _) _ _; go_must (refine wpList_load_row rfl 209 _ rfl b rfl 209 _ (0, 0) _ ((Below.heap_alloc _ _ _ hlt).trans Hb.out) Tryz.underlying209 rfl (size73 hl) ?_))
    | (with_reducible show wpList _ _ _ (Oper.mk _ (Op.store 209 _ _) _ _ _ _ :: _) _ _; go_must (refine wpList_store_row rfl 209 _ _ rfl w.heap.size _ rfl rfl 209 _ (heap_alloc_new w _) (size73 hl) (by rw [List.size_toArray, List.size_toArray, hcells_length hl, hcells_length (by simp [r0])]) (hcells_one _ _ _) ?_)))
  refine bodyPost_ret (v := .agg (hcells st rest n).toArray) (results_cell_row rfl _ _ w.heap.size 209 _ (0, 0) _ rfl (setRow_heap _ _ _ _ _ _ (heap_alloc_new w _)) Tryz.underlying209 rfl (size73 hl)) rfl ⟨rfl, ?_⟩
  exact Below.setRow ((Below.refl _ _).alloc (Nat.le_refl _) _) (Nat.le_refl _) _

/-- the blocks of 'wordBytes' behind k bytes -/
structure WbInv (s : Sha.St) (w : World) (k : Nat) (w' : World) : Prop where
  b0 : w'.heap[w.heap.size]? = some (.cells (wv s.l).toArray 206 (0, 0))
  b1 : w'.heap[w.heap.size + 1]? = some (.cells (bv (s.bytes.take k ++ List.replicate (32 - k) 0)).toArray 240 (0, 0))
  size : w'.heap.size = w.heap.size + 2
  below : Below w.heap.size w w'
theorem wbInv_start (s : Sha.St) (w : World) : WbInv s w 0 ((w.alloc (.cells (wv s.l).toArray 206)).alloc (.cells (bv (List.replicate 32 0)).toArray 240)) := by
  have s1 := size_alloc w (.cells (wv s.l).toArray 206)
  refine ⟨?_, heap_alloc_at _ _ _ s1, by rw [size_alloc]; omega, ((Below.refl _ _).alloc (Nat.le_refl _) _).alloc (by omega) _⟩
  rw [Below.heap_alloc _ _ _ (by omega)]; exact heap_alloc_new w _
theorem bv_set (l : List UInt8) (m : Nat) (v : UInt8) (h : 0 < m) : (bv (l ++ List.replicate m 0)).toArray.setIfInBounds l.length (.int .u8 (v.toNat : Int)) = (bv ((l ++ [v]) ++ List.replicate (m - 1) 0)).toArray := by
  obtain ⟨m, rfl⟩ : ∃ n, m = n + 1 := ⟨m - 1, by omega⟩
  simp [bv, List.replicate_succ]
theorem WbInv.set {s : Sha.St} {w : World} {k : Nat} {w' : World} (inv : WbInv s w k w') (hk : k < 32) :
    WbInv s w (k + 1) (w'.setCell ⟨w.heap.size + 1, k, none⟩ (.int .u8 ((s.bytes.getD k 0).toNat : Int))) := by
  have hl := Sha.bytes_length s
  refine ⟨?_, ?_, ?_, ?_⟩
  · rw [heap_setCell_other _ _ _ _ (by show w.heap.size ≠ w.heap.size + 1; omega)]; exact inv.b0
  · rw [heap_setCell_same _ _ _ _ _ _ inv.b1]
    have := bv_set (s.bytes.take k) (32 - k) (s.bytes.getD k 0) (by omega)
    rw [List.length_take, hl, Nat.min_eq_left (by omega)] at this
    rw [this, show 32 - k - 1 = 32 - (k + 1) from by omega, List.getD_eq_getElem?_getD, List.getElem?_eq_getElem (by omega), Option.getD_some, List.take_append_getElem]
  · simpa using inv.size
  · exact inv.below.setCell (by simp) _

set_option maxRecDepth 100000 in
set_option maxHeartbeats 400000 in
theorem wordBytes_any (s : Sha.St) (hs : s.ok) (w : World) :
    Calls Tryz.prog 197 #[.agg (wv s.l).toArray] w fun e w' => e = .returned (sv s.bytes) ∧ Below w.heap.size w w' := by
  go_enter Tryz.func197, Tryz.ntmps197
  go_wp2
  go_loopw [5] (fun i w' => ∃ k : Nat, k ≤ 32 ∧ i = .int .i64 k ∧ WbInv s w k w') (fun i _ => 32 - (intOf i).toNat)
  case atStart => exact ⟨0, by omega, rfl, wbInv_start s w⟩
  case round =>
    obtain ⟨k, hk, rfl, inv⟩ := hrel
    by_cases hlt : k < 32
    · have b1 : (k : Int) < 32 := by omega
      have b2 : (k : Int) / 4 < 8 := by omega
      have b3 : (0 : Int) ≤ (k : Int) / 4 := by omega
      have t1 : ((k : Int) / 4).toNat = k / 4 := by omega
      obtain ⟨x, ex, lx, cx⟩ : ∃ y : Nat, Hid (y = s.l.getD (k / 4) 0) ∧ y < 4294967296 ∧ wr.cell? ⟨w.heap.size, k / 4, none⟩ = some (.int .u32 (y : Int)) := ⟨_, rfl, Sha.l_lt hs _, wv_cell inv.b0 (k / 4) (by simp [Sha.St.l]; omega)⟩
      have c4 := bv_cell inv.b1 k (by simp [Sha.bytes_length]; omega)
      obtain ⟨y, _, _, c4⟩ := c4
      have f4 : wr.frozen? ⟨w.heap.size + 1, k, none⟩ = false := frozen_of_row _ _ _ _ _ inv.b1
      go_wp2
      refine ⟨⟨k + 1, by omega, by go_num, ?_⟩, by simp [intOf]; omega⟩
      have g := WbInv.set inv hlt
      rw [Sha.bytes_at s k hlt, ← Sha.byte_walk, ← ex.out, IntKind.wrap_u8'] at g
      exact g
    · obtain rfl : k = 32 := by omega
      have b1 : wr.heap[w.heap.size + 1]? = some (.cells (bv s.bytes).toArray 240 (0, 0)) := by
        have := inv.b1
        rwa [List.take_of_length_le (by rw [Sha.bytes_length]; omega), Nat.sub_self, List.replicate_zero, List.append_nil] at this
      have hcv := run_conv_bytes (P := Tryz.prog) wr 43 9 5 (w.heap.size + 1) 0 32 32 s.bytes (Sha.bytes_length s) Tryz.underlying43 Tryz.underlying5 Tryz.underlying9 (rangeAt_of_list b1 (fun j v hv => by rw [Nat.zero_add]; exact hv))
      go_wp2
      go_ret
      exact ⟨rfl, inv.below⟩
end Go.Proofs.YtdbbemcddhgbcaaGreatDoor

namespace Go.Proofs.YtdbbemcddhgbcaaGreatDoor
open Go.RowKit

theorem zero72 : ∀ w, (zeroValue 256).run Tryz.prog w = .ok (.agg (bv (List.replicate 72 0)).toArray) w :=
  (zero_of_info (P := Tryz.prog) (t := 256) (v := .agg (bv (List.replicate 72 0)).toArray) (n := 72) (by kernel_rfl)).1
theorem bv_setAt (a : List UInt8) (x v : UInt8) (b : List UInt8) : (bv (a ++ x :: b)).toArray.setIfInBounds a.length (.int .u8 (v.toNat : Int)) = (bv (a ++ v :: b)).toArray := by
  simp [bv]
theorem fillTo_set (n z k : Nat) (hk : k < 8) : (bv (Sha.fillTo n z k)).toArray.setIfInBounds (z + 8 - k) (.int .u8 ((UInt8.ofNat (8 * n / 256 ^ k)).toNat : Int)) = (bv (Sha.fillTo n z (k + 1))).toArray := by
  have e : Sha.fillTo n z k = (128 :: List.replicate (z + 8 - (k + 1)) 0) ++ 0 :: (Sha.be (8 * n) k ++ List.replicate (63 - z) 0) := by
    have : List.replicate (z + 8 - k) (0 : UInt8) = List.replicate (z + 8 - (k + 1)) 0 ++ [0] := by
      rw [show z + 8 - k = z + 8 - (k + 1) + 1 from by omega, List.replicate_succ']
    rw [Sha.fillTo, this]; simp
  have hl : ((128 : UInt8) :: List.replicate (z + 8 - (k + 1)) 0).length = z + 8 - k := by simp; omega
  have g := bv_setAt (128 :: List.replicate (z + 8 - (k + 1)) 0) 0 (UInt8.ofNat (8 * n / 256 ^ k)) (Sha.be (8 * n) k ++ List.replicate (63 - z) 0)
  rw [hl] at g
  rw [e, g]
  rfl

structure FillInv (n z : Nat) (w : World) (k : Nat) (w' : World) : Prop where
  b0 : w'.heap[w.heap.size]? = some (.cells (bv (Sha.fillTo n z k)).toArray 256 (0, 0))
  below : Below w.heap.size w w'

set_option maxRecDepth 100000 in
set_option maxHeartbeats 400000 in
theorem filling_any (n : Nat) (hn : n < 2305843009213693952) (w : World) :
    Calls Tryz.prog 196 #[.int .i64 (n : Int)] w fun e w' => e = .returned (sv (Sha.filling n)) ∧ Below w.heap.size w w' := by
  have hz := zero72
  obtain ⟨z, hzz⟩ : ∃ z, z = (119 - n % 64) % 64 := ⟨_, rfl⟩
  have z64 : z < 64 := by omega
  have zi : (119 - (n : Int) % 64) % 64 = (z : Int) := by omega
  have Hz : Hid _ := hzz
  clear hzz
  have hn' : (n : Int) ≤ 2305843009213693951 := by omega
  go_enter Tryz.func196, Tryz.ntmps196
  go_wp2
  go_loopw [16] (fun i w' => ∃ k : Nat, k ≤ 8 ∧ i = .int .i64 k ∧ FillInv n z w k w') (fun i _ => 8 - (intOf i).toNat)
  case atStart =>
    refine ⟨0, by omega, rfl, ?_, (Below.refl _ _).alloc (Nat.le_refl _) _⟩
    rw [Sha.fillTo_start n z z64]
    exact heap_alloc_new w _
  case round =>
    obtain ⟨k, hk, rfl, inv⟩ := hrel
    by_cases hlt : k < 8
    · have b1 : (k : Int) < 8 := by omega
      have b2 : (0 : Int) ≤ 9 + (z : Int) - 1 - (k : Int) := by omega
      have b3 : 9 + (z : Int) - 1 - (k : Int) < 72 := by omega
      have t1 : (9 + (z : Int) - 1 - (k : Int)).toNat = z + 8 - k := by omega
      obtain ⟨y, _, _, c4⟩ := bv_cell inv.b0 (z + 8 - k) (by rw [Sha.fillTo_length _ _ _ z64 (by omega)]; omega)
      have f4 : wr.frozen? ⟨w.heap.size, z + 8 - k, none⟩ = false := frozen_of_row _ _ _ _ _ inv.b0
      go_wp2
      refine ⟨⟨k + 1, by omega, by go_num, ?_, inv.below.setCell (Nat.le_refl _) _⟩, by simp [intOf]; omega⟩
      rw [Sha.fill_walk, heap_setCell_same _ _ _ _ _ _ inv.b0, fillTo_set n z k hlt]
    · obtain rfl : k = 8 := by omega
      have e8 := Sha.fillTo_end n
      rw [← Hz.out] at e8
      have hcv := run_conv_bytes (P := Tryz.prog) wr 43 9 5 w.heap.size 0 (9 + z) 72 (Sha.filling n) (by rw [Sha.filling_length, ← Hz.out]) Tryz.underlying43 Tryz.underlying5 Tryz.underlying9 (rangeAt_of_list inv.b0 (fun j v hv => by
        rw [← e8] at hv
        simp only [bv, List.map_take] at hv
        rw [Nat.zero_add]
        rw [List.getElem?_take] at hv
        split at hv
        · exact hv
        · cases hv))
      clear e8
      have b1 : (0 : Int) ≤ 9 + (z : Int) := by omega
      have b2 : 9 + (z : Int) ≤ 72 := by omega
      have t1 : (9 + (z : Int)).toNat = 9 + z := by omega
      go_wp2
      go_ret
      exact ⟨rfl, inv.below⟩
end Go.Proofs.YtdbbemcddhgbcaaGreatDoor

namespace Go.Proofs.YtdbbemcddhgbcaaGreatDoor
open Go.RowKit

def strLen : Value → Nat
  | .string s => s.size
  | _ => 0

/-- a hasher that has taken t lies in block b -/
def Has (b : Nat) (t : List UInt8) (w : World) : Prop :=
  ∃ st rest, Sha.HS t st rest ∧ w.heap[b]? = some (.cells (hcells st rest t.length).toArray 209 (0, 0))

theorem info5 : (Tryz.prog.info? 5).map (·.size) = some 1 := by kernel_rfl
theorem data_length (r : ByteArray) : r.data.toList.length = r.size := by rw [Array.length_toList]; rfl

/-- the copy of what fits of r into the block's rest -/
theorem copy_step (wr : World) (b n : Nat) (st : Sha.St) (rest : List UInt8) (r : ByteArray) (hl : rest.length = 64) (h0 : 0 < r.size)
    (hh : wr.heap[b]? = some (.cells (hcells st rest n).toArray 209 (0, 0))) :
    ∃ (c : Nat) (w2 : World), 1 ≤ c ∧ c ≤ r.size ∧ n % 64 + c ≤ 64 ∧ (n % 64 + c < 64 → c = r.size) ∧
      (Builtin.copy_ #[43, 9] 3 #[.slice (some ⟨b, 8 + n % 64, none⟩) (64 - n % 64) (64 - n % 64), .string r]).run Tryz.prog wr = .ok (.int .i64 (c : Int)) w2 ∧
      w2.heap[b]? = some (.cells (hcells st (Sha.over rest (n % 64) (r.data.toList.take c)) n).toArray 209 (0, 0)) ∧ But b wr w2 := by
  have hsz : (hcells st rest n).toArray.size = 73 := by rw [List.size_toArray, hcells_length hl]
  have e := run_copy_min (P := Tryz.prog) wr 43 9 3 5 b (8 + n % 64) (64 - n % 64) (64 - n % 64) r _ _ Tryz.underlying43 info5 hh (by rw [hsz]; omega)
  refine ⟨min r.size (64 - n % 64), _, by omega, by omega, by omega, by omega, e, ?_, (But.refl b wr).setRow _⟩
  rw [setRow_heap _ _ _ _ _ _ hh]
  refine congrArg (fun a => some (Obj.cells a 209 (0, 0))) ?_
  have h8 : (wv st.l).length = 8 := by simp [Sha.St.l]
  have hu : (r.data.toList.take (min r.size (64 - n % 64))).length = min r.size (64 - n % 64) := by rw [List.length_take, data_length]; omega
  generalize hU : r.data.toList.take (min r.size (64 - n % 64)) = u at hu ⊢
  have hm : n % 64 + min r.size (64 - n % 64) ≤ 64 := by omega
  generalize min r.size (64 - n % 64) = c at hu hm ⊢
  rw [hcells, hcells, Sha.over, bv_append, bv_append]
  rw [List.take_append, List.take_of_length_le (by omega), h8, show 8 + n % 64 - 8 = n % 64 from by omega, List.take_append_of_le_length (by simp; omega)]
  rw [List.drop_append, List.drop_eq_nil_of_le (by omega), h8, List.nil_append, show 8 + n % 64 + c - 8 = n % 64 + c from by omega, List.drop_append_of_le_length (by simp; omega)]
  simp only [bv, List.map_take, List.map_drop, List.append_assoc, hu]

theorem rangeAt_below {w w' : World} {B b o : Nat} {cs : List Value} (h : w.rangeAt b o cs) (hb : Below B w w') (hB : b < B) : w'.rangeAt b o cs := fun j v hv => by
  rw [hb.cell (p := ⟨b, o + j, none⟩) hB]; exact h j v hv
theorem there_below {w w' : World} {B b o n : Nat} (h : w.there b o n) (hb : Below B w w') (hB : b < B) : w'.there b o n := fun j hj => by
  rw [hb.cell (p := ⟨b, o + j, none⟩) hB, hb.frozen (p := ⟨b, o + j, none⟩) hB]; exact h j hj
theorem there_of_row {w : World} {b : Nat} {cs : Array Value} {t : TypeId} (h : w.heap[b]? = some (.cells cs t (0, 0))) (o n : Nat) (hn : o + n ≤ cs.size) : w.there b o n := fun j hj => by
  refine ⟨?_, frozen_of_row _ _ _ _ _ h⟩
  rw [cell_of_row w b (o + j) cs t _ h, Array.getElem?_eq_getElem (by omega)]; rfl

theorem hcells_setTaken {st : Sha.St} {rest : List UInt8} {n m : Nat} (h : rest.length = 64) : (hcells st rest n).toArray.setIfInBounds 72 (.int .i64 (m : Int)) = (hcells st rest m).toArray := by
  have e : hcells st rest n = (wv st.l ++ bv rest) ++ [.int .i64 (n : Int)] := by simp [hcells]
  have h72 : (wv st.l ++ bv rest).length = 72 := by simp [Sha.St.l, h]
  rw [e, ← h72]
  simp [hcells]
theorem But.setCell {b : Nat} {w w' : World} (h : But b w w') (o : Nat) (v : Value) : But b w (w'.setCell ⟨b, o, none⟩ v) :=
  ⟨h.os, h.tape, h.output, by simp [World.setCell]; exact h.size, fun k hk hb => (heap_setCell_other w' ⟨b, o, none⟩ k v hb).trans (h.block k hk hb)⟩
theorem heap_setTaken {w : World} {b : Nat} {st : Sha.St} {rest : List UInt8} {n : Nat} (h : rest.length = 64) (hh : w.heap[b]? = some (.cells (hcells st rest n).toArray 209 (0, 0))) (m : Nat) :
    (w.setCell ⟨b, 72, none⟩ (.int .i64 (m : Int))).heap[b]? = some (.cells (hcells st rest m).toArray 209 (0, 0)) := by
  rw [heap_setCell_same _ _ _ _ _ _ hh, hcells_setTaken h]
theorem heap_setCells (b : Nat) (t : TypeId) : ∀ (vs pre old post : List Value) (w : World), old.length = vs.length → w.heap[b]? = some (.cells (pre ++ old ++ post).toArray t (0, 0)) →
    (w.setCells b pre.length vs).heap[b]? = some (.cells (pre ++ vs ++ post).toArray t (0, 0))
  | [], pre, old, post, w, hl, h => by
    obtain rfl : old = [] := List.length_eq_zero_iff.1 hl
    simpa [World.setCells] using h
  | v :: r, pre, [], post, w, hl, h => by simp at hl
  | v :: r, pre, x :: old, post, w, hl, h => by
    rw [World.setCells]
    have h1 : (w.setCell ⟨b, pre.length, none⟩ v).heap[b]? = some (.cells ((pre ++ [v]) ++ old ++ post).toArray t (0, 0)) := by
      rw [heap_setCell_same _ _ _ _ _ _ h]
      simp
    have := heap_setCells b t r (pre ++ [v]) old post _ (by simpa using hl) h1
    simpa using this
theorem heap_setState {w : World} {b : Nat} {st : Sha.St} {rest : List UInt8} {n : Nat} (hh : w.heap[b]? = some (.cells (hcells st rest n).toArray 209 (0, 0))) (F : Sha.St) :
    (w.setCells b 0 (wv F.l)).heap[b]? = some (.cells (hcells F rest n).toArray 209 (0, 0)) := by
  have := heap_setCells b 209 (wv F.l) [] (wv st.l) (bv rest ++ [.int .i64 (n : Int)]) w (by simp [Sha.St.l]) (by simpa [hcells] using hh)
  simpa [hcells] using this
theorem But.setCells {b : Nat} {w : World} : ∀ (vs : List Value) (o : Nat) {w' : World}, But b w w' → But b w (w'.setCells b o vs)
  | [], _, _, h => h
  | v :: r, o, w', h => by rw [World.setCells]; exact But.setCells r (o + 1) (h.setCell o v)
theorem words_at (b n : Nat) (st st1 : Sha.St) (h1 : Hid ((if n < 64 then Sha.iv else st) = st1)) (rest : List UInt8) (hl : rest.length = 64) (w : World) (T : Tabs w)
    (hb : w.heap[b]? = some (.cells (hcells st rest n).toArray 209 (0, 0))) :
    Calls Tryz.prog 194 #[.pointer (some ⟨b, 0, none⟩)] w fun e w' => e = .returned (.agg (wv st1.l).toArray) ∧ Below w.heap.size w w' := by
  have := words_any b n st rest hl w T hb
  rwa [h1.out] at this
theorem store_state (P : Program) (b : Nat) (F : Sha.St) (w : World) (h : w.there b 0 8) : (storeCells ⟨b, 0, none⟩ (wv F.l)).run P w = .ok () (w.setCells b 0 (wv F.l)) := by
  have h8 : (wv F.l).length = 8 := by simp [Sha.St.l]
  have := run_storeCells_cells (P := P) b 0 (wv F.l) 0 w (fun j hj => by simpa using (h j (by omega)).1) (fun j hj => by simpa using (h j (by omega)).2) (fun v hv => wv_mem hv)
  simpa using this
theorem fold_at (s F : Sha.St) (hs : s.ok) (bl : List UInt8) (hF : Hid (Sha.fold s bl = F)) (hb : bl.length = 64) (w : World) (T : Tabs w) :
    Calls Tryz.prog 193 #[.agg (wv s.l).toArray, .agg (bv bl).toArray] w fun e w' => e = .returned (.agg (wv F.l).toArray) ∧ Below w.heap.size w w' := by
  have := fold_any s hs bl hb w T
  rwa [hF.out] at this
theorem drop_rest (r : ByteArray) (c : Nat) : (r.extract c r.size).data.toList = r.data.toList.drop c := by
  rw [Lib.extract_data]
  rw [List.take_of_length_le (by simp)]

set_option maxRecDepth 100000 in
set_option maxHeartbeats 400000 in
theorem write_any (b : Nat) (t : List UInt8) (s : ByteArray) (hlen : t.length + s.size < 2305843009213693952) (w : World) (T : Tabs w) (hb2 : 13 ≤ b) (hb : Has b t w) :
    Calls Tryz.prog 157 #[.pointer (some ⟨b, 0, none⟩), .string s] w fun e w' => e = .returned (.tuple #[]) ∧ Has b (t ++ s.data.toList) w' ∧ But b w w' := by
  go_enter Tryz.func157, Tryz.ntmps157
  go_wp2
  go_loopw [1] (fun v w' => ∃ (r : ByteArray) (tt : List UInt8), v = .string r ∧ Hid (tt ++ r.data.toList = t ++ s.data.toList) ∧ Has b tt w' ∧ But b w w') (fun v _ => strLen v)
  case atStart => exact ⟨s, t, rfl, rfl, hb, But.refl _ _⟩
  case round =>
    obtain ⟨r, tt, rfl, hr, ⟨st, rest, hs, hh⟩, hbut⟩ := hrel
    have hrl : tt.length + r.size < 2305843009213693952 := by
      have := congrArg List.length hr.out
      have e1 : r.data.toList.length = r.size := by rw [Array.length_toList]; rfl
      have e2 : s.data.toList.length = s.size := by rw [Array.length_toList]; rfl
      simp only [List.length_append] at this
      omega
    have T' := hbut.tabs T hb2
    by_cases h0 : 0 < r.size
    · have h0' : (0 : Int) < (r.size : Int) := by omega
      have c72 := hcells_taken hh hs.len
      generalize hn : tt.length = n at *
      have Hn : Hid _ := hn
      clear hn
      have b1 : (n : Int) % 64 ≤ 64 := by omega
      have b2 : (0 : Int) ≤ (n : Int) % 64 := by omega
      have t1 : ((n : Int) % 64).toNat = n % 64 := by omega
      obtain ⟨c, w2, k1, k2, k3, k4, hcp, hh2, hb2'⟩ := copy_step wr b n st rest r hs.len h0 hh
      have hul : (r.data.toList.take c).length = c := by rw [List.length_take, data_length]; omega
      have hol : (Sha.over rest (n % 64) (r.data.toList.take c)).length = 64 := by rw [Sha.over_length _ _ _ (by rw [hul, hs.len]; omega), hs.len]
      have d72 := hcells_taken hh2 hol
      have f72 : w2.frozen? ⟨b, 72, none⟩ = false := frozen_of_row _ _ _ _ _ hh2
      have hlt2 := lt_of_heap hh2
      have T2 : Tabs w2 := hb2'.tabs T' hb2
      have Hhs : Hid (Sha.HS tt st rest) := hs
      have Hul : Hid _ := hul
      have Hol : Hid _ := hol
      clear hs hul hol hh
      generalize hrest2 : Sha.over rest (n % 64) (r.data.toList.take c) = rest2 at *
      have Hr2 : Hid _ := hrest2
      clear hrest2
      have fin : Hid ((r.extract c r.size).data.toList = r.data.toList.drop c) := drop_rest r c
      by_cases hfull : n % 64 + c = 64
      · have g1 : ((n : Int) % 64 + (c : Int) == 64) = true := by simp; omega
        have hu := Tryz.underlying207
        have hi : (Tryz.prog.info? 207).map (·.size) = some (bv rest2).length := by rw [info64b, bv_length, Hol.out]
        have hi2 : (bv rest2).length = 64 := by rw [bv_length, Hol.out]
        have ho : ∀ v ∈ bv rest2, v.oneCell' = true := fun v hv => bv_mem hv
        have rg := hcells_rest hh2
        have th := there_of_row hh2 0 8 (by rw [List.size_toArray, hcells_length Hol.out]; omega)
        have hi3 := size8 (Sha.fold (if n < 64 then Sha.iv else st) rest2)
        have hi4 : (wv (Sha.fold (if n < 64 then Sha.iv else st) rest2).l).length = 8 := rfl
        have ho2 : ∀ v ∈ wv (Sha.fold (if n < 64 then Sha.iv else st) rest2).l, v.oneCell' = true := fun v hv => wv_mem hv
        go_wp2
        have hok : (if n < 64 then Sha.iv else st).ok := by split; exact Sha.iv_ok; exact Hhs.out.ok
        generalize hst1 : (if n < 64 then Sha.iv else st) = st1 at *
        have Hst1 : Hid _ := hst1
        clear hst1
        generalize hF : Sha.fold st1 rest2 = F at *
        have HF : Hid _ := hF
        clear hF
        have hstore := store_state Tryz.prog b F
        have rg1 : w2.drew.rangeAt b 8 (bv rest2) := (World.rangeAt_drew _ _ _ _).2 rg
        have th1 : w2.drew.there b 0 8 := (World.there_drew _ _ _ _).2 th
        have hlt3 : b < w2.drew.heap.size := hlt2
        go_region_held3 (fun w' => w'.rangeAt b 8 (bv rest2) ∧ w'.there b 0 8) (first | with_reducible exact ⟨rg1, th1⟩ | with_reducible exact ⟨rg3, th3⟩ | with_reducible exact ⟨rg4, th4⟩ | with_reducible exact ⟨rg5, th5⟩)
          (first
            | (go_at_call 194; refine (words_at b n st st1 Hst1 rest2 Hol.out _ ?_ ?_).mono ?_; (exact T2.below (Below.refl 13 w2).drew (Nat.le_refl 13)); (exact hh2); rintro e w3 ⟨rfl, hw3⟩; have rg3 := rangeAt_below rg1 hw3 hlt3; have th3 := there_below th1 hw3 hlt3)
            | (go_at_call 193; refine (fold_at st1 F hok rest2 HF Hol.out _ ?_).mono ?_; (exact T2.below ((Below.refl 13 w2).drew.trans (hw3.mono T2.lt)) (Nat.le_refl 13)); rintro e w4 ⟨rfl, hw4⟩; have rg4 := rangeAt_below rg3 hw4 (Nat.lt_of_lt_of_le hlt3 hw3.size); have th4 := there_below th3 hw4 (Nat.lt_of_lt_of_le hlt3 hw3.size); have rg5 := World.rangeAt_setCells_apart rg4 b 0 (wv F.l) (Or.inr (Or.inr (Nat.le_refl 8))); have th5 := World.there_setCells th4 b 0 (wv F.l)))
        have hh5 := heap_setState ((hw4.block b (Nat.lt_of_lt_of_le hlt3 hw3.size)).trans ((hw3.block b hlt3).trans hh2)) F
        have hb5 : But b w (w4.setCells b 0 (wv F.l)) := But.setCells _ _ ((((hbut.trans hb2').drew).trans (But.ofBelow hw3)).trans (But.ofBelow hw4))
        generalize w4.setCells b 0 (wv F.l) = w5 at *
        clear rg1 th1 rg3 th3 rg4 th4 rg5 th5 hstore hw3 hw4 d72 f72 rg th
        have d72 := hcells_taken hh5 Hol.out
        have f72 : w5.frozen? ⟨b, 72, none⟩ = false := frozen_of_row _ _ _ _ _ hh5
        go_wp2
        refine ⟨⟨_, tt ++ r.data.toList.take c, rfl, ?_, ⟨F, rest2, ?_, ?_⟩, hb5.setCell _ _⟩, ?_⟩
        · show _ = _
          rw [fin.out, List.append_assoc, List.take_append_drop]; exact hr.out
        · have := Sha.HS.full Hhs.out (r.data.toList.take c) (by rw [Hn.out, Hul.out]; omega)
          rwa [Hn.out, Hr2.out, Hst1.out, HF.out] at this
        · rw [List.length_append, Hn.out, Hul.out]
          exact heap_setTaken Hol.out hh5 (n + c)
        · simp [strLen]; omega
      · have g1 : ((n : Int) % 64 + (c : Int) == 64) = false := by simp; omega
        go_wp2
        have hcr : c = r.size := k4 (by omega)
        refine ⟨⟨_, tt ++ r.data.toList.take c, rfl, ?_, ⟨st, rest2, ?_, ?_⟩, (hbut.trans hb2').setCell _ _⟩, ?_⟩
        · show _ = _
          rw [fin.out, List.append_assoc, List.take_append_drop]; exact hr.out
        · have := Sha.HS.part Hhs.out (r.data.toList.take c) (by rw [Hn.out, Hul.out]; omega)
          rwa [Hn.out, Hr2.out] at this
        · rw [List.length_append, Hn.out, Hul.out]
          exact heap_setTaken Hol.out hh2 (n + c)
        · simp [strLen]; omega
    · have h0' : ¬ (0 : Int) < (r.size : Int) := by omega
      have hz : r.size = 0 := by omega
      have Hz : Hid _ := hz
      clear hz
      go_wp2
      go_end0
      have : r.data.toList = [] := List.length_eq_zero_iff.1 (by rw [data_length]; exact Hz.out)
      have e := hr.out
      rw [this, List.append_nil] at e
      exact ⟨rfl, ⟨st, rest, by rw [← e]; exact hs, by rw [← e]; exact hh⟩, hbut⟩
end Go.Proofs.YtdbbemcddhgbcaaGreatDoor
