import Derived.Test.YtfddkmkibfmmgaaDoorCW1
import Derived.Test.YtfddkmkibfmmgaaDoorCO1
import Derived.Lib.Strings
import Derived.Lib.Slices
import Derived.Lib.Small
import Derived.Lib.Walk
import Derived.Lib.BitFns
import Derived.Test.YtfddkmkibfmmgaaDoorCW3
import Derived.Deep.WholeRow
namespace Go.Proofs.YtfddkmkibfmmgaaDoor
open Go.RowKit

theorem bitLen_log : ∀ (f x : Nat), x ≤ f → 1 ≤ x → x < 18446744073709551616 → Lib.bitLen x = x.log2 + 1
  | 0, x, h, h1, _ => by omega
  | f + 1, x, h, h1, h2 => by
    rw [Lib.bitLen_half x (by omega) h2]
    by_cases hx : x = 1
    · subst hx; decide
    · rw [bitLen_log f (x / 2) (by omega) (by omega) (by omega), Nat.log2_def x, if_pos (by omega)]; omega
theorem fold_tab (a b c d : List UInt8) (h : (a.append b).append (c.append d) = Lib.len8tab.data.toList) : ByteArray.mk ((a.append b).append (c.append d)).toArray = Lib.len8tab := by
  rw [h]
theorem tab_get (y : Int) (hb : y.toNat < Lib.len8tab.size) : (((Lib.len8tab[y.toNat]'hb).toNat : Nat) : Int) = Lib.len8 y := by
  unfold Lib.len8
  rw [ByteArray.getElem?_lt' _ _ hb]
  rfl
/-- s digits behind, the first ones by the table -/
theorem len_end {x y : Int} (s : Nat) (hx0 : 0 ≤ x) (hx : x < 18446744073709551616) (hs : s ≤ 56) (h : s = 0 ∨ 2 ^ s ≤ x.toNat) (hy : x.toNat / 2 ^ s = y.toNat) (hy0 : 0 ≤ y) (hy2 : y ≤ 255) (hb : y.toNat < Lib.len8tab.size) :
    wrap64 ((s : Int) + wrap64 (((Lib.len8tab[y.toNat]'hb).toNat : Nat) : Int)) = ((Lib.bitLen x.toNat : Nat) : Int) := by
  have h8 := Lib.bitLen_le8' y hy0 hy2
  rw [tab_get y hb, Lib.len8_of y hy0 hy2]
  have e1 : wrap64 ((Lib.bitLen y.toNat : Nat) : Int) = (Lib.bitLen y.toNat : Nat) := by unfold wrap64; omega
  have e2 : wrap64 ((s : Int) + ((Lib.bitLen y.toNat : Nat) : Int)) = (s : Int) + (Lib.bitLen y.toNat : Nat) := by unfold wrap64; omega
  rw [e1, e2]
  rcases h with rfl | h
  · rw [show x.toNat = y.toNat from by simpa using hy]; omega
  · rw [Lib.bitLen_shift s x.toNat h (by omega), hy]; omega
set_option maxRecDepth 100000 in
set_option maxHeartbeats 2000000 in
theorem len64_any (x : Int) (h0 : 0 ≤ x) (hx : x < 18446744073709551616) (w : World) :
    Calls Tryd.prog 83 #[.int .u64 x] w fun e w' => e = .returned (.int .i64 (Lib.bitLen x.toNat : Nat)) ∧ w' = w := by
  have h := Tryd.func83
  unfold Tryd.f83 at h
  rw [fold_tab _ _ _ _ (by decide +kernel)] at h
  go_enter h, Tryd.ntmps83
  clear h
  go_wp2
  all_goals first | (exfalso; have := Lib.len8tab_size; omega) | skip
  all_goals go_ret
  all_goals refine ⟨congrArg Ending.returned (congrArg (Value.int IntKind.i64) ?_), rfl⟩
  all_goals first
    | exact len_end 56 h0 hx (by omega) (.inr (by omega)) (by omega) (by omega) (by omega) _
    | exact len_end 48 h0 hx (by omega) (.inr (by omega)) (by omega) (by omega) (by omega) _
    | exact len_end 40 h0 hx (by omega) (.inr (by omega)) (by omega) (by omega) (by omega) _
    | exact len_end 32 h0 hx (by omega) (.inr (by omega)) (by omega) (by omega) (by omega) _
    | exact len_end 24 h0 hx (by omega) (.inr (by omega)) (by omega) (by omega) (by omega) _
    | exact len_end 16 h0 hx (by omega) (.inr (by omega)) (by omega) (by omega) (by omega) _
    | exact len_end 8 h0 hx (by omega) (.inr (by omega)) (by omega) (by omega) (by omega) _
    | (have e := len_end 0 h0 hx (by omega) (.inl rfl) (by omega) h0 (by omega) (by omega); rw [show ((0 : Nat) : Int) = 0 from rfl, Int.zero_add] at e; exact e)
set_option maxRecDepth 100000 in
set_option maxHeartbeats 2000000 in
theorem lenU_any (x : Int) (h0 : 0 ≤ x) (hx : x < 18446744073709551616) (w : World) :
    Calls Tryd.prog 62 #[.int .u64 x] w fun e w' => e = .returned (.int .i64 (Lib.bitLen x.toNat : Nat)) ∧ w' = w := by
  go_enter Tryd.func62, Tryd.ntmps62
  go_wp2_with (go_at_call 83; refine (len64_any x h0 hx _).mono ?_; rintro e w' ⟨rfl, rfl⟩)
  go_ret
  exact ⟨rfl, rfl⟩
end Go.Proofs.YtfddkmkibfmmgaaDoor

namespace Go.Proofs.YtfddkmkibfmmgaaDoor
open Go.RowKit

theorem lt_of_heap {w : World} {b : Nat} {o : Obj} (h : w.heap[b]? = some o) : b < w.heap.size := (Array.getElem?_eq_some_iff.1 h).1

theorem start_range {w : World} (T : Tabs w) : w.rangeAt 1 0 (wv Sha.iv.l) := fun j v hv => by
  have hj : j < (wv Sha.iv.l).length := (List.getElem?_eq_some_iff.1 hv).1
  have h8 : (wv Sha.iv.l).length = 8 := by simp [Sha.St.l]
  rw [Nat.zero_add, T.start j (by omega), ← hv]
  simp only [wv, List.getElem?_map, List.getD_eq_getElem?_getD]
  rw [List.getElem?_eq_getElem (by simpa [wv] using hj)]
  rfl
theorem size8 (s : Sha.St) : (Tryd.prog.info? 103).map (·.size) = some (wv s.l).length := by rw [info8w]; rfl
theorem size8' (s : Sha.St) : (Tryd.prog.info? 103).map (·.size) = some (wv s.l).toArray.size := by rw [info8w]; rfl

set_option maxHeartbeats 400000 in
theorem words_any (b n : Nat) (st : Sha.St) (rest : List UInt8) (hl : rest.length = 64) (w : World) (T : Tabs w)
    (hb : w.heap[b]? = some (.cells (hcells st rest n).toArray 106 (0, 0))) :
    Calls Tryd.prog 78 #[.pointer (some ⟨b, 0, none⟩)] w fun e w' => e = .returned (.agg (wv (if n < 64 then Sha.iv else st).l).toArray) ∧ Below w.heap.size w w' := by
  have hlt := lt_of_heap hb
  have c := hcells_taken hb hl
  have R : Hid (w.rangeAt b 0 (wv st.l)) := hcells_state hb
  have R2 : Hid (w.rangeAt 1 0 (wv Sha.iv.l)) := start_range T
  clear hb
  by_cases h : n < 64
  · have h' : (n : Int) < 64 := by omega
    rw [if_pos h]
    go_enter Tryd.func78, Tryd.ntmps78
    go_wp2_with (first
      | (with_reducible show wpList _ _ _ (Oper.mk _ (Op.load 103 _) _ _ _ _ :: _) _ _; go_must (refine wpList_load_mid rfl 103 _ rfl 1 0 rfl _ _ (World.rangeAt_alloc R2.out _) Tryd.underlying103 rfl (size8 _) ?_))
      | (with_reducible show wpList _ _ _ (Oper.mk _ (Op.store 103 _ _) _ _ _ _ :: _) _ _; go_must (refine wpList_store_row rfl 103 _ _ rfl w.heap.size _ rfl rfl 103 _ (heap_alloc_new w _) (size8' _) rfl (wv_one _) ?_)))
    refine bodyPost_ret (v := .agg (wv Sha.iv.l).toArray) (results_cell_row rfl _ _ w.heap.size 103 _ (0, 0) _ rfl (setRow_heap _ _ _ _ _ _ (heap_alloc_new w _)) Tryd.underlying103 rfl (size8' _)) rfl ⟨rfl, ?_⟩
    exact Below.setRow ((Below.refl _ _).alloc (Nat.le_refl _) _) (Nat.le_refl _) _
  · have h' : ¬ (n : Int) < 64 := by omega
    rw [if_neg h]
    go_enter Tryd.func78, Tryd.ntmps78
    go_wp2_with (first
      | (with_reducible show wpList _ _ _ (Oper.mk _ (Op.load 103 _) _ _ _ _ :: _) _ _; go_must (refine wpList_load_mid rfl 103 _ rfl b 0 rfl _ _ (World.rangeAt_alloc R.out _) Tryd.underlying103 rfl (size8 _) ?_))
      | (with_reducible show wpList _ _ _ (Oper.mk _ (Op.store 103 _ _) _ _ _ _ :: _) _ _; go_must (refine wpList_store_row rfl 103 _ _ rfl w.heap.size _ rfl rfl 103 _ (heap_alloc_new w _) (size8' _) rfl (wv_one _) ?_)))
    refine bodyPost_ret (v := .agg (wv st.l).toArray) (results_cell_row rfl _ _ w.heap.size 103 _ (0, 0) _ rfl (setRow_heap _ _ _ _ _ _ (heap_alloc_new w _)) Tryd.underlying103 rfl (size8' _)) rfl ⟨rfl, ?_⟩
    exact Below.setRow ((Below.refl _ _).alloc (Nat.le_refl _) _) (Nat.le_refl _) _

theorem info60 : (Tryd.prog.info? 106).map (·.size) = some 73 := by kernel_rfl
theorem size73 {st : Sha.St} {rest : List UInt8} {n : Nat} (hl : rest.length = 64) : (Tryd.prog.info? 106).map (·.size) = some (hcells st rest n).toArray.size := by
  rw [info60, List.size_toArray, hcells_length hl]
def z0 : Sha.St := ⟨0, 0, 0, 0, 0, 0, 0, 0⟩
def r0 : List UInt8 := List.replicate 64 0
theorem zero60 : ∀ w, (zeroValue 106).run Tryd.prog w = .ok (.agg (hcells z0 r0 0).toArray) w :=
  (zero_of_info (P := Tryd.prog) (t := 106) (v := .agg (hcells z0 r0 0).toArray) (n := 73) (by kernel_rfl)).1
theorem hcells_one (st : Sha.St) (rest : List UInt8) (n : Nat) : (hcells st rest n).toArray.all (·.oneCell') = true :=
  oneCell_of fun v hv => by
    simp only [hcells, List.mem_append, List.mem_singleton] at hv
    rcases hv with hv | hv | rfl
    · exact wv_mem hv
    · exact bv_mem hv
    · rfl

set_option maxRecDepth 100000 in
set_option maxHeartbeats 400000 in
theorem copied_any (b n : Nat) (st : Sha.St) (rest : List UInt8) (hl : rest.length = 64) (w : World)
    (hb : w.heap[b]? = some (.cells (hcells st rest n).toArray 106 (0, 0))) :
    Calls Tryd.prog 79 #[.pointer (some ⟨b, 0, none⟩)] w fun e w' => e = .returned (.agg (hcells st rest n).toArray) ∧ Below w.heap.size w w' := by
  have hlt := lt_of_heap hb
  have Hb : Hid _ := hb
  clear hb
  have hz := zero60
  go_enter Tryd.func79, Tryd.ntmps79
  go_wp2_with (first
    | (with_reducible show wpList _ _ _ (Oper.mk _ (Op.load 106 _) _ _ _ _ :: _) _ _; go_must (refine wpList_load_row rfl 106 _ rfl b rfl 106 _ (0, 0) _ ((Below.heap_alloc _ _ _ hlt).trans Hb.out) Tryd.underlying106 rfl (size73 hl) ?_))
    | (with_reducible show wpList _ _ _ (Oper.mk _ (Op.store 106 _ _) _ _ _ _ :: _) _ _; go_must (refine wpList_store_row rfl 106 _ _ rfl w.heap.size _ rfl rfl 106 _ (heap_alloc_new w _) (size73 hl) (by rw [List.size_toArray, List.size_toArray, hcells_length hl, hcells_length (by simp [r0])]) (hcells_one _ _ _) ?_)))
  refine bodyPost_ret (v := .agg (hcells st rest n).toArray) (results_cell_row rfl _ _ w.heap.size 106 _ (0, 0) _ rfl (setRow_heap _ _ _ _ _ _ (heap_alloc_new w _)) Tryd.underlying106 rfl (size73 hl)) rfl ⟨rfl, ?_⟩
  exact Below.setRow ((Below.refl _ _).alloc (Nat.le_refl _) _) (Nat.le_refl _) _

/-- the blocks of 'wordBytes' behind k bytes -/
structure WbInv (s : Sha.St) (w : World) (k : Nat) (w' : World) : Prop where
  b0 : w'.heap[w.heap.size]? = some (.cells (wv s.l).toArray 103 (0, 0))
  b1 : w'.heap[w.heap.size + 1]? = some (.cells (bv (s.bytes.take k ++ List.replicate (32 - k) 0)).toArray 130 (0, 0))
  size : w'.heap.size = w.heap.size + 2
  below : Below w.heap.size w w'
theorem wbInv_start (s : Sha.St) (w : World) : WbInv s w 0 ((w.alloc (.cells (wv s.l).toArray 103)).alloc (.cells (bv (List.replicate 32 0)).toArray 130)) := by
  have s1 := size_alloc w (.cells (wv s.l).toArray 103)
  refine ⟨?_, heap_alloc_at _ _ _ s1, by rw [size_alloc]; omega, ((Below.refl _ _).alloc (Nat.le_refl _) _).alloc (by omega) _⟩
  rw [Below.heap_alloc _ _ _ (by omega)]; exact heap_alloc_new w _
theorem bv_set (l : List UInt8) (m : Nat) (v : UInt8) (h : 0 < m) : (bv (l ++ List.replicate m 0)).toArray.setIfInBounds l.length (.int .u8 (v.toNat : Int)) = (bv ((l ++ [v]) ++ List.replicate (m - 1) 0)).toArray := by
  obtain ⟨m, rfl⟩ : ∃ n, m = n + 1 := ⟨m - 1, by omega⟩
  simp [bv, List.replicate_succ]
theorem WbInv.set {s : Sha.St} {w : World} {k : Nat} {w' : World} (inv : WbInv s w k w') (hk : k < 32) :
    WbInv s w (k + 1) (w'.setCell ⟨w.heap.size + 1, k, none⟩ (.int .u8 ((s.bytes.getD k 0).toNat : Int))) := by
  have hl := Sha.bytes_length s
  refine ⟨?_, ?_, ?_, ?_⟩
  · rw [heap_setCell_other _ _ _ _ (by show w.heap.size ≠ w.heap.size + 1; omega)]; exact inv.b0
  · rw [heap_setCell_same _ _ _ _ _ _ inv.b1]
    have := bv_set (s.bytes.take k) (32 - k) (s.bytes.getD k 0) (by omega)
    rw [List.length_take, hl, Nat.min_eq_left (by omega)] at this
    rw [this, show 32 - k - 1 = 32 - (k + 1) from by omega, List.getD_eq_getElem?_getD, List.getElem?_eq_getElem (by omega), Option.getD_some, List.take_append_getElem]
  · simpa using inv.size
  · exact inv.below.setCell (by simp) _

set_option maxRecDepth 100000 in
set_option maxHeartbeats 400000 in
theorem wordBytes_any (s : Sha.St) (hs : s.ok) (w : World) :
    Calls Tryd.prog 81 #[.agg (wv s.l).toArray] w fun e w' => e = .returned (sv s.bytes) ∧ Below w.heap.size w w' := by
  go_enter Tryd.func81, Tryd.ntmps81
  go_wp2
  go_loopw [5] (fun i w' => ∃ k : Nat, k ≤ 32 ∧ i = .int .i64 k ∧ WbInv s w k w') (fun i _ => 32 - (intOf i).toNat)
  case atStart => exact ⟨0, by omega, rfl, wbInv_start s w⟩
  case round =>
    obtain ⟨k, hk, rfl, inv⟩ := hrel
    by_cases hlt : k < 32
    · have b1 : (k : Int) < 32 := by omega
      have b2 : (k : Int) / 4 < 8 := by omega
      have b3 : (0 : Int) ≤ (k : Int) / 4 := by omega
      have t1 : ((k : Int) / 4).toNat = k / 4 := by omega
      obtain ⟨x, ex, lx, cx⟩ : ∃ y : Nat, Hid (y = s.l.getD (k / 4) 0) ∧ y < 4294967296 ∧ wr.cell? ⟨w.heap.size, k / 4, none⟩ = some (.int .u32 (y : Int)) := ⟨_, rfl, Sha.l_lt hs _, wv_cell inv.b0 (k / 4) (by simp [Sha.St.l]; omega)⟩
      have c4 := bv_cell inv.b1 k (by simp [Sha.bytes_length]; omega)
      obtain ⟨y, _, _, c4⟩ := c4
      have f4 : wr.frozen? ⟨w.heap.size + 1, k, none⟩ = false := frozen_of_row _ _ _ _ _ inv.b1
      go_wp2
      refine ⟨⟨k + 1, by omega, by go_num, ?_⟩, by simp [intOf]; omega⟩
      have g := WbInv.set inv hlt
      rw [Sha.bytes_at s k hlt, ← Sha.byte_walk, ← ex.out, IntKind.wrap_u8'] at g
      exact g
    · obtain rfl : k = 32 := by omega
      have b1 : wr.heap[w.heap.size + 1]? = some (.cells (bv s.bytes).toArray 130 (0, 0)) := by
        have := inv.b1
        rwa [List.take_of_length_le (by rw [Sha.bytes_length]; omega), Nat.sub_self, List.replicate_zero, List.append_nil] at this
      have hcv := run_conv_bytes (P := Tryd.prog) wr 81 9 5 (w.heap.size + 1) 0 32 32 s.bytes (Sha.bytes_length s) Tryd.underlying81 Tryd.underlying5 Tryd.underlying9 (rangeAt_of_list b1 (fun j v hv => by rw [Nat.zero_add]; exact hv))
      go_wp2
      go_ret
      exact ⟨rfl, inv.below⟩
end Go.Proofs.YtfddkmkibfmmgaaDoor

namespace Go.Proofs.YtfddkmkibfmmgaaDoor
open Go.RowKit

theorem zero72 : ∀ w, (zeroValue 129).run Tryd.prog w = .ok (.agg (bv (List.replicate 72 0)).toArray) w :=
  (zero_of_info (P := Tryd.prog) (t := 129) (v := .agg (bv (List.replicate 72 0)).toArray) (n := 72) (by kernel_rfl)).1
theorem bv_setAt (a : List UInt8) (x v : UInt8) (b : List UInt8) : (bv (a ++ x :: b)).toArray.setIfInBounds a.length (.int .u8 (v.toNat : Int)) = (bv (a ++ v :: b)).toArray := by
  simp [bv]
theorem fillTo_set (n z k : Nat) (hk : k < 8) : (bv (Sha.fillTo n z k)).toArray.setIfInBounds (z + 8 - k) (.int .u8 ((UInt8.ofNat (8 * n / 256 ^ k)).toNat : Int)) = (bv (Sha.fillTo n z (k + 1))).toArray := by
  have e : Sha.fillTo n z k = (128 :: List.replicate (z + 8 - (k + 1)) 0) ++ 0 :: (Sha.be (8 * n) k ++ List.replicate (63 - z) 0) := by
    have : List.replicate (z + 8 - k) (0 : UInt8) = List.replicate (z + 8 - (k + 1)) 0 ++ [0] := by
      rw [show z + 8 - k = z + 8 - (k + 1) + 1 from by omega, List.replicate_succ']
    rw [Sha.fillTo, this]; simp
  have hl : ((128 : UInt8) :: List.replicate (z + 8 - (k + 1)) 0).length = z + 8 - k := by simp; omega
  have g := bv_setAt (128 :: List.replicate (z + 8 - (k + 1)) 0) 0 (UInt8.ofNat (8 * n / 256 ^ k)) (Sha.be (8 * n) k ++ List.replicate (63 - z) 0)
  rw [hl] at g
  rw [e, g]
  rfl

structure FillInv (n z : Nat) (w : World) (k : Nat) (w' : World) : Prop where
  b0 : w'.heap[w.heap.size]? = some (.cells (bv (Sha.fillTo n z k)).toArray 129 (0, 0))
  below : Below w.heap.size w w'

set_option maxRecDepth 100000 in
set_option maxHeartbeats 400000 in
theorem filling_any (n : Nat) (hn : n < 2305843009213693952) (w : World) :
    Calls Tryd.prog 80 #[.int .i64 (n : Int)] w fun e w' => e = .returned (sv (Sha.filling n)) ∧ Below w.heap.size w w' := by
  have hz := zero72
  obtain ⟨z, hzz⟩ : ∃ z, z = (119 - n % 64) % 64 := ⟨_, rfl⟩
  have z64 : z < 64 := by omega
  have zi : (119 - (n : Int) % 64) % 64 = (z : Int) := by omega
  have Hz : Hid _ := hzz
  clear hzz
  have hn' : (n : Int) ≤ 2305843009213693951 := by omega
  go_enter Tryd.func80, Tryd.ntmps80
  go_wp2
  go_loopw [16] (fun i w' => ∃ k : Nat, k ≤ 8 ∧ i = .int .i64 k ∧ FillInv n z w k w') (fun i _ => 8 - (intOf i).toNat)
  case atStart =>
    refine ⟨0, by omega, rfl, ?_, (Below.refl _ _).alloc (Nat.le_refl _) _⟩
    rw [Sha.fillTo_start n z z64]
    exact heap_alloc_new w _
  case round =>
    obtain ⟨k, hk, rfl, inv⟩ := hrel
    by_cases hlt : k < 8
    · have b1 : (k : Int) < 8 := by omega
      have b2 : (0 : Int) ≤ 9 + (z : Int) - 1 - (k : Int) := by omega
      have b3 : 9 + (z : Int) - 1 - (k : Int) < 72 := by omega
      have t1 : (9 + (z : Int) - 1 - (k : Int)).toNat = z + 8 - k := by omega
      obtain ⟨y, _, _, c4⟩ := bv_cell inv.b0 (z + 8 - k) (by rw [Sha.fillTo_length _ _ _ z64 (by omega)]; omega)
      have f4 : wr.frozen? ⟨w.heap.size, z + 8 - k, none⟩ = false := frozen_of_row _ _ _ _ _ inv.b0
      go_wp2
      refine ⟨⟨k + 1, by omega, by go_num, ?_, inv.below.setCell (Nat.le_refl _) _⟩, by simp [intOf]; omega⟩
      rw [Sha.fill_walk, heap_setCell_same _ _ _ _ _ _ inv.b0, fillTo_set n z k hlt]
    · obtain rfl : k = 8 := by omega
      have e8 := Sha.fillTo_end n
      rw [← Hz.out] at e8
      have hcv := run_conv_bytes (P := Tryd.prog) wr 81 9 5 w.heap.size 0 (9 + z) 72 (Sha.filling n) (by rw [Sha.filling_length, ← Hz.out]) Tryd.underlying81 Tryd.underlying5 Tryd.underlying9 (rangeAt_of_list inv.b0 (fun j v hv => by
        rw [← e8] at hv
        simp only [bv, List.map_take] at hv
        rw [Nat.zero_add]
        rw [List.getElem?_take] at hv
        split at hv
        · exact hv
        · cases hv))
      clear e8
      have b1 : (0 : Int) ≤ 9 + (z : Int) := by omega
      have b2 : 9 + (z : Int) ≤ 72 := by omega
      have t1 : (9 + (z : Int)).toNat = 9 + z := by omega
      go_wp2
      go_ret
      exact ⟨rfl, inv.below⟩
end Go.Proofs.YtfddkmkibfmmgaaDoor
