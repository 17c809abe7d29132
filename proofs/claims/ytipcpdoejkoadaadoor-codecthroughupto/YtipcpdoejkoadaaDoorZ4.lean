import Derived.Test.YtipcpdoejkoadaaDoorZ3
namespace Go.Proofs.YtipcpdoejkoadaaDoor
open Go.RowKit Cod

/-- thirty-two bytes of a text -/
def h32 (p : List UInt8) : List UInt8 := p.take 32 ++ List.replicate (32 - p.length) 0
theorem h32_len (p : List UInt8) : (h32 p).length = 32 := by simp [h32]; omega
def hx (l : List (List UInt8)) (k : Nat) : List (List UInt8) := (l.take k).map h32
theorem hx_len (l : List (List UInt8)) (k : Nat) (h : k ≤ l.length) : (hx l k).length = k := by simp [hx]; omega
theorem hx_succ (l : List (List UInt8)) (k : Nat) (h : k < l.length) : hx l (k + 1) = hx l k ++ [h32 l[k]] := by
  rw [hx, hx, List.take_add_one, List.getElem?_eq_getElem h, List.map_append]; rfl
theorem info5z : (Tryd.prog.info? 5).map (·.size) = some 1 := by kernel_rfl
theorem make32 (w : World) : (Instr.makeSlice 24 (.int .i64 32) (.int .i64 32)).run Tryd.prog w = .ok (.slice (some ⟨w.heap.size, 0, none⟩) 32 32) (w.alloc (.cells (bv (List.replicate 32 0)).toArray 5)) := by
  obtain ⟨i0, hi, hz0, hz1, hz2⟩ := info_parts info5'
  have h := run_make (P := Tryd.prog) w 24 5 i0 (.int .u8 0) Tryd.underlying24 hi hz0 .i64 .i64 32 32 (by omega) (by omega) (by rw [hz2]; decide) (by omega)
  rw [hz1] at h
  have e : madeCells (Value.int .u8 0).cells (Int.toNat 32 * 1) = (bv (List.replicate 32 0)).toArray := by
    apply Array.ext'
    have h1 : (madeCells (Value.int .u8 0).cells (Int.toNat 32 * 1)).toList = List.replicate (Int.toNat 32 * 1) (.int .u8 0) := toList_madeCells_one _ _
    rw [h1, bv, List.map_replicate]
    rfl
  rw [e] at h
  exact h
theorem copy32 (w : World) (p : ByteArray) : ∃ (c : Int) (w2 : World), (Builtin.copy_ #[24, 9] 3 #[.slice (some ⟨w.heap.size, 0, none⟩) 32 32, .string p]).run Tryd.prog (w.alloc (.cells (bv (List.replicate 32 0)).toArray 5)) = .ok (.int .i64 c) w2 ∧
    (convert 24 9 (.slice (some ⟨w.heap.size, 0, none⟩) 32 32)).run Tryd.prog w2 = .ok (sv (h32 p.data.toList)) w2 ∧ Below w.heap.size w w2 := by
  have hg := heap_alloc_new w (.cells (bv (List.replicate 32 0)).toArray 5)
  have e := run_copy_min (P := Tryd.prog) _ 24 9 3 5 w.heap.size 0 32 32 p _ _ Tryd.underlying24 info5z hg (by simp [bv]; omega)
  have hrow := setRow_heap _ w.heap.size _ ((bv (List.replicate 32 0)).toArray.toList.take 0 ++ bv (p.data.toList.take (min p.size 32)) ++ (bv (List.replicate 32 0)).toArray.toList.drop (0 + min p.size 32)).toArray _ _ hg
  have hbs : (bv (List.replicate 32 0)).toArray.toList.take 0 ++ bv (p.data.toList.take (min p.size 32)) ++ (bv (List.replicate 32 0)).toArray.toList.drop (0 + min p.size 32) = bv (h32 p.data.toList) := by
    have hz := data_length p
    have h1 : p.data.toList.take (min p.size 32) = p.data.toList.take 32 := by rw [← hz, Nat.min_comm, ← List.take_take, List.take_length]
    have h2 : (bv (List.replicate 32 0)).drop (min p.size 32) = bv (List.replicate (32 - p.data.toList.length) 0) := by
      have h3 : 32 - min p.size 32 = 32 - p.size := by omega
      rw [bv, bv, List.map_replicate, List.map_replicate, List.drop_replicate, hz, h3]
    rw [h32, bv_append, List.take_zero, List.nil_append, Nat.zero_add, h1, h2]
  refine ⟨_, _, e, ?_, (((But.refl w.heap.size w).below (Nat.le_refl _) (Nat.le_refl _)).alloc (Nat.le_refl _) _).trans (((But.refl w.heap.size _).setRow _).below (Nat.le_refl _) (by rw [size_alloc]; omega))⟩
  rw [hbs] at hrow ⊢
  exact run_conv_bytes (P := Tryd.prog) _ 24 9 5 w.heap.size 0 32 32 (h32 p.data.toList) (h32_len _) Tryd.underlying24 Tryd.underlying5 Tryd.underlying9 (fun j v hv => by
    rw [cell_of_row _ _ _ _ _ _ hrow, Nat.zero_add]; simpa using hv)
end Go.Proofs.YtipcpdoejkoadaaDoor
