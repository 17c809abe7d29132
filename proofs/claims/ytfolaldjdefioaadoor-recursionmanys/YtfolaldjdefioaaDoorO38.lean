import Derived.Test.YtfolaldjdefioaaDoorO36
namespace Go.Proofs.YtfolaldjdefioaaDoor
open Go.RowKit
theorem infoBl : (Tryd.prog.info? 3).map (fun i => (i.zero, i.size, i.bytes)) = some (some (.int .i64 0), 1, 8) := by kernel_rfl
def ivs (L : List Int) : List Value := L.map (.int .i64)
theorem ivs_length (L : List Int) : (ivs L).length = L.length := by simp [ivs]
/-- append(l, i) -/
theorem append_int (w : World) (base : Nat) (v : Value) (L : List Int) (p : Int) (hown : Own w base v (ivs L)) (hlen : L.length ≤ 2000000) (hbase : base ≤ w.heap.size) :
    ∃ v' w', (Builtin.append_ #[25, 25] 25 #[v, .slice (some ⟨w.heap.size, 0, none⟩) 1 1]).run Tryd.prog (w.alloc (.cells #[.int .i64 p] 3)) = .ok v' w' ∧ Own w' base v' (ivs (L ++ [p])) ∧ Below base w w' := by
  obtain ⟨i0, hi, hz0, hz1, hz2⟩ := info_parts infoBl
  have hsrc : Src Tryd.prog 1 25 (.slice (some ⟨w.heap.size, 0, none⟩) 1 1) 1 [.int .i64 p] (w.alloc (.cells #[.int .i64 p] 3)) :=
    Src.ofSlice _ Tryd.underlying25 ⟨w.heap.size, 0, none⟩ 1 1 [.int .i64 p] (by simp) (fun j u hj => by
      rw [Addr.add_mid, cell_of_row _ _ _ _ _ _ (heap_alloc_new w _), Nat.zero_add]; simpa using hj) (fun u hu => by simp at hu; subst hu; rfl)
  obtain ⟨v', w', h1, h2, h3, h4⟩ := run_append_O (P := Tryd.prog) (w.alloc (.cells #[.int .i64 p] 3)) base 25 25 25 3 i0 (.int .i64 0) Tryd.underlying25 hi hz0 hz1 rfl v (ivs L) (hown.alloc _) _ 1 [.int .i64 p] hsrc
    (by rw [ivs_length, hz2]; omega) (by rw [ivs_length, maxLen]; omega) (by rw [size_alloc]; omega) (fun _ => by omega)
  refine ⟨v', w', h1, by simpa [ivs] using h2, ?_⟩
  exact ((Below.refl base w).alloc hbase _).trans (Below.ofGrown h3 hown.ge (by rw [size_alloc]; omega))
theorem Own.atI {w : World} {base : Nat} {v : Value} {L : List Int} (h : Own w base v (ivs L)) : ∃ a cap, v = .slice a L.length cap ∧ AtI w a L ∧ L.length ≤ cap ∧ cap ≤ 9223372036854775807 := by
  rcases h with ⟨rfl, h⟩ | ⟨g, cap, rfl, h1, h2, h3, h4, h5, h6⟩
  · obtain rfl : L = [] := by simpa [ivs] using h
    exact ⟨none, 0, rfl, AtI.nil _ _, by simp, by omega⟩
  · rw [ivs_length] at h2
    refine ⟨some ⟨g, 0, none⟩, cap, by rw [ivs_length], fun j p hp => ⟨_, rfl, h6, ?_⟩, h2, h3⟩
    rw [Addr.add_mid]
    exact h4 j (.int .i64 p) (by simp [ivs, hp])
/-- a row of yes and no -/
def RowB (w : World) (H : Nat) (L : List Bool) : Prop := w.heap[H]? = some (.cells (bls L).toArray 4 (0, 0))
theorem RowB.lt {w : World} {H : Nat} {L : List Bool} (h : RowB w H L) : H < w.heap.size := lt_of_heap h
theorem RowB.cell {w : World} {H : Nat} {L : List Bool} (h : RowB w H L) {j : Nat} {p : Bool} (hp : L[j]? = some p) : w.cell? ⟨H, j, none⟩ = some (.bool p) := by
  rw [cell_of_row _ _ _ _ _ _ h]; simp [bls, hp]
theorem RowB.at {w : World} {H : Nat} {L : List Bool} (h : RowB w H L) : AtB w (some ⟨H, 0, none⟩) L := fun j p hp => ⟨_, rfl, h.lt, by rw [Addr.add_mid, Nat.zero_add]; exact h.cell hp⟩
theorem RowB.free {w : World} {H : Nat} {L : List Bool} (h : RowB w H L) {j : Nat} (hj : j < L.length) : w.frozen? ⟨H, j, none⟩ = false := by
  have := (there_of_row h 0 L.length (by simp [bls])) j hj
  rw [Nat.zero_add] at this
  exact this.2
theorem RowB.below {w w' : World} {H B : Nat} {L : List Bool} (h : RowB w H L) (hb : Below B w w') (hB : H < B) : RowB w' H L := by
  unfold RowB; rw [hb.block H hB]; exact h
theorem RowB.set {w : World} {H : Nat} {L : List Bool} (h : RowB w H L) (k : Nat) (x : Bool) : RowB (w.setCell ⟨H, k, none⟩ (.bool x)) H (L.set k x) := by
  have e := setCell_eq_setRow w H k (bls L).toArray 4 (0, 0) (.bool x) h
  unfold RowB
  rw [e, setRow_heap _ _ _ _ _ _ h]
  refine congrArg (fun A => some (Obj.cells A 4 (0, 0))) ?_
  simp [bls, List.map_set]
/-- make([]bool, c) -/
theorem make_bools (w : World) (c : Nat) (hc : c ≤ 20000000) :
    (Instr.makeSlice 40 (.int .i64 (c : Int)) (.int .i64 (c : Int))).run Tryd.prog w = .ok (.slice (some ⟨w.heap.size, 0, none⟩) c c) (w.alloc (.cells (bls (List.replicate c false)).toArray 4)) := by
  obtain ⟨i0, hi, hz0, hz1, hz2⟩ := info_parts infoB
  have h := run_make (P := Tryd.prog) w 40 4 i0 (.bool false) Tryd.underlying40 hi hz0 .i64 .i64 (c : Int) (c : Int) (by omega) (by omega) (by rw [hz2]; omega) (by omega)
  rw [Int.toNat_natCast, hz1, Nat.mul_one] at h
  have e : madeCells (Value.bool false).cells c = (bls (List.replicate c false)).toArray := by
    apply Array.ext'
    rw [show (madeCells (Value.bool false).cells c).toList = List.replicate c (.bool false) from toList_madeCells_one _ _]
    simp [bls]
  rw [e] at h
  exact h
/-- the wanted, as indices -/
theorem wi_ok (wt : List Bool) (n : Nat) (h : wt.length = n) (h2 : n ≤ 200) (hne : Tree.wi wt 0 n ≠ []) : OkI n (ix (Tree.wi wt 0 n)) := by
  have hs := Tree.wi_sorted wt 0 n
  refine ⟨by rw [ix_len]; exact List.length_pos_iff.2 hne, by rw [ix_len]; have := Tree.wi_length wt 0 n; omega, fun j x hx => ?_, fun j x y hx hy => ?_⟩
  · simp only [ix, List.getElem?_map, Option.map_eq_some_iff] at hx
    obtain ⟨i, hi, rfl⟩ := hx
    have := Tree.wi_mem (List.mem_of_getElem? hi)
    omega
  · simp only [ix, List.getElem?_map, Option.map_eq_some_iff] at hx hy
    obtain ⟨i, hi, rfl⟩ := hx
    obtain ⟨k, hk, rfl⟩ := hy
    have h1 := (List.getElem?_eq_some_iff.1 hi)
    have h2 := (List.getElem?_eq_some_iff.1 hk)
    obtain ⟨a1, rfl⟩ := h1
    obtain ⟨a2, rfl⟩ := h2
    have := List.pairwise_iff_getElem.1 hs j (j + 1) a1 a2 (by omega)
    omega
theorem toN_ix (is : List Nat) : toN (ix is) = is := by
  have e : (Int.toNat ∘ fun (i : Nat) => (i : Int)) = id := by funext i; simp
  rw [toN, ix, List.map_map, e, List.map_id]
end Go.Proofs.YtfolaldjdefioaaDoor
