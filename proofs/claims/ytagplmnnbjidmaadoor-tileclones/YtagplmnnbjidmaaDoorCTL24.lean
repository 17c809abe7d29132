import Derived.Test.YtagplmnnbjidmaaDoorCTL23
namespace Go.Proofs.YtagplmnnbjidmaaDoor
open Go.RowKit
theorem sizeSpn : (Tryd.prog.info? 47).map (·.size) = some 2 := by kernel_rfl
set_option maxRecDepth 100000 in
set_option maxHeartbeats 2000000 in
/-- of raw numbers a span that there is -/
theorem lspan_any (n m : Int) (s : Nat) (hs : s ≤ 1099511627776) (hn : -9223372036854775808 ≤ n ∧ n ≤ 9223372036854775807) (hm : -9223372036854775808 ≤ m ∧ m ≤ 9223372036854775807) (w : World) :
    Calls Tryd.prog 22 #[.int .i64 n, .int .i64 m, .int .i64 (s : Int)] w fun r w' => ∃ b e : Nat, r = .returned (.agg #[.int .i64 (b : Int), .int .i64 (e : Int)]) ∧ b ≤ e ∧ e ≤ s ∧ Below w.heap.size w w' := by
  obtain ⟨w1, hw1⟩ : ∃ w1, w.alloc (.cells #[Value.int .i64 0, .int .i64 0] 47) = w1 := ⟨_, rfl⟩
  have b1 := (Below.refl w.heap.size w).alloc (Nat.le_refl _) (.cells #[Value.int .i64 0, .int .i64 0] 47)
  have r1 := heap_alloc_new w (.cells #[Value.int .i64 0, .int .i64 0] 47)
  rw [hw1] at b1 r1
  have c0 : w1.cell? ⟨w.heap.size, 0, none⟩ = some (.int .i64 0) := by rw [cell_of_row _ _ _ _ _ _ r1]; rfl
  have c1 : w1.cell? ⟨w.heap.size, 1, none⟩ = some (.int .i64 0) := by rw [cell_of_row _ _ _ _ _ _ r1]; rfl
  have f0 : w1.frozen? ⟨w.heap.size, 0, none⟩ = false := frozen_of_row w1 _ _ _ _ r1
  have f1 : w1.frozen? ⟨w.heap.size, 1, none⟩ = false := frozen_of_row w1 _ _ _ _ r1
  have p0 := pk_nonneg n ((s : Int) + 1) (by omega)
  have p1 := pk_lt n ((s : Int) + 1) (by omega)
  obtain ⟨b, hb⟩ : ∃ b : Nat, pk n ((s : Int) + 1) = (b : Int) := ⟨(pk n ((s : Int) + 1)).toNat, by omega⟩
  have i1 := pick_any n ((s : Int) + 1) hn.1 hn.2 (by omega) (by omega) w1
  rw [hb] at i1 p0 p1
  have s1 : IntKind.i64.wrap ((s : Int) + 1) = (s : Int) + 1 := wrap_small _ (by omega) (by omega)
  obtain ⟨d, hd⟩ : ∃ d : Nat, (s : Int) - (b : Int) = (d : Int) := ⟨s - b, by omega⟩
  have s2 : IntKind.i64.wrap ((s : Int) - (b : Int)) = (d : Int) := by rw [wrap_small _ (by omega) (by omega)]; exact hd
  have s3 : IntKind.i64.wrap ((d : Int) + 1) = (d : Int) + 1 := wrap_small _ (by omega) (by omega)
  have p2 := pk_nonneg m ((d : Int) + 1) (by omega)
  have p3 := pk_lt m ((d : Int) + 1) (by omega)
  obtain ⟨e, he⟩ : ∃ e : Nat, (b : Int) + pk m ((d : Int) + 1) = (e : Int) := ⟨((b : Int) + pk m ((d : Int) + 1)).toNat, by omega⟩
  have i2 := pick_any m ((d : Int) + 1) hm.1 hm.2 (by omega) (by omega) w1
  have s4 : IntKind.i64.wrap ((b : Int) + pk m ((d : Int) + 1)) = (e : Int) := by rw [wrap_small _ (by omega) (by omega)]; exact he
  have hbe : b ≤ e := by omega
  have hes : e ≤ s := by omega
  generalize pk m ((d : Int) + 1) = pe at *
  have R9 : Hid (((w1.setCell ⟨w.heap.size, 0, none⟩ (.int .i64 (b : Int))).setCell ⟨w.heap.size, 1, none⟩ (.int .i64 (e : Int))).heap[w.heap.size]? = some (.cells #[.int .i64 (b : Int), .int .i64 (e : Int)] 47 (0, 0))) := by
    have h1 := heap_setCell_same w1 w.heap.size 0 _ _ (.int .i64 (b : Int)) r1
    exact heap_setCell_same _ w.heap.size 1 _ _ (.int .i64 (e : Int)) h1
  have B9 := hid ((b1.setCell (p := ⟨w.heap.size, 0, none⟩) (Nat.le_refl _) (.int .i64 (b : Int))).setCell (p := ⟨w.heap.size, 1, none⟩) (Nat.le_refl _) (.int .i64 (e : Int)))
  clear hb hd he p0 p1 p2 p3 r1 b1 hs
  go_enter Tryd.func22, Tryd.ntmps22
  go_wp2_with (first
    | (go_at_call 28; (with_reducible refine i1.mono ?_); rintro r w0 ⟨rfl, h0⟩; have h0 := h0.symm; subst h0)
    | (go_at_call 28; (with_reducible refine i2.mono ?_); rintro r w0 ⟨rfl, h0⟩; have h0 := h0.symm; subst h0))
  refine bodyPost_ret (results_cell_row rfl _ _ w.heap.size 47 _ (0, 0) _ rfl R9.out Tryd.underlying47 rfl sizeSpn) rfl ?_
  exact ⟨b, e, rfl, hbe, hes, B9.out⟩
end Go.Proofs.YtagplmnnbjidmaaDoor
