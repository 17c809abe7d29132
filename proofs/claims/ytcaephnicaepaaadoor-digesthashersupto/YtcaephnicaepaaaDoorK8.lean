import Derived.Test.YtcaephnicaepaaaDoorK7
import Derived.Test.YtcaephnicaepaaaDoorH2
import Derived.Deep.SlicePairs
namespace Go.Proofs.YtcaephnicaepaaaDoor
open Go.ChangeShapes Go.WideShapes Go.ChangeAt Go.RowKit Go.Deep

theorem bulk_mem {H : Type} {d : DataW H} : ∀ {l : List (DataW H)}, d ∈ l → Rows.uptoBulk d ≤ Rows.uptoBulkAll l
  | [], h => by cases h
  | e :: r, h => by
    rw [Rows.uptoBulkAll]
    rcases List.mem_cons.1 h with rfl | h
    · omega
    · have := bulk_mem h; omega
theorem bulk_len {H : Type} : ∀ (l : List (DataW H)), l.length ≤ Rows.uptoBulkAll l
  | [] => by simp
  | e :: r => by
    rw [Rows.uptoBulkAll, List.length_cons]
    have := bulk_len r
    have := bulk_one e
    omega
theorem cellsOp : Tryd.prog.cellsOf 44 = 3 := by kernel_rfl
theorem structOp : ∃ f0 f1 f2 : Field, Tryd.prog.underlying 44 = some (.struct #[f0, f1, f2]) ∧ f0.offset = 0 ∧ f1.offset = 1 ∧ f2.offset = 2 ∧ f0.type = 3 ∧ f1.type = 3 ∧ f2.type = 9 :=
  ⟨_, _, _, Tryd.underlying44, rfl, rfl, rfl, rfl, rfl, rfl⟩
/-- a slice of steps among the arguments -/
theorem open_slcO {H : Type} {enc : TypeId × Value → H} {W : World} {base : Nat} {v : Value} {d : DataW H} {p : List MemPlace}
    (hval : Value.okWide Tryd.prog W .any base 41 v) (hd : DataW.Trod enc Tryd.prog W 0 (fun _ => true) true 41 v d p) (hk : Rows.uptoBulk d ≤ 1048576) :
    ∃ n, SlcO W v n ∧ n ≤ 1048576 := by
  obtain ⟨a0, len0, cap0, rfl⟩ := okWide_slice Tryd.underlying41 hval
  obtain ⟨fuel, hf⟩ := hd
  rcases open_slice Tryd.underlying41 hf with ⟨hcs, hx⟩ | ⟨a, len, cap, m, k, D, Pl, hcs, _, hl, hm, hmm, hx, hel⟩
  · simp [Value.cells] at hcs
    obtain ⟨rfl, rfl, rfl⟩ := hcs
    exact ⟨0, ⟨none, 0, rfl, fun j hj => by omega⟩, by omega⟩
  · simp [Value.cells] at hcs
    obtain ⟨rfl, rfl, rfl⟩ := hcs
    simp only [Prod.mk.injEq] at hx
    obtain ⟨rfl, _⟩ := hx
    simp only [if_true] at hmm
    have hb1 : Rows.uptoBulkAll ((List.range len0).map D) ≤ 1048576 := by rw [Rows.uptoBulk] at hk; omega
    have hb2 := bulk_len ((List.range len0).map D)
    rw [List.length_map, List.length_range] at hb2
    refine ⟨len0, ⟨some a, cap0, rfl, fun j hj => ?_⟩, by omega⟩
    obtain ⟨cs', h1, h2⟩ := hel j (by omega)
    have hD : Rows.uptoBulk (D j) ≤ 1048576 := Nat.le_trans (bulk_mem (List.mem_map.2 ⟨j, List.mem_range.2 hj, rfl⟩)) hb1
    rw [cellsOp] at h1
    obtain ⟨_, hlen, hcell⟩ := World.cells?_some h1
    obtain ⟨f0, f1, f2, he, o0, o1, o2, t0, t1, t2⟩ := structOp
    obtain ⟨xs, k', hk', hxy, _, hxl, hf⟩ := DataW.trod_struct he h2
    match xs, hxl, cs', hlen with
    | [y0, y1, y2], _, [v0, v1, v2], _ =>
      have g0 := hf 0 f0 rfl
      have g1 := hf 1 f1 rfl
      have g2 := hf 2 f2 rfl
      simp [o0, o1, o2, t0, t1, t2, cellsI, cellsS] at g0 g1 g2
      have e0 := hcell 0 (by omega)
      have e1 := hcell 1 (by omega)
      have e2 := hcell 2 (by omega)
      rw [add_add] at e0 e1 e2
      obtain ⟨kd, hv0, _, _⟩ := DataW.trod_int Tryd.underlying3 g0
      obtain ⟨on, hv1, _, hw1⟩ := DataW.trod_int Tryd.underlying3 g1
      obtain ⟨s, hv2, hy2, _⟩ := DataW.trod_string Tryd.underlying9 g2
      cases hv0; cases hv1; cases hv2
      have hDj : D j = .agg [y0.1, y1.1, y2.1] := by simpa using (Prod.mk.inj hxy).1
      have hs : s.size ≤ 1048576 := by
        rw [hDj, hy2] at hD
        simp only [Rows.uptoBulk, Rows.uptoBulkAll, data_length] at hD
        omega
      have hb := block_lt_of_cell e0
      rw [add_block] at hb
      exact ⟨a, kd, on, s, rfl, hb, by simpa using e0, by simpa using e1, by simpa using e2, (wf_i64 hw1).1, (wf_i64 hw1).2, hs⟩
end Go.Proofs.YtcaephnicaepaaaDoor
