import Derived.Test.YtonmhimoglgbgaaDoorA2
import Derived.Deep.SlicePairs
namespace Go.Proofs.YtonmhimoglgbgaaDoor
open Go.RowKit
structure OpOkR (W : World) (n : Int) (s : ByteArray) (lv tv : Value) : Prop where
  n1 : -9223372036854775808 ≤ n
  n2 : n ≤ 9223372036854775807
  hs : s.size ≤ 1048576
  hl : ∃ l, SlcI W lv l ∧ (∀ c ∈ l, -9223372036854775808 ≤ c ∧ c ≤ 9223372036854775807) ∧ l.length ≤ 1048576
  ht : ∃ ps, Slc W tv ps ∧ ps.length ≤ 1048576 ∧ total ps ≤ 1048576
/-- a list of steps, wherever it lies -/
def SlcR (w : World) (v : Value) (n : Nat) : Prop :=
  ∃ (a : Option Addr) (cap : Nat), v = .slice a n cap ∧ ∀ j, j < n → ∃ (x : Addr) (o kp : Bool) (kd nn mm : Int) (s : ByteArray) (lv tv : Value), a = some x ∧ x.block < w.heap.size ∧ w.cell? (x.add (j * 8)) = some (.bool o) ∧ w.cell? (x.add (j * 8 + 1)) = some (.bool kp) ∧ w.cell? (x.add (j * 8 + 2)) = some (.int .i64 kd) ∧
    w.cell? (x.add (j * 8 + 3)) = some (.int .i64 nn) ∧ w.cell? (x.add (j * 8 + 4)) = some (.int .i64 mm) ∧ w.cell? (x.add (j * 8 + 5)) = some (.string s) ∧ w.cell? (x.add (j * 8 + 6)) = some lv ∧ w.cell? (x.add (j * 8 + 7)) = some tv ∧ OpOkR w nn s lv tv
theorem sl_of {w : World} {v : Value} {l : List Int} (h : SlcI w v l) : ∃ a n c, v = .slice a n c := by
  obtain ⟨a, c, h, _⟩ := h; exact ⟨a, _, c, h⟩
theorem slT_of {w : World} {v : Value} {l : List (List UInt8)} (h : Slc w v l) : ∃ a n c, v = .slice a n c := by
  obtain ⟨a, c, h, _⟩ := h; exact ⟨a, _, c, h⟩
end Go.Proofs.YtonmhimoglgbgaaDoor
namespace Go.Proofs.YtonmhimoglgbgaaDoor
open Go.ChangeShapes Go.WideShapes Go.ChangeAt Go.RowKit Go.Deep

theorem cellsOp : Tryd.prog.cellsOf 48 = 8 := by kernel_rfl
theorem cellsB : Tryd.prog.cellsOf 4 = 1 := by kernel_rfl
theorem cellsSI : Tryd.prog.cellsOf 45 = 1 := by kernel_rfl
theorem cellsSS : Tryd.prog.cellsOf 46 = 1 := by kernel_rfl
theorem structOp : ∃ f0 f1 f2 f3 f4 f5 f6 f7 : Field, Tryd.prog.underlying 48 = some (.struct #[f0, f1, f2, f3, f4, f5, f6, f7]) ∧ f0.offset = 0 ∧ f1.offset = 1 ∧ f2.offset = 2 ∧ f3.offset = 3 ∧ f4.offset = 4 ∧ f5.offset = 5 ∧ f6.offset = 6 ∧ f7.offset = 7 ∧
    f0.type = 4 ∧ f1.type = 4 ∧ f2.type = 3 ∧ f3.type = 3 ∧ f4.type = 3 ∧ f5.type = 9 ∧ f6.type = 45 ∧ f7.type = 46 :=
  ⟨_, _, _, _, _, _, _, _, Tryd.underlying48, rfl, rfl, rfl, rfl, rfl, rfl, rfl, rfl, rfl, rfl, rfl, rfl, rfl, rfl, rfl, rfl⟩
theorem okw_any {W : World} {v : Value} {H : Type} {enc : TypeId × Value → H} {x : DataW H × List MemPlace} {fuel : Nat} (hf : DataW.trod enc Tryd.prog W 0 (fun _ => true) true fuel 46 [v] = some x) : ∃ ps, Slc W v ps ∧ total ps + ps.length ≤ Rows.uptoBulk x.1 := by
  rcases open_strings Tryd.underlying46 Tryd.underlying9 cellsS hf with ⟨hcs, hx⟩ | ⟨a, len0, cap0, ss, hcs, _, hl, hm, hz, hx, hcell, hsz⟩
  · simp only [List.cons.injEq, and_true] at hcs
    subst hcs
    exact ⟨[], ⟨none, 0, rfl, fun j p hp => by simp at hp⟩, by simp [total]⟩
  · simp only [List.cons.injEq, and_true] at hcs
    subst hcs
    subst hx
    simp only [if_true] at hz
    refine ⟨(ss.take len0).map (·.data.toList), ⟨some a, cap0, by simp; omega, fun j p hp => ?_⟩, ?_⟩
    · rw [List.getElem?_map, Option.map_eq_some_iff] at hp
      obtain ⟨s, hs, rfl⟩ := hp
      rw [List.getElem?_take] at hs
      split at hs
      · have hj := (List.getElem?_eq_some_iff.1 hs).1
        have hc := hcell j hj
        rw [List.getD_eq_getElem?_getD, hs] at hc
        refine ⟨a, rfl, ?_, hc⟩
        have := block_lt_of_cell hc
        rwa [add_block] at this
      · cases hs
    · have h1 := bulk_strs (H := H) (ss.take len0)
      simp only [Rows.uptoBulk, List.length_map]
      omega
theorem okw_ints {W : World} {v : Value} {H : Type} {enc : TypeId × Value → H} {x : DataW H × List MemPlace} {fuel : Nat} (hf : DataW.trod enc Tryd.prog W 0 (fun _ => true) true fuel 45 [v] = some x) :
    ∃ cs, SlcI W v cs ∧ cs.length ≤ Rows.uptoBulk x.1 ∧ ∀ c ∈ cs, -9223372036854775808 ≤ c ∧ c ≤ 9223372036854775807 := by
  rcases open_ints Tryd.underlying45 Tryd.underlying3 cellsI hf with ⟨hcs, hx⟩ | ⟨a, len0, cap0, zs, hcs, _, hl, hm, hz, hx, hcell, hwf⟩
  · simp only [List.cons.injEq, and_true] at hcs
    subst hcs
    exact ⟨[], ⟨none, 0, rfl, fun j p hp => by simp at hp⟩, by simp, fun c hc => by simp at hc⟩
  · simp only [List.cons.injEq, and_true] at hcs
    subst hcs
    subst hx
    simp only [if_true] at hz
    refine ⟨zs.take len0, ⟨some a, cap0, by simp; omega, fun j c hc => ?_⟩, ?_, fun c hc => wf_i64 (hwf c (List.mem_of_mem_take hc))⟩
    · rw [List.getElem?_take] at hc
      split at hc
      · have hj := (List.getElem?_eq_some_iff.1 hc).1
        have hc' := hcell j hj
        rw [List.getD_eq_getElem?_getD, hc] at hc'
        refine ⟨a, rfl, ?_, hc'⟩
        have := block_lt_of_cell hc'
        rwa [add_block] at this
      · cases hc
    · have h1 := bulk_lits (H := H) .i64 (zs.take len0)
      simp only [Rows.uptoBulk]
      omega
set_option maxRecDepth 100000 in
theorem open_slcR {H : Type} {enc : TypeId × Value → H} {W : World} {base : Nat} {v : Value} {d : DataW H} {p : List MemPlace}
    (hval : Value.okWide Tryd.prog W .any base 22 v) (hd : DataW.Trod enc Tryd.prog W 0 (fun _ => true) true 22 v d p) (hk : Rows.uptoBulk d ≤ 1048576) :
    ∃ n, SlcR W v n ∧ n ≤ 1048576 := by
  obtain ⟨a0, len0, cap0, rfl⟩ := okWide_slice Tryd.underlying22 hval
  obtain ⟨fuel, hf⟩ := hd
  rcases open_slice Tryd.underlying22 hf with ⟨hcs, hx⟩ | ⟨a, len, cap, m, k, D, Pl, hcs, _, hl, hm, hmm, hx, hel⟩
  · simp [Value.cells] at hcs
    obtain ⟨rfl, rfl, rfl⟩ := hcs
    exact ⟨0, ⟨none, 0, rfl, fun j hj => by omega⟩, by omega⟩
  · simp [Value.cells] at hcs
    obtain ⟨rfl, rfl, rfl⟩ := hcs
    simp only [Prod.mk.injEq] at hx
    obtain ⟨rfl, _⟩ := hx
    simp only [if_true] at hmm
    have hb1 : Rows.uptoBulkAll ((List.range len0).map D) ≤ 1048576 := by rw [Rows.uptoBulk] at hk; omega
    have hb2 := bulk_len ((List.range len0).map D)
    rw [List.length_map, List.length_range] at hb2
    refine ⟨len0, ⟨some a, cap0, rfl, fun j hj => ?_⟩, by omega⟩
    obtain ⟨cs', h1, h2⟩ := hel j (by omega)
    have hD : Rows.uptoBulk (D j) ≤ 1048576 := Nat.le_trans (bulk_mem (List.mem_map.2 ⟨j, List.mem_range.2 hj, rfl⟩)) hb1
    rw [cellsOp] at h1
    obtain ⟨_, hlen, hcell⟩ := World.cells?_some h1
    obtain ⟨f0, f1, f2, f3, f4, f5, f6, f7, he, o0, o1, o2, o3, o4, o5, o6, o7, t0, t1, t2, t3, t4, t5, t6, t7⟩ := structOp
    obtain ⟨xs, k', hk', hxy, _, hxl, hf⟩ := DataW.trod_struct he h2
    match xs, hxl, cs', hlen with
    | [y0, y1, y2, y3, y4, y5, y6, y7], _, [v0, v1, v2, v3, v4, v5, v6, v7], _ =>
      have g0 := hf 0 f0 rfl
      have g1 := hf 1 f1 rfl
      have g2 := hf 2 f2 rfl
      have g3 := hf 3 f3 rfl
      have g4 := hf 4 f4 rfl
      have g5 := hf 5 f5 rfl
      have g6 := hf 6 f6 rfl
      have g7 := hf 7 f7 rfl
      simp [o0, t0, cellsB] at g0
      simp [o1, t1, cellsB] at g1
      simp [o2, t2, cellsI] at g2
      simp [o3, t3, cellsI] at g3
      simp [o4, t4, cellsI] at g4
      simp [o5, t5, cellsS] at g5
      simp [o6, t6, cellsSI] at g6
      simp [o7, t7, cellsSS] at g7
      have e0 := hcell 0 (by omega)
      have e1 := hcell 1 (by omega)
      have e2 := hcell 2 (by omega)
      have e3 := hcell 3 (by omega)
      have e4 := hcell 4 (by omega)
      have e5 := hcell 5 (by omega)
      have e6 := hcell 6 (by omega)
      have e7 := hcell 7 (by omega)
      rw [add_add] at e0 e1 e2 e3 e4 e5 e6 e7
      obtain ⟨b0, hv0, _⟩ := DataW.trod_bool Tryd.underlying4 g0
      obtain ⟨b1, hv1, _⟩ := DataW.trod_bool Tryd.underlying4 g1
      obtain ⟨kd, hv2, _, _⟩ := DataW.trod_int Tryd.underlying3 g2
      obtain ⟨nn, hv3, _, hw3⟩ := DataW.trod_int Tryd.underlying3 g3
      obtain ⟨mm, hv4, _, hw4⟩ := DataW.trod_int Tryd.underlying3 g4
      obtain ⟨s, hv5, hy5, _⟩ := DataW.trod_string Tryd.underlying9 g5
      obtain ⟨l, hl6, hl6b, hl6c⟩ := okw_ints g6
      obtain ⟨ps, hp7, hp7b⟩ := okw_any g7
      cases hv0; cases hv1; cases hv2; cases hv3; cases hv4; cases hv5
      have hDj : D j = .agg [y0.1, y1.1, y2.1, y3.1, y4.1, y5.1, y6.1, y7.1] := by simpa using (Prod.mk.inj hxy).1
      have hs : s.size ≤ 1048576 ∧ Rows.uptoBulk y6.1 ≤ 1048576 ∧ Rows.uptoBulk y7.1 ≤ 1048576 := by
        rw [hDj, hy5] at hD
        simp only [Rows.uptoBulk, Rows.uptoBulkAll, data_length] at hD
        omega
      have hb := block_lt_of_cell e0
      rw [add_block] at hb
      exact ⟨a, b0, b1, kd, nn, mm, s, v6, v7, rfl, hb, by simpa using e0, by simpa using e1, by simpa using e2, by simpa using e3, by simpa using e4, by simpa using e5, by simpa using e6, by simpa using e7,
        ⟨(wf_i64 hw3).1, (wf_i64 hw3).2, hs.1, ⟨l, hl6, hl6c, by omega⟩, ⟨ps, hp7, by omega, by omega⟩⟩⟩
end Go.Proofs.YtonmhimoglgbgaaDoor
