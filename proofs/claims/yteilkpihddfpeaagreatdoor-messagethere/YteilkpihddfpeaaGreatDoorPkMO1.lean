import Derived.Test.YteilkpihddfpeaaGreatDoorPkA2
import Derived.Test.YteilkpihddfpeaaGreatDoorPkMVA3
import Derived.Deep.Slices
import Derived.Deep.SlicePairs
namespace Go.Proofs.YteilkpihddfpeaaGreatDoor
open Go.ChangeShapes Go.WideShapes Go.ChangeAt Go.RowKit Go.Deep
namespace Msg

theorem cellsRp17 : Tryz.prog.cellsOf 26 = 8 := by kernel_rfl
theorem cellsSt17 : Tryz.prog.cellsOf 22 = 1 := by kernel_rfl
theorem cellsSR17 : Tryz.prog.cellsOf 24 = 1 := by kernel_rfl
theorem structRp17 : ∃ f0 f1 f2 f3 f4 f5 f6 f7 : Field, Tryz.prog.underlying 26 = some (.struct #[f0, f1, f2, f3, f4, f5, f6, f7]) ∧ f0.offset = 0 ∧ f1.offset = 1 ∧ f2.offset = 2 ∧ f3.offset = 3 ∧ f4.offset = 4 ∧ f5.offset = 5 ∧ f6.offset = 6 ∧ f7.offset = 7 ∧
    f0.type = 22 ∧ f1.type = 3 ∧ f2.type = 3 ∧ f3.type = 3 ∧ f4.type = 9 ∧ f5.type = 23 ∧ f6.type = 23 ∧ f7.type = 24 :=
  ⟨_, _, _, _, _, _, _, _, Tryz.underlying26, rfl, rfl, rfl, rfl, rfl, rfl, rfl, rfl, rfl, rfl, rfl, rfl, rfl, rfl, rfl, rfl⟩
/-- a reply in its eight cells -/
def Rp8 (W : World) (cs : List Value) (x : Part) (uh ue up : Value) : Prop :=
  cs = [.int .i64 x.status, .int .i64 x.size, .int .i64 x.a, .int .i64 x.b, sv x.root, uh, ue, up] ∧ Slc W uh x.hs ∧ Slc W ue x.ent ∧ PFit x ∧ ∃ p q, up = .slice p x.n q
set_option maxRecDepth 100000 in
set_option maxHeartbeats 1000000 in
theorem open_part17 {W : World} {H : Type} {enc : TypeId × Value → H} {cs : List Value} {y : DataW H × List MemPlace} {fuel : Nat} (h : DataW.trod enc Tryz.prog W 0 (fun _ => true) true fuel 26 cs = some y) :
    ∃ (x : Part) (uh ue up : Value), Rp8 W cs x uh ue up ∧ ∃ k7 y7, DataW.trod enc Tryz.prog W 0 (fun _ => true) true k7 24 [up] = some y7 := by
  obtain ⟨f0, f1, f2, f3, f4, f5, f6, f7, he, o0, o1, o2, o3, o4, o5, o6, o7, t0, t1, t2, t3, t4, t5, t6, t7⟩ := structRp17
  obtain ⟨xs, k', hk', hxy, hcl, hxl, hf⟩ := DataW.trod_struct he h
  rw [cellsRp17] at hcl
  match xs, hxl, cs, hcl with
  | [y0, y1, y2, y3, y4, y5, y6, y7], _, [v0, v1, v2, v3, v4, v5, v6, v7], _ =>
    have g0 := hf 0 f0 rfl
    have g1 := hf 1 f1 rfl
    have g2 := hf 2 f2 rfl
    have g3 := hf 3 f3 rfl
    have g4 := hf 4 f4 rfl
    have g5 := hf 5 f5 rfl
    have g6 := hf 6 f6 rfl
    have g7 := hf 7 f7 rfl
    simp [o0, t0, cellsSt17] at g0
    simp [o1, t1, cellsI] at g1
    simp [o2, t2, cellsI] at g2
    simp [o3, t3, cellsI] at g3
    simp [o4, t4, cellsS] at g4
    simp [o5, t5, cellsSS17] at g5
    simp [o6, t6, cellsSS17] at g6
    simp [o7, t7, cellsSR17] at g7
    obtain ⟨st, hv0, _, _⟩ := DataW.trod_int Tryz.underlying22 g0
    obtain ⟨nz, hv1, _, hw1⟩ := DataW.trod_int Tryz.underlying3 g1
    obtain ⟨na, hv2, _, hw2⟩ := DataW.trod_int Tryz.underlying3 g2
    obtain ⟨nb, hv3, _, _⟩ := DataW.trod_int Tryz.underlying3 g3
    obtain ⟨s, hv4, _, _⟩ := DataW.trod_string Tryz.underlying9 g4
    obtain ⟨hs, q5, q5l⟩ := okq17 g5
    obtain ⟨es, q6, q6l⟩ := okq17 g6
    cases hv0; cases hv1; cases hv2; cases hv3; cases hv4
    have hsh : ∃ p n q, v7 = .slice p n q := by
      rcases open_slice Tryz.underlying24 g7 with ⟨hcs, _⟩ | ⟨a, len, cap, m, k, D, Pl, hcs, _⟩
      · simp only [List.cons.injEq, and_true] at hcs
        exact ⟨_, _, _, hcs⟩
      · simp only [List.cons.injEq, and_true] at hcs
        exact ⟨_, _, _, hcs⟩
    obtain ⟨p7, n7, c7, rfl⟩ := hsh
    exact ⟨⟨st, nz, na, nb, s.data.toList, hs, es, n7⟩, v5, v6, _, ⟨by rw [sv_of], q5, q6, ⟨wf_i64 hw1, wf_i64 hw2, q5l, q6l⟩, ⟨p7, c7, rfl⟩⟩, _, _, g7⟩
set_option maxRecDepth 100000 in
set_option maxHeartbeats 1000000 in
theorem open_parts17 {W : World} {H : Type} {enc : TypeId × Value → H} {up : Value} {y : DataW H × List MemPlace} {fuel : Nat} (h : DataW.trod enc Tryz.prog W 0 (fun _ => true) true fuel 24 [up] = some y) :
    ∃ l, Pq W W.heap.size up l ∧ (∀ x ∈ l, PFit x) ∧ l.length ≤ maxLen := by
  rcases open_slice Tryz.underlying24 h with ⟨hcs, hx⟩ | ⟨a, len, cap, m, k, D, Pl, hcs, _, hl, hm, hmm, hx, hel⟩
  · simp only [List.cons.injEq, and_true] at hcs
    subst hcs
    exact ⟨[], ⟨none, 0, rfl, fun j x hx => by simp at hx⟩, fun x hx => by simp at hx, by simp⟩
  · simp only [List.cons.injEq, and_true] at hcs
    subst hcs
    simp only [if_true] at hmm
    have each : ∀ j, ∃ x : Part, j < len → a.block < W.heap.size ∧ Elq W W.heap.size a j x ∧ PFit x := fun j => by
      by_cases hj : j < len
      · obtain ⟨cs', h1, h2⟩ := hel j (by omega)
        rw [cellsRp17] at h1
        obtain ⟨_, hlen, hcell⟩ := World.cells?_some h1
        obtain ⟨x, uh, ue, up, ⟨hcs, s1, s2, ft, s3⟩, _⟩ := open_part17 h2
        subst hcs
        refine ⟨x, fun _ => ?_⟩
        have e0 := hcell 0 (by omega)
        have e1 := hcell 1 (by omega)
        have e2 := hcell 2 (by omega)
        have e3 := hcell 3 (by omega)
        have e4 := hcell 4 (by omega)
        have e5 := hcell 5 (by omega)
        have e6 := hcell 6 (by omega)
        have e7 := hcell 7 (by omega)
        rw [add_add] at e0 e1 e2 e3 e4 e5 e6 e7
        have hb := block_lt_of_cell e0
        rw [add_block] at hb
        exact ⟨hb, ⟨uh, ue, up, by simpa using e0, by simpa using e1, by simpa using e2, by simpa using e3, by simpa using e4, by simpa using e5, by simpa using e6, by simpa using e7, slc_lw s1, slc_lw s2, s1, s2, s3⟩, ft⟩
      · exact ⟨Part.zero, fun e => absurd e hj⟩
    obtain ⟨g, hg⟩ := Classical.axiomOfChoice each
    have hlen : ((List.range len).map g).length = len := by simp
    refine ⟨(List.range len).map g, ⟨some a, cap, by rw [hlen], fun j x hx => ?_⟩, fun x hx => ?_, by rw [hlen]; omega⟩
    · rw [List.getElem?_map, Option.map_eq_some_iff] at hx
      obtain ⟨i, hi, rfl⟩ := hx
      obtain ⟨hj, e⟩ := List.getElem?_eq_some_iff.1 hi
      rw [List.getElem_range] at e
      subst e
      rw [List.length_range] at hj
      obtain ⟨b1, b2, _⟩ := hg j hj
      exact ⟨a, rfl, b1, b2⟩
    · obtain ⟨i, hi, rfl⟩ := List.mem_map.1 hx
      exact (hg i (List.mem_range.1 hi)).2.2
set_option maxRecDepth 100000 in
set_option maxHeartbeats 1000000 in
/-- a reply among the arguments -/
theorem open_reply17 {H : Type} {enc : TypeId × Value → H} {W : World} {base : Nat} {v : Value} {d : DataW H} {p : List MemPlace}
    (hval : Value.okWide Tryz.prog W .any base 26 v) (hd : DataW.Trod enc Tryz.prog W 0 (fun _ => true) true 26 v d p) :
    ∃ x l uh ue up, v = .agg #[.int .i64 x.status, .int .i64 x.size, .int .i64 x.a, .int .i64 x.b, .string ⟨x.root.toArray⟩, uh, ue, up] ∧ Rq0 W x l uh ue up ∧ l.length ≤ maxLen := by
  obtain ⟨f0, f1, f2, f3, f4, f5, f6, f7, he, _⟩ := structRp17
  obtain ⟨cs, rfl, _⟩ := okWide_struct he hval
  obtain ⟨fuel, hf⟩ := hd
  obtain ⟨x, uh, ue, up, ⟨hcs, s1, s2, ft, s3⟩, k7, y7, h7⟩ := open_part17 hf
  have hcs : cs.toList = _ := hcs
  obtain ⟨l, hp, hft, hl⟩ := open_parts17 h7
  obtain ⟨p3, q3, e3⟩ := id s3
  obtain ⟨p4, q4, e4⟩ := hp.shape
  have hn : x.n = l.length := by
    rw [e3] at e4
    injection e4
  refine ⟨x, l, uh, ue, up, ?_, ⟨⟨slc_lw s1, slc_lw s2, s1, s2, s3⟩, ft, hp, hn, hft⟩, hl⟩
  have : cs = #[.int .i64 x.status, .int .i64 x.size, .int .i64 x.a, .int .i64 x.b, sv x.root, uh, ue, up] := by
    apply Array.toList_inj.1
    exact hcs
  rw [this]
  rfl
end Msg
end Go.Proofs.YteilkpihddfpeaaGreatDoor
