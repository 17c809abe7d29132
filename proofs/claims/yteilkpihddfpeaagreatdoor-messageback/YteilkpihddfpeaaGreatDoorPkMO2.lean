import Derived.Test.YteilkpihddfpeaaGreatDoorPkA2
import Derived.Test.YteilkpihddfpeaaGreatDoorPkMWA1
import Derived.Deep.Slices
import Derived.Deep.SlicePairs
namespace Go.Proofs.YteilkpihddfpeaaGreatDoor
open Go.ChangeShapes Go.WideShapes Go.ChangeAt Go.RowKit Go.Deep
namespace Msg

theorem cellsRq17 : Tryz.prog.cellsOf 40 = 7 := by kernel_rfl
theorem cellsSI17 : Tryz.prog.cellsOf 38 = 1 := by kernel_rfl
theorem cellsSQ17 : Tryz.prog.cellsOf 36 = 1 := by kernel_rfl
theorem structRq17 : ∃ f0 f1 f2 f3 f4 f5 f6 : Field, Tryz.prog.underlying 40 = some (.struct #[f0, f1, f2, f3, f4, f5, f6]) ∧ f0.offset = 0 ∧ f1.offset = 1 ∧ f2.offset = 2 ∧ f3.offset = 3 ∧ f4.offset = 4 ∧ f5.offset = 5 ∧ f6.offset = 6 ∧
    f0.type = 3 ∧ f1.type = 3 ∧ f2.type = 3 ∧ f3.type = 3 ∧ f4.type = 38 ∧ f5.type = 23 ∧ f6.type = 36 :=
  ⟨_, _, _, _, _, _, _, Tryz.underlying40, rfl, rfl, rfl, rfl, rfl, rfl, rfl, rfl, rfl, rfl, rfl, rfl, rfl, rfl⟩
theorem slcI_lw {W : World} {v : Value} {ps : List Int} (h : SlcI W v ps) : Lw W.heap.size v := fun x n c e h0 => by
  obtain ⟨a, cap, rfl, h⟩ := h
  injection e with e1 e2 e3
  have hl : 0 < ps.length := by omega
  obtain ⟨y, hy, hb, _⟩ := h 0 ps[0] (List.getElem?_eq_getElem hl)
  rw [e1] at hy
  injection hy with hy
  subst hy
  exact hb
set_option maxRecDepth 100000 in
theorem okqI17 {W : World} {v : Value} {H : Type} {enc : TypeId × Value → H} {x : DataW H × List MemPlace} {fuel : Nat} (hf : DataW.trod enc Tryz.prog W 0 (fun _ => true) true fuel 38 [v] = some x) :
    ∃ cs, SlcI W v cs ∧ cs.length ≤ maxLen ∧ ∀ c ∈ cs, -9223372036854775808 ≤ c ∧ c ≤ 9223372036854775807 := by
  rcases open_ints Tryz.underlying38 Tryz.underlying3 cellsI hf with ⟨hcs, hx⟩ | ⟨a, len0, cap0, zs, hcs, _, hl, hm, hz, hx, hcell, hwf⟩
  · simp only [List.cons.injEq, and_true] at hcs
    subst hcs
    exact ⟨[], ⟨none, 0, rfl, fun j p hp => by simp at hp⟩, by simp, fun c hc => by simp at hc⟩
  · simp only [List.cons.injEq, and_true] at hcs
    subst hcs
    subst hx
    simp only [if_true] at hz
    refine ⟨zs.take len0, ⟨some a, cap0, by simp; omega, fun j c hc => ?_⟩, ?_, fun c hc => wf_i64 (hwf c (List.mem_of_mem_take hc))⟩
    · rw [List.getElem?_take] at hc
      split at hc
      · have hj := (List.getElem?_eq_some_iff.1 hc).1
        have hc' := hcell j hj
        rw [List.getD_eq_getElem?_getD, hc] at hc'
        refine ⟨a, rfl, ?_, hc'⟩
        have := block_lt_of_cell hc'
        rwa [add_block] at this
      · cases hc
    · simp only [List.length_take]
      omega
/-- a request in its seven cells -/
def Rq7 (W : World) (cs : List Value) (x : Ask) (ul ue ua : Value) : Prop :=
  cs = [.int .i64 x.kind, .int .i64 x.a, .int .i64 x.b, .int .i64 x.size, ul, ue, ua] ∧ SlcI W ul x.list ∧ Slc W ue x.ent ∧ Fit x ∧ ∃ p q, ua = .slice p x.n q
set_option maxRecDepth 100000 in
set_option maxHeartbeats 1000000 in
theorem open_ask17 {W : World} {H : Type} {enc : TypeId × Value → H} {cs : List Value} {y : DataW H × List MemPlace} {fuel : Nat} (h : DataW.trod enc Tryz.prog W 0 (fun _ => true) true fuel 40 cs = some y) :
    ∃ (x : Ask) (ul ue ua : Value), Rq7 W cs x ul ue ua ∧ ∃ k7 y7, DataW.trod enc Tryz.prog W 0 (fun _ => true) true k7 36 [ua] = some y7 := by
  obtain ⟨f0, f1, f2, f3, f4, f5, f6, he, o0, o1, o2, o3, o4, o5, o6, t0, t1, t2, t3, t4, t5, t6⟩ := structRq17
  obtain ⟨xs, k', hk', hxy, hcl, hxl, hf⟩ := DataW.trod_struct he h
  rw [cellsRq17] at hcl
  match xs, hxl, cs, hcl with
  | [y0, y1, y2, y3, y4, y5, y6], _, [v0, v1, v2, v3, v4, v5, v6], _ =>
    have g0 := hf 0 f0 rfl
    have g1 := hf 1 f1 rfl
    have g2 := hf 2 f2 rfl
    have g3 := hf 3 f3 rfl
    have g4 := hf 4 f4 rfl
    have g5 := hf 5 f5 rfl
    have g6 := hf 6 f6 rfl
    simp [o0, t0, cellsI] at g0
    simp [o1, t1, cellsI] at g1
    simp [o2, t2, cellsI] at g2
    simp [o3, t3, cellsI] at g3
    simp [o4, t4, cellsSI17] at g4
    simp [o5, t5, cellsSS17] at g5
    simp [o6, t6, cellsSQ17] at g6
    obtain ⟨nk, hv0, _, hw0⟩ := DataW.trod_int Tryz.underlying3 g0
    obtain ⟨na, hv1, _, hw1⟩ := DataW.trod_int Tryz.underlying3 g1
    obtain ⟨nb, hv2, _, hw2⟩ := DataW.trod_int Tryz.underlying3 g2
    obtain ⟨nz, hv3, _, hw3⟩ := DataW.trod_int Tryz.underlying3 g3
    obtain ⟨ls, q4, q4l, q4b⟩ := okqI17 g4
    obtain ⟨es, q5, q5l⟩ := okq17 g5
    cases hv0; cases hv1; cases hv2; cases hv3
    have hsh : ∃ p n q, v6 = .slice p n q := by
      rcases open_slice Tryz.underlying36 g6 with ⟨hcs, _⟩ | ⟨a, len, cap, m, k, D, Pl, hcs, _⟩
      · simp only [List.cons.injEq, and_true] at hcs
        exact ⟨_, _, _, hcs⟩
      · simp only [List.cons.injEq, and_true] at hcs
        exact ⟨_, _, _, hcs⟩
    obtain ⟨p7, n7, c7, rfl⟩ := hsh
    exact ⟨⟨nk, na, nb, nz, ls, es, n7⟩, v4, v5, _, ⟨rfl, q4, q5, ⟨wf_i64 hw0, wf_i64 hw1, wf_i64 hw2, wf_i64 hw3, q4b, q4l, q5l⟩, ⟨p7, c7, rfl⟩⟩, _, _, g6⟩
set_option maxRecDepth 100000 in
set_option maxHeartbeats 1000000 in
theorem open_asks17 {W : World} {H : Type} {enc : TypeId × Value → H} {ua : Value} {y : DataW H × List MemPlace} {fuel : Nat} (h : DataW.trod enc Tryz.prog W 0 (fun _ => true) true fuel 36 [ua] = some y) :
    ∃ (a : Option Addr) (n cap : Nat), ua = .slice a n cap ∧ n ≤ maxLen ∧ ∀ j, j < n → ∃ (y : Addr) (x : Ask) (ul ue ux : Value), a = some y ∧ y.block < W.heap.size ∧
      (W.cell? (y.add (j * 7)) = some (.int .i64 x.kind) ∧ W.cell? (y.add (j * 7 + 1)) = some (.int .i64 x.a) ∧ W.cell? (y.add (j * 7 + 2)) = some (.int .i64 x.b) ∧ W.cell? (y.add (j * 7 + 3)) = some (.int .i64 x.size) ∧
      W.cell? (y.add (j * 7 + 4)) = some ul ∧ W.cell? (y.add (j * 7 + 5)) = some ue ∧ W.cell? (y.add (j * 7 + 6)) = some ux) ∧ SlcI W ul x.list ∧ Slc W ue x.ent ∧ Fit x ∧ (∃ p q, ux = .slice p x.n q) ∧ ∃ k7 y7, DataW.trod enc Tryz.prog W 0 (fun _ => true) true k7 36 [ux] = some y7 := by
  rcases open_slice Tryz.underlying36 h with ⟨hcs, hx⟩ | ⟨a, len, cap, m, k, D, Pl, hcs, _, hl, hm, hmm, hx, hel⟩
  · simp only [List.cons.injEq, and_true] at hcs
    subst hcs
    exact ⟨none, 0, 0, rfl, by simp, fun j hj => by omega⟩
  · simp only [List.cons.injEq, and_true] at hcs
    subst hcs
    simp only [if_true] at hmm
    refine ⟨some a, len, cap, rfl, by omega, fun j hj => ?_⟩
    obtain ⟨cs', h1, h2⟩ := hel j (by omega)
    rw [cellsRq17] at h1
    obtain ⟨_, hlen, hcell⟩ := World.cells?_some h1
    obtain ⟨x, ul, ue, ux, ⟨hcs, s1, s2, ft, s3⟩, k7⟩ := open_ask17 h2
    subst hcs
    have e0 := hcell 0 (by omega)
    have e1 := hcell 1 (by omega)
    have e2 := hcell 2 (by omega)
    have e3 := hcell 3 (by omega)
    have e4 := hcell 4 (by omega)
    have e5 := hcell 5 (by omega)
    have e6 := hcell 6 (by omega)
    rw [add_add] at e0 e1 e2 e3 e4 e5 e6
    have hb := block_lt_of_cell e0
    rw [add_block] at hb
    exact ⟨a, x, ul, ue, ux, rfl, hb, ⟨by simpa using e0, by simpa using e1, by simpa using e2, by simpa using e3, by simpa using e4, by simpa using e5, by simpa using e6⟩, s1, s2, ft, s3, k7⟩
/-- what a request asks -/
theorem open_aq17 {W : World} {H : Type} {enc : TypeId × Value → H} {ua : Value} {y : DataW H × List MemPlace} {fuel : Nat} (h : DataW.trod enc Tryz.prog W 0 (fun _ => true) true fuel 36 [ua] = some y) :
    ∃ l, Aq W W.heap.size ua l ∧ (∀ x ∈ l, Fit x) ∧ l.length ≤ maxLen := by
  obtain ⟨a, n, cap, rfl, hn, hel⟩ := open_asks17 h
  have each : ∀ j, ∃ x : Ask, j < n → (∃ y : Addr, a = some y ∧ y.block < W.heap.size ∧ Elr W W.heap.size y j x) ∧ Fit x := fun j => by
    by_cases hj : j < n
    · obtain ⟨y, x, ul, ue, ux, e, hb, ⟨c0, c1, c2, c3, c4, c5, c6⟩, s1, s2, ft, s3, _⟩ := hel j hj
      exact ⟨x, fun _ => ⟨⟨y, e, hb, ul, ue, ux, c0, c1, c2, c3, c4, c5, c6, slcI_lw s1, slc_lw s2, s1, s2, s3⟩, ft⟩⟩
    · exact ⟨Ask.zero, fun e => absurd e hj⟩
  obtain ⟨g, hg⟩ := Classical.axiomOfChoice each
  have hlen : ((List.range n).map g).length = n := by simp
  refine ⟨(List.range n).map g, ⟨a, cap, by rw [hlen], fun j x hx => ?_⟩, fun x hx => ?_, by rw [hlen]; exact hn⟩
  · rw [List.getElem?_map, Option.map_eq_some_iff] at hx
    obtain ⟨i, hi, rfl⟩ := hx
    obtain ⟨hj, e⟩ := List.getElem?_eq_some_iff.1 hi
    rw [List.getElem_range] at e
    subst e
    rw [List.length_range] at hj
    exact (hg j hj).1
  · obtain ⟨i, hi, rfl⟩ := List.mem_map.1 hx
    exact (hg i (List.mem_range.1 hi)).2
set_option maxRecDepth 100000 in
/-- a list of requests among the arguments -/
theorem open_reqs17 {H : Type} {enc : TypeId × Value → H} {W : World} {base : Nat} {v : Value} {d : DataW H} {p : List MemPlace}
    (hval : Value.okWide Tryz.prog W .any base 36 v) (hd : DataW.Trod enc Tryz.prog W 0 (fun _ => true) true 36 v d p) :
    ∃ L, Lq W v L ∧ L.length ≤ maxLen := by
  obtain ⟨a0, len0, cap0, rfl⟩ := okWide_slice Tryz.underlying36 hval
  obtain ⟨fuel, hf⟩ := hd
  obtain ⟨a, n, cap, e, hn, hel⟩ := open_asks17 (ua := .slice a0 len0 cap0) hf
  have each : ∀ j, ∃ q : Ask × List Ask, j < n → ∃ (y : Addr) (ul ue ua : Value), a = some y ∧ y.block < W.heap.size ∧
    W.cell? (y.add (j * 7)) = some (.int .i64 q.1.kind) ∧ W.cell? (y.add (j * 7 + 1)) = some (.int .i64 q.1.a) ∧ W.cell? (y.add (j * 7 + 2)) = some (.int .i64 q.1.b) ∧ W.cell? (y.add (j * 7 + 3)) = some (.int .i64 q.1.size) ∧
    W.cell? (y.add (j * 7 + 4)) = some ul ∧ W.cell? (y.add (j * 7 + 5)) = some ue ∧ W.cell? (y.add (j * 7 + 6)) = some ua ∧ Ra0 W q.1 q.2 ul ue ua ∧ q.2.length ≤ maxLen := fun j => by
    by_cases hj : j < n
    · obtain ⟨y, x, ul, ue, ux, e, hb, ⟨c0, c1, c2, c3, c4, c5, c6⟩, s1, s2, ft, s3, k7, y7, h7⟩ := hel j hj
      obtain ⟨l, hp, hft, hl⟩ := open_aq17 h7
      obtain ⟨p3, q3, e3⟩ := id s3
      obtain ⟨p4, q4, e4⟩ := hp.shape
      have hn : x.n = l.length := by
        rw [e3] at e4
        injection e4
      exact ⟨(x, l), fun _ => ⟨y, ul, ue, ux, e, hb, c0, c1, c2, c3, c4, c5, c6, ⟨⟨slcI_lw s1, slc_lw s2, s1, s2, s3⟩, ft, hp, hn, hft⟩, hl⟩⟩
    · exact ⟨(Ask.zero, []), fun e => absurd e hj⟩
  obtain ⟨g, hg⟩ := Classical.axiomOfChoice each
  have hlen : ((List.range n).map g).length = n := by simp
  refine ⟨(List.range n).map g, ⟨a, cap, by rw [hlen]; exact e, fun j x hx => ?_⟩, by rw [hlen]; exact hn⟩
  rw [List.getElem?_map, Option.map_eq_some_iff] at hx
  obtain ⟨i, hi, rfl⟩ := hx
  obtain ⟨hj, e⟩ := List.getElem?_eq_some_iff.1 hi
  rw [List.getElem_range] at e
  subst e
  rw [List.length_range] at hj
  exact hg j hj
end Msg
end Go.Proofs.YteilkpihddfpeaaGreatDoor
