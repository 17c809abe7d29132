import Derived.Test.YticjokhfjkebpaaGreatDoorPkO36
import Derived.Test.YticjokhfjkebpaaGreatDoorPkO15
import Derived.Test.YticjokhfjkebpaaGreatDoorPkPP3
import Derived.Lib.SmallJoins
/- Layer 14: spans and runs among the arguments -/
namespace Go.Proofs.YticjokhfjkebpaaGreatDoor
open Go.ChangeShapes Go.WideShapes Go.ChangeAt Go.RowKit
namespace Spn
theorem cellsSp14 : Tryz.prog.cellsOf 35 = 2 := by kernel_rfl
theorem cellsRn14 : Tryz.prog.cellsOf 30 = 4 := by kernel_rfl
set_option maxRecDepth 100000 in
theorem open_span14 {H : Type} {enc : TypeId × Value → H} {W : World} {base : Nat} {v : Value} {d : DataW H} {p : List MemPlace}
    (hval : Value.okWide Tryz.prog W .any base 35 v) (hd : DataW.Trod enc Tryz.prog W 0 (fun _ => true) true 35 v d p) :
    ∃ b e : Int, v = .agg #[.int .i64 b, .int .i64 e] := by
  obtain ⟨v0, v1, y0, y1, n, rfl, _, _, h0, h1⟩ := Joins.open_agg2 Tryz.underlying35 (by kernel_rfl) cellsSp14 hval hd
  obtain ⟨b, hb, _, _⟩ := DataW.trod_int Tryz.underlying3 h0
  obtain ⟨e, he, _, _⟩ := DataW.trod_int Tryz.underlying3 h1
  simp only [List.cons.injEq, and_true] at hb he
  exact ⟨b, e, by rw [hb, he]⟩
set_option maxRecDepth 100000 in
/-- a slice of texts within a struct -/
theorem okr_texts14 {W : World} {v : Value} {H : Type} {enc : TypeId × Value → H} {x : DataW H × List MemPlace} {fuel : Nat} (hf : DataW.trod enc Tryz.prog W 0 (fun _ => true) true fuel 24 [v] = some x) (hk : ∀ y ∈ DataW.weights Tryz.prog 24 x.1, y ≤ reachBytes) :
    ∃ a l cap, v = .slice a l.length cap ∧ At W a l ∧ l.length ≤ cap ∧ cap ≤ 9223372036854775807 ∧ l.length ≤ 8796093021952 := by
  rcases open_strings Tryz.underlying24 Tryz.underlying9 cellsS hf with ⟨hcs, hx⟩ | ⟨a, len0, cap0, ss, hcs, _, hl, hm, hz, hx, hcell, hsz⟩
  · simp only [List.cons.injEq, and_true] at hcs
    subst hcs
    exact ⟨none, [], 0, rfl, At.nil _ _, by simp, by omega, by simp⟩
  · simp only [List.cons.injEq, and_true] at hcs
    subst hcs
    subst hx
    simp only [if_true] at hz
    have hlen : ((ss.take len0).map (·.data.toList)).length = len0 := by simp; omega
    have hw : cap0 * 16 ≤ reachBytes := by
      refine hk _ ?_
      rw [DataW.weights, Tryz.underlying24]
      simp only [bytesS]
      have e : (strs (H := H) (ss.take len0)).length + (strs (H := H) (ss.drop len0)).length = cap0 := by simp [strs]; omega
      rw [e]
      exact List.mem_cons_self
    have hr : reachBytes = 140737488351232 := rfl
    refine ⟨some a, (ss.take len0).map (·.data.toList), cap0, by rw [hlen], fun j p hp => ?_, by omega, hm, by omega⟩
    rw [List.getElem?_map, Option.map_eq_some_iff] at hp
    obtain ⟨s, hs, rfl⟩ := hp
    rw [List.getElem?_take] at hs
    split at hs
    · have hj := (List.getElem?_eq_some_iff.1 hs).1
      have hc := hcell j hj
      rw [List.getD_eq_getElem?_getD, hs] at hc
      refine ⟨a, rfl, ?_, hc⟩
      have := block_lt_of_cell hc
      rwa [addr_block] at this
    · cases hs
set_option maxRecDepth 100000 in
/-- a run among the arguments -/
theorem open_run14 {H : Type} {enc : TypeId × Value → H} {W : World} {base : Nat} {v : Value} {d : DataW H} {p : List MemPlace}
    (hval : Value.okWide Tryz.prog W .any base 30 v) (hd : DataW.Trod enc Tryz.prog W 0 (fun _ => true) true 30 v d p) (hk : ∀ x ∈ DataW.weights Tryz.prog 30 d, x ≤ reachBytes) :
    ∃ n b e a l cap, v = rn n b e (.slice a l.length cap) ∧ At W a l ∧ l.length ≤ cap ∧ cap ≤ 9223372036854775807 ∧ l.length ≤ 8796093021952 := by
  obtain ⟨v0, v1, v2, v3, y0, y1, y2, y3, n, rfl, rfl, _, h0, h1, h2, h3⟩ := Joins.open_agg4 Tryz.underlying30 (by kernel_rfl) cellsRn14 hval hd
  obtain ⟨z, hz, _, _⟩ := DataW.trod_int Tryz.underlying3 h0
  obtain ⟨b, hb, _, _⟩ := DataW.trod_int Tryz.underlying3 h1
  obtain ⟨e, he, _, _⟩ := DataW.trod_int Tryz.underlying3 h2
  simp only [List.cons.injEq, and_true] at hz hb he
  subst hz hb he
  obtain ⟨a, l, cap, rfl, q⟩ := okr_texts14 h3 (fun x hx => hk x (by
    rw [DataW.weights, Tryz.underlying30]
    show x ∈ DataW.weightsEach Tryz.prog [3, 3, 3, 24] [y0.1, y1.1, y2.1, y3.1]
    rw [DataW.weightsEach, DataW.weightsEach, DataW.weightsEach, DataW.weightsEach]
    exact List.mem_append_right _ (List.mem_append_right _ (List.mem_append_right _ (List.mem_append_left _ hx)))))
  exact ⟨z, b, e, a, l, cap, rfl, q⟩
end Spn
end Go.Proofs.YticjokhfjkebpaaGreatDoor
