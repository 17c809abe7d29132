import Derived.Test.YtalkkekkojigjaaDoorA2
namespace Go.Proofs.YtalkkekkojigjaaDoor
open Go.ChangeShapes Go.WideShapes Go.ChangeAt Go.RowKit

set_option maxRecDepth 100000 in
/-- a slice of texts among the arguments -/
theorem open_slcF {H : Type} {enc : TypeId × Value → H} {W : World} {base : Nat} {v : Value} {d : DataW H} {p : List MemPlace}
    (hval : Value.okWide Tryd.prog W .any base 31 v) (hd : DataW.Trod enc Tryd.prog W 0 (fun _ => true) true 31 v d p) :
    ∃ ps, Slc W v ps ∧ ps.length ≤ maxLen := by
  obtain ⟨a0, len0, cap0, rfl⟩ := okWide_slice Tryd.underlying31 hval
  obtain ⟨fuel, hf⟩ := hd
  rcases open_strings Tryd.underlying31 Tryd.underlying9 cellsS hf with ⟨hcs, hx⟩ | ⟨a, len, cap, ss, hcs, _, hl, hm, hz, hx, hcell, hsz⟩
  · simp [Value.cells] at hcs
    obtain ⟨rfl, rfl, rfl⟩ := hcs
    exact ⟨[], ⟨none, 0, rfl, fun j p hp => by simp at hp⟩, by simp⟩
  · simp [Value.cells] at hcs
    obtain ⟨rfl, rfl, rfl⟩ := hcs
    simp only [Prod.mk.injEq] at hx
    obtain ⟨rfl, _⟩ := hx
    simp only [if_true] at hz
    refine ⟨(ss.take len0).map (·.data.toList), ⟨some a, cap0, by simp; omega, fun j p hp => ?_⟩, ?_⟩
    · rw [List.getElem?_map, Option.map_eq_some_iff] at hp
      obtain ⟨s, hs, rfl⟩ := hp
      rw [List.getElem?_take] at hs
      split at hs
      · have hj := (List.getElem?_eq_some_iff.1 hs).1
        have hc := hcell j hj
        rw [List.getD_eq_getElem?_getD, hs] at hc
        refine ⟨a, rfl, ?_, hc⟩
        have := block_lt_of_cell hc
        rwa [add_block] at this
      · cases hs
    · simp only [List.length_map, List.length_take]
      omega
set_option maxRecDepth 100000 in
/-- a slice of whole numbers among the arguments -/
theorem open_slcIF {H : Type} {enc : TypeId × Value → H} {W : World} {base : Nat} {v : Value} {d : DataW H} {p : List MemPlace}
    (hval : Value.okWide Tryd.prog W .any base 33 v) (hd : DataW.Trod enc Tryd.prog W 0 (fun _ => true) true 33 v d p) :
    ∃ cs, SlcI W v cs ∧ cs.length ≤ maxLen ∧ ∀ c ∈ cs, -9223372036854775808 ≤ c ∧ c ≤ 9223372036854775807 := by
  obtain ⟨a0, len0, cap0, rfl⟩ := okWide_slice Tryd.underlying33 hval
  obtain ⟨fuel, hf⟩ := hd
  rcases open_ints Tryd.underlying33 Tryd.underlying3 cellsI hf with ⟨hcs, hx⟩ | ⟨a, len, cap, zs, hcs, _, hl, hm, hz, hx, hcell, hwf⟩
  · simp [Value.cells] at hcs
    obtain ⟨rfl, rfl, rfl⟩ := hcs
    exact ⟨[], ⟨none, 0, rfl, fun j p hp => by simp at hp⟩, by simp, fun c hc => by simp at hc⟩
  · simp [Value.cells] at hcs
    obtain ⟨rfl, rfl, rfl⟩ := hcs
    simp only [Prod.mk.injEq] at hx
    obtain ⟨rfl, _⟩ := hx
    simp only [if_true] at hz
    refine ⟨zs.take len0, ⟨some a, cap0, by simp; omega, fun j c hc => ?_⟩, ?_, fun c hc => wf_i64 (hwf c (List.mem_of_mem_take hc))⟩
    · rw [List.getElem?_take] at hc
      split at hc
      · have hj := (List.getElem?_eq_some_iff.1 hc).1
        have hc' := hcell j hj
        rw [List.getD_eq_getElem?_getD, hc] at hc'
        refine ⟨a, rfl, ?_, hc'⟩
        have := block_lt_of_cell hc'
        rwa [add_block] at this
      · cases hc
    · simp only [List.length_take]
      omega
end Go.Proofs.YtalkkekkojigjaaDoor
