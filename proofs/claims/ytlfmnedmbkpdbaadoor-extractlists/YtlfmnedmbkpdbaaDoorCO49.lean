import Derived.Test.YtlfmnedmbkpdbaaDoorCO7
import Derived.Lib.SmallJoins
namespace Go.Proofs.YtlfmnedmbkpdbaaDoor
open Go.ChangeShapes Go.WideShapes Go.ChangeAt Go.RowKit
theorem bytesS : Tryd.prog.bytesOf 9 = 16 := by kernel_rfl
set_option maxRecDepth 100000 in
/-- a slice of texts among the arguments, by its weight -/
theorem open_atF {H : Type} {enc : TypeId × Value → H} {W : World} {base : Nat} {v : Value} {d : DataW H} {p : List MemPlace}
    (hval : Value.okWide Tryd.prog W .any base 22 v) (hd : DataW.Trod enc Tryd.prog W 0 (fun _ => true) true 22 v d p) (hk : ∀ x ∈ DataW.weights Tryd.prog 22 d, x ≤ reachBytes) :
    ∃ a l cap, v = .slice a l.length cap ∧ At W a l ∧ l.length ≤ cap ∧ cap ≤ 9223372036854775807 ∧ l.length ≤ 8796093021952 := by
  obtain ⟨a0, len0, cap0, rfl⟩ := okWide_slice Tryd.underlying22 hval
  obtain ⟨fuel, hf⟩ := hd
  rcases open_strings Tryd.underlying22 Tryd.underlying9 cellsS hf with ⟨hcs, hx⟩ | ⟨a, len, cap, ss, hcs, _, hl, hm, hz, hx, hcell, hsz⟩
  · simp [Value.cells] at hcs
    obtain ⟨rfl, rfl, rfl⟩ := hcs
    exact ⟨none, [], 0, rfl, At.nil _ _, by simp, by omega, by simp⟩
  · simp [Value.cells] at hcs
    obtain ⟨rfl, rfl, rfl⟩ := hcs
    simp only [Prod.mk.injEq] at hx
    obtain ⟨rfl, _⟩ := hx
    simp only [if_true] at hz
    have hlen : ((ss.take len0).map (·.data.toList)).length = len0 := by simp; omega
    have hw : cap0 * 16 ≤ reachBytes := by
      refine hk _ ?_
      rw [DataW.weights, Tryd.underlying22]
      simp only [bytesS]
      have e : (strs (H := H) (ss.take len0)).length + (strs (H := H) (ss.drop len0)).length = cap0 := by simp [strs]; omega
      rw [e]
      exact List.mem_cons_self
    have hr : reachBytes = 140737488351232 := rfl
    refine ⟨some a, (ss.take len0).map (·.data.toList), cap0, by rw [hlen], fun j p hp => ?_, by omega, hm, by omega⟩
    rw [List.getElem?_map, Option.map_eq_some_iff] at hp
    obtain ⟨s, hs, rfl⟩ := hp
    rw [List.getElem?_take] at hs
    split at hs
    · have hj := (List.getElem?_eq_some_iff.1 hs).1
      have hc := hcell j hj
      rw [List.getD_eq_getElem?_getD, hs] at hc
      refine ⟨a, rfl, ?_, hc⟩
      have := block_lt_of_cell hc
      rwa [addr_block] at this
    · cases hs
theorem weights_head {H : Type} {P : Program} {t : TypeId} {ts : List TypeId} {d : DataW H} {r : List (DataW H)} (h : (DataW.weightsEach P (t :: ts) (d :: r)).all (· ≤ reachBytes) = true) : ∀ x ∈ DataW.weights P t d, x ≤ reachBytes := fun x hx => by
  have := List.all_eq_true.1 h x (by rw [DataW.weightsEach]; exact List.mem_append_left _ hx)
  simpa using this
theorem weights_mem {H : Type} {P : Program} {e : TypeId} {d : DataW H} {x : Nat} : ∀ {l : List (DataW H)}, d ∈ l → x ∈ DataW.weights P e d → x ∈ DataW.weightsAll P e l
  | [], h, _ => by cases h
  | f :: r, h, hx => by
    rw [DataW.weightsAll]
    rcases List.mem_cons.1 h with rfl | h
    · exact List.mem_append_left _ hx
    · exact List.mem_append_right _ (weights_mem h hx)
theorem weights_tail {H : Type} {P : Program} {t : TypeId} {ts : List TypeId} {d : DataW H} {r : List (DataW H)} (h : (DataW.weightsEach P (t :: ts) (d :: r)).all (· ≤ reachBytes) = true) : (DataW.weightsEach P ts r).all (· ≤ reachBytes) = true := by
  rw [List.all_eq_true] at h ⊢
  exact fun x hx => h x (by rw [DataW.weightsEach]; exact List.mem_append_right _ hx)
set_option maxRecDepth 100000 in
/-- a slice of texts among the arguments, by its weight, and by its texts' -/
theorem open_atG {H : Type} {enc : TypeId × Value → H} {W : World} {base : Nat} {v : Value} {d : DataW H} {p : List MemPlace}
    (hval : Value.okWide Tryd.prog W .any base 22 v) (hd : DataW.Trod enc Tryd.prog W 0 (fun _ => true) true 22 v d p) (hk : ∀ x ∈ DataW.weights Tryd.prog 22 d, x ≤ reachBytes) :
    ∃ a l cap, v = .slice a l.length cap ∧ At W a l ∧ l.length ≤ cap ∧ cap ≤ 9223372036854775807 ∧ l.length ≤ 8796093021952 ∧ ∀ q ∈ l, q.length ≤ 140737488351232 := by
  obtain ⟨a0, len0, cap0, rfl⟩ := okWide_slice Tryd.underlying22 hval
  obtain ⟨fuel, hf⟩ := hd
  rcases open_strings Tryd.underlying22 Tryd.underlying9 cellsS hf with ⟨hcs, hx⟩ | ⟨a, len, cap, ss, hcs, _, hl, hm, hz, hx, hcell, hsz⟩
  · simp [Value.cells] at hcs
    obtain ⟨rfl, rfl, rfl⟩ := hcs
    exact ⟨none, [], 0, rfl, At.nil _ _, by simp, by omega, by simp, by simp⟩
  · simp [Value.cells] at hcs
    obtain ⟨rfl, rfl, rfl⟩ := hcs
    simp only [Prod.mk.injEq] at hx
    obtain ⟨rfl, _⟩ := hx
    simp only [if_true] at hz
    have hlen : ((ss.take len0).map (·.data.toList)).length = len0 := by simp; omega
    have hr : reachBytes = 140737488351232 := rfl
    have hw : cap0 * 16 ≤ reachBytes := by
      refine hk _ ?_
      rw [DataW.weights, Tryd.underlying22]
      simp only [bytesS]
      have e : (strs (H := H) (ss.take len0)).length + (strs (H := H) (ss.drop len0)).length = cap0 := by simp [strs]; omega
      rw [e]
      exact List.mem_cons_self
    have hq : ∀ s ∈ ss.take len0, s.data.toList.length ≤ reachBytes := fun s hs => by
      refine hk _ ?_
      rw [DataW.weights, Tryd.underlying22]
      refine List.mem_cons_of_mem _ (List.mem_append_left _ (weights_mem (d := .lit (.string s.data.toList)) ?_ ?_))
      · unfold strs
        exact List.mem_map.2 ⟨s, hs, rfl⟩
      · simp [DataW.weights]
    refine ⟨some a, (ss.take len0).map (·.data.toList), cap0, by rw [hlen], fun j p hp => ?_, by omega, hm, by omega, fun q hq' => ?_⟩
    rotate_left
    · obtain ⟨s, hs, rfl⟩ := List.mem_map.1 hq'
      have := hq s hs
      omega
    rw [List.getElem?_map, Option.map_eq_some_iff] at hp
    obtain ⟨s, hs, rfl⟩ := hp
    rw [List.getElem?_take] at hs
    split at hs
    · have hj := (List.getElem?_eq_some_iff.1 hs).1
      have hc := hcell j hj
      rw [List.getD_eq_getElem?_getD, hs] at hc
      refine ⟨a, rfl, ?_, hc⟩
      have := block_lt_of_cell hc
      rwa [addr_block] at this
    · cases hs
set_option maxRecDepth 100000 in
/-- a text among the arguments, by its weight -/
theorem open_strG {H : Type} {enc : TypeId × Value → H} {W : World} {base : Nat} {v : Value} {d : DataW H} {p : List MemPlace}
    (hval : Value.okWide Tryd.prog W .any base 9 v) (hd : DataW.Trod enc Tryd.prog W 0 (fun _ => true) true 9 v d p) (hk : ∀ x ∈ DataW.weights Tryd.prog 9 d, x ≤ reachBytes) :
    ∃ s : List UInt8, v = sv s ∧ s.length ≤ 140737488351232 := by
  obtain ⟨s0, rfl, rfl, rfl, hs0⟩ := ChangeMaps.open_string Tryd.underlying9 hval hd
  have hr : reachBytes = 140737488351232 := rfl
  have := hk s0.data.toList.length (by simp [DataW.weights])
  exact ⟨s0.data.toList, sv_eta s0, by omega⟩
end Go.Proofs.YtlfmnedmbkpdbaaDoor

namespace Go.Proofs.YtlfmnedmbkpdbaaDoor
open Go.ChangeShapes Go.WideShapes Go.ChangeAt Go.RowKit
set_option maxRecDepth 100000 in
theorem open_str6 {H : Type} {enc : TypeId × Value → H} {W : World} {base : Nat} {v : Value} {d : DataW H} {p : List MemPlace}
    (hval : Value.okWide Tryd.prog W .any base 9 v) (hd : DataW.Trod enc Tryd.prog W 0 (fun _ => true) true 9 v d p) (hk : ∀ x ∈ DataW.weights Tryd.prog 9 d, x ≤ reachBytes) :
    ∃ s : List UInt8, v = sv s ∧ s.length ≤ 140737488351232 := by
  obtain ⟨s0, rfl, rfl, rfl, hs0⟩ := ChangeMaps.open_string Tryd.underlying9 hval hd
  have hr : reachBytes = 140737488351232 := rfl
  have := hk s0.data.toList.length (by simp [DataW.weights])
  exact ⟨s0.data.toList, sv_eta s0, by omega⟩
end Go.Proofs.YtlfmnedmbkpdbaaDoor
