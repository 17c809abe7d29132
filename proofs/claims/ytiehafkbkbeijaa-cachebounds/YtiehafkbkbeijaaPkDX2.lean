import Derived.Test.YtiehafkbkbeijaaPkDC0
import Derived.Test.YtiehafkbkbeijaaPkDV0
import Derived.Deep.SlicePairs
namespace Go.Proofs.Ytiehafkbkbeijaa
open Go.ChangeShapes Go.WideShapes Go.ChangeAt Go.RowKit Go.Deep
theorem cellsI : Try.prog.cellsOf 3 = 1 := by kernel_rfl
set_option maxRecDepth 100000 in
/-- a slice of whole numbers among the arguments -/
theorem open_slcIF {H : Type} {enc : TypeId × Value → H} {W : World} {base : Nat} {v : Value} {d : DataW H} {p : List MemPlace}
    (hval : Value.okWide Try.prog W .any base 22 v) (hd : DataW.Trod enc Try.prog W 0 (fun _ => true) true 22 v d p) :
    ∃ cs, SlcI W v cs ∧ cs.length ≤ maxLen ∧ ∀ c ∈ cs, -9223372036854775808 ≤ c ∧ c ≤ 9223372036854775807 := by
  obtain ⟨a0, len0, cap0, rfl⟩ := okWide_slice Try.underlying22 hval
  obtain ⟨fuel, hf⟩ := hd
  rcases open_ints Try.underlying22 Try.underlying3 cellsI hf with ⟨hcs, hx⟩ | ⟨a, len, cap, zs, hcs, _, hl, hm, hz, hx, hcell, hwf⟩
  · simp [Value.cells] at hcs
    obtain ⟨rfl, rfl, rfl⟩ := hcs
    exact ⟨[], ⟨none, 0, rfl, fun j p hp => by simp at hp⟩, by simp, fun c hc => by simp at hc⟩
  · simp [Value.cells] at hcs
    obtain ⟨rfl, rfl, rfl⟩ := hcs
    simp only [Prod.mk.injEq] at hx
    obtain ⟨rfl, _⟩ := hx
    simp only [if_true] at hz
    refine ⟨zs.take len0, ⟨some a, cap0, by simp; omega, fun j c hc => ?_⟩, ?_, fun c hc => wf_i64 (hwf c (List.mem_of_mem_take hc))⟩
    · rw [List.getElem?_take] at hc
      split at hc
      · have hj := (List.getElem?_eq_some_iff.1 hc).1
        have hc' := hcell j hj
        rw [List.getD_eq_getElem?_getD, hc] at hc'
        refine ⟨a, rfl, ?_, hc'⟩
        have := block_lt_of_cell hc'
        rwa [add_block] at this
      · cases hc
    · simp only [List.length_take]
      omega
/-- a list of puts, wherever it lies -/
def SlcPt (w : World) (v : Value) (n : Nat) : Prop :=
  ∃ (a : Option Addr) (cap : Nat), v = .slice a n cap ∧ ∀ j, j < n → ∃ (x : Addr) (fl : Bool) (pg_ cc : Int), a = some x ∧ x.block < w.heap.size ∧ w.cell? (x.add (j * 3)) = some (.bool fl) ∧ w.cell? (x.add (j * 3 + 1)) = some (.int .i64 pg_) ∧ w.cell? (x.add (j * 3 + 2)) = some (.int .i64 cc) ∧
    (-9223372036854775808 ≤ pg_ ∧ pg_ ≤ 9223372036854775807) ∧ (-9223372036854775808 ≤ cc ∧ cc ≤ 9223372036854775807)
theorem cellsB9 : Try.prog.cellsOf 4 = 1 := by kernel_rfl
end Go.Proofs.Ytiehafkbkbeijaa
