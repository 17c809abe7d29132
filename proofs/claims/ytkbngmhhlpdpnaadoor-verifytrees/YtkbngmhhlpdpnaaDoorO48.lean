import Derived.Test.YtkbngmhhlpdpnaaDoorO4
import Derived.Test.YtkbngmhhlpdpnaaDoorK5
import Derived.SliceStrings
namespace Go.Proofs.YtkbngmhhlpdpnaaDoor
open Go.ChangeShapes Go.WideShapes Go.ChangeAt Go.RowKit

theorem bulk_one {H : Type} (d : DataW H) : 1 ≤ Rows.uptoBulk d := by
  cases d with
  | lit l => cases l <;> simp [Rows.uptoBulk]
  | _ => simp [Rows.uptoBulk]
theorem small_all {H : Type} {l : List (DataW H)} (h : Rows.uptoSmall H l = true) : Rows.uptoBulkAll l ≤ 1048576 := of_decide_eq_true h
theorem bulk_str {H : Type} (b : List UInt8) : Rows.uptoBulk (DataW.lit (H := H) (.string b)) = b.length + 1 := by simp [Rows.uptoBulk]
theorem bulk_strs {H : Type} (ss : List ByteArray) : Rows.uptoBulkAll (strs (H := H) ss) = total (ss.map (·.data.toList)) + ss.length := by
  induction ss with
  | nil => simp [strs, Rows.uptoBulkAll, total]
  | cons s ss ih =>
    simp only [strs, total, List.map_cons, Rows.uptoBulkAll, bulk_str, List.flatten_cons, List.length_append, List.length_cons] at *
    omega
theorem cellsS : Tryd.prog.cellsOf 9 = 1 := by kernel_rfl
theorem cellsI : Tryd.prog.cellsOf 3 = 1 := by kernel_rfl
theorem bulk_lits {H : Type} (k : IntKind) (zs : List Int) : Rows.uptoBulkAll (lits (H := H) k zs) = zs.length := by
  induction zs with
  | nil => simp [lits, Rows.uptoBulkAll]
  | cons z zs ih =>
    simp only [lits, List.map_cons, Rows.uptoBulkAll, Rows.uptoBulk, List.length_cons] at *
    omega
theorem wf_i64 {n : Int} (h : (Lit.int .i64 n).wf = true) : -9223372036854775808 ≤ n ∧ n ≤ 9223372036854775807 := by
  simp only [Lit.wf, Bool.and_eq_true, decide_eq_true_eq] at h
  have e1 : IntKind.i64.min = -9223372036854775808 := by decide
  have e2 : IntKind.i64.max = 9223372036854775807 := by decide
  rw [e1, e2] at h
  exact h
/-- whole numbers that lie at an address -/
def AtI (w : World) (a : Option Addr) (l : List Int) : Prop := ∀ j p, l[j]? = some p → ∃ x : Addr, a = some x ∧ x.block < w.heap.size ∧ w.cell? (x.add j) = some (.int .i64 p)
set_option maxRecDepth 100000 in
/-- a slice of texts among the arguments -/
theorem open_at {H : Type} {enc : TypeId × Value → H} {W : World} {base : Nat} {v : Value} {d : DataW H} {p : List MemPlace}
    (hval : Value.okWide Tryd.prog W .any base 22 v) (hd : DataW.Trod enc Tryd.prog W 0 (fun _ => true) true 22 v d p) :
    ∃ a l cap, v = .slice a l.length cap ∧ At W a l ∧ l.length ≤ cap ∧ cap ≤ 9223372036854775807 ∧ total l + l.length ≤ Rows.uptoBulk d := by
  obtain ⟨a0, len0, cap0, rfl⟩ := okWide_slice Tryd.underlying22 hval
  obtain ⟨fuel, hf⟩ := hd
  rcases open_strings Tryd.underlying22 Tryd.underlying9 cellsS hf with ⟨hcs, hx⟩ | ⟨a, len, cap, ss, hcs, _, hl, hm, hz, hx, hcell, hsz⟩
  · simp [Value.cells] at hcs
    obtain ⟨rfl, rfl, rfl⟩ := hcs
    exact ⟨none, [], 0, rfl, At.nil _ _, by simp, by omega, by simp [total]⟩
  · simp [Value.cells] at hcs
    obtain ⟨rfl, rfl, rfl⟩ := hcs
    simp only [Prod.mk.injEq] at hx
    obtain ⟨rfl, _⟩ := hx
    simp only [if_true] at hz
    have hlen : ((ss.take len0).map (·.data.toList)).length = len0 := by simp; omega
    refine ⟨some a, (ss.take len0).map (·.data.toList), cap0, by rw [hlen], fun j p hp => ?_, by omega, hm, ?_⟩
    · rw [List.getElem?_map, Option.map_eq_some_iff] at hp
      obtain ⟨s, hs, rfl⟩ := hp
      rw [List.getElem?_take] at hs
      split at hs
      · have hj := (List.getElem?_eq_some_iff.1 hs).1
        have hc := hcell j hj
        rw [List.getD_eq_getElem?_getD, hs] at hc
        refine ⟨a, rfl, ?_, hc⟩
        have := block_lt_of_cell hc
        rwa [addr_block] at this
      · cases hs
    · have h1 := bulk_strs (H := H) (ss.take len0)
      simp only [Rows.uptoBulk, List.length_map]
      omega
set_option maxRecDepth 100000 in
/-- a slice of whole numbers among the arguments -/
theorem open_atI {H : Type} {enc : TypeId × Value → H} {W : World} {base : Nat} {v : Value} {d : DataW H} {p : List MemPlace}
    (hval : Value.okWide Tryd.prog W .any base 23 v) (hd : DataW.Trod enc Tryd.prog W 0 (fun _ => true) true 23 v d p) :
    ∃ a l cap, v = .slice a l.length cap ∧ AtI W a l ∧ l.length ≤ cap ∧ cap ≤ 9223372036854775807 ∧ l.length ≤ Rows.uptoBulk d ∧ ∀ c ∈ l, -9223372036854775808 ≤ c ∧ c ≤ 9223372036854775807 := by
  obtain ⟨a0, len0, cap0, rfl⟩ := okWide_slice Tryd.underlying23 hval
  obtain ⟨fuel, hf⟩ := hd
  rcases open_ints Tryd.underlying23 Tryd.underlying3 cellsI hf with ⟨hcs, hx⟩ | ⟨a, len, cap, zs, hcs, _, hl, hm, hz, hx, hcell, hwf⟩
  · simp [Value.cells] at hcs
    obtain ⟨rfl, rfl, rfl⟩ := hcs
    exact ⟨none, [], 0, rfl, fun j p hp => by simp at hp, by simp, by omega, by simp, fun c hc => by simp at hc⟩
  · simp [Value.cells] at hcs
    obtain ⟨rfl, rfl, rfl⟩ := hcs
    simp only [Prod.mk.injEq] at hx
    obtain ⟨rfl, _⟩ := hx
    simp only [if_true] at hz
    have hlen : (zs.take len0).length = len0 := by simp; omega
    refine ⟨some a, zs.take len0, cap0, by rw [hlen], fun j c hc => ?_, by omega, hm, ?_, fun c hc => wf_i64 (hwf c (List.mem_of_mem_take hc))⟩
    · rw [List.getElem?_take] at hc
      split at hc
      · have hj := (List.getElem?_eq_some_iff.1 hc).1
        have hc' := hcell j hj
        rw [List.getD_eq_getElem?_getD, hc] at hc'
        refine ⟨a, rfl, ?_, hc'⟩
        have := block_lt_of_cell hc'
        rwa [addr_block] at this
      · cases hc
    · have h1 := bulk_lits (H := H) .i64 (zs.take len0)
      simp only [Rows.uptoBulk]
      omega
end Go.Proofs.YtkbngmhhlpdpnaaDoor
