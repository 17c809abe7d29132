import Derived.Test.YtkbngmhhlpdpnaaDoorO56
import Derived.Test.YtkbngmhhlpdpnaaDoorO36Q
import Derived.Test.YtkbngmhhlpdpnaaDoorO32Q
import Derived.Test.YtkbngmhhlpdpnaaDoorO49
namespace Go.Proofs.YtkbngmhhlpdpnaaDoor
open Go.ChangeShapes Go.WideShapes Go.ChangeAt Go.RowKit
theorem ivs_one3 {l : List Int} : ∀ u ∈ ivs l, u.oneCell' = true := fun u hu => by
  obtain ⟨x, _, rfl⟩ := List.mem_map.1 hu
  rfl
theorem appendI_zero (w : World) (x : Value) (hs : Src Tryd.prog 1 23 x 0 [] w) :
    (Builtin.append_ #[23, 23] 23 #[.slice none 0 0, x]).run Tryd.prog w = .ok (.slice none 0 0) w := by
  obtain ⟨i0, hi, hz0, hz1, hz2⟩ := info_parts infoI3
  have hc := hs.cells
  rw [← hz1] at hc
  simp [Builtin.append_, run_underlying Tryd.underlying23, sizeOf, typeInfo, hi, hs.len, hc]
/-- append([]int(nil), l...) -/
theorem append_copyI (w : World) (a : Option Addr) (cap : Nat) (L : List Int) (hA : AtI w a L) (hlen : L.length ≤ 17592186043904) :
    ∃ v' w', (Builtin.append_ #[23, 23] 23 #[.slice none 0 0, .slice a L.length cap]).run Tryd.prog w = .ok v' w' ∧ Own w' w.heap.size v' (ivs L) ∧ Below w.heap.size w w' := by
  obtain ⟨i0, hi, hz0, hz1, hz2⟩ := info_parts infoI3
  by_cases h0 : L.length = 0
  · obtain rfl : L = [] := List.length_eq_zero_iff.1 h0
    have hsrc : Src Tryd.prog 1 23 (.slice a 0 cap) 0 [] w := by
      cases a with
      | none => exact Src.ofNil w Tryd.underlying23 cap
      | some x => exact Src.ofSlice w Tryd.underlying23 x 0 cap [] (by simp) (fun j u hj => by simp at hj) (fun u hu => by simp at hu)
    exact ⟨_, w, appendI_zero w _ hsrc, Own.nil _ _, Below.refl _ _⟩
  · obtain ⟨x, rfl⟩ := hA.pos (by omega)
    have hsrc : Src Tryd.prog 1 23 (.slice (some x) L.length cap) L.length (ivs L) w :=
      Src.ofSlice w Tryd.underlying23 x L.length cap (ivs L) (by rw [ivs_length, Nat.mul_one]) (fun j u hj => by
        simp only [ivs, List.getElem?_map, Option.map_eq_some_iff] at hj
        obtain ⟨p, hp, rfl⟩ := hj
        obtain ⟨y, hy, _, hc⟩ := hA j p hp
        obtain rfl := Option.some.inj hy
        exact hc) (fun u hu => ivs_one3 u hu)
    obtain ⟨v', w', h1, h2, h3, h4⟩ := run_append_O (P := Tryd.prog) w w.heap.size 23 23 23 3 i0 (.int .i64 0) Tryd.underlying23 hi hz0 hz1 rfl (.slice none 0 0) [] (Own.nil _ _) _ L.length (ivs L) hsrc
      (by rw [hz2]; simp; omega) (by rw [maxLen]; simp; omega) (Nat.le_refl _) (fun _ => by omega)
    exact ⟨v', w', h1, by simpa using h2, Below.ofGrown (v := .slice none 0 0) h3 (fun k hk => by cases hk) (Nat.le_refl _)⟩
/-- eight numbers behind a list -/
def sevens : List Int := [77, 77, 77, 77, 77, 77, 77, 77]
theorem append_77 (w : World) (base : Nat) (v : Value) (L : List Int) (hown : Own w base v (ivs L)) (hlen : L.length ≤ 17592186043904) (hbase : base ≤ w.heap.size) :
    ∃ v' w', (Builtin.append_ #[23, 23] 23 #[v, .slice (some ⟨w.heap.size, 0, none⟩) 8 8]).run Tryd.prog (w.alloc (.cells #[.int .i64 77, .int .i64 77, .int .i64 77, .int .i64 77, .int .i64 77, .int .i64 77, .int .i64 77, .int .i64 77] 3)) = .ok v' w' ∧ Own w' base v' (ivs (L ++ sevens)) ∧ Below base w w' := by
  obtain ⟨i0, hi, hz0, hz1, hz2⟩ := info_parts infoI3
  have hsrc : Src Tryd.prog 1 23 (.slice (some ⟨w.heap.size, 0, none⟩) 8 8) 8 (ivs sevens) (w.alloc (.cells #[.int .i64 77, .int .i64 77, .int .i64 77, .int .i64 77, .int .i64 77, .int .i64 77, .int .i64 77, .int .i64 77] 3)) :=
    Src.ofSlice _ Tryd.underlying23 ⟨w.heap.size, 0, none⟩ 8 8 (ivs sevens) (by simp [ivs, sevens]) (fun j u hj => by
      rw [Addr.add_mid, cell_of_row _ _ _ _ _ _ (heap_alloc_new w _), Nat.zero_add]; simpa [ivs, sevens] using hj) (fun u hu => ivs_one3 u hu)
  obtain ⟨v', w', h1, h2, h3, h4⟩ := run_append_O (P := Tryd.prog) _ base 23 23 23 3 i0 (.int .i64 0) Tryd.underlying23 hi hz0 hz1 rfl v (ivs L) (hown.alloc _) _ 8 (ivs sevens) hsrc
    (by rw [ivs_length, hz2]; omega) (by rw [ivs_length, maxLen]; omega) (by rw [size_alloc]; omega) (fun _ => by omega)
  refine ⟨v', w', h1, by simpa [ivs] using h2, ((Below.refl base w).alloc hbase _).trans (Below.ofGrown h3 hown.ge (by rw [size_alloc]; omega))⟩
theorem bytesI : Tryd.prog.bytesOf 3 = 8 := by kernel_rfl
set_option maxRecDepth 100000 in
/-- a slice of whole numbers among the arguments, by its weight -/
theorem open_atIF {H : Type} {enc : TypeId × Value → H} {W : World} {base : Nat} {v : Value} {d : DataW H} {p : List MemPlace}
    (hval : Value.okWide Tryd.prog W .any base 23 v) (hd : DataW.Trod enc Tryd.prog W 0 (fun _ => true) true 23 v d p) (hk : ∀ x ∈ DataW.weights Tryd.prog 23 d, x ≤ reachBytes) :
    ∃ a l cap, v = .slice a l.length cap ∧ AtI W a l ∧ l.length ≤ cap ∧ cap ≤ 9223372036854775807 ∧ l.length ≤ 17592186043904 ∧ ∀ c ∈ l, -9223372036854775808 ≤ c ∧ c ≤ 9223372036854775807 := by
  obtain ⟨a0, len0, cap0, rfl⟩ := okWide_slice Tryd.underlying23 hval
  obtain ⟨fuel, hf⟩ := hd
  rcases open_ints Tryd.underlying23 Tryd.underlying3 cellsI hf with ⟨hcs, hx⟩ | ⟨a, len, cap, zs, hcs, _, hl, hm, hz, hx, hcell, hwf⟩
  · simp [Value.cells] at hcs
    obtain ⟨rfl, rfl, rfl⟩ := hcs
    exact ⟨none, [], 0, rfl, fun j p hp => by simp at hp, by simp, by omega, by simp, fun c hc => by simp at hc⟩
  · simp [Value.cells] at hcs
    obtain ⟨rfl, rfl, rfl⟩ := hcs
    simp only [Prod.mk.injEq] at hx
    obtain ⟨rfl, _⟩ := hx
    simp only [if_true] at hz
    have hlen : (zs.take len0).length = len0 := by simp; omega
    have hw : cap0 * 8 ≤ reachBytes := by
      refine hk _ ?_
      rw [DataW.weights, Tryd.underlying23]
      simp only [bytesI]
      have e : (lits (H := H) .i64 (zs.take len0)).length + (lits (H := H) .i64 (zs.drop len0)).length = cap0 := by simp [lits]; omega
      rw [e]
      exact List.mem_cons_self
    have hr : reachBytes = 140737488351232 := rfl
    refine ⟨some a, zs.take len0, cap0, by rw [hlen], fun j c hc => ?_, by omega, hm, by omega, fun c hc => wf_i64 (hwf c (List.mem_of_mem_take hc))⟩
    rw [List.getElem?_take] at hc
    split at hc
    · have hj := (List.getElem?_eq_some_iff.1 hc).1
      have hc' := hcell j hj
      rw [List.getD_eq_getElem?_getD, hc] at hc'
      refine ⟨a, rfl, ?_, hc'⟩
      have := block_lt_of_cell hc'
      rwa [addr_block] at this
    · cases hc
end Go.Proofs.YtkbngmhhlpdpnaaDoor
