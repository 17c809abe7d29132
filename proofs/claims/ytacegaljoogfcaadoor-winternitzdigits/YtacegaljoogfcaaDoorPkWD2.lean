import Derived.Test.YtacegaljoogfcaaDoorPkWD1
import Derived.Test.YtacegaljoogfcaaDoorPkW8
import Derived.Test.YtacegaljoogfcaaDoorPkK4
/- Layer 20: digits of both -/
namespace Go.Proofs.YtacegaljoogfcaaDoor
open Go.RowKit
namespace Wz
def ivn (l : List Nat) : List Value := l.map fun (n : Nat) => .int .i64 (n : Int)
theorem ivn_len (l : List Nat) : (ivn l).length = l.length := by simp [ivn]
theorem ivn_append (l m : List Nat) : ivn (l ++ m) = ivn l ++ ivn m := by simp [ivn]
theorem ivn_at {l : List Nat} {j n : Nat} (h : l[j]? = some n) : (ivn l)[j]? = some (.int .i64 (n : Int)) := by simp [ivn, h]
theorem infoW : (Tryd.prog.info? 3).map (fun i => (i.zero, i.size, i.bytes)) = some (some (.int .i64 0), 1, 8) := by kernel_rfl
theorem grown_below {w0 w w' : World} {v : Value} {cs : List Value} (h0 : Below w0.heap.size w0 w) (hO : Own w w0.heap.size v cs) (g : w.grownBy w' v.ownBlock) : Below w0.heap.size w0 w' := by
  obtain ⟨g1, g2, g3, g4, g5⟩ := g
  refine ⟨g1.trans h0.os, g2.trans h0.tape, g3.trans h0.output, Nat.le_trans h0.size g4, fun k hk => (g5 k (Nat.lt_of_lt_of_le hk h0.size) ?_).trans (h0.block k hk)⟩
  intro e
  have := hO.ge k e.symm
  omega
/-- append of some numbers -/
theorem append_w (w0 w : World) (v : Value) (l xs : List Nat) (hB : Below w0.heap.size w0 w) (h : Own w w0.heap.size v (ivn l)) (hl : l.length ≤ 1000) (h0 : 0 < xs.length) (hx : xs.length ≤ 3) :
    ∃ v' w', (Builtin.append_ #[23, 23] 23 #[v, .slice (some ⟨w.heap.size, 0, none⟩) xs.length xs.length]).run Tryd.prog (w.alloc (.cells (ivn xs).toArray 3)) = .ok v' w' ∧ Own w' w0.heap.size v' (ivn (l ++ xs)) ∧ Below w0.heap.size w0 w' := by
  obtain ⟨i0, hi, hz0, hz1, hz2⟩ := info_parts infoW
  have hsrc : Src Tryd.prog 1 23 (.slice (some ⟨w.heap.size, 0, none⟩) xs.length xs.length) xs.length (ivn xs) (w.alloc (.cells (ivn xs).toArray 3)) :=
    Src.ofSlice _ Tryd.underlying23 ⟨w.heap.size, 0, none⟩ _ _ _ (by rw [ivn_len, Nat.mul_one]) (fun j u hj => by
      rw [Addr.add_mid, cell_of_row _ _ _ _ _ _ (heap_alloc_new w _), Nat.zero_add]; simpa using hj) (fun u hu => by
      simp only [ivn, List.mem_map] at hu
      obtain ⟨n, _, rfl⟩ := hu
      rfl)
  have hO := h.alloc (.cells (ivn xs).toArray 3)
  have hB2 : Below w0.heap.size w0 (w.alloc (.cells (ivn xs).toArray 3)) := hB.alloc hB.size _
  obtain ⟨v', w', a1, a2, a3, _⟩ := run_append_O (P := Tryd.prog) _ _ 23 23 23 3 i0 (.int .i64 0) Tryd.underlying23 hi hz0 hz1 rfl v (ivn l) hO _ _ _ hsrc
    (by rw [hz2, ivn_len]; omega) (by rw [ivn_len, maxLen]; omega) (by rw [size_alloc]; have := hB.size; omega) (fun _ => h0)
  rw [← ivn_append] at a2
  exact ⟨v', w', a1, a2, grown_below hB2 hO a3⟩
end Wz
end Go.Proofs.YtacegaljoogfcaaDoor
