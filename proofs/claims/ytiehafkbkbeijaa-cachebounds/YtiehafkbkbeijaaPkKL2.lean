import Derived.Test.YtiehafkbkbeijaaPkKL1
import Derived.Test.YtiehafkbkbeijaaPkKM1
/- Layer 15, the law: texts that CacheNests makes -/
namespace Go.Proofs.Ytiehafkbkbeijaa
open Go.RowKit Go.Maps
namespace Kc
theorem conv_row (w : World) (g : Nat) (bs : List UInt8) (cap : Nat) (hr : w.heap[g]? = some (.cells (bv bs).toArray 5 (0, 0))) (hc : bs.length ≤ cap) (hc2 : cap ≤ maxLen) (hth : w.there g 0 cap) :
    (convert 29 9 (.slice (some ⟨g, 0, none⟩) bs.length cap)).run Try.prog w = .ok (.string ⟨bs.toArray⟩) w := by
  have ho : OwnB w 0 (.slice (some ⟨g, 0, none⟩) bs.length cap) bs := .inr ⟨g, cap, by simp [bv], Nat.zero_le _, by simpa [bv] using hc, hc2, fun j v hj => by
    obtain ⟨hl, hv⟩ := List.getElem?_eq_some_iff.1 hj
    rw [cell_of_row _ _ _ _ _ _ hr]
    simp only [Nat.zero_add]
    rw [List.getElem?_toArray]
    exact hj, hth, lt_of_heap hr⟩
  exact conv_own ho (by simp)
theorem conv_one (w : World) (x : UInt8) (n : Int) (hn : n = (x.toNat : Int)) : (convert 29 9 (.slice (some ⟨w.heap.size, 0, none⟩) 1 1)).run Try.prog (w.alloc (.cells #[.int .u8 n] 5)) = .ok (.string ⟨#[x]⟩) (w.alloc (.cells #[.int .u8 n] 5)) := by
  subst hn
  have hr : (w.alloc (.cells #[.int .u8 (x.toNat : Int)] 5)).heap[w.heap.size]? = some (.cells (bv [x]).toArray 5 (0, 0)) := heap_alloc_new w _
  exact conv_row _ _ [x] 1 hr (by simp) (by simp [maxLen]) (there_of_row hr 0 1 (by simp [bv]))
theorem make_zero (w : World) (p : Nat) (hp : p ≤ 1000) :
    (Instr.makeSlice 29 (.int .i64 (p : Int)) (.int .i64 (p : Int))).run Try.prog w = .ok (.slice (some ⟨w.heap.size, 0, none⟩) p p) (w.alloc (.cells (bv (List.replicate p 0)).toArray 5)) := by
  obtain ⟨i0, hi, hz0, hz1, hz2⟩ := info_parts info5'
  have h := run_make (P := Try.prog) w 29 5 i0 (.int .u8 0) Try.underlying29 hi hz0 .i64 .i64 (p : Int) (p : Int) (by omega) (by omega) (by rw [hz2]; omega) (by omega)
  rw [Int.toNat_natCast, hz1, Nat.mul_one] at h
  have e : madeCells (Value.int .u8 0).cells p = (bv (List.replicate p 0)).toArray := by
    apply Array.ext'
    rw [show (madeCells (Value.int .u8 0).cells p).toList = List.replicate p (.int .u8 0) from toList_madeCells_one _ _]
    simp [bv]
  rw [e] at h
  exact h
theorem conv_zero (w : World) (p : Nat) (hp : p ≤ 1000) (C : Array Value) (hC : C = (bv (List.replicate p 0)).toArray) : (convert 29 9 (.slice (some ⟨w.heap.size, 0, none⟩) p p)).run Try.prog (w.alloc (.cells C 5)) = .ok (.string ⟨(List.replicate p 0).toArray⟩) (w.alloc (.cells C 5)) := by
  subst hC
  have hr : (w.alloc (.cells (bv (List.replicate p 0)).toArray 5)).heap[w.heap.size]? = some (.cells (bv (List.replicate p 0)).toArray 5 (0, 0)) := heap_alloc_new w _
  have := conv_row _ _ (List.replicate p 0) p hr (by simp) (by simp [maxLen]; omega) (there_of_row hr 0 p (by simp [bv]))
  rwa [List.length_replicate] at this
/-- the two caches while CacheNests asks -/
def Ns (w : World) (a b B C k : Nat) (w' : World) : Prop := ∃ gA gB LA LB fA mA oA fB mB oB, Cd w w' a gA B (2 * k) LA fA mA oA b gB C (2 * k) LB fB mB oB ∧ An LA ∧ An LB ∧ Nst LA LB ∧ fA ≤ fB
end Kc
end Go.Proofs.Ytiehafkbkbeijaa
