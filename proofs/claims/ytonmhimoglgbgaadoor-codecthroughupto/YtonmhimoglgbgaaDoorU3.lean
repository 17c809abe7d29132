import Derived.Test.YtonmhimoglgbgaaDoorU1
namespace Go.Proofs.YtonmhimoglgbgaaDoor
open Go.RowKit Cod

theorem str_eta {l : List UInt8} {b : ByteArray} (h : sv l = .string b) : b.data.toList = l ∧ b.size = l.length := by
  unfold sv at h
  injection h with h
  rw [← h]
  exact ⟨sv_data l, sv_size l⟩
theorem ne_empty {b : ByteArray} (h : 0 < b.size) : b.toList.isEmpty = false := by
  rw [isEmpty_data, decide_eq_false (by omega)]
/-- frames one behind the other -/
def framesOf (ps : List (List UInt8)) : List UInt8 := (ps.map wrText).flatten
theorem framesOf_succ (ps : List (List UInt8)) (k : Nat) (h : k < ps.length) : framesOf (ps.take (k + 1)) = framesOf (ps.take k) ++ wrText ps[k] := by
  simp only [framesOf]
  rw [List.take_succ_eq_append_getElem h, List.map_append, List.flatten_append, List.map_cons, List.map_nil, List.flatten_cons, List.flatten_nil, List.append_nil]
theorem framesOf_drop (ps : List (List UInt8)) (k : Nat) (h : k < ps.length) : framesOf (ps.drop k) = wrText ps[k] ++ framesOf (ps.drop (k + 1)) := by
  simp only [framesOf]
  rw [List.drop_eq_getElem_cons h, List.map_cons, List.flatten_cons]

end Go.Proofs.YtonmhimoglgbgaaDoor
