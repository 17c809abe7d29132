import Derived.Test.YtonmhimoglgbgaaDoorY5
namespace Go.Proofs.YtonmhimoglgbgaaDoor
open Go.RowKit Cod

theorem over_set (cs : List Value) (k : Nat) (u : Value) (hk : k < cs.length) : (List.replicate k u ++ cs.drop k).set k u = List.replicate (k + 1) u ++ cs.drop (k + 1) := by
  rw [List.set_append_right _ _ (by simp), List.length_replicate, Nat.sub_self, List.drop_eq_getElem_cons hk, List.set_cons_zero, List.replicate_succ', List.append_assoc]
  rfl
theorem over_get (cs : List Value) (k : Nat) (u : Value) (hk : k < cs.length) : (List.replicate k u ++ cs.drop k)[k]? = some cs[k] := by
  rw [List.getElem?_append_right (by simp), List.length_replicate, Nat.sub_self, List.drop_eq_getElem_cons hk]
  rfl
theorem over_len (cs : List Value) (k : Nat) (u : Value) (hk : k ≤ cs.length) : (List.replicate k u ++ cs.drop k).length = cs.length := by
  rw [List.length_append, List.length_replicate, List.length_drop]; omega
theorem SlcV.but {w w' : World} {x : Addr} {n c g : Nat} {cs : List Value} (h : SlcV w (.slice (some x) n c) cs) (hb : But g w w') (hx : x.block ≠ g) : SlcV w' (.slice (some x) n c) cs :=
  h.keep (S := fun k => k = g) (Keep.ofBut hb rfl) (fun y _ _ hy e => by cases hy; exact hx e)

end Go.Proofs.YtonmhimoglgbgaaDoor
