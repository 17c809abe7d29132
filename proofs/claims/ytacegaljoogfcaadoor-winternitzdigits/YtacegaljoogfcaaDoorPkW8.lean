import Derived.Test.YtacegaljoogfcaaDoorPkW7
namespace Go.Proofs.YtacegaljoogfcaaDoor
open Go.RowKit



theorem sv_eta (s : ByteArray) : Value.string s = sv s.data.toList := rfl
theorem texts2 (w : World) (a b : List UInt8) (t : TypeId) : Texts (w.alloc (.cells #[sv a, sv b] t)) w.heap.size 0 [a, b] := fun j p h => by
  rw [cell_of_row _ _ _ _ _ _ (heap_alloc_new w _)]
  match j, h with
  | 0, h => obtain rfl := Option.some.inj h; rfl
  | 1, h => obtain rfl := Option.some.inj h; rfl
theorem texts3 (w : World) (a b c : List UInt8) (t : TypeId) : Texts (w.alloc (.cells #[sv a, sv b, sv c] t)) w.heap.size 0 [a, b, c] := fun j p h => by
  rw [cell_of_row _ _ _ _ _ _ (heap_alloc_new w _)]
  match j, h with
  | 0, h => obtain rfl := Option.some.inj h; rfl
  | 1, h => obtain rfl := Option.some.inj h; rfl
  | 2, h => obtain rfl := Option.some.inj h; rfl


/-- D3 -/
def nodeOf (l r : List UInt8) : List UInt8 × Int := if l.length = 32 ∧ r.length = 32 then (Sha.sha (1 :: (l ++ r)), 0) else ([], 12)
end Go.Proofs.YtacegaljoogfcaaDoor
