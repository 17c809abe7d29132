import Derived.Test.YtonmhimoglgbgaaDoorV1
namespace Go.Proofs.YtonmhimoglgbgaaDoor
open Go.RowKit Cod

/-- what is wrong first -/
def fstE (E e : Int) : Int := if E = 0 then e else E
theorem one_byte_drew (w : World) (x : UInt8) (z : Int) (hz : z = (x.toNat : Int)) :
    (convert 57 9 (.slice (some ⟨w.heap.size, 0, none⟩) 1 1)).run Tryd.prog (w.alloc (.cells #[.int .u8 z] 5)).drew = .ok (sv [x]) (w.alloc (.cells #[.int .u8 z] 5)).drew := by
  subst hz
  refine run_conv_bytes (P := Tryd.prog) _ 57 9 5 w.heap.size 0 1 1 [x] rfl Tryd.underlying57 Tryd.underlying5 Tryd.underlying9 (fun j v hv => ?_)
  show (w.alloc (.cells #[.int .u8 (x.toNat : Int)] 5)).cell? _ = _
  rw [cell_of_row _ _ _ _ _ _ (heap_alloc_new w _), Nat.zero_add]
  match j, hv with
  | 0, hv => obtain rfl := Option.some.inj hv; rfl
theorem undrew {w w1 : World} (h : Below w.drew.heap.size w.drew w1) : Below w.heap.size w w1 := ⟨h.os, h.tape, h.output, h.size, h.block⟩
end Go.Proofs.YtonmhimoglgbgaaDoor
