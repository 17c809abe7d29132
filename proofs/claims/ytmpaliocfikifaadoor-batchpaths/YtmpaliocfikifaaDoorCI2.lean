import Derived.Test.YtmpaliocfikifaaDoorCI1
import Derived.Test.YtmpaliocfikifaaDoorCFN3
namespace Go.Proofs.YtmpaliocfikifaaDoor
open Go.RowKit
/-- V1 -/
def lenOf (n m : Int) : Int × Int := if n < 1 ∨ 1099511627776 < n then (0, 41) else if m < 0 ∨ n ≤ m then (0, 40) else ((Tree.D n.toNat m.toNat).length, 0)
/-- V1 -/
def prfLen (m n : Int) : Int × Int := if m < 1 ∨ n < m ∨ 1099511627776 < n then (0, 41) else (Tree.pl m.toNat n.toNat true, 0)
end Go.Proofs.YtmpaliocfikifaaDoor
