import Derived.Test.YticjokhfjkebpaaGreatDoorPkTL23
namespace Go.Proofs.YticjokhfjkebpaaGreatDoor
open Go.RowKit
theorem sizeSpn : (Tryz.prog.info? 35).map (·.size) = some 2 := by kernel_rfl
end Go.Proofs.YticjokhfjkebpaaGreatDoor
