import Derived.Test.YticjokhfjkebpaaGreatDoorPkTL4
import Derived.Test.YticjokhfjkebpaaGreatDoorPkO15
namespace Go.Proofs.YticjokhfjkebpaaGreatDoor
open Go.RowKit
theorem Tb.next {w w' : World} (h : Tb w) (hb : Below w.heap.size w w') : Tb w' := h.below hb h.lt
theorem Tabs.next' {w w' : World} (h : Tabs w) (hb : Below w.heap.size w w') : Tabs w' := h.below hb h.lt
end Go.Proofs.YticjokhfjkebpaaGreatDoor
