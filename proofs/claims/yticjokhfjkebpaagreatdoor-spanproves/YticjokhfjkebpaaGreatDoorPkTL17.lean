import Derived.Test.YticjokhfjkebpaaGreatDoorPkTL15
namespace Go.Proofs.YticjokhfjkebpaaGreatDoor
open Go.RowKit
theorem Tb.mov {w w' : World} {F F' : Nat → Prop} (Z : Tb w) (hm : Mov F w w' F') (hF : ∀ k, F k → 4 ≤ k) : Tb w' := Z.below (hm.below Z.lt hF).1 (Nat.le_refl _)
end Go.Proofs.YticjokhfjkebpaaGreatDoor
