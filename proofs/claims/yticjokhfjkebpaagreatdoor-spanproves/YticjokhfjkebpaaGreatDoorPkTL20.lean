import Derived.Test.YticjokhfjkebpaaGreatDoorPkTL19
namespace Go.Proofs.YticjokhfjkebpaaGreatDoor
open Go.RowKit
/-- what Tile answers: none, or a list of its own -/
def TileP (w : World) (l : List (List UInt8)) (r : Ending) (w' : World) : Prop :=
  Below w.heap.size w w' ∧ if l = [] then r = .returned (.tuple #[.slice none 0 0, .int .i64 72]) else ∃ g, w.heap.size ≤ g ∧ r = .returned (.tuple #[.slice (some ⟨g, 0, none⟩) l.length l.length, .int .i64 0]) ∧ Row w' g l
theorem tileO_len {w : World} {q h : Nat} {L : List (List UInt8)} {F : Nat → Prop} (t : TrL w q h L F) (l i : Int) : (tileO L h l i).length ≤ 2000000 := by
  unfold tileO
  split
  · exact Til.rf_len L h t.h8 _ _
  · simp
end Go.Proofs.YticjokhfjkebpaaGreatDoor
