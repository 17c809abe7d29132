/-
  DERIVED. GIVEN WITH THE SEED: THE CARDS: each row of YtbodgecbakcaaaaGreatDoorRows.lean that lists a variable, with what it lists TIED to the program's text (the seventh form; the later family's looks); each row that meets fmt, with fmt's text TOLD by the authors' own Lean function (tested against real Go, not proved from fmt's source: count such statements apart). THE CARD IS WHAT COUNTS. Prove the row's statement (the work); the ties are given (YtbodgecbakcaaaaGreatDoorTie.lean); close each card by the builder's one call (the guide's Derived/Test/ToyasCard.lean, 'card_holds'). Laid BY PROGRAM, IN A SANDBOX (cutbox-door.mjs). By AI agents, Wed Nov 11 2026. No macro, syntax, notation, axiom, sorry.
-/
import Derived.Test.YtbodgecbakcaaaaGreatDoorRows
import GoSem.ClaimSeven
namespace Go.Proofs.YtbodgecbakcaaaaGreatDoor
namespace Rows

/-- THE TIED CARD OF 'scrivenerlaw12.BatchRoots'. -/
def batchRootsCard : Claim7 := { stood := { row := batchRootsRow, standIns := [], harness := (true, "35318b42f511674086a24b7b5578b9f34c429ff38fc4370fd4f78ad2afa0310d"), looks := false }, kinds := [], alts := [], laidByText := true, laidKinds := [.data, .data, .data, .data], laidTests := true, laidLooks := .later }
def BatchRootsCardSaid : Prop := Claim7.holds Tryz.pinned (.plain (OpenSpec.ofChange batchRootsSpec)) batchRootsCard

/-- THE TIED CARD OF 'scrivenerlaw12.BatchRight'. -/
def batchRightCard : Claim7 := { stood := { row := batchRightRow, standIns := [], harness := (true, "35318b42f511674086a24b7b5578b9f34c429ff38fc4370fd4f78ad2afa0310d"), looks := false }, kinds := [], alts := [], laidByText := true, laidKinds := [.data, .data, .data, .data], laidTests := true, laidLooks := .later }
def BatchRightCardSaid : Prop := Claim7.holds Tryz.pinned (.plain (OpenSpec.ofChange batchRightSpec)) batchRightCard

/-- THE SECOND FORM's CARD OF 'scrivenerlaw12.BatchRoots'. -/
def batchRootsUptoCard : Claim7 := { stood := { row := batchRootsUptoRow, standIns := [], harness := (true, "35318b42f511674086a24b7b5578b9f34c429ff38fc4370fd4f78ad2afa0310d"), looks := false }, kinds := [], alts := [], laidByText := true, laidKinds := [.data, .data, .data, .data], laidTests := true, laidLooks := .later }
def BatchRootsUptoCardSaid : Prop := Claim7.holds Tryz.pinned (.plain (OpenSpec.upto batchRootsSpec)) batchRootsUptoCard

/-- THE SECOND FORM's CARD OF 'scrivenerlaw12.BatchRight'. -/
def batchRightUptoCard : Claim7 := { stood := { row := batchRightUptoRow, standIns := [], harness := (true, "35318b42f511674086a24b7b5578b9f34c429ff38fc4370fd4f78ad2afa0310d"), looks := false }, kinds := [], alts := [], laidByText := true, laidKinds := [.data, .data, .data, .data], laidTests := true, laidLooks := .later }
def BatchRightUptoCardSaid : Prop := Claim7.holds Tryz.pinned (.plain (OpenSpec.upto batchRightSpec)) batchRightUptoCard
end Rows
end Go.Proofs.YtbodgecbakcaaaaGreatDoor
