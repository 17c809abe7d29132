/-
  DERIVED. GIVEN WITH THE SEED: THE CARDS: each row of YtmpaliocfikifaaGreatDoorRows.lean that lists a variable, with what it lists TIED to the program's text (the seventh form; the later family's looks); each row that meets fmt, with fmt's text TOLD by the authors' own Lean function (tested against real Go, not proved from fmt's source: count such statements apart). THE CARD IS WHAT COUNTS. Prove the row's statement (the work); the ties are given (YtmpaliocfikifaaGreatDoorTie.lean); close each card by the builder's one call (the guide's Derived/Test/ToyasCard.lean, 'card_holds'). Laid BY PROGRAM, IN A SANDBOX (cutbox-door.mjs). By AI agents, Wed Nov 11 2026. No macro, syntax, notation, axiom, sorry.
-/
import Derived.Test.YtmpaliocfikifaaGreatDoorRows
import GoSem.ClaimSeven
namespace Go.Proofs.YtmpaliocfikifaaGreatDoor
namespace Rows

/-- THE TIED CARD OF 'scrivenerlaw12.BatchProves'. -/
def batchProvesCard : Claim7 := { stood := { row := batchProvesRow, standIns := [], harness := (true, "d816d2e84450be912cdeeaeeeac107c5841bb159ecb0d482651012bd2cfe1cd7"), looks := false }, kinds := [], alts := [], laidByText := true, laidKinds := [.data, .data, .data, .data], laidTests := true, laidLooks := .later }
def BatchProvesCardSaid : Prop := Claim7.holds Tryz.pinned (.plain (OpenSpec.ofChange batchProvesSpec)) batchProvesCard

/-- THE TIED CARD OF 'scrivenerlaw12.BatchRoots'. -/
def batchRootsCard : Claim7 := { stood := { row := batchRootsRow, standIns := [], harness := (true, "d816d2e84450be912cdeeaeeeac107c5841bb159ecb0d482651012bd2cfe1cd7"), looks := false }, kinds := [], alts := [], laidByText := true, laidKinds := [.data, .data, .data, .data], laidTests := true, laidLooks := .later }
def BatchRootsCardSaid : Prop := Claim7.holds Tryz.pinned (.plain (OpenSpec.ofChange batchRootsSpec)) batchRootsCard

/-- THE TIED CARD OF 'scrivenerlaw12.BatchRight'. -/
def batchRightCard : Claim7 := { stood := { row := batchRightRow, standIns := [], harness := (true, "d816d2e84450be912cdeeaeeeac107c5841bb159ecb0d482651012bd2cfe1cd7"), looks := false }, kinds := [], alts := [], laidByText := true, laidKinds := [.data, .data, .data, .data], laidTests := true, laidLooks := .later }
def BatchRightCardSaid : Prop := Claim7.holds Tryz.pinned (.plain (OpenSpec.ofChange batchRightSpec)) batchRightCard

/-- THE SECOND FORM's CARD OF 'scrivenerlaw12.BatchProves'. -/
def batchProvesUptoCard : Claim7 := { stood := { row := batchProvesUptoRow, standIns := [], harness := (true, "d816d2e84450be912cdeeaeeeac107c5841bb159ecb0d482651012bd2cfe1cd7"), looks := false }, kinds := [], alts := [], laidByText := true, laidKinds := [.data, .data, .data, .data], laidTests := true, laidLooks := .later }
def BatchProvesUptoCardSaid : Prop := Claim7.holds Tryz.pinned (.plain (OpenSpec.upto batchProvesSpec)) batchProvesUptoCard

/-- THE SECOND FORM's CARD OF 'scrivenerlaw12.BatchRoots'. -/
def batchRootsUptoCard : Claim7 := { stood := { row := batchRootsUptoRow, standIns := [], harness := (true, "d816d2e84450be912cdeeaeeeac107c5841bb159ecb0d482651012bd2cfe1cd7"), looks := false }, kinds := [], alts := [], laidByText := true, laidKinds := [.data, .data, .data, .data], laidTests := true, laidLooks := .later }
def BatchRootsUptoCardSaid : Prop := Claim7.holds Tryz.pinned (.plain (OpenSpec.upto batchRootsSpec)) batchRootsUptoCard

/-- THE SECOND FORM's CARD OF 'scrivenerlaw12.BatchRight'. -/
def batchRightUptoCard : Claim7 := { stood := { row := batchRightUptoRow, standIns := [], harness := (true, "d816d2e84450be912cdeeaeeeac107c5841bb159ecb0d482651012bd2cfe1cd7"), looks := false }, kinds := [], alts := [], laidByText := true, laidKinds := [.data, .data, .data, .data], laidTests := true, laidLooks := .later }
def BatchRightUptoCardSaid : Prop := Claim7.holds Tryz.pinned (.plain (OpenSpec.upto batchRightSpec)) batchRightUptoCard
end Rows
end Go.Proofs.YtmpaliocfikifaaGreatDoor
