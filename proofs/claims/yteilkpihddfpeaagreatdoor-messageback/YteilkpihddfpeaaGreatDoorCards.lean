/-
  DERIVED. GIVEN WITH THE SEED: THE CARDS: each row of YteilkpihddfpeaaGreatDoorRows.lean that lists a variable, with what it lists TIED to the program's text (the seventh form; the later family's looks); each row that meets fmt, with fmt's text TOLD by the authors' own Lean function (tested against real Go, not proved from fmt's source: count such statements apart). THE CARD IS WHAT COUNTS. Prove the row's statement (the work); the ties are given (YteilkpihddfpeaaGreatDoorTie.lean); close each card by the builder's one call (the guide's Derived/Test/ToyasCard.lean, 'card_holds'). Laid BY PROGRAM, IN A SANDBOX (cutbox-door.mjs). By AI agents, Wed Nov 11 2026. No macro, syntax, notation, axiom, sorry.
-/
import Derived.Test.YteilkpihddfpeaaGreatDoorRows
import GoSem.ClaimSeven
namespace Go.Proofs.YteilkpihddfpeaaGreatDoor
namespace Rows

/-- THE TIED CARD OF 'scrivenerlaw17.MessageThere'. -/
def messageThereCard : Claim7 := { stood := { row := messageThereRow, standIns := [], harness := (true, "e3f850e1b75e07d1e880cf7f86e76a11b86429e392a68d476f63a09c014f4410"), looks := true }, kinds := [], alts := [], laidByText := true, laidKinds := [.handle], laidTests := true, laidLooks := .later }
def MessageThereCardSaid : Prop := Claim7.holds Tryz.pinned (.plain (OpenSpec.ofChange messageThereSpec)) messageThereCard

/-- THE TIED CARD OF 'scrivenerlaw17.MessageBack'. -/
def messageBackCard : Claim7 := { stood := { row := messageBackRow, standIns := [], harness := (true, "e3f850e1b75e07d1e880cf7f86e76a11b86429e392a68d476f63a09c014f4410"), looks := true }, kinds := [], alts := [], laidByText := true, laidKinds := [.handle], laidTests := true, laidLooks := .later }
def MessageBackCardSaid : Prop := Claim7.holds Tryz.pinned (.plain (OpenSpec.ofChange messageBackSpec)) messageBackCard

/-- THE SECOND FORM's CARD OF 'scrivenerlaw17.MessageThere'. -/
def messageThereUptoCard : Claim7 := { stood := { row := messageThereUptoRow, standIns := [], harness := (true, "e3f850e1b75e07d1e880cf7f86e76a11b86429e392a68d476f63a09c014f4410"), looks := true }, kinds := [], alts := [], laidByText := true, laidKinds := [.handle], laidTests := true, laidLooks := .later }
def MessageThereUptoCardSaid : Prop := Claim7.holds Tryz.pinned (.plain (OpenSpec.upto messageThereSpec)) messageThereUptoCard

/-- THE SECOND FORM's CARD OF 'scrivenerlaw17.MessageBack'. -/
def messageBackUptoCard : Claim7 := { stood := { row := messageBackUptoRow, standIns := [], harness := (true, "e3f850e1b75e07d1e880cf7f86e76a11b86429e392a68d476f63a09c014f4410"), looks := true }, kinds := [], alts := [], laidByText := true, laidKinds := [.handle], laidTests := true, laidLooks := .later }
def MessageBackUptoCardSaid : Prop := Claim7.holds Tryz.pinned (.plain (OpenSpec.upto messageBackSpec)) messageBackUptoCard
end Rows
end Go.Proofs.YteilkpihddfpeaaGreatDoor
