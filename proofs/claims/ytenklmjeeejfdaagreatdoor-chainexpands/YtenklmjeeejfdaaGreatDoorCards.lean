/-
  DERIVED. GIVEN WITH THE SEED: THE CARDS: each row of YtenklmjeeejfdaaGreatDoorRows.lean that lists a variable, with what it lists TIED to the program's text (the seventh form; the later family's looks); each row that meets fmt, with fmt's text TOLD by the authors' own Lean function (tested against real Go, not proved from fmt's source: count such statements apart). THE CARD IS WHAT COUNTS. Prove the row's statement (the work); the ties are given (YtenklmjeeejfdaaGreatDoorTie.lean); close each card by the builder's one call (the guide's Derived/Test/ToyasCard.lean, 'card_holds'). Laid BY PROGRAM, IN A SANDBOX (cutbox-door.mjs). By AI agents, Wed Nov 11 2026. No macro, syntax, notation, axiom, sorry.
-/
import Derived.Test.YtenklmjeeejfdaaGreatDoorRows
import GoSem.ClaimSeven
namespace Go.Proofs.YtenklmjeeejfdaaGreatDoor
namespace Rows

/-- THE TIED CARD OF 'scrivenerlaw13.ChainExpands'. -/
def chainExpandsCard : Claim7 := { stood := { row := chainExpandsRow, standIns := [], harness := (true, "8b4b8bb57d88af91df9e168e1db95aa9645f8f9a0b42ca2baedf9caa7a38b75f"), looks := false }, kinds := [], alts := [], laidByText := true, laidKinds := [.data, .data, .data, .data], laidTests := true, laidLooks := .later }
def ChainExpandsCardSaid : Prop := Claim7.holds Tryz.pinned (.plain (OpenSpec.ofChange chainExpandsSpec)) chainExpandsCard

/-- THE SECOND FORM's CARD OF 'scrivenerlaw13.ChainExpands'. -/
def chainExpandsUptoCard : Claim7 := { stood := { row := chainExpandsUptoRow, standIns := [], harness := (true, "8b4b8bb57d88af91df9e168e1db95aa9645f8f9a0b42ca2baedf9caa7a38b75f"), looks := false }, kinds := [], alts := [], laidByText := true, laidKinds := [.data, .data, .data, .data], laidTests := true, laidLooks := .later }
def ChainExpandsUptoCardSaid : Prop := Claim7.holds Tryz.pinned (.plain (OpenSpec.upto chainExpandsSpec)) chainExpandsUptoCard
end Rows
end Go.Proofs.YtenklmjeeejfdaaGreatDoor
