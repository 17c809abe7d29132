/-
  DERIVED. GIVEN WITH THE SEED: THE CARDS: each row of YtjcapdkibbjmiaaGreatDoorRows.lean that lists a variable, with what it lists TIED to the program's text (the seventh form; the later family's looks); each row that meets fmt, with fmt's text TOLD by the authors' own Lean function (tested against real Go, not proved from fmt's source: count such statements apart). THE CARD IS WHAT COUNTS. Prove the row's statement (the work); the ties are given (YtjcapdkibbjmiaaGreatDoorTie.lean); close each card by the builder's one call (the guide's Derived/Test/ToyasCard.lean, 'card_holds'). Laid BY PROGRAM, IN A SANDBOX (cutbox-door.mjs). By AI agents, Wed Nov 11 2026. No macro, syntax, notation, axiom, sorry.
-/
import Derived.Test.YtjcapdkibbjmiaaGreatDoorRows
import GoSem.ClaimSeven
namespace Go.Proofs.YtjcapdkibbjmiaaGreatDoor
namespace Rows

/-- THE TIED CARD OF 'scrivenerlaw13.ChainProves'. -/
def chainProvesCard : Claim7 := { stood := { row := chainProvesRow, standIns := [], harness := (true, "b5743625a2c44c822c453d40ea6b737e2527d38f41e50c03fc985fd0df212002"), looks := false }, kinds := [], alts := [], laidByText := true, laidKinds := [.data, .data, .data, .data], laidTests := true, laidLooks := .later }
def ChainProvesCardSaid : Prop := Claim7.holds Tryz.pinned (.plain (OpenSpec.ofChange chainProvesSpec)) chainProvesCard

/-- THE TIED CARD OF 'scrivenerlaw13.ChainExpands'. -/
def chainExpandsCard : Claim7 := { stood := { row := chainExpandsRow, standIns := [], harness := (true, "b5743625a2c44c822c453d40ea6b737e2527d38f41e50c03fc985fd0df212002"), looks := false }, kinds := [], alts := [], laidByText := true, laidKinds := [.data, .data, .data, .data], laidTests := true, laidLooks := .later }
def ChainExpandsCardSaid : Prop := Claim7.holds Tryz.pinned (.plain (OpenSpec.ofChange chainExpandsSpec)) chainExpandsCard

/-- THE SECOND FORM's CARD OF 'scrivenerlaw13.ChainProves'. -/
def chainProvesUptoCard : Claim7 := { stood := { row := chainProvesUptoRow, standIns := [], harness := (true, "b5743625a2c44c822c453d40ea6b737e2527d38f41e50c03fc985fd0df212002"), looks := false }, kinds := [], alts := [], laidByText := true, laidKinds := [.data, .data, .data, .data], laidTests := true, laidLooks := .later }
def ChainProvesUptoCardSaid : Prop := Claim7.holds Tryz.pinned (.plain (OpenSpec.upto chainProvesSpec)) chainProvesUptoCard

/-- THE SECOND FORM's CARD OF 'scrivenerlaw13.ChainExpands'. -/
def chainExpandsUptoCard : Claim7 := { stood := { row := chainExpandsUptoRow, standIns := [], harness := (true, "b5743625a2c44c822c453d40ea6b737e2527d38f41e50c03fc985fd0df212002"), looks := false }, kinds := [], alts := [], laidByText := true, laidKinds := [.data, .data, .data, .data], laidTests := true, laidLooks := .later }
def ChainExpandsUptoCardSaid : Prop := Claim7.holds Tryz.pinned (.plain (OpenSpec.upto chainExpandsSpec)) chainExpandsUptoCard
end Rows
end Go.Proofs.YtjcapdkibbjmiaaGreatDoor
