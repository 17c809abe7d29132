/-
  DERIVED. GIVEN WITH THE SEED: THE CARDS: each row of YtdbbemcddhgbcaaGreatDoorRows.lean that lists a variable, with what it lists TIED to the program's text (the seventh form; the later family's looks); each row that meets fmt, with fmt's text TOLD by the authors' own Lean function (tested against real Go, not proved from fmt's source: count such statements apart). THE CARD IS WHAT COUNTS. Prove the row's statement (the work); the ties are given (YtdbbemcddhgbcaaGreatDoorTie.lean); close each card by the builder's one call (the guide's Derived/Test/ToyasCard.lean, 'card_holds'). Laid BY PROGRAM, IN A SANDBOX (cutbox-door.mjs). By AI agents, Wed Nov 11 2026. No macro, syntax, notation, axiom, sorry.
-/
import Derived.Test.YtdbbemcddhgbcaaGreatDoorRows
import GoSem.ClaimSeven
namespace Go.Proofs.YtdbbemcddhgbcaaGreatDoor
namespace Rows

/-- THE TIED CARD OF 'scrivenerlaw22.NotePrints'. -/
def notePrintsCard : Claim7 := { stood := { row := notePrintsRow, standIns := [], harness := (true, "484d468c9ffc5dc39761a2566e4dc4fd7f2ce28204d1ab98d7cb1019715313cf"), looks := true }, kinds := [], alts := [], goes := true, laidByText := true, laidKinds := [.data, .data, .data, .sentinel, .sentinel, .data, .data, .sentinel, .sentinel, .sentinel, .sentinel, .sentinel], laidTests := true, laidLooks := .later }
def NotePrintsCardSaid : Prop := Claim7.holds Tryz.pinned (.plain (OpenSpec.ofChange notePrintsSpec)) notePrintsCard

/-- THE TIED CARD OF 'scrivenerlaw22.NoteParses'. -/
def noteParsesCard : Claim7 := { stood := { row := noteParsesRow, standIns := [], harness := (true, "484d468c9ffc5dc39761a2566e4dc4fd7f2ce28204d1ab98d7cb1019715313cf"), looks := true }, kinds := [], alts := [], goes := true, laidByText := true, laidKinds := [.data, .data, .data, .sentinel, .sentinel, .data, .data, .sentinel, .sentinel, .sentinel, .sentinel, .sentinel], laidTests := true, laidLooks := .later }
def NoteParsesCardSaid : Prop := Claim7.holds Tryz.pinned (.plain (OpenSpec.ofChange noteParsesSpec)) noteParsesCard

/-- THE TIED CARD OF 'scrivenerlaw22.NoteMerges'. -/
def noteMergesCard : Claim7 := { stood := { row := noteMergesRow, standIns := [], harness := (true, "484d468c9ffc5dc39761a2566e4dc4fd7f2ce28204d1ab98d7cb1019715313cf"), looks := true }, kinds := [], alts := [], goes := true, laidByText := true, laidKinds := [.data, .data, .data, .sentinel, .sentinel, .data, .data, .sentinel, .sentinel, .sentinel, .sentinel, .sentinel], laidTests := true, laidLooks := .later }
def NoteMergesCardSaid : Prop := Claim7.holds Tryz.pinned (.plain (OpenSpec.ofChange noteMergesSpec)) noteMergesCard

/-- THE SECOND FORM's CARD OF 'scrivenerlaw22.NotePrints'. -/
def notePrintsUptoCard : Claim7 := { stood := { row := notePrintsUptoRow, standIns := [], harness := (true, "484d468c9ffc5dc39761a2566e4dc4fd7f2ce28204d1ab98d7cb1019715313cf"), looks := true }, kinds := [], alts := [], goes := true, laidByText := true, laidKinds := [.data, .data, .data, .sentinel, .sentinel, .data, .data, .sentinel, .sentinel, .sentinel, .sentinel, .sentinel], laidTests := true, laidLooks := .later }
def NotePrintsUptoCardSaid : Prop := Claim7.holds Tryz.pinned (.plain (OpenSpec.upto notePrintsSpec)) notePrintsUptoCard

/-- THE SECOND FORM's CARD OF 'scrivenerlaw22.NoteParses'. -/
def noteParsesUptoCard : Claim7 := { stood := { row := noteParsesUptoRow, standIns := [], harness := (true, "484d468c9ffc5dc39761a2566e4dc4fd7f2ce28204d1ab98d7cb1019715313cf"), looks := true }, kinds := [], alts := [], goes := true, laidByText := true, laidKinds := [.data, .data, .data, .sentinel, .sentinel, .data, .data, .sentinel, .sentinel, .sentinel, .sentinel, .sentinel], laidTests := true, laidLooks := .later }
def NoteParsesUptoCardSaid : Prop := Claim7.holds Tryz.pinned (.plain (OpenSpec.upto noteParsesSpec)) noteParsesUptoCard

/-- THE SECOND FORM's CARD OF 'scrivenerlaw22.NoteMerges'. -/
def noteMergesUptoCard : Claim7 := { stood := { row := noteMergesUptoRow, standIns := [], harness := (true, "484d468c9ffc5dc39761a2566e4dc4fd7f2ce28204d1ab98d7cb1019715313cf"), looks := true }, kinds := [], alts := [], goes := true, laidByText := true, laidKinds := [.data, .data, .data, .sentinel, .sentinel, .data, .data, .sentinel, .sentinel, .sentinel, .sentinel, .sentinel], laidTests := true, laidLooks := .later }
def NoteMergesUptoCardSaid : Prop := Claim7.holds Tryz.pinned (.plain (OpenSpec.upto noteMergesSpec)) noteMergesUptoCard
end Rows
end Go.Proofs.YtdbbemcddhgbcaaGreatDoor
