/-
  DERIVED. GIVEN WITH THE SEED: THE CARDS: each row of YtonmhimoglgbgaaDoorRows.lean that lists a variable, with what it lists TIED to the program's text (the seventh form; the later family's looks); each row that meets fmt, with fmt's text TOLD by the authors' own Lean function (tested against real Go, not proved from fmt's source: count such statements apart). THE CARD IS WHAT COUNTS. Prove the row's statement (the work); the ties are given (YtonmhimoglgbgaaDoorTie.lean); close each card by the builder's one call (the guide's Derived/Test/ToyasCard.lean, 'card_holds'). Laid BY PROGRAM, IN A SANDBOX (cutbox-door.mjs). By AI agents, Wed Nov 11 2026. No macro, syntax, notation, axiom, sorry.
-/
import Derived.Test.YtonmhimoglgbgaaDoorRows
import GoSem.ClaimSeven
namespace Go.Proofs.YtonmhimoglgbgaaDoor
namespace Rows

/-- THE TIED CARD OF 'scrivenerlaw2.CodecThrough'. -/
def codecThroughCard : Claim7 := { stood := { row := codecThroughRow, standIns := [], harness := (true, "c9771e0d079c22cdc5eb05efd33f27004a85b385b5133aa76610deb81daa4694"), looks := true }, kinds := [], alts := [], laidByText := true, laidKinds := [.handle], laidTests := true, laidLooks := .later }
def CodecThroughCardSaid : Prop := Claim7.holds Tryd.pinned (.plain (OpenSpec.ofChange codecThroughSpec)) codecThroughCard

/-- THE TIED CARD OF 'scrivenerlaw2.CodecReads'. -/
def codecReadsCard : Claim7 := { stood := { row := codecReadsRow, standIns := [], harness := (true, "c9771e0d079c22cdc5eb05efd33f27004a85b385b5133aa76610deb81daa4694"), looks := true }, kinds := [], alts := [], laidByText := true, laidKinds := [.handle], laidTests := true, laidLooks := .later }
def CodecReadsCardSaid : Prop := Claim7.holds Tryd.pinned (.plain (OpenSpec.ofChange codecReadsSpec)) codecReadsCard

/-- THE SECOND FORM's CARD OF 'scrivenerlaw2.CodecThrough'. -/
def codecThroughUptoCard : Claim7 := { stood := { row := codecThroughUptoRow, standIns := [], harness := (true, "c9771e0d079c22cdc5eb05efd33f27004a85b385b5133aa76610deb81daa4694"), looks := true }, kinds := [], alts := [], laidByText := true, laidKinds := [.handle], laidTests := true, laidLooks := .later }
def CodecThroughUptoCardSaid : Prop := Claim7.holds Tryd.pinned (.plain (OpenSpec.upto codecThroughSpec)) codecThroughUptoCard

/-- THE SECOND FORM's CARD OF 'scrivenerlaw2.CodecReads'. -/
def codecReadsUptoCard : Claim7 := { stood := { row := codecReadsUptoRow, standIns := [], harness := (true, "c9771e0d079c22cdc5eb05efd33f27004a85b385b5133aa76610deb81daa4694"), looks := true }, kinds := [], alts := [], laidByText := true, laidKinds := [.handle], laidTests := true, laidLooks := .later }
def CodecReadsUptoCardSaid : Prop := Claim7.holds Tryd.pinned (.plain (OpenSpec.upto codecReadsSpec)) codecReadsUptoCard
end Rows
end Go.Proofs.YtonmhimoglgbgaaDoor
