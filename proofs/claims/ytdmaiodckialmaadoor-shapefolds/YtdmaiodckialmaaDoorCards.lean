/-
  DERIVED. GIVEN WITH THE SEED: THE CARDS: each row of YtdmaiodckialmaaDoorRows.lean that lists a variable, with what it lists TIED to the program's text (the seventh form; the later family's looks); each row that meets fmt, with fmt's text TOLD by the authors' own Lean function (tested against real Go, not proved from fmt's source: count such statements apart). THE CARD IS WHAT COUNTS. Prove the row's statement (the work); the ties are given (YtdmaiodckialmaaDoorTie.lean); close each card by the builder's one call (the guide's Derived/Test/ToyasCard.lean, 'card_holds'). Laid BY PROGRAM, IN A SANDBOX (cutbox-door.mjs). By AI agents, Wed Nov 11 2026. No macro, syntax, notation, axiom, sorry.
-/
import Derived.Test.YtdmaiodckialmaaDoorRows
import GoSem.ClaimSeven
namespace Go.Proofs.YtdmaiodckialmaaDoor
namespace Rows

/-- THE TIED CARD OF 'scrivenerlaw8.ShapeFolds'. -/
def shapeFoldsCard : Claim7 := { stood := { row := shapeFoldsRow, standIns := [], harness := (true, "24acdd2f3197fa7ae6423f376cd18272decd0e868a8adff26fec31545040c45e"), looks := false }, kinds := [], alts := [], laidByText := true, laidKinds := [.data, .data, .data, .data], laidTests := true, laidLooks := .later }
def ShapeFoldsCardSaid : Prop := Claim7.holds Tryd.pinned (.plain (OpenSpec.ofChange shapeFoldsSpec)) shapeFoldsCard

/-- THE SECOND FORM's CARD OF 'scrivenerlaw8.ShapeFolds'. -/
def shapeFoldsUptoCard : Claim7 := { stood := { row := shapeFoldsUptoRow, standIns := [], harness := (true, "24acdd2f3197fa7ae6423f376cd18272decd0e868a8adff26fec31545040c45e"), looks := false }, kinds := [], alts := [], laidByText := true, laidKinds := [.data, .data, .data, .data], laidTests := true, laidLooks := .later }
def ShapeFoldsUptoCardSaid : Prop := Claim7.holds Tryd.pinned (.plain (OpenSpec.upto shapeFoldsSpec)) shapeFoldsUptoCard
end Rows
end Go.Proofs.YtdmaiodckialmaaDoor
