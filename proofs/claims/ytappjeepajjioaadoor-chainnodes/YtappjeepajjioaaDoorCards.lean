/-
  DERIVED. GIVEN WITH THE SEED: THE CARDS: each row of YtappjeepajjioaaDoorRows.lean that lists a variable, with what it lists TIED to the program's text (the seventh form; the later family's looks); each row that meets fmt, with fmt's text TOLD by the authors' own Lean function (tested against real Go, not proved from fmt's source: count such statements apart). THE CARD IS WHAT COUNTS. Prove the row's statement (the work); the ties are given (YtappjeepajjioaaDoorTie.lean); close each card by the builder's one call (the guide's Derived/Test/ToyasCard.lean, 'card_holds'). Laid BY PROGRAM, IN A SANDBOX (cutbox-door.mjs). By AI agents, Wed Nov 11 2026. No macro, syntax, notation, axiom, sorry.
-/
import Derived.Test.YtappjeepajjioaaDoorRows
import GoSem.ClaimSeven
namespace Go.Proofs.YtappjeepajjioaaDoor
namespace Rows

/-- THE TIED CARD OF 'scrivenerlaw13.ChainNodes'. -/
def chainNodesCard : Claim7 := { stood := { row := chainNodesRow, standIns := [], harness := (true, "67a15f603636f3c1e53d060d47026175326612893815e393da40ac01ca6e7eac"), looks := false }, kinds := [], alts := [], laidByText := true, laidKinds := [.data, .data], laidTests := true, laidLooks := .later }
def ChainNodesCardSaid : Prop := Claim7.holds Tryd.pinned (.plain (OpenSpec.ofChange chainNodesSpec)) chainNodesCard

/-- THE SECOND FORM's CARD OF 'scrivenerlaw13.ChainNodes'. -/
def chainNodesUptoCard : Claim7 := { stood := { row := chainNodesUptoRow, standIns := [], harness := (true, "67a15f603636f3c1e53d060d47026175326612893815e393da40ac01ca6e7eac"), looks := false }, kinds := [], alts := [], laidByText := true, laidKinds := [.data, .data], laidTests := true, laidLooks := .later }
def ChainNodesUptoCardSaid : Prop := Claim7.holds Tryd.pinned (.plain (OpenSpec.upto chainNodesSpec)) chainNodesUptoCard
end Rows
end Go.Proofs.YtappjeepajjioaaDoor
