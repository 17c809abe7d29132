/-
  DERIVED. GIVEN WITH THE SEED: THE CARDS: each row of YtmpaliocfikifaaDoorRows.lean that lists a variable, with what it lists TIED to the program's text (the seventh form; the later family's looks); each row that meets fmt, with fmt's text TOLD by the authors' own Lean function (tested against real Go, not proved from fmt's source: count such statements apart). THE CARD IS WHAT COUNTS. Prove the row's statement (the work); the ties are given (YtmpaliocfikifaaDoorTie.lean); close each card by the builder's one call (the guide's Derived/Test/ToyasCard.lean, 'card_holds'). Laid BY PROGRAM, IN A SANDBOX (cutbox-door.mjs). By AI agents, Wed Nov 11 2026. No macro, syntax, notation, axiom, sorry.
-/
import Derived.Test.YtmpaliocfikifaaDoorRows
import GoSem.ClaimSeven
namespace Go.Proofs.YtmpaliocfikifaaDoor
namespace Rows

/-- THE TIED CARD OF 'scrivenerlaw12.BatchPaths'. -/
def batchPathsCard : Claim7 := { stood := { row := batchPathsRow, standIns := [], harness := (true, "0290637b11cbbe5f4630e63888694704469f1a61c431faa47d30cc12494e3cfb"), looks := false }, kinds := [], alts := [], laidByText := true, laidKinds := [.data, .data, .data, .data], laidTests := true, laidLooks := .later }
def BatchPathsCardSaid : Prop := Claim7.holds Tryd.pinned (.plain (OpenSpec.ofChange batchPathsSpec)) batchPathsCard

/-- THE TIED CARD OF 'scrivenerlaw12.BatchTells'. -/
def batchTellsCard : Claim7 := { stood := { row := batchTellsRow, standIns := [], harness := (true, "0290637b11cbbe5f4630e63888694704469f1a61c431faa47d30cc12494e3cfb"), looks := false }, kinds := [], alts := [], laidByText := true, laidKinds := [.data, .data, .data, .data], laidTests := true, laidLooks := .later }
def BatchTellsCardSaid : Prop := Claim7.holds Tryd.pinned (.plain (OpenSpec.ofChange batchTellsSpec)) batchTellsCard

/-- THE SECOND FORM's CARD OF 'scrivenerlaw12.BatchPaths'. -/
def batchPathsUptoCard : Claim7 := { stood := { row := batchPathsUptoRow, standIns := [], harness := (true, "0290637b11cbbe5f4630e63888694704469f1a61c431faa47d30cc12494e3cfb"), looks := false }, kinds := [], alts := [], laidByText := true, laidKinds := [.data, .data, .data, .data], laidTests := true, laidLooks := .later }
def BatchPathsUptoCardSaid : Prop := Claim7.holds Tryd.pinned (.plain (OpenSpec.upto batchPathsSpec)) batchPathsUptoCard

/-- THE SECOND FORM's CARD OF 'scrivenerlaw12.BatchTells'. -/
def batchTellsUptoCard : Claim7 := { stood := { row := batchTellsUptoRow, standIns := [], harness := (true, "0290637b11cbbe5f4630e63888694704469f1a61c431faa47d30cc12494e3cfb"), looks := false }, kinds := [], alts := [], laidByText := true, laidKinds := [.data, .data, .data, .data], laidTests := true, laidLooks := .later }
def BatchTellsUptoCardSaid : Prop := Claim7.holds Tryd.pinned (.plain (OpenSpec.upto batchTellsSpec)) batchTellsUptoCard
end Rows
end Go.Proofs.YtmpaliocfikifaaDoor
