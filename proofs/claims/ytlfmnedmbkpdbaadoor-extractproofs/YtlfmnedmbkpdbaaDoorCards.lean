/-
  DERIVED. GIVEN WITH THE SEED: THE CARDS: each row of YtlfmnedmbkpdbaaDoorRows.lean that lists a variable, with what it lists TIED to the program's text (the seventh form; the later family's looks); each row that meets fmt, with fmt's text TOLD by the authors' own Lean function (tested against real Go, not proved from fmt's source: count such statements apart). THE CARD IS WHAT COUNTS. Prove the row's statement (the work); the ties are given (YtlfmnedmbkpdbaaDoorTie.lean); close each card by the builder's one call (the guide's Derived/Test/ToyasCard.lean, 'card_holds'). Laid BY PROGRAM, IN A SANDBOX (cutbox-door.mjs). By AI agents, Wed Nov 11 2026. No macro, syntax, notation, axiom, sorry.
-/
import Derived.Test.YtlfmnedmbkpdbaaDoorRows
import GoSem.ClaimSeven
namespace Go.Proofs.YtlfmnedmbkpdbaaDoor
namespace Rows

/-- THE TIED CARD OF 'scrivenerlaw6.ExtractProofs'. -/
def extractProofsCard : Claim7 := { stood := { row := extractProofsRow, standIns := [], harness := (true, "acc2ce6f4d9c8774bfaa7096e776798ff6acfe0ffdda2351672a77a7bbf640cd"), looks := true }, kinds := [], alts := [], laidByText := true, laidKinds := [.data, .data], laidTests := true, laidLooks := .later }
def ExtractProofsCardSaid : Prop := Claim7.holds Tryd.pinned (.plain (OpenSpec.ofChange extractProofsSpec)) extractProofsCard

/-- THE TIED CARD OF 'scrivenerlaw6.ExtractPaths'. -/
def extractPathsCard : Claim7 := { stood := { row := extractPathsRow, standIns := [], harness := (true, "acc2ce6f4d9c8774bfaa7096e776798ff6acfe0ffdda2351672a77a7bbf640cd"), looks := true }, kinds := [], alts := [], laidByText := true, laidKinds := [.data, .data], laidTests := true, laidLooks := .later }
def ExtractPathsCardSaid : Prop := Claim7.holds Tryd.pinned (.plain (OpenSpec.ofChange extractPathsSpec)) extractPathsCard

/-- THE TIED CARD OF 'scrivenerlaw6.ExtractLists'. -/
def extractListsCard : Claim7 := { stood := { row := extractListsRow, standIns := [], harness := (true, "acc2ce6f4d9c8774bfaa7096e776798ff6acfe0ffdda2351672a77a7bbf640cd"), looks := true }, kinds := [], alts := [], laidByText := true, laidKinds := [.data, .data], laidTests := true, laidLooks := .later }
def ExtractListsCardSaid : Prop := Claim7.holds Tryd.pinned (.plain (OpenSpec.ofChange extractListsSpec)) extractListsCard

/-- THE SECOND FORM's CARD OF 'scrivenerlaw6.ExtractProofs'. -/
def extractProofsUptoCard : Claim7 := { stood := { row := extractProofsUptoRow, standIns := [], harness := (true, "acc2ce6f4d9c8774bfaa7096e776798ff6acfe0ffdda2351672a77a7bbf640cd"), looks := true }, kinds := [], alts := [], laidByText := true, laidKinds := [.data, .data], laidTests := true, laidLooks := .later }
def ExtractProofsUptoCardSaid : Prop := Claim7.holds Tryd.pinned (.plain (OpenSpec.upto extractProofsSpec)) extractProofsUptoCard

/-- THE SECOND FORM's CARD OF 'scrivenerlaw6.ExtractPaths'. -/
def extractPathsUptoCard : Claim7 := { stood := { row := extractPathsUptoRow, standIns := [], harness := (true, "acc2ce6f4d9c8774bfaa7096e776798ff6acfe0ffdda2351672a77a7bbf640cd"), looks := true }, kinds := [], alts := [], laidByText := true, laidKinds := [.data, .data], laidTests := true, laidLooks := .later }
def ExtractPathsUptoCardSaid : Prop := Claim7.holds Tryd.pinned (.plain (OpenSpec.upto extractPathsSpec)) extractPathsUptoCard

/-- THE SECOND FORM's CARD OF 'scrivenerlaw6.ExtractLists'. -/
def extractListsUptoCard : Claim7 := { stood := { row := extractListsUptoRow, standIns := [], harness := (true, "acc2ce6f4d9c8774bfaa7096e776798ff6acfe0ffdda2351672a77a7bbf640cd"), looks := true }, kinds := [], alts := [], laidByText := true, laidKinds := [.data, .data], laidTests := true, laidLooks := .later }
def ExtractListsUptoCardSaid : Prop := Claim7.holds Tryd.pinned (.plain (OpenSpec.upto extractListsSpec)) extractListsUptoCard
end Rows
end Go.Proofs.YtlfmnedmbkpdbaaDoor
