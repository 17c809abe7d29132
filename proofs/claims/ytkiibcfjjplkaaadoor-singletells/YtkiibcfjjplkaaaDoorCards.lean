/-
  DERIVED. GIVEN WITH THE SEED: THE CARDS: each row of YtkiibcfjjplkaaaDoorRows.lean that lists a variable, with what it lists TIED to the program's text (the seventh form; the later family's looks); each row that meets fmt, with fmt's text TOLD by the authors' own Lean function (tested against real Go, not proved from fmt's source: count such statements apart). THE CARD IS WHAT COUNTS. Prove the row's statement (the work); the ties are given (YtkiibcfjjplkaaaDoorTie.lean); close each card by the builder's one call (the guide's Derived/Test/ToyasCard.lean, 'card_holds'). Laid BY PROGRAM, IN A SANDBOX (cutbox-door.mjs). By AI agents, Wed Nov 11 2026. No macro, syntax, notation, axiom, sorry.
-/
import Derived.Test.YtkiibcfjjplkaaaDoorRows
import GoSem.ClaimSeven
namespace Go.Proofs.YtkiibcfjjplkaaaDoor
namespace Rows

/-- THE TIED CARD OF 'scrivenerlaw11.SingleShapes'. -/
def singleShapesCard : Claim7 := { stood := { row := singleShapesRow, standIns := [], harness := (true, "64d7b6ceff3cf9164fa13d128da993163115101bc6bf2847ea5298284d0e0e96"), looks := false }, kinds := [], alts := [], laidByText := true, laidKinds := [.data, .data, .data, .data], laidTests := true, laidLooks := .later }
def SingleShapesCardSaid : Prop := Claim7.holds Tryd.pinned (.plain (OpenSpec.ofChange singleShapesSpec)) singleShapesCard

/-- THE TIED CARD OF 'scrivenerlaw11.SingleAccepted'. -/
def singleAcceptedCard : Claim7 := { stood := { row := singleAcceptedRow, standIns := [], harness := (true, "64d7b6ceff3cf9164fa13d128da993163115101bc6bf2847ea5298284d0e0e96"), looks := false }, kinds := [], alts := [], laidByText := true, laidKinds := [.data, .data, .data, .data], laidTests := true, laidLooks := .later }
def SingleAcceptedCardSaid : Prop := Claim7.holds Tryd.pinned (.plain (OpenSpec.ofChange singleAcceptedSpec)) singleAcceptedCard

/-- THE TIED CARD OF 'scrivenerlaw11.SingleTells'. -/
def singleTellsCard : Claim7 := { stood := { row := singleTellsRow, standIns := [], harness := (true, "64d7b6ceff3cf9164fa13d128da993163115101bc6bf2847ea5298284d0e0e96"), looks := false }, kinds := [], alts := [], laidByText := true, laidKinds := [.data, .data, .data, .data], laidTests := true, laidLooks := .later }
def SingleTellsCardSaid : Prop := Claim7.holds Tryd.pinned (.plain (OpenSpec.ofChange singleTellsSpec)) singleTellsCard

/-- THE SECOND FORM's CARD OF 'scrivenerlaw11.SingleShapes'. -/
def singleShapesUptoCard : Claim7 := { stood := { row := singleShapesUptoRow, standIns := [], harness := (true, "64d7b6ceff3cf9164fa13d128da993163115101bc6bf2847ea5298284d0e0e96"), looks := false }, kinds := [], alts := [], laidByText := true, laidKinds := [.data, .data, .data, .data], laidTests := true, laidLooks := .later }
def SingleShapesUptoCardSaid : Prop := Claim7.holds Tryd.pinned (.plain (OpenSpec.upto singleShapesSpec)) singleShapesUptoCard

/-- THE SECOND FORM's CARD OF 'scrivenerlaw11.SingleAccepted'. -/
def singleAcceptedUptoCard : Claim7 := { stood := { row := singleAcceptedUptoRow, standIns := [], harness := (true, "64d7b6ceff3cf9164fa13d128da993163115101bc6bf2847ea5298284d0e0e96"), looks := false }, kinds := [], alts := [], laidByText := true, laidKinds := [.data, .data, .data, .data], laidTests := true, laidLooks := .later }
def SingleAcceptedUptoCardSaid : Prop := Claim7.holds Tryd.pinned (.plain (OpenSpec.upto singleAcceptedSpec)) singleAcceptedUptoCard

/-- THE SECOND FORM's CARD OF 'scrivenerlaw11.SingleTells'. -/
def singleTellsUptoCard : Claim7 := { stood := { row := singleTellsUptoRow, standIns := [], harness := (true, "64d7b6ceff3cf9164fa13d128da993163115101bc6bf2847ea5298284d0e0e96"), looks := false }, kinds := [], alts := [], laidByText := true, laidKinds := [.data, .data, .data, .data], laidTests := true, laidLooks := .later }
def SingleTellsUptoCardSaid : Prop := Claim7.holds Tryd.pinned (.plain (OpenSpec.upto singleTellsSpec)) singleTellsUptoCard
end Rows
end Go.Proofs.YtkiibcfjjplkaaaDoor
