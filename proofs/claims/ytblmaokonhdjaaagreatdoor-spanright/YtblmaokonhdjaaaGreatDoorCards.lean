/-
  DERIVED. GIVEN WITH THE SEED: THE CARDS: each row of YtblmaokonhdjaaaGreatDoorRows.lean that lists a variable, with what it lists TIED to the program's text (the seventh form; the later family's looks); each row that meets fmt, with fmt's text TOLD by the authors' own Lean function (tested against real Go, not proved from fmt's source: count such statements apart). THE CARD IS WHAT COUNTS. Prove the row's statement (the work); the ties are given (YtblmaokonhdjaaaGreatDoorTie.lean); close each card by the builder's one call (the guide's Derived/Test/ToyasCard.lean, 'card_holds'). Laid BY PROGRAM, IN A SANDBOX (cutbox-door.mjs). By AI agents, Wed Nov 11 2026. No macro, syntax, notation, axiom, sorry.
-/
import Derived.Test.YtblmaokonhdjaaaGreatDoorRows
import GoSem.ClaimSeven
namespace Go.Proofs.YtblmaokonhdjaaaGreatDoor
namespace Rows

/-- THE TIED CARD OF 'scrivenerlaw14.SpanRoots'. -/
def spanRootsCard : Claim7 := { stood := { row := spanRootsRow, standIns := [], harness := (true, "0cbf7a61f574fff22c24658aff62181ee72395482a3f42730d1d8e2858f8a31d"), looks := false }, kinds := [], alts := [], laidByText := true, laidKinds := [.data, .data, .data, .data], laidTests := true, laidLooks := .later }
def SpanRootsCardSaid : Prop := Claim7.holds Tryz.pinned (.plain (OpenSpec.ofChange spanRootsSpec)) spanRootsCard

/-- THE TIED CARD OF 'scrivenerlaw14.SpanRight'. -/
def spanRightCard : Claim7 := { stood := { row := spanRightRow, standIns := [], harness := (true, "0cbf7a61f574fff22c24658aff62181ee72395482a3f42730d1d8e2858f8a31d"), looks := false }, kinds := [], alts := [], laidByText := true, laidKinds := [.data, .data, .data, .data], laidTests := true, laidLooks := .later }
def SpanRightCardSaid : Prop := Claim7.holds Tryz.pinned (.plain (OpenSpec.ofChange spanRightSpec)) spanRightCard

/-- THE TIED CARD OF 'scrivenerlaw14.SpanStreams'. -/
def spanStreamsCard : Claim7 := { stood := { row := spanStreamsRow, standIns := [], harness := (true, "0cbf7a61f574fff22c24658aff62181ee72395482a3f42730d1d8e2858f8a31d"), looks := false }, kinds := [], alts := [], laidByText := true, laidKinds := [.data, .data, .data, .data], laidTests := true, laidLooks := .later }
def SpanStreamsCardSaid : Prop := Claim7.holds Tryz.pinned (.plain (OpenSpec.ofChange spanStreamsSpec)) spanStreamsCard

/-- THE SECOND FORM's CARD OF 'scrivenerlaw14.SpanRoots'. -/
def spanRootsUptoCard : Claim7 := { stood := { row := spanRootsUptoRow, standIns := [], harness := (true, "0cbf7a61f574fff22c24658aff62181ee72395482a3f42730d1d8e2858f8a31d"), looks := false }, kinds := [], alts := [], laidByText := true, laidKinds := [.data, .data, .data, .data], laidTests := true, laidLooks := .later }
def SpanRootsUptoCardSaid : Prop := Claim7.holds Tryz.pinned (.plain (OpenSpec.upto spanRootsSpec)) spanRootsUptoCard

/-- THE SECOND FORM's CARD OF 'scrivenerlaw14.SpanRight'. -/
def spanRightUptoCard : Claim7 := { stood := { row := spanRightUptoRow, standIns := [], harness := (true, "0cbf7a61f574fff22c24658aff62181ee72395482a3f42730d1d8e2858f8a31d"), looks := false }, kinds := [], alts := [], laidByText := true, laidKinds := [.data, .data, .data, .data], laidTests := true, laidLooks := .later }
def SpanRightUptoCardSaid : Prop := Claim7.holds Tryz.pinned (.plain (OpenSpec.upto spanRightSpec)) spanRightUptoCard

/-- THE SECOND FORM's CARD OF 'scrivenerlaw14.SpanStreams'. -/
def spanStreamsUptoCard : Claim7 := { stood := { row := spanStreamsUptoRow, standIns := [], harness := (true, "0cbf7a61f574fff22c24658aff62181ee72395482a3f42730d1d8e2858f8a31d"), looks := false }, kinds := [], alts := [], laidByText := true, laidKinds := [.data, .data, .data, .data], laidTests := true, laidLooks := .later }
def SpanStreamsUptoCardSaid : Prop := Claim7.holds Tryz.pinned (.plain (OpenSpec.upto spanStreamsSpec)) spanStreamsUptoCard
end Rows
end Go.Proofs.YtblmaokonhdjaaaGreatDoor
