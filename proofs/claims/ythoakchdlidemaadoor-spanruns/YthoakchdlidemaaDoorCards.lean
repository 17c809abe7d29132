/-
  DERIVED. GIVEN WITH THE SEED: THE CARDS: each row of YthoakchdlidemaaDoorRows.lean that lists a variable, with what it lists TIED to the program's text (the seventh form; the later family's looks); each row that meets fmt, with fmt's text TOLD by the authors' own Lean function (tested against real Go, not proved from fmt's source: count such statements apart). THE CARD IS WHAT COUNTS. Prove the row's statement (the work); the ties are given (YthoakchdlidemaaDoorTie.lean); close each card by the builder's one call (the guide's Derived/Test/ToyasCard.lean, 'card_holds'). Laid BY PROGRAM, IN A SANDBOX (cutbox-door.mjs). By AI agents, Wed Nov 11 2026. No macro, syntax, notation, axiom, sorry.
-/
import Derived.Test.YthoakchdlidemaaDoorRows
import GoSem.ClaimSeven
namespace Go.Proofs.YthoakchdlidemaaDoor
namespace Rows

/-- THE TIED CARD OF 'scrivenerlaw14.SpanRuns'. -/
def spanRunsCard : Claim7 := { stood := { row := spanRunsRow, standIns := [], harness := (true, "b689e6ee9dd13c647b308aedb6ddd14d88cf7d3b81920e5b4278ffdef116bc85"), looks := false }, kinds := [], alts := [], laidByText := true, laidKinds := [.data, .data, .data, .data], laidTests := true, laidLooks := .later }
def SpanRunsCardSaid : Prop := Claim7.holds Tryd.pinned (.plain (OpenSpec.ofChange spanRunsSpec)) spanRunsCard

/-- THE SECOND FORM's CARD OF 'scrivenerlaw14.SpanRuns'. -/
def spanRunsUptoCard : Claim7 := { stood := { row := spanRunsUptoRow, standIns := [], harness := (true, "b689e6ee9dd13c647b308aedb6ddd14d88cf7d3b81920e5b4278ffdef116bc85"), looks := false }, kinds := [], alts := [], laidByText := true, laidKinds := [.data, .data, .data, .data], laidTests := true, laidLooks := .later }
def SpanRunsUptoCardSaid : Prop := Claim7.holds Tryd.pinned (.plain (OpenSpec.upto spanRunsSpec)) spanRunsUptoCard
end Rows
end Go.Proofs.YthoakchdlidemaaDoor
