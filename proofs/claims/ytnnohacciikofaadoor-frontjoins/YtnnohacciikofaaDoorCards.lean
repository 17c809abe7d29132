/-
  DERIVED. GIVEN WITH THE SEED: THE CARDS: each row of YtnnohacciikofaaDoorRows.lean that lists a variable, with what it lists TIED to the program's text (the seventh form; the later family's looks); each row that meets fmt, with fmt's text TOLD by the authors' own Lean function (tested against real Go, not proved from fmt's source: count such statements apart). THE CARD IS WHAT COUNTS. Prove the row's statement (the work); the ties are given (YtnnohacciikofaaDoorTie.lean); close each card by the builder's one call (the guide's Derived/Test/ToyasCard.lean, 'card_holds'). Laid BY PROGRAM, IN A SANDBOX (cutbox-door.mjs). By AI agents, Wed Nov 11 2026. No macro, syntax, notation, axiom, sorry.
-/
import Derived.Test.YtnnohacciikofaaDoorRows
import GoSem.ClaimSeven
namespace Go.Proofs.YtnnohacciikofaaDoor
namespace Rows

/-- THE TIED CARD OF 'scrivenerlaw5.FrontJoins'. -/
def frontJoinsCard : Claim7 := { stood := { row := frontJoinsRow, standIns := [], harness := (true, "d01f73ec80aa3b9ef3755d0c752e08ed46ffdc7666c5919ae9183b6f0dc16887"), looks := false }, kinds := [], alts := [], laidByText := true, laidKinds := [.data, .data, .data, .data], laidTests := true, laidLooks := .later }
def FrontJoinsCardSaid : Prop := Claim7.holds Tryd.pinned (.plain (OpenSpec.ofChange frontJoinsSpec)) frontJoinsCard

/-- THE TIED CARD OF 'scrivenerlaw5.FrontPlays'. -/
def frontPlaysCard : Claim7 := { stood := { row := frontPlaysRow, standIns := [], harness := (true, "d01f73ec80aa3b9ef3755d0c752e08ed46ffdc7666c5919ae9183b6f0dc16887"), looks := false }, kinds := [], alts := [], laidByText := true, laidKinds := [.data, .data, .data, .data], laidTests := true, laidLooks := .later }
def FrontPlaysCardSaid : Prop := Claim7.holds Tryd.pinned (.plain (OpenSpec.ofChange frontPlaysSpec)) frontPlaysCard

/-- THE SECOND FORM's CARD OF 'scrivenerlaw5.FrontJoins'. -/
def frontJoinsUptoCard : Claim7 := { stood := { row := frontJoinsUptoRow, standIns := [], harness := (true, "d01f73ec80aa3b9ef3755d0c752e08ed46ffdc7666c5919ae9183b6f0dc16887"), looks := false }, kinds := [], alts := [], laidByText := true, laidKinds := [.data, .data, .data, .data], laidTests := true, laidLooks := .later }
def FrontJoinsUptoCardSaid : Prop := Claim7.holds Tryd.pinned (.plain (OpenSpec.upto frontJoinsSpec)) frontJoinsUptoCard

/-- THE SECOND FORM's CARD OF 'scrivenerlaw5.FrontPlays'. -/
def frontPlaysUptoCard : Claim7 := { stood := { row := frontPlaysUptoRow, standIns := [], harness := (true, "d01f73ec80aa3b9ef3755d0c752e08ed46ffdc7666c5919ae9183b6f0dc16887"), looks := false }, kinds := [], alts := [], laidByText := true, laidKinds := [.data, .data, .data, .data], laidTests := true, laidLooks := .later }
def FrontPlaysUptoCardSaid : Prop := Claim7.holds Tryd.pinned (.plain (OpenSpec.upto frontPlaysSpec)) frontPlaysUptoCard
end Rows
end Go.Proofs.YtnnohacciikofaaDoor
