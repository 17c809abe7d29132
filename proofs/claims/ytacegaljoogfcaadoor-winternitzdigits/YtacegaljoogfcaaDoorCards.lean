/-
  DERIVED. GIVEN WITH THE SEED: THE CARDS: each row of YtacegaljoogfcaaDoorRows.lean that lists a variable, with what it lists TIED to the program's text (the seventh form; the later family's looks); each row that meets fmt, with fmt's text TOLD by the authors' own Lean function (tested against real Go, not proved from fmt's source: count such statements apart). THE CARD IS WHAT COUNTS. Prove the row's statement (the work); the ties are given (YtacegaljoogfcaaDoorTie.lean); close each card by the builder's one call (the guide's Derived/Test/ToyasCard.lean, 'card_holds'). Laid BY PROGRAM, IN A SANDBOX (cutbox-door.mjs). By AI agents, Wed Nov 11 2026. No macro, syntax, notation, axiom, sorry.
-/
import Derived.Test.YtacegaljoogfcaaDoorRows
import GoSem.ClaimSeven
namespace Go.Proofs.YtacegaljoogfcaaDoor
namespace Rows

/-- THE TIED CARD OF 'scrivenerlaw20.WinternitzAbove'. -/
def winternitzAboveCard : Claim7 := { stood := { row := winternitzAboveRow, standIns := [], harness := (true, "cc528d8e950ba03376095b9a5481718b802909960a766059e183bd2fccafbbe4"), looks := false }, kinds := [], alts := [], laidByText := true, laidKinds := [.data, .data], laidTests := true, laidLooks := .later }
def WinternitzAboveCardSaid : Prop := Claim7.holds Tryd.pinned (.plain (OpenSpec.ofChange winternitzAboveSpec)) winternitzAboveCard

/-- THE TIED CARD OF 'scrivenerlaw20.WinternitzDigits'. -/
def winternitzDigitsCard : Claim7 := { stood := { row := winternitzDigitsRow, standIns := [], harness := (true, "cc528d8e950ba03376095b9a5481718b802909960a766059e183bd2fccafbbe4"), looks := false }, kinds := [], alts := [], laidByText := true, laidKinds := [.data, .data], laidTests := true, laidLooks := .later }
def WinternitzDigitsCardSaid : Prop := Claim7.holds Tryd.pinned (.plain (OpenSpec.ofChange winternitzDigitsSpec)) winternitzDigitsCard

/-- THE SECOND FORM's CARD OF 'scrivenerlaw20.WinternitzAbove'. -/
def winternitzAboveUptoCard : Claim7 := { stood := { row := winternitzAboveUptoRow, standIns := [], harness := (true, "cc528d8e950ba03376095b9a5481718b802909960a766059e183bd2fccafbbe4"), looks := false }, kinds := [], alts := [], laidByText := true, laidKinds := [.data, .data], laidTests := true, laidLooks := .later }
def WinternitzAboveUptoCardSaid : Prop := Claim7.holds Tryd.pinned (.plain (OpenSpec.upto winternitzAboveSpec)) winternitzAboveUptoCard

/-- THE SECOND FORM's CARD OF 'scrivenerlaw20.WinternitzDigits'. -/
def winternitzDigitsUptoCard : Claim7 := { stood := { row := winternitzDigitsUptoRow, standIns := [], harness := (true, "cc528d8e950ba03376095b9a5481718b802909960a766059e183bd2fccafbbe4"), looks := false }, kinds := [], alts := [], laidByText := true, laidKinds := [.data, .data], laidTests := true, laidLooks := .later }
def WinternitzDigitsUptoCardSaid : Prop := Claim7.holds Tryd.pinned (.plain (OpenSpec.upto winternitzDigitsSpec)) winternitzDigitsUptoCard
end Rows
end Go.Proofs.YtacegaljoogfcaaDoor
