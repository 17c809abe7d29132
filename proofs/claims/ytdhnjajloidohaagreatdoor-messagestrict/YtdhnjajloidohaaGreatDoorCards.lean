/-
  DERIVED. GIVEN WITH THE SEED: THE CARDS: each row of YtdhnjajloidohaaGreatDoorRows.lean that lists a variable, with what it lists TIED to the program's text (the seventh form; the later family's looks); each row that meets fmt, with fmt's text TOLD by the authors' own Lean function (tested against real Go, not proved from fmt's source: count such statements apart). THE CARD IS WHAT COUNTS. Prove the row's statement (the work); the ties are given (YtdhnjajloidohaaGreatDoorTie.lean); close each card by the builder's one call (the guide's Derived/Test/ToyasCard.lean, 'card_holds'). Laid BY PROGRAM, IN A SANDBOX (cutbox-door.mjs). By AI agents, Wed Nov 11 2026. No macro, syntax, notation, axiom, sorry.
-/
import Derived.Test.YtdhnjajloidohaaGreatDoorRows
import GoSem.ClaimSeven
namespace Go.Proofs.YtdhnjajloidohaaGreatDoor
namespace Rows

/-- THE TIED CARD OF 'scrivenerlaw17.MessageStrict'. -/
def messageStrictCard : Claim7 := { stood := { row := messageStrictRow, standIns := [], harness := (true, "7a22587672e9758bafac85aeecc237f2738ed9240fd86a8d770802d30a70c6eb"), looks := true }, kinds := [], alts := [], laidByText := true, laidKinds := [.handle], laidTests := true, laidLooks := .later }
def MessageStrictCardSaid : Prop := Claim7.holds Tryz.pinned (.plain (OpenSpec.ofChange messageStrictSpec)) messageStrictCard

/-- THE TIED CARD OF 'scrivenerlaw17.MessageThere'. -/
def messageThereCard : Claim7 := { stood := { row := messageThereRow, standIns := [], harness := (true, "7a22587672e9758bafac85aeecc237f2738ed9240fd86a8d770802d30a70c6eb"), looks := true }, kinds := [], alts := [], laidByText := true, laidKinds := [.handle], laidTests := true, laidLooks := .later }
def MessageThereCardSaid : Prop := Claim7.holds Tryz.pinned (.plain (OpenSpec.ofChange messageThereSpec)) messageThereCard

/-- THE TIED CARD OF 'scrivenerlaw17.MessageBack'. -/
def messageBackCard : Claim7 := { stood := { row := messageBackRow, standIns := [], harness := (true, "7a22587672e9758bafac85aeecc237f2738ed9240fd86a8d770802d30a70c6eb"), looks := true }, kinds := [], alts := [], laidByText := true, laidKinds := [.handle], laidTests := true, laidLooks := .later }
def MessageBackCardSaid : Prop := Claim7.holds Tryz.pinned (.plain (OpenSpec.ofChange messageBackSpec)) messageBackCard

/-- THE TIED CARD OF 'scrivenerlaw17.MessageEncodes'. -/
def messageEncodesCard : Claim7 := { stood := { row := messageEncodesRow, standIns := [], harness := (true, "7a22587672e9758bafac85aeecc237f2738ed9240fd86a8d770802d30a70c6eb"), looks := true }, kinds := [], alts := [], laidByText := true, laidKinds := [.handle], laidTests := true, laidLooks := .later }
def MessageEncodesCardSaid : Prop := Claim7.holds Tryz.pinned (.plain (OpenSpec.ofChange messageEncodesSpec)) messageEncodesCard

/-- THE TIED CARD OF 'scrivenerlaw17.MessageReplies'. -/
def messageRepliesCard : Claim7 := { stood := { row := messageRepliesRow, standIns := [], harness := (true, "7a22587672e9758bafac85aeecc237f2738ed9240fd86a8d770802d30a70c6eb"), looks := true }, kinds := [], alts := [], laidByText := true, laidKinds := [.handle], laidTests := true, laidLooks := .later }
def MessageRepliesCardSaid : Prop := Claim7.holds Tryz.pinned (.plain (OpenSpec.ofChange messageRepliesSpec)) messageRepliesCard

/-- THE TIED CARD OF 'scrivenerlaw17.MessageDecodes'. -/
def messageDecodesCard : Claim7 := { stood := { row := messageDecodesRow, standIns := [], harness := (true, "7a22587672e9758bafac85aeecc237f2738ed9240fd86a8d770802d30a70c6eb"), looks := true }, kinds := [], alts := [], laidByText := true, laidKinds := [.handle], laidTests := true, laidLooks := .later }
def MessageDecodesCardSaid : Prop := Claim7.holds Tryz.pinned (.plain (OpenSpec.ofChange messageDecodesSpec)) messageDecodesCard

/-- THE SECOND FORM's CARD OF 'scrivenerlaw17.MessageStrict'. -/
def messageStrictUptoCard : Claim7 := { stood := { row := messageStrictUptoRow, standIns := [], harness := (true, "7a22587672e9758bafac85aeecc237f2738ed9240fd86a8d770802d30a70c6eb"), looks := true }, kinds := [], alts := [], laidByText := true, laidKinds := [.handle], laidTests := true, laidLooks := .later }
def MessageStrictUptoCardSaid : Prop := Claim7.holds Tryz.pinned (.plain (OpenSpec.upto messageStrictSpec)) messageStrictUptoCard

/-- THE SECOND FORM's CARD OF 'scrivenerlaw17.MessageThere'. -/
def messageThereUptoCard : Claim7 := { stood := { row := messageThereUptoRow, standIns := [], harness := (true, "7a22587672e9758bafac85aeecc237f2738ed9240fd86a8d770802d30a70c6eb"), looks := true }, kinds := [], alts := [], laidByText := true, laidKinds := [.handle], laidTests := true, laidLooks := .later }
def MessageThereUptoCardSaid : Prop := Claim7.holds Tryz.pinned (.plain (OpenSpec.upto messageThereSpec)) messageThereUptoCard

/-- THE SECOND FORM's CARD OF 'scrivenerlaw17.MessageBack'. -/
def messageBackUptoCard : Claim7 := { stood := { row := messageBackUptoRow, standIns := [], harness := (true, "7a22587672e9758bafac85aeecc237f2738ed9240fd86a8d770802d30a70c6eb"), looks := true }, kinds := [], alts := [], laidByText := true, laidKinds := [.handle], laidTests := true, laidLooks := .later }
def MessageBackUptoCardSaid : Prop := Claim7.holds Tryz.pinned (.plain (OpenSpec.upto messageBackSpec)) messageBackUptoCard

/-- THE SECOND FORM's CARD OF 'scrivenerlaw17.MessageEncodes'. -/
def messageEncodesUptoCard : Claim7 := { stood := { row := messageEncodesUptoRow, standIns := [], harness := (true, "7a22587672e9758bafac85aeecc237f2738ed9240fd86a8d770802d30a70c6eb"), looks := true }, kinds := [], alts := [], laidByText := true, laidKinds := [.handle], laidTests := true, laidLooks := .later }
def MessageEncodesUptoCardSaid : Prop := Claim7.holds Tryz.pinned (.plain (OpenSpec.upto messageEncodesSpec)) messageEncodesUptoCard

/-- THE SECOND FORM's CARD OF 'scrivenerlaw17.MessageReplies'. -/
def messageRepliesUptoCard : Claim7 := { stood := { row := messageRepliesUptoRow, standIns := [], harness := (true, "7a22587672e9758bafac85aeecc237f2738ed9240fd86a8d770802d30a70c6eb"), looks := true }, kinds := [], alts := [], laidByText := true, laidKinds := [.handle], laidTests := true, laidLooks := .later }
def MessageRepliesUptoCardSaid : Prop := Claim7.holds Tryz.pinned (.plain (OpenSpec.upto messageRepliesSpec)) messageRepliesUptoCard

/-- THE SECOND FORM's CARD OF 'scrivenerlaw17.MessageDecodes'. -/
def messageDecodesUptoCard : Claim7 := { stood := { row := messageDecodesUptoRow, standIns := [], harness := (true, "7a22587672e9758bafac85aeecc237f2738ed9240fd86a8d770802d30a70c6eb"), looks := true }, kinds := [], alts := [], laidByText := true, laidKinds := [.handle], laidTests := true, laidLooks := .later }
def MessageDecodesUptoCardSaid : Prop := Claim7.holds Tryz.pinned (.plain (OpenSpec.upto messageDecodesSpec)) messageDecodesUptoCard
end Rows
end Go.Proofs.YtdhnjajloidohaaGreatDoor
