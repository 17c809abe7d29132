/-
  DERIVED. GIVEN WITH THE SEED: THE CARDS: each row of YtappjeepajjioaaGreatDoorRows.lean that lists a variable, with what it lists TIED to the program's text (the seventh form; the later family's looks); each row that meets fmt, with fmt's text TOLD by the authors' own Lean function (tested against real Go, not proved from fmt's source: count such statements apart). THE CARD IS WHAT COUNTS. Prove the row's statement (the work); the ties are given (YtappjeepajjioaaGreatDoorTie.lean); close each card by the builder's one call (the guide's Derived/Test/ToyasCard.lean, 'card_holds'). Laid BY PROGRAM, IN A SANDBOX (cutbox-door.mjs). By AI agents, Wed Nov 11 2026. No macro, syntax, notation, axiom, sorry.
-/
import Derived.Test.YtappjeepajjioaaGreatDoorRows
import GoSem.ClaimSeven
namespace Go.Proofs.YtappjeepajjioaaGreatDoor
namespace Rows

/-- THE TIED CARD OF 'scrivenerlaw13.ChainAlone'. -/
def chainAloneCard : Claim7 := { stood := { row := chainAloneRow, standIns := [], harness := (true, "68356ca54c04ef2402dafbc6d43513836083e82053c08047285ab9d0b3e21c5d"), looks := false }, kinds := [], alts := [], laidByText := true, laidKinds := [.data, .data, .data, .data], laidTests := true, laidLooks := .later }
def ChainAloneCardSaid : Prop := Claim7.holds Tryz.pinned (.plain (OpenSpec.ofChange chainAloneSpec)) chainAloneCard

/-- THE TIED CARD OF 'scrivenerlaw13.ChainTrees'. -/
def chainTreesCard : Claim7 := { stood := { row := chainTreesRow, standIns := [], harness := (true, "68356ca54c04ef2402dafbc6d43513836083e82053c08047285ab9d0b3e21c5d"), looks := false }, kinds := [], alts := [], laidByText := true, laidKinds := [.data, .data, .data, .data], laidTests := true, laidLooks := .later }
def ChainTreesCardSaid : Prop := Claim7.holds Tryz.pinned (.plain (OpenSpec.ofChange chainTreesSpec)) chainTreesCard

/-- THE TIED CARD OF 'scrivenerlaw13.ChainProves'. -/
def chainProvesCard : Claim7 := { stood := { row := chainProvesRow, standIns := [], harness := (true, "68356ca54c04ef2402dafbc6d43513836083e82053c08047285ab9d0b3e21c5d"), looks := false }, kinds := [], alts := [], laidByText := true, laidKinds := [.data, .data, .data, .data], laidTests := true, laidLooks := .later }
def ChainProvesCardSaid : Prop := Claim7.holds Tryz.pinned (.plain (OpenSpec.ofChange chainProvesSpec)) chainProvesCard

/-- THE TIED CARD OF 'scrivenerlaw13.ChainExpands'. -/
def chainExpandsCard : Claim7 := { stood := { row := chainExpandsRow, standIns := [], harness := (true, "68356ca54c04ef2402dafbc6d43513836083e82053c08047285ab9d0b3e21c5d"), looks := false }, kinds := [], alts := [], laidByText := true, laidKinds := [.data, .data, .data, .data], laidTests := true, laidLooks := .later }
def ChainExpandsCardSaid : Prop := Claim7.holds Tryz.pinned (.plain (OpenSpec.ofChange chainExpandsSpec)) chainExpandsCard

/-- THE SECOND FORM's CARD OF 'scrivenerlaw13.ChainAlone'. -/
def chainAloneUptoCard : Claim7 := { stood := { row := chainAloneUptoRow, standIns := [], harness := (true, "68356ca54c04ef2402dafbc6d43513836083e82053c08047285ab9d0b3e21c5d"), looks := false }, kinds := [], alts := [], laidByText := true, laidKinds := [.data, .data, .data, .data], laidTests := true, laidLooks := .later }
def ChainAloneUptoCardSaid : Prop := Claim7.holds Tryz.pinned (.plain (OpenSpec.upto chainAloneSpec)) chainAloneUptoCard

/-- THE SECOND FORM's CARD OF 'scrivenerlaw13.ChainTrees'. -/
def chainTreesUptoCard : Claim7 := { stood := { row := chainTreesUptoRow, standIns := [], harness := (true, "68356ca54c04ef2402dafbc6d43513836083e82053c08047285ab9d0b3e21c5d"), looks := false }, kinds := [], alts := [], laidByText := true, laidKinds := [.data, .data, .data, .data], laidTests := true, laidLooks := .later }
def ChainTreesUptoCardSaid : Prop := Claim7.holds Tryz.pinned (.plain (OpenSpec.upto chainTreesSpec)) chainTreesUptoCard

/-- THE SECOND FORM's CARD OF 'scrivenerlaw13.ChainProves'. -/
def chainProvesUptoCard : Claim7 := { stood := { row := chainProvesUptoRow, standIns := [], harness := (true, "68356ca54c04ef2402dafbc6d43513836083e82053c08047285ab9d0b3e21c5d"), looks := false }, kinds := [], alts := [], laidByText := true, laidKinds := [.data, .data, .data, .data], laidTests := true, laidLooks := .later }
def ChainProvesUptoCardSaid : Prop := Claim7.holds Tryz.pinned (.plain (OpenSpec.upto chainProvesSpec)) chainProvesUptoCard

/-- THE SECOND FORM's CARD OF 'scrivenerlaw13.ChainExpands'. -/
def chainExpandsUptoCard : Claim7 := { stood := { row := chainExpandsUptoRow, standIns := [], harness := (true, "68356ca54c04ef2402dafbc6d43513836083e82053c08047285ab9d0b3e21c5d"), looks := false }, kinds := [], alts := [], laidByText := true, laidKinds := [.data, .data, .data, .data], laidTests := true, laidLooks := .later }
def ChainExpandsUptoCardSaid : Prop := Claim7.holds Tryz.pinned (.plain (OpenSpec.upto chainExpandsSpec)) chainExpandsUptoCard
end Rows
end Go.Proofs.YtappjeepajjioaaGreatDoor
