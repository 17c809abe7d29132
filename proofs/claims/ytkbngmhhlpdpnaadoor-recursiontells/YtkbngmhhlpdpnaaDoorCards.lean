/-
  DERIVED. GIVEN WITH THE SEED: THE CARDS: each row of YtkbngmhhlpdpnaaDoorRows.lean that lists a variable, with what it lists TIED to the program's text (the seventh form; the later family's looks); each row that meets fmt, with fmt's text TOLD by the authors' own Lean function (tested against real Go, not proved from fmt's source: count such statements apart). THE CARD IS WHAT COUNTS. Prove the row's statement (the work); the ties are given (YtkbngmhhlpdpnaaDoorTie.lean); close each card by the builder's one call (the guide's Derived/Test/ToyasCard.lean, 'card_holds'). Laid BY PROGRAM, IN A SANDBOX (cutbox-door.mjs). By AI agents, Wed Nov 11 2026. No macro, syntax, notation, axiom, sorry.
-/
import Derived.Test.YtkbngmhhlpdpnaaDoorRows
import GoSem.ClaimSeven
namespace Go.Proofs.YtkbngmhhlpdpnaaDoor
namespace Rows

/-- THE TIED CARD OF 'scrivenerlaw3.RecursionTells'. -/
def recursionTellsCard : Claim7 := { stood := { row := recursionTellsRow, standIns := [], harness := (true, "8130be64e9677f64e29fc33d8dd906e650c0b28a3981d3faf767efca266200c3"), looks := false }, kinds := [], alts := [], laidByText := true, laidKinds := [.data, .data], laidTests := true, laidLooks := .later }
def RecursionTellsCardSaid : Prop := Claim7.holds Tryd.pinned (.plain (OpenSpec.ofChange recursionTellsSpec)) recursionTellsCard

/-- THE TIED CARD OF 'scrivenerlaw4.VerifyOne'. -/
def verifyOneCard : Claim7 := { stood := { row := verifyOneRow, standIns := [], harness := (true, "8130be64e9677f64e29fc33d8dd906e650c0b28a3981d3faf767efca266200c3"), looks := false }, kinds := [], alts := [], laidByText := true, laidKinds := [.data, .data], laidTests := true, laidLooks := .later }
def VerifyOneCardSaid : Prop := Claim7.holds Tryd.pinned (.plain (OpenSpec.ofChange verifyOneSpec)) verifyOneCard

/-- THE TIED CARD OF 'scrivenerlaw4.VerifyLens'. -/
def verifyLensCard : Claim7 := { stood := { row := verifyLensRow, standIns := [], harness := (true, "8130be64e9677f64e29fc33d8dd906e650c0b28a3981d3faf767efca266200c3"), looks := false }, kinds := [], alts := [], laidByText := true, laidKinds := [.data, .data], laidTests := true, laidLooks := .later }
def VerifyLensCardSaid : Prop := Claim7.holds Tryd.pinned (.plain (OpenSpec.ofChange verifyLensSpec)) verifyLensCard

/-- THE TIED CARD OF 'scrivenerlaw4.VerifyTrees'. -/
def verifyTreesCard : Claim7 := { stood := { row := verifyTreesRow, standIns := [], harness := (true, "8130be64e9677f64e29fc33d8dd906e650c0b28a3981d3faf767efca266200c3"), looks := false }, kinds := [], alts := [], laidByText := true, laidKinds := [.data, .data], laidTests := true, laidLooks := .later }
def VerifyTreesCardSaid : Prop := Claim7.holds Tryd.pinned (.plain (OpenSpec.ofChange verifyTreesSpec)) verifyTreesCard

/-- THE TIED CARD OF 'scrivenerlaw4.VerifyPaths'. -/
def verifyPathsCard : Claim7 := { stood := { row := verifyPathsRow, standIns := [], harness := (true, "8130be64e9677f64e29fc33d8dd906e650c0b28a3981d3faf767efca266200c3"), looks := false }, kinds := [], alts := [], laidByText := true, laidKinds := [.data, .data], laidTests := true, laidLooks := .later }
def VerifyPathsCardSaid : Prop := Claim7.holds Tryd.pinned (.plain (OpenSpec.ofChange verifyPathsSpec)) verifyPathsCard

/-- THE TIED CARD OF 'scrivenerlaw4.VerifyProofs'. -/
def verifyProofsCard : Claim7 := { stood := { row := verifyProofsRow, standIns := [], harness := (true, "8130be64e9677f64e29fc33d8dd906e650c0b28a3981d3faf767efca266200c3"), looks := false }, kinds := [], alts := [], laidByText := true, laidKinds := [.data, .data], laidTests := true, laidLooks := .later }
def VerifyProofsCardSaid : Prop := Claim7.holds Tryd.pinned (.plain (OpenSpec.ofChange verifyProofsSpec)) verifyProofsCard

/-- THE SECOND FORM's CARD OF 'scrivenerlaw3.RecursionTells'. -/
def recursionTellsUptoCard : Claim7 := { stood := { row := recursionTellsUptoRow, standIns := [], harness := (true, "8130be64e9677f64e29fc33d8dd906e650c0b28a3981d3faf767efca266200c3"), looks := false }, kinds := [], alts := [], laidByText := true, laidKinds := [.data, .data], laidTests := true, laidLooks := .later }
def RecursionTellsUptoCardSaid : Prop := Claim7.holds Tryd.pinned (.plain (OpenSpec.upto recursionTellsSpec)) recursionTellsUptoCard

/-- THE SECOND FORM's CARD OF 'scrivenerlaw4.VerifyOne'. -/
def verifyOneUptoCard : Claim7 := { stood := { row := verifyOneUptoRow, standIns := [], harness := (true, "8130be64e9677f64e29fc33d8dd906e650c0b28a3981d3faf767efca266200c3"), looks := false }, kinds := [], alts := [], laidByText := true, laidKinds := [.data, .data], laidTests := true, laidLooks := .later }
def VerifyOneUptoCardSaid : Prop := Claim7.holds Tryd.pinned (.plain (OpenSpec.upto verifyOneSpec)) verifyOneUptoCard

/-- THE SECOND FORM's CARD OF 'scrivenerlaw4.VerifyLens'. -/
def verifyLensUptoCard : Claim7 := { stood := { row := verifyLensUptoRow, standIns := [], harness := (true, "8130be64e9677f64e29fc33d8dd906e650c0b28a3981d3faf767efca266200c3"), looks := false }, kinds := [], alts := [], laidByText := true, laidKinds := [.data, .data], laidTests := true, laidLooks := .later }
def VerifyLensUptoCardSaid : Prop := Claim7.holds Tryd.pinned (.plain (OpenSpec.upto verifyLensSpec)) verifyLensUptoCard

/-- THE SECOND FORM's CARD OF 'scrivenerlaw4.VerifyTrees'. -/
def verifyTreesUptoCard : Claim7 := { stood := { row := verifyTreesUptoRow, standIns := [], harness := (true, "8130be64e9677f64e29fc33d8dd906e650c0b28a3981d3faf767efca266200c3"), looks := false }, kinds := [], alts := [], laidByText := true, laidKinds := [.data, .data], laidTests := true, laidLooks := .later }
def VerifyTreesUptoCardSaid : Prop := Claim7.holds Tryd.pinned (.plain (OpenSpec.upto verifyTreesSpec)) verifyTreesUptoCard

/-- THE SECOND FORM's CARD OF 'scrivenerlaw4.VerifyPaths'. -/
def verifyPathsUptoCard : Claim7 := { stood := { row := verifyPathsUptoRow, standIns := [], harness := (true, "8130be64e9677f64e29fc33d8dd906e650c0b28a3981d3faf767efca266200c3"), looks := false }, kinds := [], alts := [], laidByText := true, laidKinds := [.data, .data], laidTests := true, laidLooks := .later }
def VerifyPathsUptoCardSaid : Prop := Claim7.holds Tryd.pinned (.plain (OpenSpec.upto verifyPathsSpec)) verifyPathsUptoCard

/-- THE SECOND FORM's CARD OF 'scrivenerlaw4.VerifyProofs'. -/
def verifyProofsUptoCard : Claim7 := { stood := { row := verifyProofsUptoRow, standIns := [], harness := (true, "8130be64e9677f64e29fc33d8dd906e650c0b28a3981d3faf767efca266200c3"), looks := false }, kinds := [], alts := [], laidByText := true, laidKinds := [.data, .data], laidTests := true, laidLooks := .later }
def VerifyProofsUptoCardSaid : Prop := Claim7.holds Tryd.pinned (.plain (OpenSpec.upto verifyProofsSpec)) verifyProofsUptoCard
end Rows
end Go.Proofs.YtkbngmhhlpdpnaaDoor
