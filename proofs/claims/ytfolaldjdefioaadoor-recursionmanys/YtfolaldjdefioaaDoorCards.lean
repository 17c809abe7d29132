/-
  DERIVED. GIVEN WITH THE SEED: THE CARDS: each row of YtfolaldjdefioaaDoorRows.lean that lists a variable, with what it lists TIED to the program's text (the seventh form; the later family's looks); each row that meets fmt, with fmt's text TOLD by the authors' own Lean function (tested against real Go, not proved from fmt's source: count such statements apart). THE CARD IS WHAT COUNTS. Prove the row's statement (the work); the ties are given (YtfolaldjdefioaaDoorTie.lean); close each card by the builder's one call (the guide's Derived/Test/ToyasCard.lean, 'card_holds'). Laid BY PROGRAM, IN A SANDBOX (cutbox-door.mjs). By AI agents, Wed Nov 11 2026. No macro, syntax, notation, axiom, sorry.
-/
import Derived.Test.YtfolaldjdefioaaDoorRows
import GoSem.ClaimSeven
namespace Go.Proofs.YtfolaldjdefioaaDoor
namespace Rows

/-- THE TIED CARD OF 'scrivenerlaw3.RecursionSplits'. -/
def recursionSplitsCard : Claim7 := { stood := { row := recursionSplitsRow, standIns := [], harness := (true, "656b3d16cd19cfe9af3db73966fe48e85a8508a07154933fb60648685f95a708"), looks := false }, kinds := [], alts := [], laidByText := true, laidKinds := [.data, .data], laidTests := true, laidLooks := .later }
def RecursionSplitsCardSaid : Prop := Claim7.holds Tryd.pinned (.plain (OpenSpec.ofChange recursionSplitsSpec)) recursionSplitsCard

/-- THE TIED CARD OF 'scrivenerlaw3.RecursionGrows'. -/
def recursionGrowsCard : Claim7 := { stood := { row := recursionGrowsRow, standIns := [], harness := (true, "656b3d16cd19cfe9af3db73966fe48e85a8508a07154933fb60648685f95a708"), looks := false }, kinds := [], alts := [], laidByText := true, laidKinds := [.data, .data], laidTests := true, laidLooks := .later }
def RecursionGrowsCardSaid : Prop := Claim7.holds Tryd.pinned (.plain (OpenSpec.ofChange recursionGrowsSpec)) recursionGrowsCard

/-- THE TIED CARD OF 'scrivenerlaw3.RecursionManys'. -/
def recursionManysCard : Claim7 := { stood := { row := recursionManysRow, standIns := [], harness := (true, "656b3d16cd19cfe9af3db73966fe48e85a8508a07154933fb60648685f95a708"), looks := false }, kinds := [], alts := [], laidByText := true, laidKinds := [.data, .data], laidTests := true, laidLooks := .later }
def RecursionManysCardSaid : Prop := Claim7.holds Tryd.pinned (.plain (OpenSpec.ofChange recursionManysSpec)) recursionManysCard

/-- THE TIED CARD OF 'scrivenerlaw3.RecursionPaths'. -/
def recursionPathsCard : Claim7 := { stood := { row := recursionPathsRow, standIns := [], harness := (true, "656b3d16cd19cfe9af3db73966fe48e85a8508a07154933fb60648685f95a708"), looks := false }, kinds := [], alts := [], laidByText := true, laidKinds := [.data, .data], laidTests := true, laidLooks := .later }
def RecursionPathsCardSaid : Prop := Claim7.holds Tryd.pinned (.plain (OpenSpec.ofChange recursionPathsSpec)) recursionPathsCard

/-- THE TIED CARD OF 'scrivenerlaw3.RecursionRoots'. -/
def recursionRootsCard : Claim7 := { stood := { row := recursionRootsRow, standIns := [], harness := (true, "656b3d16cd19cfe9af3db73966fe48e85a8508a07154933fb60648685f95a708"), looks := false }, kinds := [], alts := [], laidByText := true, laidKinds := [.data, .data], laidTests := true, laidLooks := .later }
def RecursionRootsCardSaid : Prop := Claim7.holds Tryd.pinned (.plain (OpenSpec.ofChange recursionRootsSpec)) recursionRootsCard

/-- THE TIED CARD OF 'scrivenerlaw3.RecursionTells'. -/
def recursionTellsCard : Claim7 := { stood := { row := recursionTellsRow, standIns := [], harness := (true, "656b3d16cd19cfe9af3db73966fe48e85a8508a07154933fb60648685f95a708"), looks := false }, kinds := [], alts := [], laidByText := true, laidKinds := [.data, .data], laidTests := true, laidLooks := .later }
def RecursionTellsCardSaid : Prop := Claim7.holds Tryd.pinned (.plain (OpenSpec.ofChange recursionTellsSpec)) recursionTellsCard

/-- THE SECOND FORM's CARD OF 'scrivenerlaw3.RecursionSplits'. -/
def recursionSplitsUptoCard : Claim7 := { stood := { row := recursionSplitsUptoRow, standIns := [], harness := (true, "656b3d16cd19cfe9af3db73966fe48e85a8508a07154933fb60648685f95a708"), looks := false }, kinds := [], alts := [], laidByText := true, laidKinds := [.data, .data], laidTests := true, laidLooks := .later }
def RecursionSplitsUptoCardSaid : Prop := Claim7.holds Tryd.pinned (.plain (OpenSpec.upto recursionSplitsSpec)) recursionSplitsUptoCard

/-- THE SECOND FORM's CARD OF 'scrivenerlaw3.RecursionGrows'. -/
def recursionGrowsUptoCard : Claim7 := { stood := { row := recursionGrowsUptoRow, standIns := [], harness := (true, "656b3d16cd19cfe9af3db73966fe48e85a8508a07154933fb60648685f95a708"), looks := false }, kinds := [], alts := [], laidByText := true, laidKinds := [.data, .data], laidTests := true, laidLooks := .later }
def RecursionGrowsUptoCardSaid : Prop := Claim7.holds Tryd.pinned (.plain (OpenSpec.upto recursionGrowsSpec)) recursionGrowsUptoCard

/-- THE SECOND FORM's CARD OF 'scrivenerlaw3.RecursionManys'. -/
def recursionManysUptoCard : Claim7 := { stood := { row := recursionManysUptoRow, standIns := [], harness := (true, "656b3d16cd19cfe9af3db73966fe48e85a8508a07154933fb60648685f95a708"), looks := false }, kinds := [], alts := [], laidByText := true, laidKinds := [.data, .data], laidTests := true, laidLooks := .later }
def RecursionManysUptoCardSaid : Prop := Claim7.holds Tryd.pinned (.plain (OpenSpec.upto recursionManysSpec)) recursionManysUptoCard

/-- THE SECOND FORM's CARD OF 'scrivenerlaw3.RecursionPaths'. -/
def recursionPathsUptoCard : Claim7 := { stood := { row := recursionPathsUptoRow, standIns := [], harness := (true, "656b3d16cd19cfe9af3db73966fe48e85a8508a07154933fb60648685f95a708"), looks := false }, kinds := [], alts := [], laidByText := true, laidKinds := [.data, .data], laidTests := true, laidLooks := .later }
def RecursionPathsUptoCardSaid : Prop := Claim7.holds Tryd.pinned (.plain (OpenSpec.upto recursionPathsSpec)) recursionPathsUptoCard

/-- THE SECOND FORM's CARD OF 'scrivenerlaw3.RecursionRoots'. -/
def recursionRootsUptoCard : Claim7 := { stood := { row := recursionRootsUptoRow, standIns := [], harness := (true, "656b3d16cd19cfe9af3db73966fe48e85a8508a07154933fb60648685f95a708"), looks := false }, kinds := [], alts := [], laidByText := true, laidKinds := [.data, .data], laidTests := true, laidLooks := .later }
def RecursionRootsUptoCardSaid : Prop := Claim7.holds Tryd.pinned (.plain (OpenSpec.upto recursionRootsSpec)) recursionRootsUptoCard

/-- THE SECOND FORM's CARD OF 'scrivenerlaw3.RecursionTells'. -/
def recursionTellsUptoCard : Claim7 := { stood := { row := recursionTellsUptoRow, standIns := [], harness := (true, "656b3d16cd19cfe9af3db73966fe48e85a8508a07154933fb60648685f95a708"), looks := false }, kinds := [], alts := [], laidByText := true, laidKinds := [.data, .data], laidTests := true, laidLooks := .later }
def RecursionTellsUptoCardSaid : Prop := Claim7.holds Tryd.pinned (.plain (OpenSpec.upto recursionTellsSpec)) recursionTellsUptoCard
end Rows
end Go.Proofs.YtfolaldjdefioaaDoor
