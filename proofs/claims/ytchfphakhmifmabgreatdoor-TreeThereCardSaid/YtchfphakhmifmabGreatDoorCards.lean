/-
  DERIVED. GIVEN WITH THE SEED: THE CARDS: each row of YtchfphakhmifmabGreatDoorRows.lean that lists a variable, with what it lists TIED to the program's text (the seventh form; the later family's looks); each row that meets fmt, with fmt's text TOLD by the authors' own Lean function (tested against real Go, not proved from fmt's source: count such statements apart). THE CARD IS WHAT COUNTS. Prove the row's statement (the work); the ties are given (YtchfphakhmifmabGreatDoorTie.lean); close each card by the builder's one call (the guide's Derived/Test/ToyasCard.lean, 'card_holds'). Laid BY PROGRAM, IN A SANDBOX (cutbox-door.mjs). By AI agents, Wed Nov 11 2026. No macro, syntax, notation, axiom, sorry.
-/
import Derived.Test.YtchfphakhmifmabGreatDoorRows
import GoSem.ClaimSeven
namespace Go.Proofs.YtchfphakhmifmabGreatDoor
namespace Rows

/-- THE TIED CARD OF 'stencillaw05.TreeNested'. -/
def treeNestedCard : Claim7 := { stood := { row := treeNestedRow, standIns := [], harness := (true, "6cfce74ec5d03f39a6fb6988491381aa3fbd8522209df4339c88f53aa2e1c1d9"), looks := true }, kinds := [], alts := [], laidByText := true, laidKinds := [.data, .data, .data, .pinned, .pinned], laidTests := true, laidLooks := .later }
def TreeNestedCardSaid : Prop := Claim7.holds Tryz.pinned (.plain (OpenSpec.ofChange treeNestedSpec)) treeNestedCard

/-- THE TIED CARD OF 'stencillaw05.TreeParses'. -/
def treeParsesCard : Claim7 := { stood := { row := treeParsesRow, standIns := [], harness := (true, "6cfce74ec5d03f39a6fb6988491381aa3fbd8522209df4339c88f53aa2e1c1d9"), looks := true }, kinds := [], alts := [], laidByText := true, laidKinds := [.data, .data, .data, .pinned, .pinned], laidTests := true, laidLooks := .later }
def TreeParsesCardSaid : Prop := Claim7.holds Tryz.pinned (.plain (OpenSpec.ofChange treeParsesSpec)) treeParsesCard

/-- THE TIED CARD OF 'stencillaw05.TreeKept'. -/
def treeKeptCard : Claim7 := { stood := { row := treeKeptRow, standIns := [], harness := (true, "6cfce74ec5d03f39a6fb6988491381aa3fbd8522209df4339c88f53aa2e1c1d9"), looks := true }, kinds := [], alts := [], laidByText := true, laidKinds := [.data, .data, .data, .pinned, .pinned], laidTests := true, laidLooks := .later }
def TreeKeptCardSaid : Prop := Claim7.holds Tryz.pinned (.plain (OpenSpec.ofChange treeKeptSpec)) treeKeptCard

/-- THE TIED CARD OF 'stencillaw05.TreeThere'. -/
def treeThereCard : Claim7 := { stood := { row := treeThereRow, standIns := [], harness := (true, "6cfce74ec5d03f39a6fb6988491381aa3fbd8522209df4339c88f53aa2e1c1d9"), looks := true }, kinds := [], alts := [], laidByText := true, laidKinds := [.data, .data, .data, .data, .pinned, .pinned], laidTests := true, laidLooks := .later }
def TreeThereCardSaid : Prop := Claim7.holds Tryz.pinned (.plain (OpenSpec.ofChange treeThereSpec)) treeThereCard

/-- THE SECOND FORM's CARD OF 'stencillaw05.TreeNested'. -/
def treeNestedUptoCard : Claim7 := { stood := { row := treeNestedUptoRow, standIns := [], harness := (true, "6cfce74ec5d03f39a6fb6988491381aa3fbd8522209df4339c88f53aa2e1c1d9"), looks := true }, kinds := [], alts := [], laidByText := true, laidKinds := [.data, .data, .data, .pinned, .pinned], laidTests := true, laidLooks := .later }
def TreeNestedUptoCardSaid : Prop := Claim7.holds Tryz.pinned (.plain (OpenSpec.upto treeNestedSpec)) treeNestedUptoCard

/-- THE SECOND FORM's CARD OF 'stencillaw05.TreeParses'. -/
def treeParsesUptoCard : Claim7 := { stood := { row := treeParsesUptoRow, standIns := [], harness := (true, "6cfce74ec5d03f39a6fb6988491381aa3fbd8522209df4339c88f53aa2e1c1d9"), looks := true }, kinds := [], alts := [], laidByText := true, laidKinds := [.data, .data, .data, .pinned, .pinned], laidTests := true, laidLooks := .later }
def TreeParsesUptoCardSaid : Prop := Claim7.holds Tryz.pinned (.plain (OpenSpec.upto treeParsesSpec)) treeParsesUptoCard

/-- THE SECOND FORM's CARD OF 'stencillaw05.TreeKept'. -/
def treeKeptUptoCard : Claim7 := { stood := { row := treeKeptUptoRow, standIns := [], harness := (true, "6cfce74ec5d03f39a6fb6988491381aa3fbd8522209df4339c88f53aa2e1c1d9"), looks := true }, kinds := [], alts := [], laidByText := true, laidKinds := [.data, .data, .data, .pinned, .pinned], laidTests := true, laidLooks := .later }
def TreeKeptUptoCardSaid : Prop := Claim7.holds Tryz.pinned (.plain (OpenSpec.upto treeKeptSpec)) treeKeptUptoCard

/-- THE SECOND FORM's CARD OF 'stencillaw05.TreeThere'. -/
def treeThereUptoCard : Claim7 := { stood := { row := treeThereUptoRow, standIns := [], harness := (true, "6cfce74ec5d03f39a6fb6988491381aa3fbd8522209df4339c88f53aa2e1c1d9"), looks := true }, kinds := [], alts := [], laidByText := true, laidKinds := [.data, .data, .data, .data, .pinned, .pinned], laidTests := true, laidLooks := .later }
def TreeThereUptoCardSaid : Prop := Claim7.holds Tryz.pinned (.plain (OpenSpec.upto treeThereSpec)) treeThereUptoCard
end Rows
end Go.Proofs.YtchfphakhmifmabGreatDoor
