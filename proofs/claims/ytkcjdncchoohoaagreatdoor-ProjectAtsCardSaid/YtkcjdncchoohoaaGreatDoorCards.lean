/-
  DERIVED. GIVEN WITH THE SEED: THE CARDS: each row of YtkcjdncchoohoaaGreatDoorRows.lean that lists a variable, with what it lists TIED to the program's text (the seventh form; the later family's looks); each row that meets fmt, with fmt's text TOLD by the authors' own Lean function (tested against real Go, not proved from fmt's source: count such statements apart). THE CARD IS WHAT COUNTS. Prove the row's statement (the work); the ties are given (YtkcjdncchoohoaaGreatDoorTie.lean); close each card by the builder's one call (the guide's Derived/Test/ToyasCard.lean, 'card_holds'). Laid BY PROGRAM, IN A SANDBOX (cutbox-door.mjs). By AI agents, Wed Nov 11 2026. No macro, syntax, notation, axiom, sorry.
-/
import Derived.Test.YtkcjdncchoohoaaGreatDoorRows
import GoSem.ClaimSeven
namespace Go.Proofs.YtkcjdncchoohoaaGreatDoor
namespace Rows

/-- THE TIED CARD OF 'stencillaw13.ProjectAts'. -/
def projectAtsCard : Claim7 := { stood := { row := projectAtsRow, standIns := [], harness := (true, "b4d659db79b665d97f749b0153474625903438e777a2075dc546672ee44d5fd5"), looks := false }, kinds := [], alts := [], laidByText := true, laidKinds := [.data, .data], laidTests := true, laidLooks := .later }
def ProjectAtsCardSaid : Prop := Claim7.holds Tryz.pinned (.plain (OpenSpec.ofChange projectAtsSpec)) projectAtsCard

/-- THE SECOND FORM's CARD OF 'stencillaw13.ProjectAts'. -/
def projectAtsUptoCard : Claim7 := { stood := { row := projectAtsUptoRow, standIns := [], harness := (true, "b4d659db79b665d97f749b0153474625903438e777a2075dc546672ee44d5fd5"), looks := false }, kinds := [], alts := [], laidByText := true, laidKinds := [.data, .data], laidTests := true, laidLooks := .later }
def ProjectAtsUptoCardSaid : Prop := Claim7.holds Tryz.pinned (.plain (OpenSpec.upto projectAtsSpec)) projectAtsUptoCard
end Rows
end Go.Proofs.YtkcjdncchoohoaaGreatDoor
