/-
  DERIVED. GIVEN WITH THE SEED: THE CARDS: each row of YtahogajcbncjhaaGreatDoorRows.lean that lists a variable, with what it lists TIED to the program's text (the seventh form; the later family's looks); each row that meets fmt, with fmt's text TOLD by the authors' own Lean function (tested against real Go, not proved from fmt's source: count such statements apart). THE CARD IS WHAT COUNTS. Prove the row's statement (the work); the ties are given (YtahogajcbncjhaaGreatDoorTie.lean); close each card by the builder's one call (the guide's Derived/Test/ToyasCard.lean, 'card_holds'). Laid BY PROGRAM, IN A SANDBOX (cutbox-door.mjs). By AI agents, Wed Nov 11 2026. No macro, syntax, notation, axiom, sorry.
-/
import Derived.Test.YtahogajcbncjhaaGreatDoorRows
import GoSem.ClaimSeven
namespace Go.Proofs.YtahogajcbncjhaaGreatDoor
namespace Rows

/-- THE TIED CARD OF 'stencillaw13.ProjectKeeps'. -/
def projectKeepsCard : Claim7 := { stood := { row := projectKeepsRow, standIns := [], harness := (true, "31a1a2e40cff874ed12722818963d7ebe93e1c99b058e307194d0930bbfb37ca"), looks := false }, kinds := [], alts := [], laidByText := true, laidKinds := [.data, .data], laidTests := true, laidLooks := .later }
def ProjectKeepsCardSaid : Prop := Claim7.holds Tryz.pinned (.plain (OpenSpec.ofChange projectKeepsSpec)) projectKeepsCard

/-- THE SECOND FORM's CARD OF 'stencillaw13.ProjectKeeps'. -/
def projectKeepsUptoCard : Claim7 := { stood := { row := projectKeepsUptoRow, standIns := [], harness := (true, "31a1a2e40cff874ed12722818963d7ebe93e1c99b058e307194d0930bbfb37ca"), looks := false }, kinds := [], alts := [], laidByText := true, laidKinds := [.data, .data], laidTests := true, laidLooks := .later }
def ProjectKeepsUptoCardSaid : Prop := Claim7.holds Tryz.pinned (.plain (OpenSpec.upto projectKeepsSpec)) projectKeepsUptoCard
end Rows
end Go.Proofs.YtahogajcbncjhaaGreatDoor
