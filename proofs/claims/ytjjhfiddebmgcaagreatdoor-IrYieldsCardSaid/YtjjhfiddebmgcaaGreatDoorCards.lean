/-
  DERIVED. GIVEN WITH THE SEED: THE CARDS: each row of YtjjhfiddebmgcaaGreatDoorRows.lean that lists a variable, with what it lists TIED to the program's text (the seventh form; the later family's looks); each row that meets fmt, with fmt's text TOLD by the authors' own Lean function (tested against real Go, not proved from fmt's source: count such statements apart). THE CARD IS WHAT COUNTS. Prove the row's statement (the work); the ties are given (YtjjhfiddebmgcaaGreatDoorTie.lean); close each card by the builder's one call (the guide's Derived/Test/ToyasCard.lean, 'card_holds'). Laid BY PROGRAM, IN A SANDBOX (cutbox-door.mjs). By AI agents, Wed Nov 11 2026. No macro, syntax, notation, axiom, sorry.
-/
import Derived.Test.YtjjhfiddebmgcaaGreatDoorRows
import GoSem.ClaimSeven
namespace Go.Proofs.YtjjhfiddebmgcaaGreatDoor
namespace Rows

/-- THE TIED CARD OF 'stencillaw12.IrYields'. -/
def irYieldsCard : Claim7 := { stood := { row := irYieldsRow, standIns := [], harness := (true, "8858b20d9b76ec949a3258669d690342e1beb09dbd75313d358f845127d7ff09"), looks := false }, kinds := [], alts := [], laidByText := true, laidKinds := [.data, .data], laidTests := true, laidLooks := .later }
def IrYieldsCardSaid : Prop := Claim7.holds Tryz.pinned (.plain (OpenSpec.ofChange irYieldsSpec)) irYieldsCard

/-- THE SECOND FORM's CARD OF 'stencillaw12.IrYields'. -/
def irYieldsUptoCard : Claim7 := { stood := { row := irYieldsUptoRow, standIns := [], harness := (true, "8858b20d9b76ec949a3258669d690342e1beb09dbd75313d358f845127d7ff09"), looks := false }, kinds := [], alts := [], laidByText := true, laidKinds := [.data, .data], laidTests := true, laidLooks := .later }
def IrYieldsUptoCardSaid : Prop := Claim7.holds Tryz.pinned (.plain (OpenSpec.upto irYieldsSpec)) irYieldsUptoCard
end Rows
end Go.Proofs.YtjjhfiddebmgcaaGreatDoor
