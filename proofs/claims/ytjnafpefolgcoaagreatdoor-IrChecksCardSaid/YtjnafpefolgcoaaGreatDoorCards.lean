/-
  DERIVED. GIVEN WITH THE SEED: THE CARDS: each row of YtjnafpefolgcoaaGreatDoorRows.lean that lists a variable, with what it lists TIED to the program's text (the seventh form; the later family's looks); each row that meets fmt, with fmt's text TOLD by the authors' own Lean function (tested against real Go, not proved from fmt's source: count such statements apart). THE CARD IS WHAT COUNTS. Prove the row's statement (the work); the ties are given (YtjnafpefolgcoaaGreatDoorTie.lean); close each card by the builder's one call (the guide's Derived/Test/ToyasCard.lean, 'card_holds'). Laid BY PROGRAM, IN A SANDBOX (cutbox-door.mjs). By AI agents, Wed Nov 11 2026. No macro, syntax, notation, axiom, sorry.
-/
import Derived.Test.YtjnafpefolgcoaaGreatDoorRows
import GoSem.ClaimSeven
namespace Go.Proofs.YtjnafpefolgcoaaGreatDoor
namespace Rows

/-- THE TIED CARD OF 'stencillaw12.IrChecks'. -/
def irChecksCard : Claim7 := { stood := { row := irChecksRow, standIns := [], harness := (true, "b5273d9f8d4d8a3ec02eb098cdf4121ae4af5b75eadc05eaf0f0abbad8bb9b30"), looks := false }, kinds := [], alts := [], laidByText := true, laidKinds := [.data, .data, .data, .data, .data, .data, .data], laidTests := true, laidLooks := .later }
def IrChecksCardSaid : Prop := Claim7.holds Tryz.pinned (.plain (OpenSpec.ofChange irChecksSpec)) irChecksCard

/-- THE SECOND FORM's CARD OF 'stencillaw12.IrChecks'. -/
def irChecksUptoCard : Claim7 := { stood := { row := irChecksUptoRow, standIns := [], harness := (true, "b5273d9f8d4d8a3ec02eb098cdf4121ae4af5b75eadc05eaf0f0abbad8bb9b30"), looks := false }, kinds := [], alts := [], laidByText := true, laidKinds := [.data, .data, .data, .data, .data, .data, .data], laidTests := true, laidLooks := .later }
def IrChecksUptoCardSaid : Prop := Claim7.holds Tryz.pinned (.plain (OpenSpec.upto irChecksSpec)) irChecksUptoCard
end Rows
end Go.Proofs.YtjnafpefolgcoaaGreatDoor
