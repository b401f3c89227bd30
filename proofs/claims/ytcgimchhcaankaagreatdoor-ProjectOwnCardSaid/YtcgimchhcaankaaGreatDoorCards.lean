/-
  DERIVED. GIVEN WITH THE SEED: THE CARDS: each row of YtcgimchhcaankaaGreatDoorRows.lean that lists a variable, with what it lists TIED to the program's text (the seventh form; the later family's looks); each row that meets fmt, with fmt's text TOLD by the authors' own Lean function (tested against real Go, not proved from fmt's source: count such statements apart). THE CARD IS WHAT COUNTS. Prove the row's statement (the work); the ties are given (YtcgimchhcaankaaGreatDoorTie.lean); close each card by the builder's one call (the guide's Derived/Test/ToyasCard.lean, 'card_holds'). Laid BY PROGRAM, IN A SANDBOX (cutbox-door.mjs). By AI agents, Wed Nov 11 2026. No macro, syntax, notation, axiom, sorry.
-/
import Derived.Test.YtcgimchhcaankaaGreatDoorRows
import GoSem.ClaimSeven
namespace Go.Proofs.YtcgimchhcaankaaGreatDoor
namespace Rows

/-- THE TIED CARD OF 'stencillaw13.ProjectOwn'. -/
def projectOwnCard : Claim7 := { stood := { row := projectOwnRow, standIns := [], harness := (true, "27a9d922ce95b88b784e4409e3ea41d1d2bd8aae974967762a7e026bacbe9606"), looks := false }, kinds := [], alts := [], laidByText := true, laidKinds := [.data, .data], laidTests := true, laidLooks := .later }
def ProjectOwnCardSaid : Prop := Claim7.holds Tryz.pinned (.plain (OpenSpec.ofChange projectOwnSpec)) projectOwnCard

/-- THE SECOND FORM's CARD OF 'stencillaw13.ProjectOwn'. -/
def projectOwnUptoCard : Claim7 := { stood := { row := projectOwnUptoRow, standIns := [], harness := (true, "27a9d922ce95b88b784e4409e3ea41d1d2bd8aae974967762a7e026bacbe9606"), looks := false }, kinds := [], alts := [], laidByText := true, laidKinds := [.data, .data], laidTests := true, laidLooks := .later }
def ProjectOwnUptoCardSaid : Prop := Claim7.holds Tryz.pinned (.plain (OpenSpec.upto projectOwnSpec)) projectOwnUptoCard
end Rows
end Go.Proofs.YtcgimchhcaankaaGreatDoor
