/-
  DERIVED. GIVEN WITH THE SEED: THE CARDS: each row of YtgklippjoikadaaDoorRows.lean that lists a variable, with what it lists TIED to the program's text (the seventh form; the later family's looks); each row that meets fmt, with fmt's text TOLD by the authors' own Lean function (tested against real Go, not proved from fmt's source: count such statements apart). THE CARD IS WHAT COUNTS. Prove the row's statement (the work); the ties are given (YtgklippjoikadaaDoorTie.lean); close each card by the builder's one call (the guide's Derived/Test/ToyasCard.lean, 'card_holds'). Laid BY PROGRAM, IN A SANDBOX (cutbox-door.mjs). By AI agents, Wed Nov 11 2026. No macro, syntax, notation, axiom, sorry.
-/
import Derived.Test.YtgklippjoikadaaDoorRows
import GoSem.ClaimSeven
namespace Go.Proofs.YtgklippjoikadaaDoor
namespace Rows

/-- THE TIED CARD OF 'stencillaw17.CursorPlays'. -/
def cursorPlaysCard : Claim7 := { stood := { row := cursorPlaysRow, standIns := [], harness := (true, "ecdf8114753e821f48e1cb7719b3fbeca0304327c12003c3e95a68f8a7407a6e"), looks := false }, kinds := [], alts := [], laidByText := true, laidKinds := [.data], laidTests := true, laidLooks := .later }
def CursorPlaysCardSaid : Prop := Claim7.holds Tryd.pinned (.plain (OpenSpec.ofChange cursorPlaysSpec)) cursorPlaysCard

/-- THE TIED CARD OF 'stencillaw17.CursorBack'. -/
def cursorBackCard : Claim7 := { stood := { row := cursorBackRow, standIns := [], harness := (true, "ecdf8114753e821f48e1cb7719b3fbeca0304327c12003c3e95a68f8a7407a6e"), looks := false }, kinds := [], alts := [], laidByText := true, laidKinds := [.data], laidTests := true, laidLooks := .later }
def CursorBackCardSaid : Prop := Claim7.holds Tryd.pinned (.plain (OpenSpec.ofChange cursorBackSpec)) cursorBackCard

/-- THE TIED CARD OF 'stencillaw17.CursorWithin'. -/
def cursorWithinCard : Claim7 := { stood := { row := cursorWithinRow, standIns := [], harness := (true, "ecdf8114753e821f48e1cb7719b3fbeca0304327c12003c3e95a68f8a7407a6e"), looks := false }, kinds := [], alts := [], laidByText := true, laidKinds := [.data], laidTests := true, laidLooks := .later }
def CursorWithinCardSaid : Prop := Claim7.holds Tryd.pinned (.plain (OpenSpec.ofChange cursorWithinSpec)) cursorWithinCard

/-- THE SECOND FORM's CARD OF 'stencillaw17.CursorPlays'. -/
def cursorPlaysUptoCard : Claim7 := { stood := { row := cursorPlaysUptoRow, standIns := [], harness := (true, "ecdf8114753e821f48e1cb7719b3fbeca0304327c12003c3e95a68f8a7407a6e"), looks := false }, kinds := [], alts := [], laidByText := true, laidKinds := [.data], laidTests := true, laidLooks := .later }
def CursorPlaysUptoCardSaid : Prop := Claim7.holds Tryd.pinned (.plain (OpenSpec.upto cursorPlaysSpec)) cursorPlaysUptoCard

/-- THE SECOND FORM's CARD OF 'stencillaw17.CursorBack'. -/
def cursorBackUptoCard : Claim7 := { stood := { row := cursorBackUptoRow, standIns := [], harness := (true, "ecdf8114753e821f48e1cb7719b3fbeca0304327c12003c3e95a68f8a7407a6e"), looks := false }, kinds := [], alts := [], laidByText := true, laidKinds := [.data], laidTests := true, laidLooks := .later }
def CursorBackUptoCardSaid : Prop := Claim7.holds Tryd.pinned (.plain (OpenSpec.upto cursorBackSpec)) cursorBackUptoCard

/-- THE SECOND FORM's CARD OF 'stencillaw17.CursorWithin'. -/
def cursorWithinUptoCard : Claim7 := { stood := { row := cursorWithinUptoRow, standIns := [], harness := (true, "ecdf8114753e821f48e1cb7719b3fbeca0304327c12003c3e95a68f8a7407a6e"), looks := false }, kinds := [], alts := [], laidByText := true, laidKinds := [.data], laidTests := true, laidLooks := .later }
def CursorWithinUptoCardSaid : Prop := Claim7.holds Tryd.pinned (.plain (OpenSpec.upto cursorWithinSpec)) cursorWithinUptoCard
end Rows
end Go.Proofs.YtgklippjoikadaaDoor
