/-
  DERIVED. GIVEN WITH THE SEED: THE CARDS: each row of YtfhphjgcmbneeaaDoorRows.lean that lists a variable, with what it lists TIED to the program's text (the seventh form; the later family's looks); each row that meets fmt, with fmt's text TOLD by the authors' own Lean function (tested against real Go, not proved from fmt's source: count such statements apart). THE CARD IS WHAT COUNTS. Prove the row's statement (the work); the ties are given (YtfhphjgcmbneeaaDoorTie.lean); close each card by the builder's one call (the guide's Derived/Test/ToyasCard.lean, 'card_holds'). Laid BY PROGRAM, IN A SANDBOX (cutbox-door.mjs). By AI agents, Wed Nov 11 2026. No macro, syntax, notation, axiom, sorry.
-/
import Derived.Test.YtfhphjgcmbneeaaDoorRows
import GoSem.ClaimSeven
namespace Go.Proofs.YtfhphjgcmbneeaaDoor
namespace Rows

/-- THE TIED CARD OF 'stencillaw17.CursorBack'. -/
def cursorBackCard : Claim7 := { stood := { row := cursorBackRow, standIns := [], harness := (true, "01c4dbcce7ce61243ca20e31390492dc904b28ea28ddde6a728f18a6849c2272"), looks := false }, kinds := [], alts := [], laidByText := true, laidKinds := [.data], laidTests := true, laidLooks := .later }
def CursorBackCardSaid : Prop := Claim7.holds Tryd.pinned (.plain (OpenSpec.ofChange cursorBackSpec)) cursorBackCard

/-- THE TIED CARD OF 'stencillaw17.CursorWithin'. -/
def cursorWithinCard : Claim7 := { stood := { row := cursorWithinRow, standIns := [], harness := (true, "01c4dbcce7ce61243ca20e31390492dc904b28ea28ddde6a728f18a6849c2272"), looks := false }, kinds := [], alts := [], laidByText := true, laidKinds := [.data], laidTests := true, laidLooks := .later }
def CursorWithinCardSaid : Prop := Claim7.holds Tryd.pinned (.plain (OpenSpec.ofChange cursorWithinSpec)) cursorWithinCard

/-- THE TIED CARD OF 'stencillaw17.CursorPlays'. -/
def cursorPlaysCard : Claim7 := { stood := { row := cursorPlaysRow, standIns := [], harness := (true, "01c4dbcce7ce61243ca20e31390492dc904b28ea28ddde6a728f18a6849c2272"), looks := false }, kinds := [], alts := [], laidByText := true, laidKinds := [.data], laidTests := true, laidLooks := .later }
def CursorPlaysCardSaid : Prop := Claim7.holds Tryd.pinned (.plain (OpenSpec.ofChange cursorPlaysSpec)) cursorPlaysCard

/-- THE SECOND FORM's CARD OF 'stencillaw17.CursorBack'. -/
def cursorBackUptoCard : Claim7 := { stood := { row := cursorBackUptoRow, standIns := [], harness := (true, "01c4dbcce7ce61243ca20e31390492dc904b28ea28ddde6a728f18a6849c2272"), looks := false }, kinds := [], alts := [], laidByText := true, laidKinds := [.data], laidTests := true, laidLooks := .later }
def CursorBackUptoCardSaid : Prop := Claim7.holds Tryd.pinned (.plain (OpenSpec.upto cursorBackSpec)) cursorBackUptoCard

/-- THE SECOND FORM's CARD OF 'stencillaw17.CursorWithin'. -/
def cursorWithinUptoCard : Claim7 := { stood := { row := cursorWithinUptoRow, standIns := [], harness := (true, "01c4dbcce7ce61243ca20e31390492dc904b28ea28ddde6a728f18a6849c2272"), looks := false }, kinds := [], alts := [], laidByText := true, laidKinds := [.data], laidTests := true, laidLooks := .later }
def CursorWithinUptoCardSaid : Prop := Claim7.holds Tryd.pinned (.plain (OpenSpec.upto cursorWithinSpec)) cursorWithinUptoCard

/-- THE SECOND FORM's CARD OF 'stencillaw17.CursorPlays'. -/
def cursorPlaysUptoCard : Claim7 := { stood := { row := cursorPlaysUptoRow, standIns := [], harness := (true, "01c4dbcce7ce61243ca20e31390492dc904b28ea28ddde6a728f18a6849c2272"), looks := false }, kinds := [], alts := [], laidByText := true, laidKinds := [.data], laidTests := true, laidLooks := .later }
def CursorPlaysUptoCardSaid : Prop := Claim7.holds Tryd.pinned (.plain (OpenSpec.upto cursorPlaysSpec)) cursorPlaysUptoCard
end Rows
end Go.Proofs.YtfhphjgcmbneeaaDoor
