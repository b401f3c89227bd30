/-
  DERIVED. GIVEN WITH THE SEED: THE CARDS: each row of YtbhmciieiilcfaaGreatDoorRows.lean that lists a variable, with what it lists TIED to the program's text (the seventh form; the later family's looks); each row that meets fmt, with fmt's text TOLD by the authors' own Lean function (tested against real Go, not proved from fmt's source: count such statements apart). THE CARD IS WHAT COUNTS. Prove the row's statement (the work); the ties are given (YtbhmciieiilcfaaGreatDoorTie.lean); close each card by the builder's one call (the guide's Derived/Test/ToyasCard.lean, 'card_holds'). Laid BY PROGRAM, IN A SANDBOX (cutbox-door.mjs). By AI agents, Wed Nov 11 2026. No macro, syntax, notation, axiom, sorry.
-/
import Derived.Test.YtbhmciieiilcfaaGreatDoorRows
import GoSem.ClaimSeven
namespace Go.Proofs.YtbhmciieiilcfaaGreatDoor
namespace Rows

/-- THE TIED CARD OF 'stencillaw14.OrderPlays'. -/
def orderPlaysCard : Claim7 := { stood := { row := orderPlaysRow, standIns := [], harness := (true, "1e025a5408d9b392dbe400f741149fc517e5da91c4669a85801826c5589d638c"), looks := false }, kinds := [], alts := [], laidByText := true, laidKinds := [.data, .data], laidTests := true, laidLooks := .later }
def OrderPlaysCardSaid : Prop := Claim7.holds Tryz.pinned (.plain (OpenSpec.ofChange orderPlaysSpec)) orderPlaysCard

/-- THE SECOND FORM's CARD OF 'stencillaw14.OrderPlays'. -/
def orderPlaysUptoCard : Claim7 := { stood := { row := orderPlaysUptoRow, standIns := [], harness := (true, "1e025a5408d9b392dbe400f741149fc517e5da91c4669a85801826c5589d638c"), looks := false }, kinds := [], alts := [], laidByText := true, laidKinds := [.data, .data], laidTests := true, laidLooks := .later }
def OrderPlaysUptoCardSaid : Prop := Claim7.holds Tryz.pinned (.plain (OpenSpec.upto orderPlaysSpec)) orderPlaysUptoCard
end Rows
end Go.Proofs.YtbhmciieiilcfaaGreatDoor
