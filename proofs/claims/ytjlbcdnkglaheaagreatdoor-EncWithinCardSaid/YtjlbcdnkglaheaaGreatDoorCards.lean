/-
  DERIVED. GIVEN WITH THE SEED: THE CARDS: each row of YtjlbcdnkglaheaaGreatDoorRows.lean that lists a variable, with what it lists TIED to the program's text (the seventh form; the later family's looks); each row that meets fmt, with fmt's text TOLD by the authors' own Lean function (tested against real Go, not proved from fmt's source: count such statements apart). THE CARD IS WHAT COUNTS. Prove the row's statement (the work); the ties are given (YtjlbcdnkglaheaaGreatDoorTie.lean); close each card by the builder's one call (the guide's Derived/Test/ToyasCard.lean, 'card_holds'). Laid BY PROGRAM, IN A SANDBOX (cutbox-door.mjs). By AI agents, Wed Nov 11 2026. No macro, syntax, notation, axiom, sorry.
-/
import Derived.Test.YtjlbcdnkglaheaaGreatDoorRows
import GoSem.ClaimSeven
namespace Go.Proofs.YtjlbcdnkglaheaaGreatDoor
namespace Rows

/-- THE TIED CARD OF 'stencillaw18.EncWithin'. -/
def encWithinCard : Claim7 := { stood := { row := encWithinRow, standIns := [], harness := (true, "72799a02057cff77005b3d99685a2ee816d646bb7f746ca07902b5c3f7adb7d1"), looks := false }, kinds := [], alts := [], laidByText := true, laidKinds := [.data, .data], laidTests := true, laidLooks := .later }
def EncWithinCardSaid : Prop := Claim7.holds Tryz.pinned (.plain (OpenSpec.ofChange encWithinSpec)) encWithinCard

/-- THE SECOND FORM's CARD OF 'stencillaw18.EncWithin'. -/
def encWithinUptoCard : Claim7 := { stood := { row := encWithinUptoRow, standIns := [], harness := (true, "72799a02057cff77005b3d99685a2ee816d646bb7f746ca07902b5c3f7adb7d1"), looks := false }, kinds := [], alts := [], laidByText := true, laidKinds := [.data, .data], laidTests := true, laidLooks := .later }
def EncWithinUptoCardSaid : Prop := Claim7.holds Tryz.pinned (.plain (OpenSpec.upto encWithinSpec)) encWithinUptoCard
end Rows
end Go.Proofs.YtjlbcdnkglaheaaGreatDoor
