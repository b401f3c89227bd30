/-
  DERIVED. GIVEN WITH THE SEED: THE CARDS: each row of YtepnmfgbflogkaaDoorRows.lean that lists a variable, with what it lists TIED to the program's text (the seventh form; the later family's looks); each row that meets fmt, with fmt's text TOLD by the authors' own Lean function (tested against real Go, not proved from fmt's source: count such statements apart). THE CARD IS WHAT COUNTS. Prove the row's statement (the work); the ties are given (YtepnmfgbflogkaaDoorTie.lean); close each card by the builder's one call (the guide's Derived/Test/ToyasCard.lean, 'card_holds'). Laid BY PROGRAM, IN A SANDBOX (cutbox-door.mjs). By AI agents, Wed Nov 11 2026. No macro, syntax, notation, axiom, sorry.
-/
import Derived.Test.YtepnmfgbflogkaaDoorRows
import GoSem.ClaimSeven
namespace Go.Proofs.YtepnmfgbflogkaaDoor
namespace Rows

/-- THE TIED CARD OF 'stencillaw14.OrderKeeps'. -/
def orderKeepsCard : Claim7 := { stood := { row := orderKeepsRow, standIns := [], harness := (true, "42462dc7d6809c16680714bf87bc78b7bf6860afe8785b4a861dd2b7be087e82"), looks := false }, kinds := [], alts := [], laidByText := true, laidKinds := [.data, .data], laidTests := true, laidLooks := .later }
def OrderKeepsCardSaid : Prop := Claim7.holds Tryd.pinned (.plain (OpenSpec.ofChange orderKeepsSpec)) orderKeepsCard

/-- THE TIED CARD OF 'stencillaw14.OrderFronts'. -/
def orderFrontsCard : Claim7 := { stood := { row := orderFrontsRow, standIns := [], harness := (true, "42462dc7d6809c16680714bf87bc78b7bf6860afe8785b4a861dd2b7be087e82"), looks := false }, kinds := [], alts := [], laidByText := true, laidKinds := [.data, .data], laidTests := true, laidLooks := .later }
def OrderFrontsCardSaid : Prop := Claim7.holds Tryd.pinned (.plain (OpenSpec.ofChange orderFrontsSpec)) orderFrontsCard

/-- THE SECOND FORM's CARD OF 'stencillaw14.OrderKeeps'. -/
def orderKeepsUptoCard : Claim7 := { stood := { row := orderKeepsUptoRow, standIns := [], harness := (true, "42462dc7d6809c16680714bf87bc78b7bf6860afe8785b4a861dd2b7be087e82"), looks := false }, kinds := [], alts := [], laidByText := true, laidKinds := [.data, .data], laidTests := true, laidLooks := .later }
def OrderKeepsUptoCardSaid : Prop := Claim7.holds Tryd.pinned (.plain (OpenSpec.upto orderKeepsSpec)) orderKeepsUptoCard

/-- THE SECOND FORM's CARD OF 'stencillaw14.OrderFronts'. -/
def orderFrontsUptoCard : Claim7 := { stood := { row := orderFrontsUptoRow, standIns := [], harness := (true, "42462dc7d6809c16680714bf87bc78b7bf6860afe8785b4a861dd2b7be087e82"), looks := false }, kinds := [], alts := [], laidByText := true, laidKinds := [.data, .data], laidTests := true, laidLooks := .later }
def OrderFrontsUptoCardSaid : Prop := Claim7.holds Tryd.pinned (.plain (OpenSpec.upto orderFrontsSpec)) orderFrontsUptoCard
end Rows
end Go.Proofs.YtepnmfgbflogkaaDoor
