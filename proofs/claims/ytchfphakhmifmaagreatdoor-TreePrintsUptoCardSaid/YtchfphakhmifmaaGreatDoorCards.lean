/-
  DERIVED. GIVEN WITH THE SEED: THE CARDS: each row of YtchfphakhmifmaaGreatDoorRows.lean that lists a variable, with what it lists TIED to the program's text (the seventh form; the later family's looks); each row that meets fmt, with fmt's text TOLD by the authors' own Lean function (tested against real Go, not proved from fmt's source: count such statements apart). THE CARD IS WHAT COUNTS. Prove the row's statement (the work); the ties are given (YtchfphakhmifmaaGreatDoorTie.lean); close each card by the builder's one call (the guide's Derived/Test/ToyasCard.lean, 'card_holds'). Laid BY PROGRAM, IN A SANDBOX (cutbox-door.mjs). By AI agents, Wed Nov 11 2026. No macro, syntax, notation, axiom, sorry.
-/
import Derived.Test.YtchfphakhmifmaaGreatDoorRows
import GoSem.ClaimSeven
namespace Go.Proofs.YtchfphakhmifmaaGreatDoor
namespace Rows

/-- THE TIED CARD OF 'stencillaw05.TreePrints'. -/
def treePrintsCard : Claim7 := { stood := { row := treePrintsRow, standIns := [], harness := (true, "ff4c9c46488a25cc3db291aa3e8c766f279cd831287fa8aa05f0f9df761401dc"), looks := true }, kinds := [], alts := [], laidByText := true, laidKinds := [.data, .data, .data, .data, .pinned, .pinned], laidTests := true, laidLooks := .later }
def TreePrintsCardSaid : Prop := Claim7.holds Tryz.pinned (.plain (OpenSpec.ofChange treePrintsSpec)) treePrintsCard

/-- THE TIED CARD OF 'stencillaw04.XmllexBack'. -/
def xmllexBackCard : Claim7 := { stood := { row := xmllexBackRow, standIns := [], harness := (true, "ff4c9c46488a25cc3db291aa3e8c766f279cd831287fa8aa05f0f9df761401dc"), looks := true }, kinds := [], alts := [], laidByText := true, laidKinds := [.data, .data, .data, .data, .pinned, .pinned], laidTests := true, laidLooks := .later }
def XmllexBackCardSaid : Prop := Claim7.holds Tryz.pinned (.plain (OpenSpec.ofChange xmllexBackSpec)) xmllexBackCard

/-- THE TIED CARD OF 'stencillaw04.XmllexScans'. -/
def xmllexScansCard : Claim7 := { stood := { row := xmllexScansRow, standIns := [], harness := (true, "ff4c9c46488a25cc3db291aa3e8c766f279cd831287fa8aa05f0f9df761401dc"), looks := true }, kinds := [], alts := [], laidByText := true, laidKinds := [.data, .data, .data, .data, .pinned, .pinned], laidTests := true, laidLooks := .later }
def XmllexScansCardSaid : Prop := Claim7.holds Tryz.pinned (.plain (OpenSpec.ofChange xmllexScansSpec)) xmllexScansCard

/-- THE TIED CARD OF 'stencillaw04.XmllexPrints'. -/
def xmllexPrintsCard : Claim7 := { stood := { row := xmllexPrintsRow, standIns := [], harness := (true, "ff4c9c46488a25cc3db291aa3e8c766f279cd831287fa8aa05f0f9df761401dc"), looks := true }, kinds := [], alts := [], laidByText := true, laidKinds := [.data, .data, .data, .data, .pinned, .pinned], laidTests := true, laidLooks := .later }
def XmllexPrintsCardSaid : Prop := Claim7.holds Tryz.pinned (.plain (OpenSpec.ofChange xmllexPrintsSpec)) xmllexPrintsCard

/-- THE TIED CARD OF 'stencillaw04.XmllexReads'. -/
def xmllexReadsCard : Claim7 := { stood := { row := xmllexReadsRow, standIns := [], harness := (true, "ff4c9c46488a25cc3db291aa3e8c766f279cd831287fa8aa05f0f9df761401dc"), looks := true }, kinds := [], alts := [], laidByText := true, laidKinds := [.data, .data, .data, .data, .pinned, .pinned], laidTests := true, laidLooks := .later }
def XmllexReadsCardSaid : Prop := Claim7.holds Tryz.pinned (.plain (OpenSpec.ofChange xmllexReadsSpec)) xmllexReadsCard

/-- THE SECOND FORM's CARD OF 'stencillaw05.TreePrints'. -/
def treePrintsUptoCard : Claim7 := { stood := { row := treePrintsUptoRow, standIns := [], harness := (true, "ff4c9c46488a25cc3db291aa3e8c766f279cd831287fa8aa05f0f9df761401dc"), looks := true }, kinds := [], alts := [], laidByText := true, laidKinds := [.data, .data, .data, .data, .pinned, .pinned], laidTests := true, laidLooks := .later }
def TreePrintsUptoCardSaid : Prop := Claim7.holds Tryz.pinned (.plain (OpenSpec.upto treePrintsSpec)) treePrintsUptoCard

/-- THE SECOND FORM's CARD OF 'stencillaw04.XmllexBack'. -/
def xmllexBackUptoCard : Claim7 := { stood := { row := xmllexBackUptoRow, standIns := [], harness := (true, "ff4c9c46488a25cc3db291aa3e8c766f279cd831287fa8aa05f0f9df761401dc"), looks := true }, kinds := [], alts := [], laidByText := true, laidKinds := [.data, .data, .data, .data, .pinned, .pinned], laidTests := true, laidLooks := .later }
def XmllexBackUptoCardSaid : Prop := Claim7.holds Tryz.pinned (.plain (OpenSpec.upto xmllexBackSpec)) xmllexBackUptoCard

/-- THE SECOND FORM's CARD OF 'stencillaw04.XmllexScans'. -/
def xmllexScansUptoCard : Claim7 := { stood := { row := xmllexScansUptoRow, standIns := [], harness := (true, "ff4c9c46488a25cc3db291aa3e8c766f279cd831287fa8aa05f0f9df761401dc"), looks := true }, kinds := [], alts := [], laidByText := true, laidKinds := [.data, .data, .data, .data, .pinned, .pinned], laidTests := true, laidLooks := .later }
def XmllexScansUptoCardSaid : Prop := Claim7.holds Tryz.pinned (.plain (OpenSpec.upto xmllexScansSpec)) xmllexScansUptoCard

/-- THE SECOND FORM's CARD OF 'stencillaw04.XmllexPrints'. -/
def xmllexPrintsUptoCard : Claim7 := { stood := { row := xmllexPrintsUptoRow, standIns := [], harness := (true, "ff4c9c46488a25cc3db291aa3e8c766f279cd831287fa8aa05f0f9df761401dc"), looks := true }, kinds := [], alts := [], laidByText := true, laidKinds := [.data, .data, .data, .data, .pinned, .pinned], laidTests := true, laidLooks := .later }
def XmllexPrintsUptoCardSaid : Prop := Claim7.holds Tryz.pinned (.plain (OpenSpec.upto xmllexPrintsSpec)) xmllexPrintsUptoCard

/-- THE SECOND FORM's CARD OF 'stencillaw04.XmllexReads'. -/
def xmllexReadsUptoCard : Claim7 := { stood := { row := xmllexReadsUptoRow, standIns := [], harness := (true, "ff4c9c46488a25cc3db291aa3e8c766f279cd831287fa8aa05f0f9df761401dc"), looks := true }, kinds := [], alts := [], laidByText := true, laidKinds := [.data, .data, .data, .data, .pinned, .pinned], laidTests := true, laidLooks := .later }
def XmllexReadsUptoCardSaid : Prop := Claim7.holds Tryz.pinned (.plain (OpenSpec.upto xmllexReadsSpec)) xmllexReadsUptoCard
end Rows
end Go.Proofs.YtchfphakhmifmaaGreatDoor
