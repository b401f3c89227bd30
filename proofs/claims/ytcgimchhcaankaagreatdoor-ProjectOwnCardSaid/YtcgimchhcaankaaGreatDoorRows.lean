/-
  NARROWER THAN 'FOR EVERY INPUT', by the rows' own cells (each row's printed sentence says how): ProjectOwn: laid.
  DERIVED. THE GIVEN ROWS OF THIS SEAT. 1 by the template 'for every input the law returns true; each argument reads behind the call as it read before'; 0 by the template 'total and deterministic' (their statements: YtcgimchhcaankaaGreatDoorTotals.lean).
  GIVEN WITH THE SEED: the statements are not yours to turn. If you find one false, say at which input.
  Laid BY PROGRAM, IN A SANDBOX (cutbox-rows.mjs): the forced cells as the released guide's own fill.sh prints them over the translation ba4a5801993487a0… (all of the seat's roots in one cut). By AI agents, Wed Nov 11 2026. No macro, syntax, notation, axiom, sorry.
-/
import Derived.Test.YtcgimchhcaankaaGreatDoorChecked
import GoSem.Claim
import GoSem.ClaimJoined
import GoSem.ClaimMapViews
import Derived.JoinedTies
import Derived.KernelRfl
namespace Go.Proofs.YtcgimchhcaankaaGreatDoor
/- THE CELL 'sum', in the pinned program and in every row, IS THE sha256 OF THE DUMP (.gsa) THAT YtcgimchhcaankaaGreatDoorProg.lean LOADS. Nothing in Lean hashes anything: it is a label: what it is worth is what the hold of that sum in a sandbox is worth. -/
noncomputable def Tryz.pinned : Pinned := { name := "ytcgimchhcaankaagreatdoor", sum := "ba4a5801993487a01a2cb5fb6f6b7add878b245cfb52ff2fe85ca1f451ca03a8", checked := Tryz.checked }
namespace Rows
def none {H : Type} : Left H := { results := [], args := [] }

/- WHAT THE LISTED PACKAGE-LEVEL VARIABLES READ AS WHEN THE CALL BEGINS. Each datum BY PROGRAM (the guide's laid-datum.mjs) off the statement by which the dump's own 'gosem.cut.vars' lays the variable. In a bare row this is a premise. The card (YtcgimchhcaankaaGreatDoorCards.lean) ties it to the program's text. -/
def laid_stencil_prim_kinds {H : Type} : DataW H := .agg [.agg [.lit (.int .i64 1), .lit (.int .i64 0), .lit (.int .u64 0), .lit (.int .u64 32), .lit (.int .u64 126)], .agg [.lit (.int .i64 1), .lit (.int .i64 1), .lit (.int .u64 18446744073709551488), .lit (.int .u64 18446744073709551489), .lit (.int .u64 127)], .agg [.lit (.int .i64 2), .lit (.int .i64 1), .lit (.int .u64 18446744073709518848), .lit (.int .u64 18446744073709518849), .lit (.int .u64 32767)], .agg [.lit (.int .i64 4), .lit (.int .i64 1), .lit (.int .u64 18446744071562067968), .lit (.int .u64 18446744071562067969), .lit (.int .u64 2147483647)], .agg [.lit (.int .i64 8), .lit (.int .i64 1), .lit (.int .u64 9223372036854775808), .lit (.int .u64 9223372036854775809), .lit (.int .u64 9223372036854775807)], .agg [.lit (.int .i64 1), .lit (.int .i64 0), .lit (.int .u64 255), .lit (.int .u64 0), .lit (.int .u64 254)], .agg [.lit (.int .i64 2), .lit (.int .i64 0), .lit (.int .u64 65535), .lit (.int .u64 0), .lit (.int .u64 65534)], .agg [.lit (.int .i64 4), .lit (.int .i64 0), .lit (.int .u64 4294967295), .lit (.int .u64 0), .lit (.int .u64 4294967294)], .agg [.lit (.int .i64 8), .lit (.int .i64 0), .lit (.int .u64 18446744073709551615), .lit (.int .u64 0), .lit (.int .u64 18446744073709551614)], .agg [.lit (.int .i64 4), .lit (.int .i64 2), .lit (.int .u64 2143289344), .lit (.int .u64 0), .lit (.int .u64 4294967295)], .agg [.lit (.int .i64 8), .lit (.int .i64 2), .lit (.int .u64 9221120237041090560), .lit (.int .u64 0), .lit (.int .u64 18446744073709551615)]]
def laid_stencil_ir_mayHave {H : Type} : DataW H := .agg [.lit (.int .i64 12297), .lit (.int .i64 0), .lit (.int .i64 1103), .lit (.int .i64 0), .lit (.int .i64 61453), .lit (.int .i64 0), .lit (.int .i64 16413), .lit (.int .i64 0), .lit (.int .i64 6), .lit (.int .i64 0), .lit (.int .i64 70), .lit (.int .i64 0), .lit (.int .i64 70), .lit (.int .i64 0), .lit (.int .i64 2038), .lit (.int .i64 2056)]

/-- 'stencillaw13.ProjectOwn': WHATEVER THE INPUT: true; the input reads as it did. -/
def projectOwnSpec : ChangeSpec := { name := "projectOwn", fn := fun _ => fun
  | [d1, d2] => { results := [.lit (.bool true)], args := [d1, d2] }
  | _ => none }
def projectOwnRow : OpenClaim := { program := "ytcgimchhcaankaagreatdoor", sum := "ba4a5801993487a01a2cb5fb6f6b7add878b245cfb52ff2fe85ca1f451ca03a8", func := "stencil/stencillaw13.ProjectOwn", spec := "projectOwn", unfollowed := true, recurses := true, named := ["stencil/prim.kinds", "stencil/ir.mayHave"], plainKeys := false, apart := false, laid := [("stencil/prim.kinds", laid_stencil_prim_kinds), ("stencil/ir.mayHave", laid_stencil_ir_mayHave)] }
def ProjectOwnSaid : Prop := projectOwnRow.holds Tryz.pinned (OpenSpec.ofChange projectOwnSpec)

/-- ITS FALSE NEIGHBOUR: 'it returns false'. Refute it at one input. -/
def projectOwnWrong : ChangeSpec := { name := "projectOwn", fn := fun _ => fun
  | [d1, d2] => { results := [.lit (.bool false)], args := [d1, d2] }
  | _ => none }
def ProjectOwnWrongFalsely : Prop := projectOwnRow.holds Tryz.pinned (OpenSpec.ofChange projectOwnWrong)

/- THE SECOND FORM. 'bulk': how many values and letters a reading holds, each counted each time it is reached (what is shared counts as often as it is met; a slice's spare places count too). A statement '..UptoSaid' is the law's where the arguments, and the package variables that the reading takes, are together of bulk at most 1048576: NARROWER than '..Said'. Prove '..Said' where nothing that the law and all that it calls make is longer than what came in: it says more and counts as full. Else prove '..UptoSaid'. A law counts once. -/
mutual
def uptoBulk {H : Type} : DataW H → Nat
  | .lit (.string bytes) => bytes.length + 1
  | .lit _ => 1
  | .nil => 1
  | .ptr d => uptoBulk d + 1
  | .slice elems spare => uptoBulkAll elems + uptoBulkAll spare + 1
  | .agg parts => uptoBulkAll parts + 1
  | .iface _ d => uptoBulk d + 1
  | .map entries => uptoBulkEntries entries + 1
  | .held _ => 1
def uptoBulkAll {H : Type} : List (DataW H) → Nat
  | [] => 0
  | d :: r => uptoBulk d + uptoBulkAll r
def uptoBulkEntries {H : Type} : List (Lit × DataW H) → Nat
  | [] => 0
  | x :: r => uptoBulkEntry x + uptoBulkEntries r
def uptoBulkEntry {H : Type} : Lit × DataW H → Nat
  | (.string bytes, d) => bytes.length + uptoBulk d + 1
  | (_, d) => uptoBulk d + 1
 end
def uptoSmall : (H : Type) → List (DataW H) → Bool := fun _ ds => decide (uptoBulkAll ds ≤ 1048576)
def OpenSpec.upto (s : _root_.Go.ChangeSpec) : _root_.Go.OpenSpec := { _root_.Go.OpenSpec.ofChange s with cond := some uptoSmall }

/-- 'stencillaw13.ProjectOwn', WHERE WHAT IT READS IS OF BULK AT MOST 1048576: true; the input reads as it did. -/
def projectOwnUptoRow : OpenClaim := { program := "ytcgimchhcaankaagreatdoor", sum := "ba4a5801993487a01a2cb5fb6f6b7add878b245cfb52ff2fe85ca1f451ca03a8", func := "stencil/stencillaw13.ProjectOwn", spec := "projectOwn", unfollowed := true, recurses := true, named := ["stencil/prim.kinds", "stencil/ir.mayHave"], plainKeys := false, apart := false, laid := [("stencil/prim.kinds", laid_stencil_prim_kinds), ("stencil/ir.mayHave", laid_stencil_ir_mayHave)], narrowed := true }
def ProjectOwnUptoSaid : Prop := projectOwnUptoRow.holds Tryz.pinned (OpenSpec.upto projectOwnSpec)

end Rows
end Go.Proofs.YtcgimchhcaankaaGreatDoor
