/-
  NARROWER THAN 'FOR EVERY INPUT', by the rows' own cells (each row's printed sentence says how): EncWithin: laid.
  DERIVED. THE GIVEN ROWS OF THIS SEAT. 1 by the template 'for every input the law returns true; each argument reads behind the call as it read before'; 0 by the template 'total and deterministic' (their statements: YtjlbcdnkglaheaaGreatDoorTotals.lean).
  GIVEN WITH THE SEED: the statements are not yours to turn. If you find one false, say at which input.
  Laid BY PROGRAM, IN A SANDBOX (cutbox-rows.mjs): the forced cells as the released guide's own fill.sh prints them over the translation 9864159690ade93b… (all of the seat's roots in one cut). By AI agents, Wed Nov 11 2026. No macro, syntax, notation, axiom, sorry.
-/
import Derived.Test.YtjlbcdnkglaheaaGreatDoorChecked
import GoSem.Claim
import GoSem.ClaimJoined
import GoSem.ClaimMapViews
import Derived.JoinedTies
import Derived.KernelRfl
namespace Go.Proofs.YtjlbcdnkglaheaaGreatDoor
/- THE CELL 'sum', in the pinned program and in every row, IS THE sha256 OF THE DUMP (.gsa) THAT YtjlbcdnkglaheaaGreatDoorProg.lean LOADS. Nothing in Lean hashes anything: it is a label: what it is worth is what the hold of that sum in a sandbox is worth. -/
noncomputable def Tryz.pinned : Pinned := { name := "ytjlbcdnkglaheaagreatdoor", sum := "9864159690ade93b5babd9d499589f1da9d74830f15eaaa2d8127e3dc13c7008", checked := Tryz.checked }
namespace Rows
def none {H : Type} : Left H := { results := [], args := [] }

/- WHAT THE LISTED PACKAGE-LEVEL VARIABLES READ AS WHEN THE CALL BEGINS. Each datum BY PROGRAM (the guide's laid-datum.mjs) off the statement by which the dump's own 'gosem.cut.vars' lays the variable. In a bare row this is a premise. The card (YtjlbcdnkglaheaaGreatDoorCards.lean) ties it to the program's text. -/
def laid_stencil_prim_kinds {H : Type} : DataW H := .agg [.agg [.lit (.int .i64 1), .lit (.int .i64 0), .lit (.int .u64 0), .lit (.int .u64 32), .lit (.int .u64 126)], .agg [.lit (.int .i64 1), .lit (.int .i64 1), .lit (.int .u64 18446744073709551488), .lit (.int .u64 18446744073709551489), .lit (.int .u64 127)], .agg [.lit (.int .i64 2), .lit (.int .i64 1), .lit (.int .u64 18446744073709518848), .lit (.int .u64 18446744073709518849), .lit (.int .u64 32767)], .agg [.lit (.int .i64 4), .lit (.int .i64 1), .lit (.int .u64 18446744071562067968), .lit (.int .u64 18446744071562067969), .lit (.int .u64 2147483647)], .agg [.lit (.int .i64 8), .lit (.int .i64 1), .lit (.int .u64 9223372036854775808), .lit (.int .u64 9223372036854775809), .lit (.int .u64 9223372036854775807)], .agg [.lit (.int .i64 1), .lit (.int .i64 0), .lit (.int .u64 255), .lit (.int .u64 0), .lit (.int .u64 254)], .agg [.lit (.int .i64 2), .lit (.int .i64 0), .lit (.int .u64 65535), .lit (.int .u64 0), .lit (.int .u64 65534)], .agg [.lit (.int .i64 4), .lit (.int .i64 0), .lit (.int .u64 4294967295), .lit (.int .u64 0), .lit (.int .u64 4294967294)], .agg [.lit (.int .i64 8), .lit (.int .i64 0), .lit (.int .u64 18446744073709551615), .lit (.int .u64 0), .lit (.int .u64 18446744073709551614)], .agg [.lit (.int .i64 4), .lit (.int .i64 2), .lit (.int .u64 2143289344), .lit (.int .u64 0), .lit (.int .u64 4294967295)], .agg [.lit (.int .i64 8), .lit (.int .i64 2), .lit (.int .u64 9221120237041090560), .lit (.int .u64 0), .lit (.int .u64 18446744073709551615)]]
def laid_stencil_ir_mayHave {H : Type} : DataW H := .agg [.lit (.int .i64 12297), .lit (.int .i64 0), .lit (.int .i64 1103), .lit (.int .i64 0), .lit (.int .i64 61453), .lit (.int .i64 0), .lit (.int .i64 16413), .lit (.int .i64 0), .lit (.int .i64 6), .lit (.int .i64 0), .lit (.int .i64 70), .lit (.int .i64 0), .lit (.int .i64 70), .lit (.int .i64 0), .lit (.int .i64 2038), .lit (.int .i64 2056)]

/-- 'stencillaw18.EncWithin': WHATEVER THE INPUT: true; the input reads as it did. -/
def encWithinSpec : ChangeSpec := { name := "encWithin", fn := fun _ => fun
  | [d1, d2, d3, d4] => { results := [.lit (.bool true)], args := [d1, d2, d3, d4] }
  | _ => none }
def encWithinRow : OpenClaim := { program := "ytjlbcdnkglaheaagreatdoor", sum := "9864159690ade93b5babd9d499589f1da9d74830f15eaaa2d8127e3dc13c7008", func := "stencil/stencillaw18.EncWithin", spec := "encWithin", unfollowed := true, recurses := true, named := ["stencil/prim.kinds", "stencil/ir.mayHave"], plainKeys := false, apart := false, laid := [("stencil/prim.kinds", laid_stencil_prim_kinds), ("stencil/ir.mayHave", laid_stencil_ir_mayHave)] }
def EncWithinSaid : Prop := encWithinRow.holds Tryz.pinned (OpenSpec.ofChange encWithinSpec)

/-- ITS FALSE NEIGHBOUR: 'it returns false'. Refute it at one input. -/
def encWithinWrong : ChangeSpec := { name := "encWithin", fn := fun _ => fun
  | [d1, d2, d3, d4] => { results := [.lit (.bool false)], args := [d1, d2, d3, d4] }
  | _ => none }
def EncWithinWrongFalsely : Prop := encWithinRow.holds Tryz.pinned (OpenSpec.ofChange encWithinWrong)

/- THE SECOND FORM. 'bulk': how many values and letters a reading holds, each counted each time it is reached (what is shared counts as often as it is met; a slice's spare places count too). A statement '..UptoSaid' is the law's where the arguments, and the package variables that the reading takes, are together of bulk at most 1048576: NARROWER than '..Said'. Prove '..Said' where nothing that the law and all that it calls make is longer than what came in: it says more and counts as full. Else prove '..UptoSaid'. A law counts once. -/
mutual
def uptoBulk {H : Type} : DataW H → Nat
  | .lit (.string bytes) => bytes.length + 1
  | .lit _ => 1
  | .nil => 1
  | .ptr d => uptoBulk d + 1
  | .slice elems spare => uptoBulkAll elems + uptoBulkAll spare + 1
  | .agg parts => uptoBulkAll parts + 1
  | .iface _ d => uptoBulk d + 1
  | .map entries => uptoBulkEntries entries + 1
  | .held _ => 1
def uptoBulkAll {H : Type} : List (DataW H) → Nat
  | [] => 0
  | d :: r => uptoBulk d + uptoBulkAll r
def uptoBulkEntries {H : Type} : List (Lit × DataW H) → Nat
  | [] => 0
  | x :: r => uptoBulkEntry x + uptoBulkEntries r
def uptoBulkEntry {H : Type} : Lit × DataW H → Nat
  | (.string bytes, d) => bytes.length + uptoBulk d + 1
  | (_, d) => uptoBulk d + 1
 end
def uptoSmall : (H : Type) → List (DataW H) → Bool := fun _ ds => decide (uptoBulkAll ds ≤ 1048576)
def OpenSpec.upto (s : _root_.Go.ChangeSpec) : _root_.Go.OpenSpec := { _root_.Go.OpenSpec.ofChange s with cond := some uptoSmall }

/-- 'stencillaw18.EncWithin', WHERE WHAT IT READS IS OF BULK AT MOST 1048576: true; the input reads as it did. -/
def encWithinUptoRow : OpenClaim := { program := "ytjlbcdnkglaheaagreatdoor", sum := "9864159690ade93b5babd9d499589f1da9d74830f15eaaa2d8127e3dc13c7008", func := "stencil/stencillaw18.EncWithin", spec := "encWithin", unfollowed := true, recurses := true, named := ["stencil/prim.kinds", "stencil/ir.mayHave"], plainKeys := false, apart := false, laid := [("stencil/prim.kinds", laid_stencil_prim_kinds), ("stencil/ir.mayHave", laid_stencil_ir_mayHave)], narrowed := true }
def EncWithinUptoSaid : Prop := encWithinUptoRow.holds Tryz.pinned (OpenSpec.upto encWithinSpec)

end Rows
end Go.Proofs.YtjlbcdnkglaheaaGreatDoor
