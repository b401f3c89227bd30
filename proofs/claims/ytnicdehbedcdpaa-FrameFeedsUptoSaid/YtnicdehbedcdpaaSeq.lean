/- The contracts of sequences: rowOf, isTail, begins, sequence, isXMLChar. -/
import Derived.Test.YtnicdehbedcdpaaProg
import Derived.Test.YtnicdehbedcdpaaMath
import Derived.WalkKit
import Derived.WalkSpells
import Derived.WalkLawsBesides
import Derived.ProofKit
import Derived.OpenShut
import Derived.Laws.BitsAllLaws
import Derived.Laws.DeepStrings4
import Derived.Deep.RegionWith
import Derived.Deep.QuietTactic
import Derived.BigQuiet
namespace Go.Proofs.Ytnicdehbedcdpaa
open Go.ChangeShapes Go.WideShapes Go.ChangeAt Go.RowKit

theorem ret_int {k : IntKind} {a b : Int} (h : a = b) : Ending.returned (.int k a) = .returned (.int k b) := by rw [h]
theorem ret_bool {a b : Bool} (h : a = b) : Ending.returned (.bool a) = .returned (.bool b) := by rw [h]
theorem bel1 (w : World) (o : Obj) : Below w.heap.size w (w.alloc o) := (Below.refl _ _).alloc (Nat.le_refl _) _
theorem idx {w : World} (s : ByteArray) (i : Nat) (h : i < s.size) (k : IntKind) : (Instr.index 9 (.string s) (.int k (i : Int))).run Try.prog w = .ok (.int .u8 (ch s i : Int)) w := by
  rw [run_index_string w 9 s k i Try.underlying9, dif_pos ⟨by omega, by omega⟩]
  simp only [Int.toNat_natCast, ch_get]
abbrev rowV (a b c : Nat) : Value := .agg #[.int .i64 (a : Int), .int .u8 (b : Int), .int .u8 (c : Int)]
theorem row_eq (c a b d : Nat) (ha : a = rsz c) (hb : b = rlo c) (hd : d = rhi c) : Ending.returned (rowV a b d) = .returned (rowV (rsz c) (rlo c) (rhi c)) := by rw [ha, hb, hd]
end Go.Proofs.Ytnicdehbedcdpaa
