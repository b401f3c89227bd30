/- The law CursorBack: its pieces. -/
import Derived.Test.YtfhphjgcmbneeaaDoorCuBz
import Derived.Deep.DeepCutAuto
namespace Go.Proofs.YtfhphjgcmbneeaaDoor
open Go.ChangeShapes Go.WideShapes Go.ChangeAt Go.RowKit

def tl1 : Code → Code
  | .seq _ b => b
  | c => c
def hd1 : Code → Code
  | .seq a _ => a
  | c => c
/-- The law's code from the k-th piece on. -/
def bkC (c : Code) : Nat → Code
  | 0 => c
  | n + 1 => tl1 (bkC c n)
def cut300 (L : Nat) : Nat := if 300 < L then 300 else L
def cutS (s : ByteArray) : ByteArray := if 250 < s.size then s.extract 0 250 else s
theorem cutS_size (s : ByteArray) : (cutS s).size ≤ 250 := by
  unfold cutS
  split
  · rw [ByteArray.size_extract]; omega
  · omega
def fill (A k : Nat) (h : Nat → Int) (j : Nat) : Int := if A ≤ j ∧ j < k then 200 else h j
def abI (b : Int) : Int := if b < 0 then -(b + 1) else b
def fourM (v : Four) : Four := ⟨v.a.tmod 4294967295, v.b.tmod 65535, v.c.tmod 65535, v.d.tmod 255⟩
abbrev fourO (v : Four) : Obj := .cells #[.int .u64 v.a, .int .u64 v.b, .int .u64 v.c, .int .u64 v.d] 37
end Go.Proofs.YtfhphjgcmbneeaaDoor
