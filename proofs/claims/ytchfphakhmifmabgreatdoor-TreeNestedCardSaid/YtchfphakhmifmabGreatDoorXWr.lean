/- The printer's parts: written, isComment, isDeclaration, check. -/
import Derived.Test.YtchfphakhmifmabGreatDoorMC
import Derived.Test.YtchfphakhmifmabGreatDoorEsc
namespace Go.Proofs.YtchfphakhmifmabGreatDoor
open Go.ChangeShapes Go.WideShapes Go.ChangeAt Go.RowKit Go.Shelf Go.Lib

/-- A text with its entities. -/
def escB (attr : Bool) (v : ByteArray) : ByteArray := sOf (escL attr (lOf v))
/-- How a piece is written. -/
def wrB (k : Nat) (nm vl : ByteArray) : ByteArray :=
  if k = 0 then ⟨#[60]⟩ ++ nm
  else if k = 1 then ⟨#[32]⟩ ++ nm ++ ⟨#[61, 34]⟩ ++ escB true vl ++ ⟨#[34]⟩
  else if k = 2 then ⟨#[62]⟩
  else if k = 3 then ⟨#[47, 62]⟩
  else if k = 4 then ⟨#[60, 47]⟩ ++ nm ++ ⟨#[62]⟩
  else if k = 5 then escB false vl
  else if k = 6 then ⟨#[60, 33, 45, 45]⟩ ++ vl ++ ⟨#[45, 45, 62]⟩
  else bXML ++ vl ++ bSHUT
/-- May a text stand in a comment? -/
def comB (v : ByteArray) : Bool := !Lib.contains v.data.toList bHH.data.toList && !Lib.hasSuffix v.data.toList [45]
def dclB (v : ByteArray) : Bool := decide (declN (bXML ++ v ++ bSHUT) = (bXML ++ v ++ bSHUT).size)
end Go.Proofs.YtchfphakhmifmabGreatDoor
