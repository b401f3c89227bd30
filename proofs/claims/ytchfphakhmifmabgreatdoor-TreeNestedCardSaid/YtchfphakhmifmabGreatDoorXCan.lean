/- The printer's parts: inTag, canFollow. -/
import Derived.Test.YtchfphakhmifmabGreatDoorXChk
namespace Go.Proofs.YtchfphakhmifmabGreatDoor
open Go.ChangeShapes Go.WideShapes Go.ChangeAt Go.RowKit Go.Shelf Go.Lib

def inT (last : Int) : Bool := decide (last = 0 ∨ last = 1)
def canF (last : Int) (k : Nat) (nm vl : ByteArray) : Bool :=
  if (!decide (nm.size = 0) && !shN k) || ((!decide (vl.size = 0) && !shV k) || (shT k != inT last)) then false
  else if k = 7 then decide (last = -1)
  else if k = 5 then !decide (vl.size = 0) && !decide (last = 5)
  else true
end Go.Proofs.YtchfphakhmifmabGreatDoor
