/- The document's answer: a call at a step of a region that draws its order; Hex. -/
import Derived.Test.YtchfphakhmifmabGreatDoorMR
import Derived.Deep.RegionLaw
namespace Go.Proofs.YtchfphakhmifmabGreatDoor
open Go.ChangeShapes Go.WideShapes Go.ChangeAt Go.RowKit

end Go.Proofs.YtchfphakhmifmabGreatDoor
