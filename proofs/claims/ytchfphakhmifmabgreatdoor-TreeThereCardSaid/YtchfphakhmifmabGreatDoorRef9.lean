import Derived.Test.YtchfphakhmifmabGreatDoorMR
namespace Go.Proofs.YtchfphakhmifmabGreatDoor
open Go.ChangeShapes Go.WideShapes Go.ChangeAt Go.RowKit
end Go.Proofs.YtchfphakhmifmabGreatDoor
