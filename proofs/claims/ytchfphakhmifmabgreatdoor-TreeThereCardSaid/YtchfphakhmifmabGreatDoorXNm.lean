import Derived.Test.YtchfphakhmifmabGreatDoorMB
namespace Go.Proofs.YtchfphakhmifmabGreatDoor
def blC (c:Nat):Bool:=decide (c = 9) || decide (c = 10) || decide (c = 13) || decide (c = 32)
end Go.Proofs.YtchfphakhmifmabGreatDoor
