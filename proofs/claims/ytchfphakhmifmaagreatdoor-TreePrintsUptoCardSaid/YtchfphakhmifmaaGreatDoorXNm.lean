/- What the document's answers want of names and blanks. -/
import Derived.Test.YtchfphakhmifmaaGreatDoorMB
import Derived.Test.YtchfphakhmifmaaGreatDoorMA
namespace Go.Proofs.YtchfphakhmifmaaGreatDoor
def blC (c : Nat) : Bool := decide (c = 9) || decide (c = 10) || decide (c = 13) || decide (c = 32)
end Go.Proofs.YtchfphakhmifmaaGreatDoor
