/- The printer's parts: check. -/
import Derived.Test.YtchfphakhmifmabGreatDoorXWr
namespace Go.Proofs.YtchfphakhmifmabGreatDoor
open Go.ChangeShapes Go.WideShapes Go.ChangeAt Go.RowKit Go.Shelf Go.Lib

def shN (k : Nat) : Bool := decide (k = 0 ∨ k = 1 ∨ k = 4)
def shV (k : Nat) : Bool := decide (k = 1 ∨ k = 5 ∨ k = 6 ∨ k = 7)
def shT (k : Nat) : Bool := decide (k = 1 ∨ k = 2 ∨ k = 3)
/-- What xmllex.shapes holds. -/
structure ShpTab (w : World) : Prop where
  n : ∀ k, k < 8 → w.cell? ⟨0, 3 * k, none⟩ = some (.bool (shN k))
  v : ∀ k, k < 8 → w.cell? ⟨0, 3 * k + 1, none⟩ = some (.bool (shV k))
  t : ∀ k, k < 8 → w.cell? ⟨0, 3 * k + 2, none⟩ = some (.bool (shT k))
theorem ShpTab.below {w w' : World} {B : Nat} (h : ShpTab w) (hb : Below B w w') (hB : 7 ≤ B) : ShpTab w' :=
  have e : ∀ o, w'.cell? ⟨0, o, none⟩ = w.cell? ⟨0, o, none⟩ := fun o => hb.cell (p := ⟨0, o, none⟩) (Nat.lt_of_lt_of_le (show 0 < 7 by decide) hB)
  ⟨fun k hk => (e _).trans (h.n k hk), fun k hk => (e _).trans (h.v k hk), fun k hk => (e _).trans (h.t k hk)⟩
/-- What is wrong with a piece's Name and Value. -/
def chkE (k : Nat) (nm vl : ByteArray) : Nat :=
  if shN k = true ∧ xmlNameB nm = false then 42
  else if (faultN xmlB vl).1 = 0 then
    (if k = 6 ∧ comB vl = false then 43 else if k = 7 ∧ dclB vl = false then 44 else 0)
  else (faultN xmlB vl).1
end Go.Proofs.YtchfphakhmifmabGreatDoor
