/- The walk of TextNumbers: small facts. -/
import Derived.Test.YthiilkmnbjgoaaaNumP
import Derived.Test.YthiilkmnbjgoaaaQuoted
namespace Go.Proofs.Ythiilkmnbjgoaaa
open Go.ChangeShapes Go.WideShapes Go.ChangeAt Go.RowKit

/-- 1 of an empty text. -/
def emptyM : Value → Nat
  | .string t => if t.size = 0 then 1 else 0
  | _ => 0
theorem emptyM_nil : emptyM (.string (sOf [])) = 1 := rfl
theorem emptyM_cons (c : Nat) (D : List Nat) : emptyM (.string (sOf (c :: D))) = 0 := by
  show (if (sOf (c :: D)).size = 0 then 1 else 0) = 0
  rw [sOf_size, if_neg (by simp)]
theorem toList_nil : (sOf []).toList = [] := empty_toList
theorem toList_cons (c : Nat) (D : List Nat) : ((sOf (c :: D)).toList == []) = false := str_ne _ (by rw [sOf_size]; simp)
theorem digL_nil (b : Nat) : digL b [] := fun _ h => by cases h
end Go.Proofs.Ythiilkmnbjgoaaa
