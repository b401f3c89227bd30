/- The law LayMakes. -/
import Derived.Test.YtjdinlgbfpkodaaLMk1
import Derived.Test.YtjdinlgbfpkodaaLMk2
import Derived.Test.YtjdinlgbfpkodaaLMk3
import Derived.Test.YtjdinlgbfpkodaaLMk4
namespace Go.Proofs.Ytjdinlgbfpkodaa
open Go.ChangeShapes Go.WideShapes Go.ChangeAt Go.RowKit Go.Shelf
theorem LayMakes_any (l : List Rm) (pp : Option Addr) (cp : Nat) (more : Int) (w : World) (hr : SlR w pp w.heap.size l) (hl : l.length ≤ 8796093021952) (hx : ∀ x ∈ l, x.ok) :
    Calls Try.prog 5 #[.slice pp l.length cp, .int .i64 more] w fun r w' => r = .returned (.bool true) ∧ Below w.heap.size w w' := by
  by_cases hT0 : more % 100 = 0
  · by_cases hEp : 0 < (madeZ l).2.2
    · exact LayMakes_b1 l pp cp more w hr hl hx hT0 hEp
    · exact LayMakes_b2 l pp cp more w hr hl hx hT0 hEp
  · by_cases hEp : 0 < (madeZ l).2.2
    · exact LayMakes_b3 l pp cp more w hr hl hx hT0 hEp
    · exact LayMakes_b4 l pp cp more w hr hl hx hT0 hEp
end Go.Proofs.Ytjdinlgbfpkodaa
