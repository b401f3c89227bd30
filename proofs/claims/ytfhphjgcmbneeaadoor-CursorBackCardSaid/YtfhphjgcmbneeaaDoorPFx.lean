/- prim.Size and prim.Max. -/
import Derived.Test.YtfhphjgcmbneeaaDoorPFace
namespace Go.Proofs.YtfhphjgcmbneeaaDoor
open Go.ChangeShapes Go.WideShapes Go.ChangeAt Go.RowKit

theorem size_any (p : Int) (w : World) (h : KT w) : Calls Tryd.prog 26 #[.int .i64 p] w fun e w' => e = .returned (.int .i64 (sz p)) ∧ Below w.heap.size w w' := by
  have hf := field0
  go_enter Tryd.func26, Tryd.ntmps26
  go_wp2_with (go_at_call 50; refine (kindOf_any _ _ h).mono ?_; rintro e w' ⟨rfl, hbl⟩)
  go_ret
  exact ⟨rfl, hbl⟩
theorem max_any (p : Int) (w : World) (h : KT w) : Calls Tryd.prog 32 #[.int .i64 p] w fun e w' => e = .returned (.int .u64 (mx p)) ∧ Below w.heap.size w w' := by
  have hf := field4
  go_enter Tryd.func32, Tryd.ntmps32
  go_wp2_with (go_at_call 50; refine (kindOf_any _ _ h).mono ?_; rintro e w' ⟨rfl, hbl⟩)
  go_ret
  exact ⟨rfl, hbl⟩
end Go.Proofs.YtfhphjgcmbneeaaDoor
