/- Are two forms the same: the program's Same, on. -/
import Derived.Test.YtgobecedammlgaaJSm
namespace Go.Proofs.Ytgobecedammlgaa
open Go.ChangeShapes Go.WideShapes Go.ChangeAt Go.RowKit

set_option maxRecDepth 20000 in
set_option maxHeartbeats 4000000 in
theorem sameValues_any (t u : Tk) (p1 p2 : Option Addr) (c1 c2 : Nat) (w : World) (h1 : URow w p1 w.heap.size t.cst) (h2 : URow w p2 w.heap.size u.cst) (hs : t.cst.length * 8 ≤ 140737488355328) : Calls Try.prog 12 #[tkV t p1 c1, tkV u p2 c2] w fun r w' => Ans r (t.prim = u.prim ∧ t.len = u.len ∧ t.pres = u.pres ∧ t.nul = u.nul ∧ t.lo = u.lo ∧ t.hi = u.hi ∧ t.val = u.val ∧ t.cst = u.cst) ∧ Below w.heap.size w w' := by
  have cE : ∀ W, Below w.heap.size w W → Calls Try.prog 13 #[.slice p1 t.cst.length c1, .slice p2 u.cst.length c2] W fun r w' => Ans r (t.cst = u.cst) ∧ Below W.heap.size W w' := fun W HB => equal_any t.cst u.cst p1 p2 c1 c2 W ((h1.below HB).mono HB.size) ((h2.below HB).mono HB.size) hs
  clear h1 h2 hs
  obtain ⟨op1, nm1, id1, of1, sz1, si1, pr1, ln1, ps1, nu1, lo1, hi1, cs1, vl1, bk1, fl1, ⟨ap1, ao1⟩, ⟨bp1, bo1⟩, pa1⟩ := t
  obtain ⟨op2, nm2, id2, of2, sz2, si2, pr2, ln2, ps2, nu2, lo2, hi2, cs2, vl2, bk2, fl2, ⟨ap2, ao2⟩, ⟨bp2, bo2⟩, pa2⟩ := u
  simp only [tkV] at cE ⊢
  generalize hn1 : cs1.length = n1 at cE ⊢
  generalize hn2 : cs2.length = n2 at cE ⊢
  go_enter Try.func12, Try.ntmps12
  go_wp2_with fail
  case isTrue =>
    refine (cE _ (two_b _ _ _)).mono ?_
    rintro _ w1 ⟨⟨b, rfl, hbb⟩, hb1⟩
    have hbb : Hid (b = true ↔ cs1 = cs2) := ⟨hbb⟩
    clear cE
    go_wp2_with fail
    all_goals (go_ret; refine ⟨⟨_, rfl, ?_⟩, (two_b _ _ _).trans (hb1.mono (two_b _ _ _).size)⟩; have hbb := hbb.out; simp [*])
  all_goals (go_ret; refine ⟨⟨_, rfl, ?_⟩, two_b _ _ _⟩; simp [*])
end Go.Proofs.Ytgobecedammlgaa
