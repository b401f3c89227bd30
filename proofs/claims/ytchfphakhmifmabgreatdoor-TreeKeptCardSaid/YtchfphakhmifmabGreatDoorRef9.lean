/- The document's answer: a call at a step of a region that draws its order; Hex. -/
import Derived.Test.YtchfphakhmifmabGreatDoorMR
import Derived.Deep.RegionLaw
namespace Go.Proofs.YtchfphakhmifmabGreatDoor
open Go.ChangeShapes Go.WideShapes Go.ChangeAt Go.RowKit

theorem step_call_ex {P : Program} {w : World} {ops : Array Oper} {o : Oper} {a : Act} {K : Act → World → Prop} {Q : Exit → Act → World → Prop} {E : Prop} (hgd : o.guard = none) (f : FuncId) (x : Array Operand) (tx : Array TypeId)
    (ho : o.op = .call { callee := .value (.func f), args := x, argTypes := tx }) (hen : ∀ ag w, (callFunc f ag).run P w = .ok (.enter f ag) w) (xv : Array Value) (hx : x.map a.eval = xv) (Post : Value → World → Prop)
    (hc : Calls P f xv w fun e w' => ∃ v, e = .returned v ∧ Post v w') (h : ∀ v w', Post v w' → K (a.put o.dst v) w') : if Region.wanted o (yielded ops a.tmps) = true then Oper.wp P o a w K Q else E := by
  have hw : Region.wanted o (yielded ops a.tmps) = true := by simp [Region.wanted, hgd]
  rw [if_pos hw]
  unfold Oper.wp execOp
  have hf : a.eval (.func f) = .func (.func f) #[] #[] := rfl
  simp only [ho, resolve, invoke, Sem.run_bind, hx, hf]
  simp [Deferred.ofValue, hen, Oper.upon_enter]
  refine hc.mono ?_
  rintro e w' ⟨v, rfl, hp⟩
  exact h v w' hp
/-- The same with one argument; with two. -/
theorem step_call1 {P : Program} {w : World} {ops : Array Oper} {o : Oper} {a : Act} {K : Act → World → Prop} {Q : Exit → Act → World → Prop} {E : Prop} (hgd : o.guard = none) (f : FuncId) (x : Operand) (tx : Array TypeId)
    (ho : o.op = .call { callee := .value (.func f), args := #[x], argTypes := tx }) (hen : ∀ ag w, (callFunc f ag).run P w = .ok (.enter f ag) w) (xv : Value) (hx : a.eval x = xv) (Post : Value → World → Prop)
    (hc : Calls P f #[xv] w fun e w' => ∃ v, e = .returned v ∧ Post v w') (h : ∀ v w', Post v w' → K (a.put o.dst v) w') : if Region.wanted o (yielded ops a.tmps) = true then Oper.wp P o a w K Q else E :=
  step_call_ex hgd f #[x] tx ho hen #[xv] (by simp [hx]) Post hc h
theorem step_call2 {P : Program} {w : World} {ops : Array Oper} {o : Oper} {a : Act} {K : Act → World → Prop} {Q : Exit → Act → World → Prop} {E : Prop} (hgd : o.guard = none) (f : FuncId) (x y : Operand) (tx : Array TypeId)
    (ho : o.op = .call { callee := .value (.func f), args := #[x, y], argTypes := tx }) (hen : ∀ ag w, (callFunc f ag).run P w = .ok (.enter f ag) w) (xv yv : Value) (hx : a.eval x = xv) (hy : a.eval y = yv) (Post : Value → World → Prop)
    (hc : Calls P f #[xv, yv] w fun e w' => ∃ v, e = .returned v ∧ Post v w') (h : ∀ v w', Post v w' → K (a.put o.dst v) w') : if Region.wanted o (yielded ops a.tmps) = true then Oper.wp P o a w K Q else E :=
  step_call_ex hgd f #[x, y] tx ho hen #[xv, yv] (by simp [hx, hy]) Post hc h
end Go.Proofs.YtchfphakhmifmabGreatDoor
