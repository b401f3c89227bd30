/- The same as ILz's in a told order; a call of one argument, and a store that isn't the last. -/
import Derived.Test.YtfikmlckcbnppaaDoorILv
namespace Go.Proofs.YtfikmlckcbnppaaDoor
open Go.ChangeShapes Go.WideShapes Go.ChangeAt Go.RowKit

section
variable {P : Program} {ops : Array Oper} {Q : Exit → Act → World → Prop} {C : World → Prop} {d : Option Tmp} {ty : TypeId} {ps : String} {af : Array Edge} {gd : Option (Nat × Bool)} {r : List Oper} {a : Act} {w : World}
theorem lw_call1 {f : FuncId} {x1 : Operand} {y1 : Value} {tx : Array TypeId} {R : Value → World → Prop} (hen : ∀ ag w, (callFunc f ag).run P w = .ok (.enter f ag) w) (hc : Calls P f #[y1] w fun e w' => ∃ v, e = .returned v ∧ R v w') (h1 : a.eval x1 = y1) (hw : Region.wanted ⟨d, .call { callee := .value (.func f), args := #[x1], argTypes := tx }, ty, ps, af, gd⟩ (yielded ops a.tmps) = true)
    (h : ∀ v w', R v w' → C w' ∧ Lw P ops Q C r (a.put d v) w') : Lw P ops Q C (⟨d, .call { callee := .value (.func f), args := #[x1], argTypes := tx }, ty, ps, af, gd⟩ :: r) a w :=
  lw_act hw rfl fun K hK => by
    have hf : a.eval (.func f) = .func (.func f) #[] #[] := rfl
    unfold Oper.wp execOp
    simp only [resolve, invoke, Sem.run_bind, hf]
    simp [Deferred.ofValue, hen, Oper.upon_enter, h1]
    refine hc.mono ?_
    rintro e w' ⟨v, rfl, hp⟩
    exact hK _ _ C (.inr ⟨fun _ h => h, (h v w' hp).1⟩) (h v w' hp).2
theorem lw_sm {t : TypeId} {x y : Operand} {p v : Value} {w' : World} (hr : (Instr.storeAt t p v).run P w = .ok () w') (hC : C w') (hx : a.eval x = p) (hy : a.eval y = v) (hw : Region.wanted ⟨d, .store t x y, ty, ps, af, gd⟩ (yielded ops a.tmps) = true) (h : Lw P ops Q C r (a.put d undef) w') : Lw P ops Q C (⟨d, .store t x y, ty, ps, af, gd⟩ :: r) a w :=
  lw_act hw rfl fun K hK => by
    unfold Oper.wp execOp
    simp only [hx, hy, hr, Sem.run_bind, Result.andThen_ok, Sem.run_pure]
    exact hK _ _ C (.inr ⟨fun _ h => h, hC⟩) h
end
/-- The region in a told order, its last operation number z. -/
theorem wp_region_lwt {P : Program} {Q : Exit → Act → World → Prop} {id : Nat} {a : Act} {w : World} {l : List Oper} (z : Nat) (C : World → Prop) (sc : List Nat) (hm : P.follows .mixedOrders = true) (hv : (Region.noSelect l.toArray && schF .any l.toArray z sc (Array.replicate l.length false) && (sc.length == l.length) && sc.all (fun i => decide (i < l.length))) = true)
    (hQ : ∀ c (a : Act) d v w, Q (.panic c) (a.put d v) w → Q (.panic c) a w) (hp : C w.drew) (h : Lw P l.toArray Q C (sc.filterMap fun i => l[i]?) a w.drew) : (Code.region id l.toArray true).wp P Q a w := by
  rw [Bool.and_eq_true, Bool.and_eq_true, Bool.and_eq_true, beq_iff_eq] at hv
  refine wp_region_F z C hm hp fun _ => ?_
  have := wpAnyF_lw (z := z) hv.1.1.1 hQ _ _ C _ a w.drew (pick_map l sc hv.2) hv.1.1.2 hp h.out
  rw [hv.1.2] at this
  simpa using this
end Go.Proofs.YtfikmlckcbnppaaDoor
