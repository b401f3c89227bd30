/- ILex, IYn, IYv, PMath. -/
import Derived.Test.YtjjhfiddebmgcaaGreatDoorProg
import Derived.WalkKit
import Derived.WalkSpells
import Derived.WalkLawsBesides
import Derived.ProofKit
import Derived.BigQuiet
import Derived.Deep.RegionHeld
import Derived.Shelf.Abstract
import Derived.Maps.AppendAt
import Derived.Deep.AppendLies
import Derived.RangeFuncNested
import Derived.RangeFuncBox
import Derived.RangeFuncLeaves
import Derived.OwnWalkIn
import Derived.TacticsInMore
import Derived.LoopNIn
import Derived.LoopIn
namespace Go.Proofs.YtjjhfiddebmgcaaGreatDoor
open Go.ChangeShapes Go.WideShapes Go.ChangeAt Go.RowKit

/-- Operations that only read: each hands a value on, or ends the walk. -/
def rdK : Op → Bool
  | .move _ => true
  | .assign _ => true
  | .pick _ _ _ => true
  | .build _ _ => true
  | .load _ _ => true
  | .nilCheck _ => true
  | .binOp _ _ _ _ _ => true
  | .unOp _ _ _ => true
  | .convert _ _ _ => true
  | .slice _ _ _ _ _ => true
  | .fieldAddr _ _ _ => true
  | .field _ _ _ => true
  | .indexAddr _ _ _ => true
  | .index _ _ _ => true
  | .extract _ _ => true
  | .call { callee := .builtin .len, args := _, argTypes := _ } => true
  | _ => false
section
variable {P : Program} {ops : Array Oper} {C : World → Prop} {Q : Exit → Act → World → Prop} {md : Region.Mode}
/-- It hands a value on, or ends the walk. -/
def ValOnly (s : Sem Next) : Prop := ∀ (P : Program) (W W' : World) (n : Next), s.run P W = .ok n W' → ∃ u, n = .value u
theorem valOnly_v (s : Sem Value) : ValOnly (do let x ← s; pure (Next.value x)) := fun P W W' n h => by
  simp only [Sem.run_bind] at h
  cases hs : s.run P W with
  | ok u w' =>
    rw [hs] at h
    simp only [Result.andThen_ok, Sem.run_pure] at h
    cases h
    exact ⟨_, rfl⟩
  | halt x w' => rw [hs] at h; cases h
theorem valOnly_pure (v : Value) : ValOnly (pure (Next.value v)) := fun P W W' n h => by cases h; exact ⟨_, rfl⟩
theorem valOnly_bind {α : Type} (s : Sem α) (f : α → Sem Next) (h : ∀ x, ValOnly (f x)) : ValOnly (s >>= f) := fun P W W' n h' => by
  simp only [Sem.run_bind] at h'
  cases hs : s.run P W with
  | ok u w' => rw [hs] at h'; exact h u P w' W' n h'
  | halt x w' => rw [hs] at h'; cases h'
theorem valOnly_nil : ValOnly (runtimePanic .nilDeref) := fun P W W' n h => by
  revert h
  simp [go_sem]
theorem valOnly_un {u : Unsupported} : ValOnly (unsupported u) := fun P W W' n h => by
  revert h
  simp [go_sem]
theorem rd_valOnly {o : Oper} {ρ : Operand → Value} (hr : rdK o.op = true) : ValOnly (execOp ρ o) := by
  obtain ⟨d, op, ty, ps, af, gd⟩ := o
  cases op
  case pick => exact valOnly_bind _ _ fun _ => valOnly_pure _
  case nilCheck x =>
    unfold execOp
    dsimp only
    split
    · exact valOnly_nil
    · exact valOnly_nil
    · exact valOnly_nil
    · split
      · exact valOnly_nil
      · refine valOnly_bind _ _ fun _ => valOnly_bind _ _ fun _ => ?_
        split
        · exact valOnly_bind _ _ fun _ => valOnly_pure _
        · exact valOnly_pure _
      · exact valOnly_pure _
    · exact valOnly_pure _
  case call c =>
    obtain ⟨cl, ar, at_⟩ := c
    cases cl with
    | value f => exact Bool.noConfusion (show false = true from hr)
    | invoke r m => exact Bool.noConfusion (show false = true from hr)
    | builtin b =>
      cases b
      case len => exact valOnly_v _
      all_goals exact Bool.noConfusion (show false = true from hr)
  all_goals first
    | exact Bool.noConfusion (show false = true from hr)
    | exact valOnly_pure _
    | exact valOnly_v _
theorem rd_value {o : Oper} {a : Act} {W : World} {v : Value} (hr : rdK o.op = true) (h : o.quietAt P a C W v) : (execOp a.eval o).run P W = .ok (.value v) W := by
  have hv := rd_valOnly (ρ := a.eval) hr P W
  unfold Oper.quietAt at h
  cases hs : (execOp a.eval o).run P W with
  | ok n w' =>
    obtain ⟨u, rfl⟩ := hv w' n hs
    rw [hs] at h
    obtain ⟨rfl, rfl⟩ := h
    rfl
  | halt x w' => rw [hs] at h; exact h.elim
/-- The order i, r .. may be walked: what only reads may be taken first, what acts comes up alone. -/
def schB (md : Region.Mode) (ops : Array Oper) : List Nat → Array Bool → Bool
  | [], listed => (Region.ready md ops listed).isEmpty
  | i :: r, listed => (match ops[i]? with
      | some o => if rdK o.op then Region.free md ops listed i && (Region.ready md ops listed).contains i else Region.ready md ops listed == [i]
      | none => false) && schB md ops r (listed.setIfInBounds i true)
/-- The walk in that order. -/
def wpSch (P : Program) (ops : Array Oper) (C : World → Prop) (Q : Exit → Act → World → Prop) : List Nat → Act → World → Prop
  | [], a, w => Q .normal a w
  | i :: r, a, w => match ops[i]? with
    | none => False
    | some o => if Region.wanted o (yielded ops a.tmps) = true then (if rdK o.op = true then o.quiet P a C (fun a' => wpSch P ops C Q r a' w) else Oper.wp P o a w (fun a' w' => C w' ∧ wpSch P ops C Q r a' w') Q) else wpSch P ops C Q r (a.put o.dst undef) w
theorem wpAnyH_sch (hs : Region.noSelect ops = true) (hQ : ∀ c (a : Act) d v w, Q (.panic c) (a.put d v) w → Q (.panic c) a w) : ∀ (sc : List Nat) (listed : Array Bool) (a : Act) (w : World), schB md ops sc listed = true → C w → wpSch P ops C Q sc a w → wpAnyH P md ops Q C sc.length listed a w
  | [], listed, a, w, hv, _, h => wpAnyH_done (by simpa [schB] using hv) h _
  | i :: r, listed, a, w, hv, hC, h => by
    unfold schB at hv
    rw [Bool.and_eq_true] at hv
    obtain ⟨h1, h2⟩ := hv
    unfold wpSch at h
    cases ho : ops[i]? with
    | none => rw [ho] at h1; cases h1
    | some o =>
      rw [ho] at h1 h
      dsimp only at h1 h
      rw [List.length_cons]
      by_cases hr : rdK o.op = true
      · rw [if_pos hr, Bool.and_eq_true] at h1
        by_cases hw : Region.wanted o (yielded ops a.tmps) = true
        · rw [if_pos hw, if_pos hr] at h
          obtain ⟨v, hv, h⟩ := h
          exact wpAnyH_take ho hs h1.1 h1.2 (fun c a w => hQ c a o.dst v w) (.inl ⟨hw, fun W hW => rd_value hr (hv W hW)⟩) hC (wpAnyH_sch hs hQ r _ _ _ h2 hC h)
        · rw [if_neg hw] at h
          rw [Bool.not_eq_true] at hw
          exact wpAnyH_take ho hs h1.1 h1.2 (fun c a w => hQ c a o.dst undef w) (.inr ⟨hw, rfl⟩) hC (wpAnyH_sch hs hQ r _ _ _ h2 hC h)
      · rw [if_neg hr, beq_iff_eq] at h1
        refine wpAnyH_all h1 (by simp) fun j hj => ?_
        rw [List.mem_singleton.1 hj]
        unfold wpOp
        rw [ho]
        dsimp only
        by_cases hw : Region.wanted o (yielded ops a.tmps) = true
        · rw [if_pos hw, if_neg hr] at h
          rw [if_pos hw]
          exact .inl (Oper.wp_mono (fun a' w' h' => ⟨h'.1, wpAnyH_sch hs hQ r _ _ _ h2 h'.1 h'.2⟩) h)
        · rw [if_neg hw] at h
          rw [if_neg hw]
          exact ⟨hC, wpAnyH_sch hs hQ r _ _ _ h2 hC h⟩
/-- The walk over the operations themselves. -/
def wpLx (P : Program) (ops : Array Oper) (C : World → Prop) (Q : Exit → Act → World → Prop) : List Oper → Act → World → Prop
  | [], a, w => Q .normal a w
  | o :: r, a, w => if Region.wanted o (yielded ops a.tmps) = true then (if rdK o.op = true then o.quiet P a C (fun a' => wpLx P ops C Q r a' w) else Oper.wp P o a w (fun a' w' => C w' ∧ wpLx P ops C Q r a' w') Q) else wpLx P ops C Q r (a.put o.dst undef) w
theorem wpSch_of : ∀ (sc : List Nat) (l : List Oper) (a : Act) (w : World), sc.map (fun i => ops[i]?) = l.map some → wpLx P ops C Q l a w → wpSch P ops C Q sc a w
  | [], [], _, _, _, h => h
  | [], _ :: _, _, _, e, _ => by cases e
  | _ :: _, [], _, _, e, _ => by cases e
  | i :: r, o :: l, a, w, e, h => by
    simp only [List.map_cons, List.cons.injEq] at e
    unfold wpSch
    rw [e.1]
    unfold wpLx at h
    dsimp only
    split
    · rename_i hw
      rw [if_pos hw] at h
      split
      · rename_i hr
        rw [if_pos hr] at h
        exact Oper.quiet_mono (fun a' h' => wpSch_of r l a' w e.2 h') h
      · rename_i hr
        rw [if_neg hr] at h
        exact Oper.wp_mono (fun a' w' h' => ⟨h'.1, wpSch_of r l a' w' e.2 h'.2⟩) h
    · rename_i hw
      rw [if_neg hw] at h
      exact wpSch_of r l _ w e.2 h
variable {d : Option Tmp} {op : Op} {ty : TypeId} {ps : String} {af : Array Edge} {gd : Option (Nat × Bool)} {r : List Oper} {a : Act} {w : World}
/-- The walk, closed. -/
structure Lx (P : Program) (ops : Array Oper) (C : World → Prop) (Q : Exit → Act → World → Prop) (l : List Oper) (a : Act) (w : World) : Prop where
  out : wpLx P ops C Q l a w
theorem lx_skip (hw : Region.wanted ⟨d, op, ty, ps, af, gd⟩ (yielded ops a.tmps) = false) (h : Lx P ops C Q r (a.put d undef) w) : Lx P ops C Q (⟨d, op, ty, ps, af, gd⟩ :: r) a w := by
  refine ⟨?_⟩
  unfold wpLx
  rw [if_neg (by rw [hw]; decide)]
  exact h.out
theorem lx_read (hw : Region.wanted ⟨d, op, ty, ps, af, gd⟩ (yielded ops a.tmps) = true) (hr : rdK op = true) (h : ∀ K : Act → Prop, (∀ a', Lx P ops C Q r a' w → K a') → Oper.quiet P ⟨d, op, ty, ps, af, gd⟩ a C K) : Lx P ops C Q (⟨d, op, ty, ps, af, gd⟩ :: r) a w := by
  refine ⟨?_⟩
  unfold wpLx
  rw [if_pos hw, if_pos hr]
  exact h _ fun _ h => h.out
theorem lx_act (hw : Region.wanted ⟨d, op, ty, ps, af, gd⟩ (yielded ops a.tmps) = true) (hr : rdK op = false) (h : ∀ K : Act → World → Prop, (∀ a' w', C w' → Lx P ops C Q r a' w' → K a' w') → Oper.wp P ⟨d, op, ty, ps, af, gd⟩ a w K Q) : Lx P ops C Q (⟨d, op, ty, ps, af, gd⟩ :: r) a w := by
  refine ⟨?_⟩
  unfold wpLx
  rw [if_pos hw, if_neg (by rw [hr]; decide)]
  exact h _ fun _ _ h1 h2 => ⟨h1, h2.out⟩
/-- One operation that only reads, wanted or not. -/
theorem lx_one (hr : rdK op = true) (h : wpQuiet P ops C (fun a' => Lx P ops C Q r a' w) [⟨d, op, ty, ps, af, gd⟩] a) : Lx P ops C Q (⟨d, op, ty, ps, af, gd⟩ :: r) a w := by
  unfold wpQuiet at h
  by_cases hw : Region.wanted ⟨d, op, ty, ps, af, gd⟩ (yielded ops a.tmps) = true
  · rw [if_pos hw] at h
    refine lx_read hw hr fun K hK => ?_
    exact Oper.quiet_mono (fun a' h' => hK a' h') h
  · rw [if_neg hw] at h
    exact lx_skip (by simpa using hw) h
theorem lx_done (h : Q .normal a w) : Lx P ops C Q [] a w := ⟨h⟩
theorem lx_call1 {f : FuncId} {x1 : Operand} {y1 : Value} {tx : Array TypeId} {v : Value} {R : World → Prop} (hen : ∀ ag w, (callFunc f ag).run P w = .ok (.enter f ag) w) (hc : Calls P f #[y1] w fun e w' => e = .returned v ∧ R w') (h1 : a.eval x1 = y1) (hw : Region.wanted ⟨d, .call { callee := .value (.func f), args := #[x1], argTypes := tx }, ty, ps, af, gd⟩ (yielded ops a.tmps) = true)
    (h : ∀ w', R w' → C w' ∧ Lx P ops C Q r (a.put d v) w') : Lx P ops C Q (⟨d, .call { callee := .value (.func f), args := #[x1], argTypes := tx }, ty, ps, af, gd⟩ :: r) a w :=
  lx_act hw rfl fun K hK => by
    have hf : a.eval (.func f) = .func (.func f) #[] #[] := rfl
    unfold Oper.wp execOp
    simp only [resolve, invoke, Sem.run_bind, hf]
    simp [Deferred.ofValue, hen, Oper.upon_enter, h1]
    refine hc.mono ?_
    rintro e w' ⟨rfl, hp⟩
    exact hK _ _ (h w' hp).1 (h w' hp).2
theorem lx_call2 {f : FuncId} {x1 x2 : Operand} {y1 y2 : Value} {tx : Array TypeId} {v : Value} {R : World → Prop} (hen : ∀ ag w, (callFunc f ag).run P w = .ok (.enter f ag) w) (hc : Calls P f #[y1, y2] w fun e w' => e = .returned v ∧ R w') (h1 : a.eval x1 = y1) (h2 : a.eval x2 = y2) (hw : Region.wanted ⟨d, .call { callee := .value (.func f), args := #[x1, x2], argTypes := tx }, ty, ps, af, gd⟩ (yielded ops a.tmps) = true)
    (h : ∀ w', R w' → C w' ∧ Lx P ops C Q r (a.put d v) w') : Lx P ops C Q (⟨d, .call { callee := .value (.func f), args := #[x1, x2], argTypes := tx }, ty, ps, af, gd⟩ :: r) a w :=
  lx_act hw rfl fun K hK => by
    have hf : a.eval (.func f) = .func (.func f) #[] #[] := rfl
    unfold Oper.wp execOp
    simp only [resolve, invoke, Sem.run_bind, hf]
    simp [Deferred.ofValue, hen, Oper.upon_enter, h1, h2]
    refine hc.mono ?_
    rintro e w' ⟨rfl, hp⟩
    exact hK _ _ (h w' hp).1 (h w' hp).2
theorem lx_call3 {f : FuncId} {x1 x2 x3 : Operand} {y1 y2 y3 : Value} {tx : Array TypeId} {v : Value} {R : World → Prop} (hen : ∀ ag w, (callFunc f ag).run P w = .ok (.enter f ag) w) (hc : Calls P f #[y1, y2, y3] w fun e w' => e = .returned v ∧ R w') (h1 : a.eval x1 = y1) (h2 : a.eval x2 = y2) (h3 : a.eval x3 = y3) (hw : Region.wanted ⟨d, .call { callee := .value (.func f), args := #[x1, x2, x3], argTypes := tx }, ty, ps, af, gd⟩ (yielded ops a.tmps) = true)
    (h : ∀ w', R w' → C w' ∧ Lx P ops C Q r (a.put d v) w') : Lx P ops C Q (⟨d, .call { callee := .value (.func f), args := #[x1, x2, x3], argTypes := tx }, ty, ps, af, gd⟩ :: r) a w :=
  lx_act hw rfl fun K hK => by
    have hf : a.eval (.func f) = .func (.func f) #[] #[] := rfl
    unfold Oper.wp execOp
    simp only [resolve, invoke, Sem.run_bind, hf]
    simp [Deferred.ofValue, hen, Oper.upon_enter, h1, h2, h3]
    refine hc.mono ?_
    rintro e w' ⟨rfl, hp⟩
    exact hK _ _ (h w' hp).1 (h w' hp).2
theorem lx_call4 {f : FuncId} {x1 x2 x3 x4 : Operand} {y1 y2 y3 y4 : Value} {tx : Array TypeId} {v : Value} {R : World → Prop} (hen : ∀ ag w, (callFunc f ag).run P w = .ok (.enter f ag) w) (hc : Calls P f #[y1, y2, y3, y4] w fun e w' => e = .returned v ∧ R w') (h1 : a.eval x1 = y1) (h2 : a.eval x2 = y2) (h3 : a.eval x3 = y3) (h4 : a.eval x4 = y4) (hw : Region.wanted ⟨d, .call { callee := .value (.func f), args := #[x1, x2, x3, x4], argTypes := tx }, ty, ps, af, gd⟩ (yielded ops a.tmps) = true)
    (h : ∀ w', R w' → C w' ∧ Lx P ops C Q r (a.put d v) w') : Lx P ops C Q (⟨d, .call { callee := .value (.func f), args := #[x1, x2, x3, x4], argTypes := tx }, ty, ps, af, gd⟩ :: r) a w :=
  lx_act hw rfl fun K hK => by
    have hf : a.eval (.func f) = .func (.func f) #[] #[] := rfl
    unfold Oper.wp execOp
    simp only [resolve, invoke, Sem.run_bind, hf]
    simp [Deferred.ofValue, hen, Oper.upon_enter, h1, h2, h3, h4]
    refine hc.mono ?_
    rintro e w' ⟨rfl, hp⟩
    exact hK _ _ (h w' hp).1 (h w' hp).2
theorem range_map (l : List Oper) : (List.range l.length).map (fun i => l.toArray[i]?) = l.map some := by
  apply List.ext_getElem?
  intro i
  rw [List.getElem?_map, List.getElem?_map]
  by_cases hi : i < l.length
  · rw [List.getElem?_range hi]
    simp [hi]
  · rw [List.getElem?_eq_none (by simpa using hi), List.getElem?_eq_none (by omega)]
    rfl
end
/-- A world that is so. -/
structure CW (p : World → Prop) where
  w : World
  h : p w
section
variable {P : Program} {ops : Array Oper} {Q : Exit → Act → World → Prop} {d : Option Tmp} {ty : TypeId} {ps : String} {af : Array Edge} {gd : Option (Nat × Bool)} {r : List Oper} {a : Act} {w : World} {p : World → Prop}
theorem lx_p1 {f : FuncId} {x1 : Operand} {y1 : Value} {tx : Array TypeId} {v : Value} (hen : ∀ ag w, (callFunc f ag).run P w = .ok (.enter f ag) w) (hc : ∀ W, p W → Calls P f #[y1] W fun e w' => e = .returned v ∧ p w') (hp : p w) (h1 : a.eval x1 = y1) (hw : Region.wanted ⟨d, .call { callee := .value (.func f), args := #[x1], argTypes := tx }, ty, ps, af, gd⟩ (yielded ops a.tmps) = true)
    (h : ∀ w', p w' → Lx P ops (fun W => ∃ θ : CW p, W = θ.w) Q r (a.put d v) w') : Lx P ops (fun W => ∃ θ : CW p, W = θ.w) Q (⟨d, .call { callee := .value (.func f), args := #[x1], argTypes := tx }, ty, ps, af, gd⟩ :: r) a w :=
  lx_call1 hen (hc w hp) h1 hw fun w' hp' => ⟨⟨⟨w', hp'⟩, rfl⟩, h w' hp'⟩
theorem lx_p2 {f : FuncId} {x1 x2 : Operand} {y1 y2 : Value} {tx : Array TypeId} {v : Value} (hen : ∀ ag w, (callFunc f ag).run P w = .ok (.enter f ag) w) (hc : ∀ W, p W → Calls P f #[y1, y2] W fun e w' => e = .returned v ∧ p w') (hp : p w) (h1 : a.eval x1 = y1) (h2 : a.eval x2 = y2) (hw : Region.wanted ⟨d, .call { callee := .value (.func f), args := #[x1, x2], argTypes := tx }, ty, ps, af, gd⟩ (yielded ops a.tmps) = true)
    (h : ∀ w', p w' → Lx P ops (fun W => ∃ θ : CW p, W = θ.w) Q r (a.put d v) w') : Lx P ops (fun W => ∃ θ : CW p, W = θ.w) Q (⟨d, .call { callee := .value (.func f), args := #[x1, x2], argTypes := tx }, ty, ps, af, gd⟩ :: r) a w :=
  lx_call2 hen (hc w hp) h1 h2 hw fun w' hp' => ⟨⟨⟨w', hp'⟩, rfl⟩, h w' hp'⟩
theorem lx_p3 {f : FuncId} {x1 x2 x3 : Operand} {y1 y2 y3 : Value} {tx : Array TypeId} {v : Value} (hen : ∀ ag w, (callFunc f ag).run P w = .ok (.enter f ag) w) (hc : ∀ W, p W → Calls P f #[y1, y2, y3] W fun e w' => e = .returned v ∧ p w') (hp : p w) (h1 : a.eval x1 = y1) (h2 : a.eval x2 = y2) (h3 : a.eval x3 = y3) (hw : Region.wanted ⟨d, .call { callee := .value (.func f), args := #[x1, x2, x3], argTypes := tx }, ty, ps, af, gd⟩ (yielded ops a.tmps) = true)
    (h : ∀ w', p w' → Lx P ops (fun W => ∃ θ : CW p, W = θ.w) Q r (a.put d v) w') : Lx P ops (fun W => ∃ θ : CW p, W = θ.w) Q (⟨d, .call { callee := .value (.func f), args := #[x1, x2, x3], argTypes := tx }, ty, ps, af, gd⟩ :: r) a w :=
  lx_call3 hen (hc w hp) h1 h2 h3 hw fun w' hp' => ⟨⟨⟨w', hp'⟩, rfl⟩, h w' hp'⟩
theorem lx_p4 {f : FuncId} {x1 x2 x3 x4 : Operand} {y1 y2 y3 y4 : Value} {tx : Array TypeId} {v : Value} (hen : ∀ ag w, (callFunc f ag).run P w = .ok (.enter f ag) w) (hc : ∀ W, p W → Calls P f #[y1, y2, y3, y4] W fun e w' => e = .returned v ∧ p w') (hp : p w) (h1 : a.eval x1 = y1) (h2 : a.eval x2 = y2) (h3 : a.eval x3 = y3) (h4 : a.eval x4 = y4) (hw : Region.wanted ⟨d, .call { callee := .value (.func f), args := #[x1, x2, x3, x4], argTypes := tx }, ty, ps, af, gd⟩ (yielded ops a.tmps) = true)
    (h : ∀ w', p w' → Lx P ops (fun W => ∃ θ : CW p, W = θ.w) Q r (a.put d v) w') : Lx P ops (fun W => ∃ θ : CW p, W = θ.w) Q (⟨d, .call { callee := .value (.func f), args := #[x1, x2, x3, x4], argTypes := tx }, ty, ps, af, gd⟩ :: r) a w :=
  lx_call4 hen (hc w hp) h1 h2 h3 h4 hw fun w' hp' => ⟨⟨⟨w', hp'⟩, rfl⟩, h w' hp'⟩
end
theorem wp_region_lx {P : Program} {Q : Exit → Act → World → Prop} {id : Nat} {a : Act} {w : World} {l : List Oper} (p : World → Prop) (hm : P.follows .mixedOrders = true) (hv : (Region.noSelect l.toArray && schB .any l.toArray (List.range l.length) (Array.replicate l.length false)) = true)
    (hQ : ∀ c (a : Act) d v w, Q (.panic c) (a.put d v) w → Q (.panic c) a w) (hp : p w.drew) (h : Lx P l.toArray (fun W => ∃ θ : CW p, W = θ.w) Q l a w.drew) : (Code.region id l.toArray true).wp P Q a w := by
  rw [Bool.and_eq_true] at hv
  refine wp_region_held (S := fun W => ∃ θ : CW p, W = θ.w) hm ?_
  have := wpAnyH_sch hv.1 hQ _ _ a w.drew hv.2 ⟨⟨_, hp⟩, rfl⟩ (wpSch_of _ _ _ _ (range_map l) h.out)
  rw [List.length_range] at this
  simpa using this
/-- .. with nothing known of the world but that it is so. -/
theorem wp_region_lp {P : Program} {Q : Exit → Act → World → Prop} {id : Nat} {a : Act} {w : World} {l : List Oper} (p : World → Prop) (hm : P.follows .mixedOrders = true) (hv : (Region.noSelect l.toArray && schB .any l.toArray (List.range l.length) (Array.replicate l.length false)) = true)
    (hQ : ∀ c (a : Act) d v w, Q (.panic c) (a.put d v) w → Q (.panic c) a w) (hp : p w.drew) (h : ∀ W, p W → Lx P l.toArray (fun W => ∃ θ : CW p, W = θ.w) Q l a W) : (Code.region id l.toArray true).wp P Q a w :=
  wp_region_lx p hm hv hQ hp (h _ hp)
/-- The same in an order that is told. -/
theorem wp_region_px {P : Program} {Q : Exit → Act → World → Prop} {id : Nat} {a : Act} {w : World} {l : List Oper} (p : World → Prop) (sc : List Nat) (l' : List Oper) (hl : sc.map (fun i => l.toArray[i]?) = l'.map some) (hm : P.follows .mixedOrders = true) (hv : (Region.noSelect l.toArray && schB .any l.toArray sc (Array.replicate l.length false) && (sc.length == l.length)) = true)
    (hQ : ∀ c (a : Act) d v w, Q (.panic c) (a.put d v) w → Q (.panic c) a w) (hp : p w.drew) (h : Lx P l.toArray (fun W => ∃ θ : CW p, W = θ.w) Q l' a w.drew) : (Code.region id l.toArray true).wp P Q a w := by
  rw [Bool.and_eq_true, Bool.and_eq_true, beq_iff_eq] at hv
  refine wp_region_held (S := fun W => ∃ θ : CW p, W = θ.w) hm ?_
  have := wpAnyH_sch hv.1.1 hQ _ _ a w.drew hv.1.2 ⟨⟨_, hp⟩, rfl⟩ (wpSch_of _ _ _ _ hl h.out)
  rw [hv.2] at this
  simpa using this
theorem ch2 : ∀ a b : Bool, a = false ∨ (a = true ∧ b = false) ∨ (a = true ∧ b = true) := by decide
theorem ch3 : ∀ a b c : Bool, a = false ∨ (a = true ∧ b = false) ∨ (a = true ∧ b = true ∧ c = false) ∨ (a = true ∧ b = true ∧ c = true) := by decide
theorem ch4 : ∀ a b c d : Bool, a = false ∨ (a = true ∧ b = false) ∨ (a = true ∧ b = true ∧ c = false) ∨ (a = true ∧ b = true ∧ c = true ∧ d = false) ∨ (a = true ∧ b = true ∧ c = true ∧ d = true) := by decide
theorem ch5 : ∀ a b c d e : Bool, a = false ∨ (a = true ∧ b = false) ∨ (a = true ∧ b = true ∧ c = false) ∨ (a = true ∧ b = true ∧ c = true ∧ d = false) ∨ (a = true ∧ b = true ∧ c = true ∧ d = true ∧ e = false) ∨ (a = true ∧ b = true ∧ c = true ∧ d = true ∧ e = true) := by decide
theorem ch6 : ∀ a b c d e f : Bool, a = false ∨ (a = true ∧ b = false) ∨ (a = true ∧ b = true ∧ c = false) ∨ (a = true ∧ b = true ∧ c = true ∧ d = false) ∨ (a = true ∧ b = true ∧ c = true ∧ d = true ∧ e = false) ∨ (a = true ∧ b = true ∧ c = true ∧ d = true ∧ e = true ∧ f = false) ∨ (a = true ∧ b = true ∧ c = true ∧ d = true ∧ e = true ∧ f = true) := by
  intro a b c d e f
  cases a <;> cases b <;> cases c <;> cases d <;> cases e <;> cases f <;> simp
/-- A slot written in a frame that is told. -/
theorem pts : (∀ (a : Act) (d : Tmp) (v : Value), a.put (some d) v = { a with tmps := a.tmps.setIfInBounds d v }) ∧ (∀ (a : Act) (v : Value), a.put none v = a) ∧ (∀ (l : List Value) (i : Nat) (v : Value), l.toArray.setIfInBounds i v = (l.set i v).toArray) ∧ (∀ (l : List Value) (x v : Value), (x :: l).set 0 v = v :: l) ∧ (∀ (l : List Value) (x v : Value) (n : Nat), (x :: l).set (n + 1) v = x :: l.set n v) :=
  ⟨fun _ _ _ => rfl, fun _ _ => rfl, fun _ _ _ => List.setIfInBounds_toArray .., fun _ _ _ => rfl, fun _ _ _ _ => rfl⟩
end Go.Proofs.YtjjhfiddebmgcaaGreatDoor
namespace Go.Proofs.YtjjhfiddebmgcaaGreatDoor
open Go.ChangeShapes Go.WideShapes Go.ChangeAt Go.RowKit Go.Shelf Go.Maps

theorem nbel (w : World) (o : Obj) : Below w.heap.size w (w.alloc o) := (Below.refl _ _).alloc (Nat.le_refl _) _
theorem thnK (w : World) (o : Obj) : (w.alloc o).heap[w.heap.size]? = some o := by
  show (w.heap.push o)[w.heap.size]? = some o
  simp
def cI (n : Nat) : Value := .int .i64 (n : Int)
/-- A row of places of one's own. -/
def NRow (W : World) (base : Nat) (v : Value) (ns : List Nat) : Prop := W.ownsRow base 3 1 v ns.length (ns.map cI)
theorem own_lower {w : World} {H H' n z : Nat} {ty : TypeId} {v : Value} {xs : List Value} (h : w.ownsRow H ty z v n xs) (hH : H' ≤ H) : w.ownsRow H' ty z v n xs := by
  refine ⟨h.1, ?_⟩
  rcases h.2 with h0 | ⟨g, cap, cur, e, hb', r⟩
  · exact .inl h0
  · exact .inr ⟨g, cap, cur, e, Nat.le_trans hH hb', r⟩
theorem own_keep {W W' : World} {base : Nat} {e : TypeId} {s : Nat} {v : Value} {n : Nat} {xs : List Value} (h : W.ownsRow base e s v n xs) (hb : Below W.heap.size W W') : W'.ownsRow base e s v n xs := by
  refine ⟨h.1, ?_⟩
  rcases h.2 with h0 | ⟨g, cap, cur, rfl, hb', hg, r⟩
  · exact .inl h0
  · exact .inr ⟨g, cap, cur, rfl, hb', (hb.block g (Array.getElem?_eq_some_iff.1 hg).1).trans hg, r⟩
theorem NRow.below {W W' : World} {base : Nat} {v : Value} {ns : List Nat} (h : NRow W base v ns) (hb : Below W.heap.size W W') : NRow W' base v ns := own_keep h hb
theorem NRow.low {W : World} {base base' : Nat} {v : Value} {ns : List Nat} (h : NRow W base v ns) (hB : base' ≤ base) : NRow W base' v ns := own_lower h hB
theorem NRow.nil (W : World) (base : Nat) : NRow W base (.slice none 0 0) [] := World.ownsRow_nil _ _ _ 1
theorem NRow.shape {W : World} {base : Nat} {v : Value} {ns : List Nat} (h : NRow W base v ns) : ∃ pp cp, v = .slice pp ns.length cp ∧ ∀ (i n : Nat), ns[i]? = some n → ∃ g, pp = some ⟨g, 0, none⟩ ∧ g < W.heap.size ∧ W.cell? ⟨g, i, none⟩ = some (.int .i64 (n : Int)) := by
  rcases h.2 with ⟨hv, hn⟩ | ⟨g, cap, cur, hv, _, hg, hc, _, hs, ht⟩
  · refine ⟨none, 0, by rw [hv, hn], fun i n hi => ?_⟩
    rw [List.eq_nil_of_length_eq_zero hn] at hi
    cases hi
  · refine ⟨_, _, hv, fun i n hi => ⟨g, rfl, (Array.getElem?_eq_some_iff.1 hg).1, ?_⟩⟩
    have hi2 : (ns.map cI)[i]? = some (.int .i64 (n : Int)) := by rw [List.getElem?_map, hi]; rfl
    rw [← ht] at hi2
    rw [List.getElem?_take] at hi2
    split at hi2
    · simp only [World.cell?, hg]
      rw [← hi2, Array.getElem?_toList]
      rfl
    · cases hi2
theorem grown_below {H : Nat} {w Wp w' : World} {v : Value} (hW : Below w.heap.size w Wp) (q2 : Wp.grownBy w' v.ownBlock) (hH : H ≤ w.heap.size) (hv : ∀ k, v.ownBlock = some k → H ≤ k) : Below H w w' :=
  ⟨q2.os.trans hW.os, q2.tape.trans hW.tape, q2.output.trans hW.output, Nat.le_trans hW.size q2.size, fun j hj => (q2.block j (by have := hW.size; omega) (fun e => by have := hv j e.symm; omega)).trans (hW.block j (by omega))⟩
theorem infoInt : (Tryz.prog.info? 3).map (fun i => (i.zero, i.size, i.bytes)) = some (some (.int .i64 0), 1, 8) := by kernel_rfl
/-- An append of one place. -/
theorem n_ap {wr : World} {base : Nat} {v : Value} {ns : List Nat} (k : Nat) (h : NRow wr base v ns) (hl : ns.length + 1 ≤ 977343669134) (hb : base ≤ wr.heap.size) :
    ∃ v' w', (∀ ty, (Builtin.append_ #[31, 31] ty #[v, .slice (some ⟨wr.heap.size, 0, none⟩) 1 1]).run Tryz.prog (wr.alloc (.cells #[.int .i64 (k : Int)] 3)) = .ok v' w') ∧ (NRow w' base v' (ns ++ [k]) ∧ Below base wr w') := by
  obtain ⟨i0, hi, hz⟩ := Option.map_eq_some_iff.1 infoInt
  simp only [Prod.mk.injEq] at hz
  have h1 := own_keep h (nbel wr (.cells #[.int .i64 (k : Int)] 3))
  have hN : ∀ (j : Nat) (u : Value), [Value.int .i64 (k : Int)][j]? = some u → (wr.alloc (.cells #[.int .i64 (k : Int)] 3)).cell? ((⟨wr.heap.size, 0, none⟩ : Addr).add j) = some u := World.news_of_block (thnK wr _)
  have hr := run_append_own_at (P := Tryz.prog) (wr.alloc (.cells #[.int .i64 (k : Int)] 3)) base 31 0 3 i0 _ 1 8 Tryz.underlying31 hi hz.1 hz.2.1 hz.2.2 rfl (by decide) v ns.length (ns.map cI) h1 ⟨wr.heap.size, 0, none⟩ 1 1 [.int .i64 (k : Int)] rfl hN (fun u hu => by rw [List.mem_singleton.1 hu]; rfl) (by simp only [maxLen]; omega) (by omega) (by simp; omega)
  obtain ⟨v', w', h2, h3, h4, _⟩ := hr
  refine ⟨v', w', fun _ => h2, ?_, grown_below (nbel _ _) h4 hb (fun j hj => (h.lt j hj).1)⟩
  unfold NRow
  rw [List.length_append, List.map_append]
  exact h3
theorem ap_step {P : Program} {w : World} {ops : Array Oper} {rest : List Oper} {o : Oper} {a : Act} {Q : Exit → Act → World → Prop} (hgd : o.guard = none) (s x : Operand) (t tx : TypeId)
    (ho : o.op = .call { callee := .builtin .append, args := #[s, x], argTypes := #[t, tx] }) (sv xv : Value) (hs : a.eval s = sv) (hx : a.eval x = xv) (Post : Value → World → Prop)
    (hrun : ∃ v w', (∀ ty, (Builtin.append_ #[t, tx] ty #[sv, xv]).run P w = .ok v w') ∧ Post v w')
    (h : ∀ v w', Post v w' → wpList P ops Q rest (a.put o.dst v) w') : wpList P ops Q (o :: rest) a w := by
  obtain ⟨v, w', hr, hp⟩ := hrun
  refine wpList_plain hgd fun _ hK => ?_
  unfold Oper.wp execOp
  simp only [ho, resolve, invoke, builtin, Sem.run_bind, Sem.run_pure, Result.andThen_ok, List.map_toArray, List.map_cons, List.map_nil, hs, hx, hr]
  exact hK _ _ (h v w' hp)
end Go.Proofs.YtjjhfiddebmgcaaGreatDoor
namespace Go.Proofs.YtjjhfiddebmgcaaGreatDoor
open Go.ChangeShapes Go.WideShapes Go.ChangeAt Go.RowKit Go.Shelf Go.Maps
attribute [local go_sem] Oper.semAt_some

set_option maxRecDepth 100000 in
set_option maxHeartbeats 2000000 in
theorem vals_in (n l Bs n₀ : Nat) (zs : List Nat) (hreach : zs.length * 8 ≤ 140737488351232) (J Jx : List Nat → World → Prop)
    (hY : ∀ pre (x : Nat) W, J pre W → pre.length < zs.length → YieldAt Fence.wide (n - 1) Tryz.prog l #[.int .i64 (x : Int)] W fun e W' =>
      (e = .returned (.bool true) ∧ J (pre ++ [x]) W' ∧ Below n₀ W W') ∨ (e = .returned (.bool false) ∧ Jx (pre ++ [x]) W'))
    (W : World) (pp : Option Addr) (cp : Nat) (hBs : W.cell? ⟨Bs, 0, none⟩ = some (.slice pp zs.length cp)) (hc : ∀ (j x : Nat), zs[j]? = some x → ∃ g, pp = some ⟨g, 0, none⟩ ∧ g < n₀ ∧ W.cell? ⟨g, j, none⟩ = some (.int .i64 (x : Int))) (h0 : J [] W) :
    CallsIn Fence.wide n Tryz.prog 21 #[.func (.yield l) #[] #[], .pointer (some ⟨Bs, 0, none⟩)] W fun e W' => (∃ v, e = .returned v) ∧
      ((∃ ys, ys = zs ∧ J ys W') ∨ (∃ pre, pre <+: zs ∧ Jx pre W')) := by
  refine callsIn_of_wp Tryz.func21 rfl trivial ?_ rfl
  simp only [Tryz.ntmps21, List.size_toArray, List.length_cons, List.length_nil, Nat.reduceAdd, Nat.reduceSub, Array.replicate_succ, Array.replicate_zero, List.push_toArray, List.append_toArray, List.nil_append, List.cons_append]
  gi_wp2
  gi_loopw [7] (fun i wr => ∃ k : Nat, k ≤ zs.length ∧ i = .int .i64 k ∧ J (zs.take k) wr ∧ Below n₀ W wr)
    (fun i _ => zs.length - (intOf i).toNat)
  case atStart => exact ⟨0, Nat.zero_le _, rfl, h0, Below.refl _ _⟩
  case round =>
    obtain ⟨k, hk, rfl, hJs, hnx⟩ := hrel
    by_cases hlt : k < zs.length
    · obtain ⟨x, hx⟩ : ∃ x, zs[k]? = some x := ⟨zs[k], List.getElem?_eq_getElem hlt⟩
      obtain ⟨g, rfl, hg, hcx0⟩ := hc k x hx
      have hcx := (hnx.cell (p := ⟨g, k, none⟩) hg).trans hcx0
      obtain ⟨fn, tmps, assign, body, hy, hR⟩ := hY _ x wr hJs (by rw [List.length_take]; omega)
      have hsn : zs.take k ++ [x] = zs.take (k + 1) := by rw [List.take_add_one, hx]; rfl
      rw [hsn] at hR
      gi_wp2
      refine ⟨fun h => absurd h (by decide), hR.mono ?_⟩
      rintro e W3 (⟨rfl, hJ3, hk3⟩ | ⟨rfl, hJx3⟩)
      · gi_wp2
        go_roundw
        case rel => exact ⟨k + 1, by omega, by simp, hJ3, hnx.trans hk3⟩
        case measure => simp [intOf]; omega
      · gi_wp2
        refine bodyPost_ret (results_none rfl _ _ _) rfl ?_
        exact ⟨⟨_, rfl⟩, .inr ⟨_, List.take_prefix _ _, hJx3⟩⟩
    · obtain rfl : k = zs.length := by omega
      rw [List.take_length] at hJs
      gi_wp2
      go_end0
      exact ⟨⟨_, rfl⟩, .inl ⟨_, rfl, hJs⟩⟩
/-- The list that a box holds, ahead of block n₀. -/
def NBox (n₀ Bs : Nat) (zs : List Nat) (W : World) : Prop := ∃ pp cp, W.cell? ⟨Bs, 0, none⟩ = some (.slice pp zs.length cp) ∧ ∀ (j x : Nat), zs[j]? = some x → ∃ g, pp = some ⟨g, 0, none⟩ ∧ g < n₀ ∧ W.cell? ⟨g, j, none⟩ = some (.int .i64 (x : Int))
theorem NBox.below {n₀ Bs : Nat} {zs : List Nat} {W W' : World} (h : NBox n₀ Bs zs W) (hb : Below n₀ W W') (hB : Bs < n₀) : NBox n₀ Bs zs W' := by
  obtain ⟨pp, cp, h1, h2⟩ := h
  refine ⟨pp, cp, (hb.cell (p := ⟨Bs, 0, none⟩) hB).trans h1, fun j x hx => ?_⟩
  obtain ⟨g, e, hg, hc⟩ := h2 j x hx
  exact ⟨g, e, hg, (hb.cell (p := ⟨g, j, none⟩) hg).trans hc⟩
theorem vals_stops (n Bs n₀ : Nat) (zs : List Nat) (hreach : zs.length * 8 ≤ 140737488351232) (w : World) (hBs : Bs < n₀) (hn₀ : n₀ ≤ w.heap.size) (h : NBox n₀ Bs zs w) :
    SeqStopsK Fence.wide n Tryz.prog 21 #[.pointer (some ⟨Bs, 0, none⟩)] (fun x : Nat => #[Value.int .i64 (x : Int)]) (Below n₀) (fun ys => ys = zs) (fun pre => pre <+: zs) zs.length w := fun l J Jx W hW _ _ hY h0 => by
  obtain ⟨pp, cp, h1, h2⟩ := h.below (hW.mono hn₀) hBs
  exact vals_in n l Bs n₀ zs hreach J Jx hY W pp cp h1 h2 h0
end Go.Proofs.YtjjhfiddebmgcaaGreatDoor
namespace Go.Proofs.YtjjhfiddebmgcaaGreatDoor

def kRow (p : Int) : Int × Int × Int × Int × Int :=
  if p = 0 then (1, 0, 0, 32, 126) else
  if p = 1 then (1, 1, 18446744073709551488, 18446744073709551489, 127) else
  if p = 2 then (2, 1, 18446744073709518848, 18446744073709518849, 32767) else
  if p = 3 then (4, 1, 18446744071562067968, 18446744071562067969, 2147483647) else
  if p = 4 then (8, 1, 9223372036854775808, 9223372036854775809, 9223372036854775807) else
  if p = 5 then (1, 0, 255, 0, 254) else
  if p = 6 then (2, 0, 65535, 0, 65534) else
  if p = 7 then (4, 0, 4294967295, 0, 4294967294) else
  if p = 8 then (8, 0, 18446744073709551615, 0, 18446744073709551614) else
  if p = 9 then (4, 2, 2143289344, 0, 4294967295) else
  if p = 10 then (8, 2, 9221120237041090560, 0, 18446744073709551615) else
  (0, 0, 0, 0, 0)
def sz (p : Int) : Int := (kRow p).1
def rd (p : Int) : Int := (kRow p).2.1
def nl (p : Int) : Int := (kRow p).2.2.1
def mn (p : Int) : Int := (kRow p).2.2.2.1
def mx (p : Int) : Int := (kRow p).2.2.2.2

/-- Which types there are. -/
theorem prim_cases (p : Int) : (p < 0 ∨ 11 ≤ p) ∨ p = 0 ∨ p = 1 ∨ p = 2 ∨ p = 3 ∨ p = 4 ∨ p = 5 ∨ p = 6 ∨ p = 7 ∨ p = 8 ∨ p = 9 ∨ p = 10 := by omega

theorem kRow_out (p : Int) (h : p < 0 ∨ 11 ≤ p) : kRow p = (0, 0, 0, 0, 0) := by
  unfold kRow
  rw [if_neg (by omega), if_neg (by omega), if_neg (by omega), if_neg (by omega), if_neg (by omega), if_neg (by omega), if_neg (by omega), if_neg (by omega), if_neg (by omega), if_neg (by omega), if_neg (by omega)]

/-- The pairs of size and reading that the table holds. -/
def KOk (s r : Int) : Prop := (s = 0 ∧ r = 0) ∨ (s = 1 ∧ r = 0) ∨ (s = 1 ∧ r = 1) ∨ (s = 2 ∧ r = 0) ∨ (s = 2 ∧ r = 1) ∨ (s = 4 ∧ r = 0) ∨ (s = 4 ∧ r = 1) ∨ (s = 4 ∧ r = 2) ∨ (s = 8 ∧ r = 0) ∨ (s = 8 ∧ r = 1) ∨ (s = 8 ∧ r = 2)
theorem kok (p : Int) : KOk (sz p) (rd p) := by
  unfold KOk
  rcases prim_cases p with h | rfl | rfl | rfl | rfl | rfl | rfl | rfl | rfl | rfl | rfl | rfl
  · left; unfold sz rd; rw [kRow_out p h]; exact ⟨rfl, rfl⟩
  all_goals decide
theorem sz_pos (p : Int) (h : sz p ≠ 0) : 0 ≤ p ∧ p < 11 := by
  rcases prim_cases p with h' | h'
  · exact absurd (show sz p = 0 by unfold sz; rw [kRow_out p h']) h
  · omega

/-- Two to the number of bits. -/
def pw (s : Int) : Int := if s = 1 then 256 else if s = 2 then 65536 else if s = 4 then 4294967296 else 18446744073709551616
def wordF (s r b : Int) : Int := if r = 1 ∧ pw s ≤ 2 * (b % pw s) then b % pw s + 18446744073709551616 - pw s else b % pw s
def fitsF (s r b : Int) : Bool := decide (0 < s) && (wordF s r b == b)
def rankF (s r b : Int) : Int := if r = 1 then (b + 9223372036854775808) % 18446744073709551616 else if r = 2 then (if pw s ≤ 2 * b then pw s - 1 - b else b + pw s / 2) else b
def cmp3 (a b : Int) : Int := if a < b then -1 else if b < a then 1 else 0
def cmpF (s r a b : Int) : Int := if fitsF s r a && fitsF s r b then cmp3 (rankF s r a) (rankF s r b) else 0

theorem pw_1 : pw 1 = 256 := rfl
theorem pw_2 : pw 2 = 65536 := rfl
theorem pw_4 : pw 4 = 4294967296 := rfl
theorem pw_8 : pw 8 = 18446744073709551616 := rfl
theorem rankF_hi (s b : Int) (hs : s = 4 ∨ s = 8) (h1 : b < pw s) (h : pw s ≤ 2 * b) : rankF s 2 b = wordF s 2 (18446744073709551615 - b) := by
  have e1 : rankF s 2 b = pw s - 1 - b := by unfold rankF; rw [if_neg (by decide), if_pos rfl, if_pos h]
  have e2 : wordF s 2 (18446744073709551615 - b) = (18446744073709551615 - b) % pw s := by unfold wordF; rw [if_neg (by omega)]
  rw [e1, e2]
  rcases hs with rfl | rfl
  · rw [pw_4] at *; omega
  · rw [pw_8] at *; omega
theorem rankF_lo (s b : Int) (h : ¬ pw s ≤ 2 * b) : rankF s 2 b = b + pw s / 2 := by
  unfold rankF; rw [if_neg (by decide), if_pos rfl, if_neg h]

/-- What fits, said in plain bounds. -/
theorem fits_iff (s r b : Int) (hk : KOk s r) (h0 : 0 ≤ b) (h1 : b < 18446744073709551616) :
    fitsF s r b = true ↔ s ≠ 0 ∧ ((r ≠ 1 ∧ b < pw s) ∨ (r = 1 ∧ (2 * b < pw s ∨ 18446744073709551616 ≤ b + pw s / 2))) := by
  unfold fitsF wordF
  rcases hk with ⟨rfl, rfl⟩ | ⟨rfl, rfl⟩ | ⟨rfl, rfl⟩ | ⟨rfl, rfl⟩ | ⟨rfl, rfl⟩ | ⟨rfl, rfl⟩ | ⟨rfl, rfl⟩ | ⟨rfl, rfl⟩ | ⟨rfl, rfl⟩ | ⟨rfl, rfl⟩ | ⟨rfl, rfl⟩
  all_goals simp [pw]
  all_goals first | omega | (split <;> omega)

/-- Where both fit the rank tells words apart. -/
theorem rank_inj (s r a b : Int) (hk : KOk s r) (ha0 : 0 ≤ a) (ha1 : a < 18446744073709551616) (hb0 : 0 ≤ b) (hb1 : b < 18446744073709551616)
    (ha : fitsF s r a = true) (hb : fitsF s r b = true) (h : rankF s r a = rankF s r b) : a = b := by
  rw [fits_iff s r a hk ha0 ha1] at ha
  rw [fits_iff s r b hk hb0 hb1] at hb
  unfold rankF at h
  rcases hk with ⟨rfl, rfl⟩ | ⟨rfl, rfl⟩ | ⟨rfl, rfl⟩ | ⟨rfl, rfl⟩ | ⟨rfl, rfl⟩ | ⟨rfl, rfl⟩ | ⟨rfl, rfl⟩ | ⟨rfl, rfl⟩ | ⟨rfl, rfl⟩ | ⟨rfl, rfl⟩ | ⟨rfl, rfl⟩
  all_goals simp [pw] at ha hb h
  all_goals first | omega | (split at h <;> split at h <;> omega)

theorem cmp3_bd (a b : Int) : -1 ≤ cmp3 a b ∧ cmp3 a b ≤ 1 := by unfold cmp3; split <;> (try split) <;> omega
theorem cmpF_bd (s r a b : Int) : -1 ≤ cmpF s r a b ∧ cmpF s r a b ≤ 1 := by unfold cmpF; split; exact cmp3_bd _ _; omega
theorem cmpF_no (s r a b : Int) (h : (fitsF s r a && fitsF s r b) = false) : cmpF s r a b = 0 := by unfold cmpF; rw [h]; rfl
theorem cmpF_yes (s r a b : Int) (ha : fitsF s r a = true) (hb : fitsF s r b = true) : cmpF s r a b = cmp3 (rankF s r a) (rankF s r b) := by unfold cmpF; rw [ha, hb]; rfl
theorem cmpF_turn (s r a b : Int) : cmpF s r b a = - cmpF s r a b := by
  unfold cmpF cmp3
  rw [Bool.and_comm (fitsF s r b)]
  cases (fitsF s r a && fitsF s r b)
  · rfl
  · simp only [if_true]
    by_cases h1 : rankF s r a < rankF s r b
    · rw [if_pos h1, if_neg (by omega), if_pos h1]; rfl
    · by_cases h2 : rankF s r b < rankF s r a
      · rw [if_pos h2, if_neg h1, if_pos h2]
      · rw [if_neg h1, if_neg h2, if_neg h1, if_neg h2]; rfl
theorem cmpF_self (s r a : Int) : cmpF s r a a = 0 := by have := cmpF_turn s r a a; omega
theorem cmpF_zero (s r a b : Int) (hk : KOk s r) (ha0 : 0 ≤ a) (ha1 : a < 18446744073709551616) (hb0 : 0 ≤ b) (hb1 : b < 18446744073709551616)
    (ha : fitsF s r a = true) (hb : fitsF s r b = true) : cmpF s r a b = 0 ↔ a = b := by
  constructor
  · intro h
    rw [cmpF_yes _ _ _ _ ha hb] at h
    refine rank_inj s r a b hk ha0 ha1 hb0 hb1 ha hb ?_
    unfold cmp3 at h
    split at h
    · omega
    · split at h <;> omega
  · rintro rfl; exact cmpF_self _ _ _
theorem cmpF_trans (s r a b c : Int) (ha : fitsF s r a = true) (hb : fitsF s r b = true) (hc : fitsF s r c = true)
    (h1 : cmpF s r a b < 0) (h2 : cmpF s r b c < 0) : cmpF s r a c < 0 := by
  rw [cmpF_yes _ _ _ _ ha hb] at h1
  rw [cmpF_yes _ _ _ _ hb hc] at h2
  rw [cmpF_yes _ _ _ _ ha hc]
  unfold cmp3 at h1 h2 ⊢
  split at h1
  · split at h2
    · rw [if_pos (by omega)]; omega
    · split at h2 <;> omega
  · split at h1 <;> omega
end Go.Proofs.YtjjhfiddebmgcaaGreatDoor
