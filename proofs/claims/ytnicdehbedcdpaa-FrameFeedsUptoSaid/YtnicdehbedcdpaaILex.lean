/- A region that draws its order, walked once, in the order of the text: what only reads is taken first, what acts comes up alone. -/
import Derived.Test.YtnicdehbedcdpaaProg
import Derived.WalkKit
import Derived.WalkSpells
import Derived.WalkLawsBesides
import Derived.ProofKit
import Derived.BigQuiet
import Derived.Deep.RegionHeld
import Derived.Shelf.Abstract
namespace Go.Proofs.Ytnicdehbedcdpaa
open Go.ChangeShapes Go.WideShapes Go.ChangeAt Go.RowKit

/-- Operations that only read: each hands a value on, or ends the walk. -/
def rdK : Op → Bool
  | .move _ => true
  | .assign _ => true
  | .pick _ _ _ => true
  | .build _ _ => true
  | .load _ _ => true
  | .nilCheck _ => true
  | .binOp _ _ _ _ _ => true
  | .unOp _ _ _ => true
  | .convert _ _ _ => true
  | .slice _ _ _ _ _ => true
  | .fieldAddr _ _ _ => true
  | .field _ _ _ => true
  | .indexAddr _ _ _ => true
  | .index _ _ _ => true
  | .extract _ _ => true
  | .call { callee := .builtin .len, args := _, argTypes := _ } => true
  | _ => false
section
variable {P : Program} {ops : Array Oper} {C : World → Prop} {Q : Exit → Act → World → Prop} {md : Region.Mode}
/-- It hands a value on, or ends the walk. -/
def ValOnly (s : Sem Next) : Prop := ∀ (P : Program) (W W' : World) (n : Next), s.run P W = .ok n W' → ∃ u, n = .value u
theorem valOnly_v (s : Sem Value) : ValOnly (do let x ← s; pure (Next.value x)) := fun P W W' n h => by
  simp only [Sem.run_bind] at h
  cases hs : s.run P W with
  | ok u w' =>
    rw [hs] at h
    simp only [Result.andThen_ok, Sem.run_pure] at h
    cases h
    exact ⟨_, rfl⟩
  | halt x w' => rw [hs] at h; cases h
theorem valOnly_pure (v : Value) : ValOnly (pure (Next.value v)) := fun P W W' n h => by cases h; exact ⟨_, rfl⟩
theorem valOnly_bind {α : Type} (s : Sem α) (f : α → Sem Next) (h : ∀ x, ValOnly (f x)) : ValOnly (s >>= f) := fun P W W' n h' => by
  simp only [Sem.run_bind] at h'
  cases hs : s.run P W with
  | ok u w' => rw [hs] at h'; exact h u P w' W' n h'
  | halt x w' => rw [hs] at h'; cases h'
theorem valOnly_nil : ValOnly (runtimePanic .nilDeref) := fun P W W' n h => by
  revert h
  simp [go_sem]
theorem valOnly_un {u : Unsupported} : ValOnly (unsupported u) := fun P W W' n h => by
  revert h
  simp [go_sem]
theorem rd_valOnly {o : Oper} {ρ : Operand → Value} (hr : rdK o.op = true) : ValOnly (execOp ρ o) := by
  obtain ⟨d, op, ty, ps, af, gd⟩ := o
  cases op
  case pick => exact valOnly_bind _ _ fun _ => valOnly_pure _
  case nilCheck x =>
    unfold execOp
    dsimp only
    split
    · exact valOnly_nil
    · exact valOnly_nil
    · exact valOnly_nil
    · split
      · exact valOnly_nil
      · refine valOnly_bind _ _ fun _ => valOnly_bind _ _ fun _ => ?_
        split
        · exact valOnly_bind _ _ fun _ => valOnly_pure _
        · exact valOnly_pure _
      · exact valOnly_pure _
    · exact valOnly_pure _
  case call c =>
    obtain ⟨cl, ar, at_⟩ := c
    cases cl with
    | value f => exact Bool.noConfusion (show false = true from hr)
    | invoke r m => exact Bool.noConfusion (show false = true from hr)
    | builtin b =>
      cases b
      case len => exact valOnly_v _
      all_goals exact Bool.noConfusion (show false = true from hr)
  all_goals first
    | exact Bool.noConfusion (show false = true from hr)
    | exact valOnly_pure _
    | exact valOnly_v _
theorem rd_value {o : Oper} {a : Act} {W : World} {v : Value} (hr : rdK o.op = true) (h : o.quietAt P a C W v) : (execOp a.eval o).run P W = .ok (.value v) W := by
  have hv := rd_valOnly (ρ := a.eval) hr P W
  unfold Oper.quietAt at h
  cases hs : (execOp a.eval o).run P W with
  | ok n w' =>
    obtain ⟨u, rfl⟩ := hv w' n hs
    rw [hs] at h
    obtain ⟨rfl, rfl⟩ := h
    rfl
  | halt x w' => rw [hs] at h; exact h.elim
/-- The order i, r .. may be walked: what only reads may be taken first, what acts comes up alone. -/
def schB (md : Region.Mode) (ops : Array Oper) : List Nat → Array Bool → Bool
  | [], listed => (Region.ready md ops listed).isEmpty
  | i :: r, listed => (match ops[i]? with
      | some o => if rdK o.op then Region.free md ops listed i && (Region.ready md ops listed).contains i else Region.ready md ops listed == [i]
      | none => false) && schB md ops r (listed.setIfInBounds i true)
/-- The walk in that order. -/
def wpSch (P : Program) (ops : Array Oper) (C : World → Prop) (Q : Exit → Act → World → Prop) : List Nat → Act → World → Prop
  | [], a, w => Q .normal a w
  | i :: r, a, w => match ops[i]? with
    | none => False
    | some o => if Region.wanted o (yielded ops a.tmps) = true then (if rdK o.op = true then o.quiet P a C (fun a' => wpSch P ops C Q r a' w) else Oper.wp P o a w (fun a' w' => C w' ∧ wpSch P ops C Q r a' w') Q) else wpSch P ops C Q r (a.put o.dst undef) w
theorem wpAnyH_sch (hs : Region.noSelect ops = true) (hQ : ∀ c (a : Act) d v w, Q (.panic c) (a.put d v) w → Q (.panic c) a w) : ∀ (sc : List Nat) (listed : Array Bool) (a : Act) (w : World), schB md ops sc listed = true → C w → wpSch P ops C Q sc a w → wpAnyH P md ops Q C sc.length listed a w
  | [], listed, a, w, hv, _, h => wpAnyH_done (by simpa [schB] using hv) h _
  | i :: r, listed, a, w, hv, hC, h => by
    unfold schB at hv
    rw [Bool.and_eq_true] at hv
    obtain ⟨h1, h2⟩ := hv
    unfold wpSch at h
    cases ho : ops[i]? with
    | none => rw [ho] at h1; cases h1
    | some o =>
      rw [ho] at h1 h
      dsimp only at h1 h
      rw [List.length_cons]
      by_cases hr : rdK o.op = true
      · rw [if_pos hr, Bool.and_eq_true] at h1
        by_cases hw : Region.wanted o (yielded ops a.tmps) = true
        · rw [if_pos hw, if_pos hr] at h
          obtain ⟨v, hv, h⟩ := h
          exact wpAnyH_take ho hs h1.1 h1.2 (fun c a w => hQ c a o.dst v w) (.inl ⟨hw, fun W hW => rd_value hr (hv W hW)⟩) hC (wpAnyH_sch hs hQ r _ _ _ h2 hC h)
        · rw [if_neg hw] at h
          rw [Bool.not_eq_true] at hw
          exact wpAnyH_take ho hs h1.1 h1.2 (fun c a w => hQ c a o.dst undef w) (.inr ⟨hw, rfl⟩) hC (wpAnyH_sch hs hQ r _ _ _ h2 hC h)
      · rw [if_neg hr, beq_iff_eq] at h1
        refine wpAnyH_all h1 (by simp) fun j hj => ?_
        rw [List.mem_singleton.1 hj]
        unfold wpOp
        rw [ho]
        dsimp only
        by_cases hw : Region.wanted o (yielded ops a.tmps) = true
        · rw [if_pos hw, if_neg hr] at h
          rw [if_pos hw]
          exact .inl (Oper.wp_mono (fun a' w' h' => ⟨h'.1, wpAnyH_sch hs hQ r _ _ _ h2 h'.1 h'.2⟩) h)
        · rw [if_neg hw] at h
          rw [if_neg hw]
          exact ⟨hC, wpAnyH_sch hs hQ r _ _ _ h2 hC h⟩
/-- The walk over the operations themselves. -/
def wpLx (P : Program) (ops : Array Oper) (C : World → Prop) (Q : Exit → Act → World → Prop) : List Oper → Act → World → Prop
  | [], a, w => Q .normal a w
  | o :: r, a, w => if Region.wanted o (yielded ops a.tmps) = true then (if rdK o.op = true then o.quiet P a C (fun a' => wpLx P ops C Q r a' w) else Oper.wp P o a w (fun a' w' => C w' ∧ wpLx P ops C Q r a' w') Q) else wpLx P ops C Q r (a.put o.dst undef) w
theorem wpSch_of : ∀ (sc : List Nat) (l : List Oper) (a : Act) (w : World), sc.map (fun i => ops[i]?) = l.map some → wpLx P ops C Q l a w → wpSch P ops C Q sc a w
  | [], [], _, _, _, h => h
  | [], _ :: _, _, _, e, _ => by cases e
  | _ :: _, [], _, _, e, _ => by cases e
  | i :: r, o :: l, a, w, e, h => by
    simp only [List.map_cons, List.cons.injEq] at e
    unfold wpSch
    rw [e.1]
    unfold wpLx at h
    dsimp only
    split
    · rename_i hw
      rw [if_pos hw] at h
      split
      · rename_i hr
        rw [if_pos hr] at h
        exact Oper.quiet_mono (fun a' h' => wpSch_of r l a' w e.2 h') h
      · rename_i hr
        rw [if_neg hr] at h
        exact Oper.wp_mono (fun a' w' h' => ⟨h'.1, wpSch_of r l a' w' e.2 h'.2⟩) h
    · rename_i hw
      rw [if_neg hw] at h
      exact wpSch_of r l _ w e.2 h
variable {d : Option Tmp} {op : Op} {ty : TypeId} {ps : String} {af : Array Edge} {gd : Option (Nat × Bool)} {r : List Oper} {a : Act} {w : World}
/-- The walk, closed. -/
structure Lx (P : Program) (ops : Array Oper) (C : World → Prop) (Q : Exit → Act → World → Prop) (l : List Oper) (a : Act) (w : World) : Prop where
  out : wpLx P ops C Q l a w
theorem lx_skip (hw : Region.wanted ⟨d, op, ty, ps, af, gd⟩ (yielded ops a.tmps) = false) (h : Lx P ops C Q r (a.put d undef) w) : Lx P ops C Q (⟨d, op, ty, ps, af, gd⟩ :: r) a w := by
  refine ⟨?_⟩
  unfold wpLx
  rw [if_neg (by rw [hw]; decide)]
  exact h.out
theorem lx_read (hw : Region.wanted ⟨d, op, ty, ps, af, gd⟩ (yielded ops a.tmps) = true) (hr : rdK op = true) (h : ∀ K : Act → Prop, (∀ a', Lx P ops C Q r a' w → K a') → Oper.quiet P ⟨d, op, ty, ps, af, gd⟩ a C K) : Lx P ops C Q (⟨d, op, ty, ps, af, gd⟩ :: r) a w := by
  refine ⟨?_⟩
  unfold wpLx
  rw [if_pos hw, if_pos hr]
  exact h _ fun _ h => h.out
theorem lx_act (hw : Region.wanted ⟨d, op, ty, ps, af, gd⟩ (yielded ops a.tmps) = true) (hr : rdK op = false) (h : ∀ K : Act → World → Prop, (∀ a' w', C w' → Lx P ops C Q r a' w' → K a' w') → Oper.wp P ⟨d, op, ty, ps, af, gd⟩ a w K Q) : Lx P ops C Q (⟨d, op, ty, ps, af, gd⟩ :: r) a w := by
  refine ⟨?_⟩
  unfold wpLx
  rw [if_pos hw, if_neg (by rw [hr]; decide)]
  exact h _ fun _ _ h1 h2 => ⟨h1, h2.out⟩
/-- One operation that only reads, wanted or not. -/
theorem lx_one (hr : rdK op = true) (h : wpQuiet P ops C (fun a' => Lx P ops C Q r a' w) [⟨d, op, ty, ps, af, gd⟩] a) : Lx P ops C Q (⟨d, op, ty, ps, af, gd⟩ :: r) a w := by
  unfold wpQuiet at h
  by_cases hw : Region.wanted ⟨d, op, ty, ps, af, gd⟩ (yielded ops a.tmps) = true
  · rw [if_pos hw] at h
    refine lx_read hw hr fun K hK => ?_
    exact Oper.quiet_mono (fun a' h' => hK a' h') h
  · rw [if_neg hw] at h
    exact lx_skip (by simpa using hw) h
theorem lx_done (h : Q .normal a w) : Lx P ops C Q [] a w := ⟨h⟩
theorem lx_call1 {f : FuncId} {x1 : Operand} {y1 : Value} {tx : Array TypeId} {v : Value} {R : World → Prop} (hen : ∀ ag w, (callFunc f ag).run P w = .ok (.enter f ag) w) (hc : Calls P f #[y1] w fun e w' => e = .returned v ∧ R w') (h1 : a.eval x1 = y1) (hw : Region.wanted ⟨d, .call { callee := .value (.func f), args := #[x1], argTypes := tx }, ty, ps, af, gd⟩ (yielded ops a.tmps) = true)
    (h : ∀ w', R w' → C w' ∧ Lx P ops C Q r (a.put d v) w') : Lx P ops C Q (⟨d, .call { callee := .value (.func f), args := #[x1], argTypes := tx }, ty, ps, af, gd⟩ :: r) a w :=
  lx_act hw rfl fun K hK => by
    have hf : a.eval (.func f) = .func (.func f) #[] #[] := rfl
    unfold Oper.wp execOp
    simp only [resolve, invoke, Sem.run_bind, hf]
    simp [Deferred.ofValue, hen, Oper.upon_enter, h1]
    refine hc.mono ?_
    rintro e w' ⟨rfl, hp⟩
    exact hK _ _ (h w' hp).1 (h w' hp).2
theorem lx_call2 {f : FuncId} {x1 x2 : Operand} {y1 y2 : Value} {tx : Array TypeId} {v : Value} {R : World → Prop} (hen : ∀ ag w, (callFunc f ag).run P w = .ok (.enter f ag) w) (hc : Calls P f #[y1, y2] w fun e w' => e = .returned v ∧ R w') (h1 : a.eval x1 = y1) (h2 : a.eval x2 = y2) (hw : Region.wanted ⟨d, .call { callee := .value (.func f), args := #[x1, x2], argTypes := tx }, ty, ps, af, gd⟩ (yielded ops a.tmps) = true)
    (h : ∀ w', R w' → C w' ∧ Lx P ops C Q r (a.put d v) w') : Lx P ops C Q (⟨d, .call { callee := .value (.func f), args := #[x1, x2], argTypes := tx }, ty, ps, af, gd⟩ :: r) a w :=
  lx_act hw rfl fun K hK => by
    have hf : a.eval (.func f) = .func (.func f) #[] #[] := rfl
    unfold Oper.wp execOp
    simp only [resolve, invoke, Sem.run_bind, hf]
    simp [Deferred.ofValue, hen, Oper.upon_enter, h1, h2]
    refine hc.mono ?_
    rintro e w' ⟨rfl, hp⟩
    exact hK _ _ (h w' hp).1 (h w' hp).2
theorem lx_call3 {f : FuncId} {x1 x2 x3 : Operand} {y1 y2 y3 : Value} {tx : Array TypeId} {v : Value} {R : World → Prop} (hen : ∀ ag w, (callFunc f ag).run P w = .ok (.enter f ag) w) (hc : Calls P f #[y1, y2, y3] w fun e w' => e = .returned v ∧ R w') (h1 : a.eval x1 = y1) (h2 : a.eval x2 = y2) (h3 : a.eval x3 = y3) (hw : Region.wanted ⟨d, .call { callee := .value (.func f), args := #[x1, x2, x3], argTypes := tx }, ty, ps, af, gd⟩ (yielded ops a.tmps) = true)
    (h : ∀ w', R w' → C w' ∧ Lx P ops C Q r (a.put d v) w') : Lx P ops C Q (⟨d, .call { callee := .value (.func f), args := #[x1, x2, x3], argTypes := tx }, ty, ps, af, gd⟩ :: r) a w :=
  lx_act hw rfl fun K hK => by
    have hf : a.eval (.func f) = .func (.func f) #[] #[] := rfl
    unfold Oper.wp execOp
    simp only [resolve, invoke, Sem.run_bind, hf]
    simp [Deferred.ofValue, hen, Oper.upon_enter, h1, h2, h3]
    refine hc.mono ?_
    rintro e w' ⟨rfl, hp⟩
    exact hK _ _ (h w' hp).1 (h w' hp).2
theorem lx_call4 {f : FuncId} {x1 x2 x3 x4 : Operand} {y1 y2 y3 y4 : Value} {tx : Array TypeId} {v : Value} {R : World → Prop} (hen : ∀ ag w, (callFunc f ag).run P w = .ok (.enter f ag) w) (hc : Calls P f #[y1, y2, y3, y4] w fun e w' => e = .returned v ∧ R w') (h1 : a.eval x1 = y1) (h2 : a.eval x2 = y2) (h3 : a.eval x3 = y3) (h4 : a.eval x4 = y4) (hw : Region.wanted ⟨d, .call { callee := .value (.func f), args := #[x1, x2, x3, x4], argTypes := tx }, ty, ps, af, gd⟩ (yielded ops a.tmps) = true)
    (h : ∀ w', R w' → C w' ∧ Lx P ops C Q r (a.put d v) w') : Lx P ops C Q (⟨d, .call { callee := .value (.func f), args := #[x1, x2, x3, x4], argTypes := tx }, ty, ps, af, gd⟩ :: r) a w :=
  lx_act hw rfl fun K hK => by
    have hf : a.eval (.func f) = .func (.func f) #[] #[] := rfl
    unfold Oper.wp execOp
    simp only [resolve, invoke, Sem.run_bind, hf]
    simp [Deferred.ofValue, hen, Oper.upon_enter, h1, h2, h3, h4]
    refine hc.mono ?_
    rintro e w' ⟨rfl, hp⟩
    exact hK _ _ (h w' hp).1 (h w' hp).2
theorem range_map (l : List Oper) : (List.range l.length).map (fun i => l.toArray[i]?) = l.map some := by
  apply List.ext_getElem?
  intro i
  rw [List.getElem?_map, List.getElem?_map]
  by_cases hi : i < l.length
  · rw [List.getElem?_range hi]
    simp [hi]
  · rw [List.getElem?_eq_none (by simpa using hi), List.getElem?_eq_none (by omega)]
    rfl
end
/-- A world that is so. -/
structure CW (p : World → Prop) where
  w : World
  h : p w
section
variable {P : Program} {ops : Array Oper} {Q : Exit → Act → World → Prop} {d : Option Tmp} {ty : TypeId} {ps : String} {af : Array Edge} {gd : Option (Nat × Bool)} {r : List Oper} {a : Act} {w : World} {p : World → Prop}
theorem lx_p1 {f : FuncId} {x1 : Operand} {y1 : Value} {tx : Array TypeId} {v : Value} (hen : ∀ ag w, (callFunc f ag).run P w = .ok (.enter f ag) w) (hc : ∀ W, p W → Calls P f #[y1] W fun e w' => e = .returned v ∧ p w') (hp : p w) (h1 : a.eval x1 = y1) (hw : Region.wanted ⟨d, .call { callee := .value (.func f), args := #[x1], argTypes := tx }, ty, ps, af, gd⟩ (yielded ops a.tmps) = true)
    (h : ∀ w', p w' → Lx P ops (fun W => ∃ θ : CW p, W = θ.w) Q r (a.put d v) w') : Lx P ops (fun W => ∃ θ : CW p, W = θ.w) Q (⟨d, .call { callee := .value (.func f), args := #[x1], argTypes := tx }, ty, ps, af, gd⟩ :: r) a w :=
  lx_call1 hen (hc w hp) h1 hw fun w' hp' => ⟨⟨⟨w', hp'⟩, rfl⟩, h w' hp'⟩
theorem lx_p2 {f : FuncId} {x1 x2 : Operand} {y1 y2 : Value} {tx : Array TypeId} {v : Value} (hen : ∀ ag w, (callFunc f ag).run P w = .ok (.enter f ag) w) (hc : ∀ W, p W → Calls P f #[y1, y2] W fun e w' => e = .returned v ∧ p w') (hp : p w) (h1 : a.eval x1 = y1) (h2 : a.eval x2 = y2) (hw : Region.wanted ⟨d, .call { callee := .value (.func f), args := #[x1, x2], argTypes := tx }, ty, ps, af, gd⟩ (yielded ops a.tmps) = true)
    (h : ∀ w', p w' → Lx P ops (fun W => ∃ θ : CW p, W = θ.w) Q r (a.put d v) w') : Lx P ops (fun W => ∃ θ : CW p, W = θ.w) Q (⟨d, .call { callee := .value (.func f), args := #[x1, x2], argTypes := tx }, ty, ps, af, gd⟩ :: r) a w :=
  lx_call2 hen (hc w hp) h1 h2 hw fun w' hp' => ⟨⟨⟨w', hp'⟩, rfl⟩, h w' hp'⟩
theorem lx_p3 {f : FuncId} {x1 x2 x3 : Operand} {y1 y2 y3 : Value} {tx : Array TypeId} {v : Value} (hen : ∀ ag w, (callFunc f ag).run P w = .ok (.enter f ag) w) (hc : ∀ W, p W → Calls P f #[y1, y2, y3] W fun e w' => e = .returned v ∧ p w') (hp : p w) (h1 : a.eval x1 = y1) (h2 : a.eval x2 = y2) (h3 : a.eval x3 = y3) (hw : Region.wanted ⟨d, .call { callee := .value (.func f), args := #[x1, x2, x3], argTypes := tx }, ty, ps, af, gd⟩ (yielded ops a.tmps) = true)
    (h : ∀ w', p w' → Lx P ops (fun W => ∃ θ : CW p, W = θ.w) Q r (a.put d v) w') : Lx P ops (fun W => ∃ θ : CW p, W = θ.w) Q (⟨d, .call { callee := .value (.func f), args := #[x1, x2, x3], argTypes := tx }, ty, ps, af, gd⟩ :: r) a w :=
  lx_call3 hen (hc w hp) h1 h2 h3 hw fun w' hp' => ⟨⟨⟨w', hp'⟩, rfl⟩, h w' hp'⟩
theorem lx_p4 {f : FuncId} {x1 x2 x3 x4 : Operand} {y1 y2 y3 y4 : Value} {tx : Array TypeId} {v : Value} (hen : ∀ ag w, (callFunc f ag).run P w = .ok (.enter f ag) w) (hc : ∀ W, p W → Calls P f #[y1, y2, y3, y4] W fun e w' => e = .returned v ∧ p w') (hp : p w) (h1 : a.eval x1 = y1) (h2 : a.eval x2 = y2) (h3 : a.eval x3 = y3) (h4 : a.eval x4 = y4) (hw : Region.wanted ⟨d, .call { callee := .value (.func f), args := #[x1, x2, x3, x4], argTypes := tx }, ty, ps, af, gd⟩ (yielded ops a.tmps) = true)
    (h : ∀ w', p w' → Lx P ops (fun W => ∃ θ : CW p, W = θ.w) Q r (a.put d v) w') : Lx P ops (fun W => ∃ θ : CW p, W = θ.w) Q (⟨d, .call { callee := .value (.func f), args := #[x1, x2, x3, x4], argTypes := tx }, ty, ps, af, gd⟩ :: r) a w :=
  lx_call4 hen (hc w hp) h1 h2 h3 h4 hw fun w' hp' => ⟨⟨⟨w', hp'⟩, rfl⟩, h w' hp'⟩
end
theorem wp_region_lx {P : Program} {Q : Exit → Act → World → Prop} {id : Nat} {a : Act} {w : World} {l : List Oper} (p : World → Prop) (hm : P.follows .mixedOrders = true) (hv : (Region.noSelect l.toArray && schB .any l.toArray (List.range l.length) (Array.replicate l.length false)) = true)
    (hQ : ∀ c (a : Act) d v w, Q (.panic c) (a.put d v) w → Q (.panic c) a w) (hp : p w.drew) (h : Lx P l.toArray (fun W => ∃ θ : CW p, W = θ.w) Q l a w.drew) : (Code.region id l.toArray true).wp P Q a w := by
  rw [Bool.and_eq_true] at hv
  refine wp_region_held (S := fun W => ∃ θ : CW p, W = θ.w) hm ?_
  have := wpAnyH_sch hv.1 hQ _ _ a w.drew hv.2 ⟨⟨_, hp⟩, rfl⟩ (wpSch_of _ _ _ _ (range_map l) h.out)
  rw [List.length_range] at this
  simpa using this
/-- .. with nothing known of the world but that it is so. -/
theorem wp_region_lp {P : Program} {Q : Exit → Act → World → Prop} {id : Nat} {a : Act} {w : World} {l : List Oper} (p : World → Prop) (hm : P.follows .mixedOrders = true) (hv : (Region.noSelect l.toArray && schB .any l.toArray (List.range l.length) (Array.replicate l.length false)) = true)
    (hQ : ∀ c (a : Act) d v w, Q (.panic c) (a.put d v) w → Q (.panic c) a w) (hp : p w.drew) (h : ∀ W, p W → Lx P l.toArray (fun W => ∃ θ : CW p, W = θ.w) Q l a W) : (Code.region id l.toArray true).wp P Q a w :=
  wp_region_lx p hm hv hQ hp (h _ hp)
/-- The same in an order that is told. -/
theorem wp_region_px {P : Program} {Q : Exit → Act → World → Prop} {id : Nat} {a : Act} {w : World} {l : List Oper} (p : World → Prop) (sc : List Nat) (l' : List Oper) (hl : sc.map (fun i => l.toArray[i]?) = l'.map some) (hm : P.follows .mixedOrders = true) (hv : (Region.noSelect l.toArray && schB .any l.toArray sc (Array.replicate l.length false) && (sc.length == l.length)) = true)
    (hQ : ∀ c (a : Act) d v w, Q (.panic c) (a.put d v) w → Q (.panic c) a w) (hp : p w.drew) (h : Lx P l.toArray (fun W => ∃ θ : CW p, W = θ.w) Q l' a w.drew) : (Code.region id l.toArray true).wp P Q a w := by
  rw [Bool.and_eq_true, Bool.and_eq_true, beq_iff_eq] at hv
  refine wp_region_held (S := fun W => ∃ θ : CW p, W = θ.w) hm ?_
  have := wpAnyH_sch hv.1.1 hQ _ _ a w.drew hv.1.2 ⟨⟨_, hp⟩, rfl⟩ (wpSch_of _ _ _ _ hl h.out)
  rw [hv.2] at this
  simpa using this
theorem ch2 : ∀ a b : Bool, a = false ∨ (a = true ∧ b = false) ∨ (a = true ∧ b = true) := by decide
theorem ch3 : ∀ a b c : Bool, a = false ∨ (a = true ∧ b = false) ∨ (a = true ∧ b = true ∧ c = false) ∨ (a = true ∧ b = true ∧ c = true) := by decide
theorem ch4 : ∀ a b c d : Bool, a = false ∨ (a = true ∧ b = false) ∨ (a = true ∧ b = true ∧ c = false) ∨ (a = true ∧ b = true ∧ c = true ∧ d = false) ∨ (a = true ∧ b = true ∧ c = true ∧ d = true) := by decide
theorem ch5 : ∀ a b c d e : Bool, a = false ∨ (a = true ∧ b = false) ∨ (a = true ∧ b = true ∧ c = false) ∨ (a = true ∧ b = true ∧ c = true ∧ d = false) ∨ (a = true ∧ b = true ∧ c = true ∧ d = true ∧ e = false) ∨ (a = true ∧ b = true ∧ c = true ∧ d = true ∧ e = true) := by decide
theorem ch6 : ∀ a b c d e f : Bool, a = false ∨ (a = true ∧ b = false) ∨ (a = true ∧ b = true ∧ c = false) ∨ (a = true ∧ b = true ∧ c = true ∧ d = false) ∨ (a = true ∧ b = true ∧ c = true ∧ d = true ∧ e = false) ∨ (a = true ∧ b = true ∧ c = true ∧ d = true ∧ e = true ∧ f = false) ∨ (a = true ∧ b = true ∧ c = true ∧ d = true ∧ e = true ∧ f = true) := by
  intro a b c d e f
  cases a <;> cases b <;> cases c <;> cases d <;> cases e <;> cases f <;> simp
/-- A slot written in a frame that is told. -/
theorem pts : (∀ (a : Act) (d : Tmp) (v : Value), a.put (some d) v = { a with tmps := a.tmps.setIfInBounds d v }) ∧ (∀ (a : Act) (v : Value), a.put none v = a) ∧ (∀ (l : List Value) (i : Nat) (v : Value), l.toArray.setIfInBounds i v = (l.set i v).toArray) ∧ (∀ (l : List Value) (x v : Value), (x :: l).set 0 v = v :: l) ∧ (∀ (l : List Value) (x v : Value) (n : Nat), (x :: l).set (n + 1) v = x :: l.set n v) :=
  ⟨fun _ _ _ => rfl, fun _ _ => rfl, fun _ _ _ => List.setIfInBounds_toArray .., fun _ _ _ => rfl, fun _ _ _ _ => rfl⟩
end Go.Proofs.Ytnicdehbedcdpaa
