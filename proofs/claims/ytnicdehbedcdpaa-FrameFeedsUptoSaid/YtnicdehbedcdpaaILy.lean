/- A region that draws its order, walked in an order that is told; behind what acts the class of worlds may be another, narrower one. -/
import Derived.Test.YtnicdehbedcdpaaILx2
namespace Go.Proofs.Ytnicdehbedcdpaa
open Go.ChangeShapes Go.WideShapes Go.ChangeAt Go.RowKit

theorem wpAnyH_narrow {P : Program} {md : Region.Mode} {ops : Array Oper} {Q : Exit → Act → World → Prop} {S S' : World → Prop} (hSS : ∀ w, S' w → S w) : ∀ (fuel : Nat) (listed : Array Bool) (a : Act) (w : World), wpAnyH P md ops Q S' fuel listed a w → wpAnyH P md ops Q S fuel listed a w
  | 0, _, _, _, h => h
  | fuel + 1, _, _, _, h => ⟨h.1, fun i hi => wpOp_mono (fun a' w' h' => ⟨hSS _ h'.1, wpAnyH_narrow hSS fuel _ a' w' h'.2⟩) (h.2 i hi)⟩
def wpLy (P : Program) (ops : Array Oper) (Q : Exit → Act → World → Prop) : List Oper → (World → Prop) → Act → World → Prop
  | [], _, a, w => Q .normal a w
  | o :: r, C, a, w => if Region.wanted o (yielded ops a.tmps) = true then (if rdK o.op = true then o.quiet P a C (fun a' => wpLy P ops Q r C a' w) else Oper.wp P o a w (fun a' w' => ∃ C' : World → Prop, (∀ W, C' W → C W) ∧ C' w' ∧ wpLy P ops Q r C' a' w') Q) else wpLy P ops Q r C (a.put o.dst undef) w
section
variable {P : Program} {md : Region.Mode} {ops : Array Oper} {Q : Exit → Act → World → Prop}
theorem wpAnyH_ly (hs : Region.noSelect ops = true) (hQ : ∀ c (a : Act) d v w, Q (.panic c) (a.put d v) w → Q (.panic c) a w) : ∀ (sc : List Nat) (l : List Oper) (C : World → Prop) (listed : Array Bool) (a : Act) (w : World), sc.map (fun i => ops[i]?) = l.map some → schB md ops sc listed = true → C w → wpLy P ops Q l C a w → wpAnyH P md ops Q C sc.length listed a w
  | [], [], _, listed, a, w, _, hv, _, h => wpAnyH_done (by simpa [schB] using hv) h _
  | [], _ :: _, _, _, _, _, e, _, _, _ => by cases e
  | _ :: _, [], _, _, _, _, e, _, _, _ => by cases e
  | i :: r, o :: l, C, listed, a, w, e, hv, hC, h => by
    simp only [List.map_cons, List.cons.injEq] at e
    obtain ⟨ho, e⟩ := e
    unfold schB at hv
    rw [Bool.and_eq_true, ho] at hv
    obtain ⟨h1, h2⟩ := hv
    dsimp only at h1
    unfold wpLy at h
    rw [List.length_cons]
    by_cases hr : rdK o.op = true
    · rw [if_pos hr, Bool.and_eq_true] at h1
      by_cases hw : Region.wanted o (yielded ops a.tmps) = true
      · rw [if_pos hw, if_pos hr] at h
        obtain ⟨v, hv, h⟩ := h
        exact wpAnyH_take ho hs h1.1 h1.2 (fun c a w => hQ c a o.dst v w) (.inl ⟨hw, fun W hW => rd_value hr (hv W hW)⟩) hC (wpAnyH_ly hs hQ r l C _ _ _ e h2 hC h)
      · rw [if_neg hw] at h
        rw [Bool.not_eq_true] at hw
        exact wpAnyH_take ho hs h1.1 h1.2 (fun c a w => hQ c a o.dst undef w) (.inr ⟨hw, rfl⟩) hC (wpAnyH_ly hs hQ r l C _ _ _ e h2 hC h)
    · rw [if_neg hr, beq_iff_eq] at h1
      refine wpAnyH_all h1 (by simp) fun j hj => ?_
      rw [List.mem_singleton.1 hj]
      unfold wpOp
      rw [ho]
      dsimp only
      by_cases hw : Region.wanted o (yielded ops a.tmps) = true
      · rw [if_pos hw, if_neg hr] at h
        rw [if_pos hw]
        refine .inl (Oper.wp_mono (fun a' w' h' => ?_) h)
        obtain ⟨C', hCC, hc, h''⟩ := h'
        exact ⟨hCC _ hc, wpAnyH_narrow hCC _ _ _ _ (wpAnyH_ly hs hQ r l C' _ _ _ e h2 hc h'')⟩
      · rw [if_neg hw] at h
        rw [if_neg hw]
        exact ⟨hC, wpAnyH_ly hs hQ r l C _ _ _ e h2 hC h⟩
/-- The walk, closed. -/
structure Ly (P : Program) (ops : Array Oper) (Q : Exit → Act → World → Prop) (C : World → Prop) (l : List Oper) (a : Act) (w : World) : Prop where
  out : wpLy P ops Q l C a w
theorem ly_of {C : World → Prop} : ∀ (l : List Oper) (a : Act) (w : World), wpLx P ops C Q l a w → wpLy P ops Q l C a w
  | [], _, _, h => h
  | o :: r, a, w, h => by
    unfold wpLx at h
    unfold wpLy
    split
    · rename_i hw
      rw [if_pos hw] at h
      split
      · rename_i hr
        rw [if_pos hr] at h
        exact Oper.quiet_mono (fun a' h' => ly_of r a' w h') h
      · rename_i hr
        rw [if_neg hr] at h
        exact Oper.wp_mono (fun a' w' h' => ⟨C, fun _ h => h, h'.1, ly_of r a' w' h'.2⟩) h
    · rename_i hw
      rw [if_neg hw] at h
      exact ly_of r _ w h
/-- From here on one class. -/
theorem ly_lx {C : World → Prop} {l : List Oper} {a : Act} {w : World} (h : Lx P ops C Q l a w) : Ly P ops Q C l a w := ⟨ly_of l a w h.out⟩
variable {d : Option Tmp} {op : Op} {ty : TypeId} {ps : String} {af : Array Edge} {gd : Option (Nat × Bool)} {r : List Oper} {a : Act} {w : World} {C : World → Prop}
theorem ly_skip (hw : Region.wanted ⟨d, op, ty, ps, af, gd⟩ (yielded ops a.tmps) = false) (h : Ly P ops Q C r (a.put d undef) w) : Ly P ops Q C (⟨d, op, ty, ps, af, gd⟩ :: r) a w := by
  refine ⟨?_⟩
  unfold wpLy
  rw [if_neg (by rw [hw]; decide)]
  exact h.out
theorem ly_read (hw : Region.wanted ⟨d, op, ty, ps, af, gd⟩ (yielded ops a.tmps) = true) (hr : rdK op = true) (h : ∀ K : Act → Prop, (∀ a', Ly P ops Q C r a' w → K a') → Oper.quiet P ⟨d, op, ty, ps, af, gd⟩ a C K) : Ly P ops Q C (⟨d, op, ty, ps, af, gd⟩ :: r) a w := by
  refine ⟨?_⟩
  unfold wpLy
  rw [if_pos hw, if_pos hr]
  exact h _ fun _ h => h.out
theorem ly_act (hw : Region.wanted ⟨d, op, ty, ps, af, gd⟩ (yielded ops a.tmps) = true) (hr : rdK op = false) (h : ∀ K : Act → World → Prop, (∀ a' w' (C' : World → Prop), (∀ W, C' W → C W) → C' w' → Ly P ops Q C' r a' w' → K a' w') → Oper.wp P ⟨d, op, ty, ps, af, gd⟩ a w K Q) : Ly P ops Q C (⟨d, op, ty, ps, af, gd⟩ :: r) a w := by
  refine ⟨?_⟩
  unfold wpLy
  rw [if_pos hw, if_neg (by rw [hr]; decide)]
  exact h _ fun _ _ C' h0 h1 h2 => ⟨C', h0, h1, h2.out⟩
theorem ly_one (hr : rdK op = true) (h : wpQuiet P ops C (fun a' => Ly P ops Q C r a' w) [⟨d, op, ty, ps, af, gd⟩] a) : Ly P ops Q C (⟨d, op, ty, ps, af, gd⟩ :: r) a w := by
  unfold wpQuiet at h
  by_cases hw : Region.wanted ⟨d, op, ty, ps, af, gd⟩ (yielded ops a.tmps) = true
  · rw [if_pos hw] at h
    refine ly_read hw hr fun K hK => ?_
    exact Oper.quiet_mono (fun a' h' => hK a' h') h
  · rw [if_neg hw] at h
    exact ly_skip (by simpa using hw) h
theorem ly_done (h : Q .normal a w) : Ly P ops Q C [] a w := ⟨h⟩
theorem ly_ld {t : TypeId} {x : Operand} {p v : Value} (hl : ∀ W, C W → (Instr.loadAt t p).run P W = .ok v W) (hx : a.eval x = p) (hw : Region.wanted ⟨d, .load t x, ty, ps, af, gd⟩ (yielded ops a.tmps) = true) (h : Ly P ops Q C r (a.put d v) w) : Ly P ops Q C (⟨d, .load t x, ty, ps, af, gd⟩ :: r) a w :=
  ly_read hw rfl fun K hK => ⟨v, fun W hW => by
    unfold Oper.quietAt execOp
    simp only [hx, hl W hW, Sem.run_bind, Result.andThen_ok, Sem.run_pure]
    exact ⟨rfl, rfl⟩, hK _ h⟩
/-- A call behind which other things are known. -/
theorem ly_call1 {f : FuncId} {x1 : Operand} {y1 : Value} {tx : Array TypeId} {R : Value → World → Prop} (hen : ∀ ag w, (callFunc f ag).run P w = .ok (.enter f ag) w) (hc : Calls P f #[y1] w fun e w' => ∃ v, e = .returned v ∧ R v w') (h1 : a.eval x1 = y1) (hw : Region.wanted ⟨d, .call { callee := .value (.func f), args := #[x1], argTypes := tx }, ty, ps, af, gd⟩ (yielded ops a.tmps) = true)
    (h : ∀ v w', R v w' → ∃ C' : World → Prop, (∀ W, C' W → C W) ∧ C' w' ∧ Ly P ops Q C' r (a.put d v) w') : Ly P ops Q C (⟨d, .call { callee := .value (.func f), args := #[x1], argTypes := tx }, ty, ps, af, gd⟩ :: r) a w :=
  ly_act hw rfl fun K hK => by
    have hf : a.eval (.func f) = .func (.func f) #[] #[] := rfl
    unfold Oper.wp execOp
    simp only [resolve, invoke, Sem.run_bind, hf]
    simp [Deferred.ofValue, hen, Oper.upon_enter, h1]
    refine hc.mono ?_
    rintro e w' ⟨v, rfl, hp⟩
    obtain ⟨C', q1, q2, q3⟩ := h v w' hp
    exact hK _ _ C' q1 q2 q3
theorem ly_call2 {f : FuncId} {x1 x2 : Operand} {y1 y2 : Value} {tx : Array TypeId} {R : Value → World → Prop} (hen : ∀ ag w, (callFunc f ag).run P w = .ok (.enter f ag) w) (hc : Calls P f #[y1, y2] w fun e w' => ∃ v, e = .returned v ∧ R v w') (h1 : a.eval x1 = y1) (h2 : a.eval x2 = y2) (hw : Region.wanted ⟨d, .call { callee := .value (.func f), args := #[x1, x2], argTypes := tx }, ty, ps, af, gd⟩ (yielded ops a.tmps) = true)
    (h : ∀ v w', R v w' → ∃ C' : World → Prop, (∀ W, C' W → C W) ∧ C' w' ∧ Ly P ops Q C' r (a.put d v) w') : Ly P ops Q C (⟨d, .call { callee := .value (.func f), args := #[x1, x2], argTypes := tx }, ty, ps, af, gd⟩ :: r) a w :=
  ly_act hw rfl fun K hK => by
    have hf : a.eval (.func f) = .func (.func f) #[] #[] := rfl
    unfold Oper.wp execOp
    simp only [resolve, invoke, Sem.run_bind, hf]
    simp [Deferred.ofValue, hen, Oper.upon_enter, h1, h2]
    refine hc.mono ?_
    rintro e w' ⟨v, rfl, hp⟩
    obtain ⟨C', q1, q2, q3⟩ := h v w' hp
    exact hK _ _ C' q1 q2 q3
end
/-- The region in the text's order. -/
theorem wp_region_ly {P : Program} {Q : Exit → Act → World → Prop} {id : Nat} {a : Act} {w : World} {l : List Oper} (C : World → Prop) (hm : P.follows .mixedOrders = true) (hv : (Region.noSelect l.toArray && schB .any l.toArray (List.range l.length) (Array.replicate l.length false)) = true)
    (hQ : ∀ c (a : Act) d v w, Q (.panic c) (a.put d v) w → Q (.panic c) a w) (hp : C w.drew) (h : Ly P l.toArray Q C l a w.drew) : (Code.region id l.toArray true).wp P Q a w := by
  rw [Bool.and_eq_true] at hv
  refine wp_region_held (S := C) hm ?_
  have := wpAnyH_ly hv.1 hQ _ _ C _ a w.drew (range_map l) hv.2 hp h.out
  rw [List.length_range] at this
  simpa using this
/-- .. in an order that is told. -/
theorem wp_region_lz {P : Program} {Q : Exit → Act → World → Prop} {id : Nat} {a : Act} {w : World} {l : List Oper} (C : World → Prop) (sc : List Nat) (hm : P.follows .mixedOrders = true) (hv : (Region.noSelect l.toArray && schB .any l.toArray sc (Array.replicate l.length false) && (sc.length == l.length) && sc.all (fun i => decide (i < l.length))) = true)
    (hQ : ∀ c (a : Act) d v w, Q (.panic c) (a.put d v) w → Q (.panic c) a w) (hp : C w.drew) (h : Ly P l.toArray Q C (sc.filterMap fun i => l[i]?) a w.drew) : (Code.region id l.toArray true).wp P Q a w := by
  rw [Bool.and_eq_true, Bool.and_eq_true, Bool.and_eq_true, beq_iff_eq] at hv
  refine wp_region_held (S := C) hm ?_
  have := wpAnyH_ly hv.1.1.1 hQ _ _ C _ a w.drew (pick_map l sc hv.2) hv.1.1.2 hp h.out
  rw [hv.1.2] at this
  simpa using this
end Go.Proofs.Ytnicdehbedcdpaa
