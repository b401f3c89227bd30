/- A region that draws: first reads, then two operations that act, in either order. -/
import Derived.Test.YtfikmlckcbnppaaDoorILz
namespace Go.Proofs.YtfikmlckcbnppaaDoor
open Go.ChangeShapes Go.WideShapes Go.ChangeAt Go.RowKit

/-- Reads alone, then one of two ways. -/
def schV (md : Region.Mode) (ops : Array Oper) (z : Nat) (i : Nat) (r1 : List Nat) (j : Nat) (r2 : List Nat) : List Nat → Array Bool → Bool
  | [], listed => (Region.ready md ops listed == [i, j]) && (match ops[i]? with | some o => !rdK o.op | none => false) && (match ops[j]? with | some o => !rdK o.op | none => false) && !(i == z) && !(j == z) && !r1.isEmpty && !r2.isEmpty && schF md ops z r1 (listed.setIfInBounds i true) && schF md ops z r2 (listed.setIfInBounds j true) && (r1.length == r2.length)
  | k :: r, listed => (match ops[k]? with
      | some o => rdK o.op && (Region.free md ops listed k && (Region.ready md ops listed).contains k && (waitsB md ops z k && !(k == z)))
      | none => false) && schV md ops z i r1 j r2 r (listed.setIfInBounds k true)
def wpLv (P : Program) (ops : Array Oper) (Q : Exit → Act → World → Prop) (l1 l2 : List Oper) : List Oper → (World → Prop) → Act → World → Prop
  | [], C, a, w => wpLw P ops Q l1 C a w ∧ wpLw P ops Q l2 C a w
  | o :: r, C, a, w => if Region.wanted o (yielded ops a.tmps) = true then o.quiet P a C (fun a' => wpLv P ops Q l1 l2 r C a' w) else wpLv P ops Q l1 l2 r C (a.put o.dst undef) w
section
variable {P : Program} {md : Region.Mode} {ops : Array Oper} {Q : Exit → Act → World → Prop} {z : Nat}
theorem headAct (hs : Region.noSelect ops = true) (hQ : ∀ c (a : Act) d v w, Q (.panic c) (a.put d v) w → Q (.panic c) a w) {i : Nat} {r : List Nat} {o : Oper} {l : List Oper} {C : World → Prop} {listed : Array Bool} {a : Act} {w : World} (ho : ops[i]? = some o) (hr : rdK o.op = false) (he : r.map (fun i => ops[i]?) = l.map some) (hne : r ≠ []) (hv : schF md ops z r (listed.setIfInBounds i true) = true) (hC : C w) (h : wpLw P ops Q (o :: l) C a w) :
    wpOp P ops Q i (fun a' w' => (i ≠ z → C w') ∧ wpAnyF P md ops Q C z r.length (listed.setIfInBounds i true) a' w') a w := by
  unfold wpLw at h
  unfold wpOp
  rw [ho]
  dsimp only
  by_cases hw : Region.wanted o (yielded ops a.tmps) = true
  · rw [if_pos hw, if_neg (by rw [hr]; decide)] at h
    rw [if_pos hw]
    refine .inl (Oper.wp_mono (fun a' w' h' => ?_) h)
    obtain ⟨C', hCC, h''⟩ := h'
    rcases hCC with hn | ⟨hCC, hc⟩
    · rw [hn] at he
      cases r with
      | nil => exact absurd rfl hne
      | cons _ _ => cases he
    · exact ⟨fun _ => hCC _ hc, wpAnyF_narrow hCC _ _ _ _ (wpAnyF_lw hs hQ r l C' _ _ _ he hv hc h'')⟩
  · rw [if_neg hw] at h
    rw [if_neg hw]
    exact ⟨fun _ => hC, wpAnyF_lw hs hQ r l C _ _ _ he hv hC h⟩
theorem wpAnyF_lv (hs : Region.noSelect ops = true) (hQ : ∀ c (a : Act) d v w, Q (.panic c) (a.put d v) w → Q (.panic c) a w) {i j : Nat} {r1 r2 : List Nat} {l1 l2 : List Oper} (he1 : (i :: r1).map (fun i => ops[i]?) = l1.map some) (he2 : (j :: r2).map (fun i => ops[i]?) = l2.map some) : ∀ (sc : List Nat) (l : List Oper) (C : World → Prop) (listed : Array Bool) (a : Act) (w : World), sc.map (fun i => ops[i]?) = l.map some → schV md ops z i r1 j r2 sc listed = true → C w → wpLv P ops Q l1 l2 l C a w → wpAnyF P md ops Q C z (sc.length + (r1.length + 1)) listed a w
  | [], [], C, listed, a, w, _, hv, hC, h => by
    unfold schV at hv
    simp only [Bool.and_eq_true, beq_iff_eq, Bool.not_eq_true', List.isEmpty_eq_false_iff] at hv
    obtain ⟨⟨⟨⟨⟨⟨⟨⟨⟨h1, h2⟩, h3⟩, h4⟩, h5⟩, h6⟩, h7⟩, h8⟩, h9⟩, h10⟩ := hv
    unfold wpLv at h
    rw [List.length_nil, Nat.zero_add]
    cases l1 with
    | nil => cases he1
    | cons o1 t1 =>
      cases l2 with
      | nil => cases he2
      | cons o2 t2 =>
        simp only [List.map_cons, List.cons.injEq] at he1 he2
        rw [he1.1] at h2
        rw [he2.1] at h3
        refine ⟨fun h0 => (by rw [h1] at h0; cases h0), fun k hk => ?_⟩
        rw [h1] at hk
        simp only [List.mem_cons, List.not_mem_nil, or_false] at hk
        rcases hk with rfl | rfl
        · exact headAct hs hQ he1.1 (by simpa using h2) he1.2 h6 h8 hC h.1
        · rw [h10]
          exact headAct hs hQ he2.1 (by simpa using h3) he2.2 h7 h9 hC h.2
  | [], _ :: _, _, _, _, _, e, _, _, _ => by cases e
  | _ :: _, [], _, _, _, _, e, _, _, _ => by cases e
  | k :: r, o :: l, C, listed, a, w, e, hv, hC, h => by
    simp only [List.map_cons, List.cons.injEq] at e
    obtain ⟨ho, e⟩ := e
    unfold schV at hv
    rw [Bool.and_eq_true, ho] at hv
    obtain ⟨h1, h2⟩ := hv
    dsimp only at h1
    rw [Bool.and_eq_true, Bool.and_eq_true, Bool.and_eq_true] at h1
    obtain ⟨hr, ⟨hf, hc⟩, hwt⟩ := h1
    unfold wpLv at h
    rw [List.length_cons, Nat.add_right_comm]
    by_cases hw : Region.wanted o (yielded ops a.tmps) = true
    · rw [if_pos hw] at h
      obtain ⟨v, hv, h⟩ := h
      exact wpAnyF_take ho hs hf hc hwt (fun c a w => hQ c a o.dst v w) (.inl ⟨hw, fun W hW => rd_value hr (hv W hW)⟩) hC (wpAnyF_lv hs hQ he1 he2 r l C _ _ _ e h2 hC h)
    · rw [if_neg hw] at h
      rw [Bool.not_eq_true] at hw
      exact wpAnyF_take ho hs hf hc hwt (fun c a w => hQ c a o.dst undef w) (.inr ⟨hw, rfl⟩) hC (wpAnyF_lv hs hQ he1 he2 r l C _ _ _ e h2 hC h)
structure Lv2 (P : Program) (ops : Array Oper) (Q : Exit → Act → World → Prop) (l1 l2 : List Oper) (C : World → Prop) (l : List Oper) (a : Act) (w : World) : Prop where
  out : wpLv P ops Q l1 l2 l C a w
variable {d : Option Tmp} {op : Op} {ty : TypeId} {ps : String} {af : Array Edge} {gd : Option (Nat × Bool)} {r : List Oper} {a : Act} {w : World} {C : World → Prop} {l1 l2 : List Oper}
theorem lv_read (hw : Region.wanted ⟨d, op, ty, ps, af, gd⟩ (yielded ops a.tmps) = true) (h : ∀ K : Act → Prop, (∀ a', Lv2 P ops Q l1 l2 C r a' w → K a') → Oper.quiet P ⟨d, op, ty, ps, af, gd⟩ a C K) : Lv2 P ops Q l1 l2 C (⟨d, op, ty, ps, af, gd⟩ :: r) a w := by
  refine ⟨?_⟩
  unfold wpLv
  rw [if_pos hw]
  exact h _ fun _ h => h.out
theorem lv_one (h : wpQuiet P ops C (fun a' => Lv2 P ops Q l1 l2 C r a' w) [⟨d, op, ty, ps, af, gd⟩] a) : Lv2 P ops Q l1 l2 C (⟨d, op, ty, ps, af, gd⟩ :: r) a w := by
  unfold wpQuiet at h
  by_cases hw : Region.wanted ⟨d, op, ty, ps, af, gd⟩ (yielded ops a.tmps) = true
  · rw [if_pos hw] at h
    refine lv_read hw fun K hK => ?_
    exact Oper.quiet_mono (fun a' h' => hK a' h') h
  · rw [if_neg hw] at h
    refine ⟨?_⟩
    unfold wpLv
    rw [if_neg hw]
    exact h.out
theorem lv_ld {t : TypeId} {x : Operand} {p v : Value} (hl : ∀ W, C W → (Instr.loadAt t p).run P W = .ok v W) (hx : a.eval x = p) (hw : Region.wanted ⟨d, .load t x, ty, ps, af, gd⟩ (yielded ops a.tmps) = true) (h : Lv2 P ops Q l1 l2 C r (a.put d v) w) : Lv2 P ops Q l1 l2 C (⟨d, .load t x, ty, ps, af, gd⟩ :: r) a w :=
  lv_read hw fun K hK => ⟨v, fun W hW => by
    unfold Oper.quietAt execOp
    simp only [hx, hl W hW, Sem.run_bind, Result.andThen_ok, Sem.run_pure]
    exact ⟨rfl, rfl⟩, hK _ h⟩
theorem lv_both (h1 : Lw P ops Q C l1 a w) (h2 : Lw P ops Q C l2 a w) : Lv2 P ops Q l1 l2 C [] a w := ⟨⟨h1.out, h2.out⟩⟩
/-- A call behind which other things are known, and not the last. -/
theorem lw_call2 {f : FuncId} {x1 x2 : Operand} {y1 y2 : Value} {tx : Array TypeId} {R : Value → World → Prop} (hen : ∀ ag w, (callFunc f ag).run P w = .ok (.enter f ag) w) (hc : Calls P f #[y1, y2] w fun e w' => ∃ v, e = .returned v ∧ R v w') (h1 : a.eval x1 = y1) (h2 : a.eval x2 = y2) (hw : Region.wanted ⟨d, .call { callee := .value (.func f), args := #[x1, x2], argTypes := tx }, ty, ps, af, gd⟩ (yielded ops a.tmps) = true)
    (h : ∀ v w', R v w' → C w' ∧ Lw P ops Q C r (a.put d v) w') : Lw P ops Q C (⟨d, .call { callee := .value (.func f), args := #[x1, x2], argTypes := tx }, ty, ps, af, gd⟩ :: r) a w :=
  lw_act hw rfl fun K hK => by
    have hf : a.eval (.func f) = .func (.func f) #[] #[] := rfl
    unfold Oper.wp execOp
    simp only [resolve, invoke, Sem.run_bind, hf]
    simp [Deferred.ofValue, hen, Oper.upon_enter, h1, h2]
    refine hc.mono ?_
    rintro e w' ⟨v, rfl, hp⟩
    exact hK _ _ C (.inr ⟨fun _ h => h, (h v w' hp).1⟩) (h v w' hp).2
end
theorem wp_region_lv {P : Program} {Q : Exit → Act → World → Prop} {id : Nat} {a : Act} {w : World} {l : List Oper} (z : Nat) (C : World → Prop) (sc : List Nat) (i : Nat) (r1 : List Nat) (j : Nat) (r2 : List Nat) (hm : P.follows .mixedOrders = true)
    (hv : (Region.noSelect l.toArray && schV .any l.toArray z i r1 j r2 sc (Array.replicate l.length false) && (sc.length + (r1.length + 1) == l.length) && (sc ++ i :: r1 ++ j :: r2).all (fun i => decide (i < l.length))) = true)
    (hQ : ∀ c (a : Act) d v w, Q (.panic c) (a.put d v) w → Q (.panic c) a w) (hp : C w.drew) (h : Lv2 P l.toArray Q ((i :: r1).filterMap fun i => l[i]?) ((j :: r2).filterMap fun i => l[i]?) C (sc.filterMap fun i => l[i]?) a w.drew) : (Code.region id l.toArray true).wp P Q a w := by
  rw [Bool.and_eq_true, Bool.and_eq_true, Bool.and_eq_true, beq_iff_eq] at hv
  have ha := hv.2
  rw [List.all_append, List.all_append, Bool.and_eq_true, Bool.and_eq_true] at ha
  refine wp_region_F z C hm hp fun _ => ?_
  have := wpAnyF_lv (z := z) hv.1.1.1 hQ (pick_map l (i :: r1) ha.1.2) (pick_map l (j :: r2) ha.2) _ _ C _ a w.drew (pick_map l sc ha.1.1) hv.1.1.2 hp h.out
  rw [hv.1.2] at this
  simpa using this
end Go.Proofs.YtfikmlckcbnppaaDoor
