/- The law of project.Same: its means. -/
import Derived.Test.YtgobecedammlgaaJCp
namespace Go.Proofs.Ytgobecedammlgaa
open Go.ChangeShapes Go.WideShapes Go.ChangeAt Go.RowKit

/-- A form that is handed over as a value. -/
def CpV (w : World) (v : Value) (f : Fm) : Prop := ∃ p c, v = fmV f p c ∧ TkL w p w.heap.size f.toks
theorem CpV.below {w w' : World} {v : Value} {f : Fm} (h : CpV w v f) (hb : Below w.heap.size w w') : CpV w' v f := by
  obtain ⟨p, c, e, hl⟩ := h
  exact ⟨p, c, e, (hl.below hb).mono hb.size⟩
theorem sameV (W : World) (v1 v2 : Value) (f1 f2 : Fm) (h1 : CpV W v1 f1) (h2 : CpV W v2 f2) : Calls Try.prog 5 #[v1, v2] W fun r w' => Ans r (f1 = f2) ∧ Below W.heap.size W w' := by
  obtain ⟨p, c, rfl, hp⟩ := h1
  obtain ⟨q, d, rfl, hq⟩ := h2
  exact Same_any f1 f2 p q c d W hp hq
theorem Cop.tkl {w : World} {base g cap : Nat} {ps : List TkP} {l : List Tk} (h : Cop w base g cap ps) (e : ps.map TkP.t = l) (hl : l.length * 192 ≤ 140737488355328) (ho : ∀ t ∈ l, TkOk t) : TkL w (some ⟨g, 0, none⟩) w.heap.size l := ⟨by rw [← e]; exact h.trow, hl, ho⟩
/-- A form that can be copied. -/
def FmSm (f : Fm) : Prop := f.toks.length * 192 ≤ 140737488351232 ∧ ∀ t ∈ f.toks, t.cst.length * 8 ≤ 140737488351232
theorem copV (W : World) (v : Value) (f : Fm) (hm : FmSm f) (h : CpV W v f) : Calls Try.prog 6 #[v] W fun r w' => ∃ u, r = .returned u ∧ CpV w' u f ∧ Below W.heap.size W w' := by
  obtain ⟨p, c, rfl, hp⟩ := h
  refine (copied_any f p c W hp hm.1 hm.2).mono ?_
  rintro _ w' ⟨g, cap, ps, rfl, he, hc, hb⟩
  exact ⟨_, rfl, ⟨_, _, rfl, hc.tkl he hp.len hp.ok⟩, hb⟩
theorem lx_cx1 {P : Program} {ops : Array Oper} {C : World → Prop} {Q : Exit → Act → World → Prop} {d : Option Tmp} {ty : TypeId} {ps : String} {af : Array Edge} {gd : Option (Nat × Bool)} {r : List Oper} {a : Act} {w : World} {f : FuncId} {x1 : Operand} {y1 : Value} {tx : Array TypeId} {R : Ending → World → Prop}
    (hen : ∀ ag w, (callFunc f ag).run P w = .ok (.enter f ag) w) (hc : Calls P f #[y1] w R) (h1 : a.eval x1 = y1) (hw : Region.wanted ⟨d, .call { callee := .value (.func f), args := #[x1], argTypes := tx }, ty, ps, af, gd⟩ (yielded ops a.tmps) = true)
    (h : ∀ e w', R e w' → ∃ v, e = .returned v ∧ C w' ∧ Lx P ops C Q r (a.put d v) w') : Lx P ops C Q (⟨d, .call { callee := .value (.func f), args := #[x1], argTypes := tx }, ty, ps, af, gd⟩ :: r) a w :=
  lx_act hw rfl fun K hK => by
    have hf : a.eval (.func f) = .func (.func f) #[] #[] := rfl
    unfold Oper.wp execOp
    simp only [resolve, invoke, Sem.run_bind, hf]
    simp [Deferred.ofValue, hen, Oper.upon_enter, h1]
    refine hc.mono ?_
    intro e w' hp
    obtain ⟨v, rfl, hC, hL⟩ := h e w' hp
    exact hK _ _ hC hL
theorem lx_cx2 {P : Program} {ops : Array Oper} {C : World → Prop} {Q : Exit → Act → World → Prop} {d : Option Tmp} {ty : TypeId} {ps : String} {af : Array Edge} {gd : Option (Nat × Bool)} {r : List Oper} {a : Act} {w : World} {f : FuncId} {x1 x2 : Operand} {y1 y2 : Value} {tx : Array TypeId} {R : Ending → World → Prop}
    (hen : ∀ ag w, (callFunc f ag).run P w = .ok (.enter f ag) w) (hc : Calls P f #[y1, y2] w R) (h1 : a.eval x1 = y1) (h2 : a.eval x2 = y2) (hw : Region.wanted ⟨d, .call { callee := .value (.func f), args := #[x1, x2], argTypes := tx }, ty, ps, af, gd⟩ (yielded ops a.tmps) = true)
    (h : ∀ e w', R e w' → ∃ v, e = .returned v ∧ C w' ∧ Lx P ops C Q r (a.put d v) w') : Lx P ops C Q (⟨d, .call { callee := .value (.func f), args := #[x1, x2], argTypes := tx }, ty, ps, af, gd⟩ :: r) a w :=
  lx_act hw rfl fun K hK => by
    have hf : a.eval (.func f) = .func (.func f) #[] #[] := rfl
    unfold Oper.wp execOp
    simp only [resolve, invoke, Sem.run_bind, hf]
    simp [Deferred.ofValue, hen, Oper.upon_enter, h1, h2]
    refine hc.mono ?_
    intro e w' hp
    obtain ⟨v, rfl, hC, hL⟩ := h e w' hp
    exact hK _ _ hC hL
theorem ent_copied : ∀ ag w, (callFunc 6 ag).run Try.prog w = .ok (.enter 6 ag) w := enters_of Try.func6 (by kernel_rfl) rfl
theorem ent_Same : ∀ ag w, (callFunc 5 ag).run Try.prog w = .ok (.enter 5 ag) w := enters_of Try.func5 (by kernel_rfl) rfl
theorem fmO_setl {W : World} {X : Nat} {f : Fm} {p q : Option Addr} {c d N : Nat} (l : List Tk) (hN : N = l.length) (h : W.heap[X]? = some (fmO f p c)) : (W.setCell ⟨X, 12, none⟩ (.slice q N d)).heap[X]? = some (fmO { f with toks := l } q d) := by
  have e : (W.setCell ⟨X, 12, none⟩ (.slice q N d)).heap = W.heap.modify X (fun o => match o with
    | .cells cs t f => .cells (cs.setIfInBounds 12 (.slice q N d)) t f
    | o => o) := by
    rfl
  rw [e, Array.getElem?_modify, if_pos rfl, h]
  subst hN
  rfl
abbrev zeroT : Tk := ⟨0, ⟨#[]⟩, 0, 0, 0, 0, 0, 0, 0, 0, 0, 0, [], 0, 0, 0, ⟨0, 0⟩, ⟨0, 0⟩, 0⟩
theorem zeroT_ok : TkOk zeroT := by
  constructor <;> first | exact ⟨by decide, by decide⟩ | (intro x hx; cases hx) | decide
/-- The copied list with one token more, in its room. -/
theorem more_row {w : World} {base g' cap' : Nat} {ps : List TkP} (hr : w.ownsRow base 38 21 (.slice (some ⟨g', 0, none⟩) (ps.length + 1) cap') (ps.length + 1) (tpC ps ++ tkC zeroT none 0)) (hg : ∀ x ∈ ps, UGood w base x) : TkRow w (some ⟨g', 0, none⟩) w.heap.size (ps.map TkP.t ++ [zeroT]) :=
  ⟨fun i t ht => by
    have hlt := (hr.lt g' rfl).2
    by_cases hi : i < ps.length
    · rw [List.getElem?_append_left (by simpa using hi), List.getElem?_map] at ht
      obtain ⟨x, hx⟩ : ∃ x, ps[i]? = some x := ⟨ps[i], List.getElem?_eq_getElem hi⟩
      rw [hx] at ht
      cases ht
      have hgd := hg x (List.mem_of_getElem? hx)
      refine ⟨g', 0, some ⟨x.g, 0, none⟩, x.c, rfl, hlt, tkC_of fun j u hu => ?_, hgd.row, Nat.le_of_succ_le hgd.room⟩
      have hj : j < 21 := (List.getElem?_eq_some_iff.1 hu).1
      have hc := World.ownsRow.cells hr (g := g') rfl (i * 21 + j) u ((tpC_get ps i x _ hx j hj).trans hu)
      rw [Nat.zero_add]
      rwa [addr0] at hc
    · rw [List.getElem?_append_right (by simpa using hi), List.length_map] at ht
      have hi2 : i - ps.length = 0 := by
        cases h : i - ps.length with
        | zero => rfl
        | succ n => rw [h] at ht; cases ht
      rw [hi2] at ht
      cases ht
      obtain rfl : i = ps.length := by omega
      refine ⟨g', 0, none, 0, rfl, hlt, tkC_of fun j u hu => ?_, URow.nil _ _ _, Nat.le_refl _⟩
      have hj : j < 21 := (List.getElem?_eq_some_iff.1 hu).1
      have hc := World.ownsRow.cells hr (g := g') rfl (ps.length * 21 + j) u (by rw [List.getElem?_append_right (by rw [tpC_length]; omega), tpC_length, Nat.add_sub_cancel_left]; exact hu)
      rw [Nat.zero_add]
      rwa [addr0] at hc⟩
/-- One token of a copied list changed. -/
theorem set_row {w w' : World} {base g cap : Nat} {ps : List TkP} (h : Cop w base g cap ps) {i : Nat} {x : TkP} (hx : ps[i]? = some x) {t' : Tk} {pc : Option Addr} {cc : Nat} (hs : w.heap.size ≤ w'.heap.size)
    (hb : ∀ k, k < w.heap.size → k ≠ g → k ≠ x.g → w'.heap[k]? = w.heap[k]?) (hc : ∀ o, (o < i * 21 ∨ i * 21 + 21 ≤ o) → w'.cell? ⟨g, o, none⟩ = w.cell? ⟨g, o, none⟩)
    (ht : TkC w' g (i * 21) t' pc cc) (hu : URow w' pc w'.heap.size t'.cst) (hl : t'.cst.length ≤ cc) : TkRow w' (some ⟨g, 0, none⟩) w'.heap.size ((ps.map TkP.t).set i t') :=
  ⟨fun j t hj => by
    have hglt : g < w'.heap.size := Nat.lt_of_lt_of_le h.lt.2 hs
    have hil : i < ps.length := (List.getElem?_eq_some_iff.1 hx).1
    by_cases hij : i = j
    · subst hij
      rw [List.getElem?_set_self (by simpa using hil)] at hj
      cases hj
      exact ⟨g, 0, pc, cc, rfl, hglt, by rw [Nat.zero_add]; exact ht, hu, hl⟩
    · rw [List.getElem?_set_ne hij, List.getElem?_map] at hj
      cases hy : ps[j]? with
      | none => rw [hy] at hj; cases hj
      | some y =>
        rw [hy] at hj
        cases hj
        have hjl : j < ps.length := (List.getElem?_eq_some_iff.1 hy).1
        have hgd := h.good y (List.mem_of_getElem? hy)
        have hne : y.g ≠ x.g := by
          have hp := h.dis
          rw [List.pairwise_iff_getElem] at hp
          have e1 : ps[i] = x := (List.getElem?_eq_some_iff.1 hx).2
          have e2 : ps[j] = y := (List.getElem?_eq_some_iff.1 hy).2
          rcases Nat.lt_or_ge i j with hlt | hge
          · have := hp i j (by simpa using hil) (by simpa using hjl) hlt
            simp only [List.getElem_map, e1, e2] at this
            omega
          · have := hp j i (by simpa using hjl) (by simpa using hil) (by omega)
            simp only [List.getElem_map, e1, e2] at this
            omega
        have hyl := hgd.1.lt
        have hT := h.tk hy
        have hcc : ∀ o, j * 21 ≤ o → o < j * 21 + 21 → w'.cell? ⟨g, o, none⟩ = w.cell? ⟨g, o, none⟩ := fun o h1 h2 => hc o (by omega)
        refine ⟨g, 0, some ⟨y.g, 0, none⟩, y.c, rfl, hglt, ?_, ?_, Nat.le_of_succ_le hgd.1.room⟩
        · rw [Nat.zero_add]
          exact ⟨(hcc _ (by omega) (by omega)).trans hT.c0, (hcc _ (by omega) (by omega)).trans hT.c1, (hcc _ (by omega) (by omega)).trans hT.c2, (hcc _ (by omega) (by omega)).trans hT.c3, (hcc _ (by omega) (by omega)).trans hT.c4, (hcc _ (by omega) (by omega)).trans hT.c5, (hcc _ (by omega) (by omega)).trans hT.c6, (hcc _ (by omega) (by omega)).trans hT.c7, (hcc _ (by omega) (by omega)).trans hT.c8, (hcc _ (by omega) (by omega)).trans hT.c9, (hcc _ (by omega) (by omega)).trans hT.c10, (hcc _ (by omega) (by omega)).trans hT.c11, (hcc _ (by omega) (by omega)).trans hT.c12, (hcc _ (by omega) (by omega)).trans hT.c13, (hcc _ (by omega) (by omega)).trans hT.c14, (hcc _ (by omega) (by omega)).trans hT.c15, (hcc _ (by omega) (by omega)).trans hT.c16, (hcc _ (by omega) (by omega)).trans hT.c17, (hcc _ (by omega) (by omega)).trans hT.c18, (hcc _ (by omega) (by omega)).trans hT.c19, (hcc _ (by omega) (by omega)).trans hT.c20⟩
        · refine ⟨fun k t hk => ?_⟩
          obtain ⟨g1, o1, e, hg1, hcl⟩ := hgd.1.row.c k t hk
          cases e
          exact ⟨y.g, 0, rfl, Nat.lt_of_lt_of_le hyl.2 hs, (cell_blk (hb y.g hyl.2 hgd.2 hne)).trans hcl⟩⟩
theorem cop_at {l : List Tk} {ps : List TkP} {i : Nat} {t : Tk} (h : ps.map TkP.t = l) (ht : l[i]? = some t) : ∃ y : TkP, ps[i]? = some y ∧ t = y.t := by
  rw [← h, List.getElem?_map] at ht
  cases hy : ps[i]? with
  | none => rw [hy] at ht; cases ht
  | some y => rw [hy] at ht; cases ht; exact ⟨y, rfl, rfl⟩
theorem cop_froz {w : World} {base g cap : Nat} {ps : List TkP} (h : Cop w base g cap ps) (o : Nat) : w.frozen? ⟨g, o, none⟩ = false := by
  rcases h.row.2 with ⟨e, _⟩ | ⟨g', cp, cur, hv, _, hg, _⟩
  · cases e
  · injection hv with h1
    injection h1 with h1
    injection h1 with h1
    subst h1
    exact froz hg o
theorem tk_put {w : World} {g o j : Nat} {t t' : Tk} {pc pc' : Option Addr} {cc cc' : Nat} {u : Value} (h : TkC w g o t pc cc) (hj : j < 21) (e : tkC t' pc' cc' = (tkC t pc cc).set j u) : TkC (w.setCell ⟨g, o + j, none⟩ u) g o t' pc' cc' :=
  tkC_of fun k v hv => by
    rw [e] at hv
    have hr := tk_range h
    by_cases hk : j = k
    · subst hk
      rw [List.getElem?_set_self (by rw [tkC_len]; exact hj)] at hv
      cases hv
      obtain ⟨x, hx⟩ : ∃ x, (tkC t pc cc)[j]? = some x := ⟨_, List.getElem?_eq_getElem (by rw [tkC_len]; exact hj)⟩
      exact World.cell?_setCell_same _ _ _ (hr j x hx)
    · rw [List.getElem?_set_ne hk] at hv
      exact (World.cell?_setCell_other _ _ _ _ (fun e => by injection e with _ e; omega)).trans (hr k v hv)
theorem put_row {w : World} {base g cap : Nat} {ps : List TkP} (h : Cop w base g cap ps) {i j : Nat} {y : TkP} (hy : ps[i]? = some y) (hj : j < 21) {t' : Tk} {u : Value} (e : tkC t' (some ⟨y.g, 0, none⟩) y.c = y.cs.set j u) (ec : t'.cst = y.t.cst) :
    TkRow (w.setCell ⟨g, i * 21 + j, none⟩ u) (some ⟨g, 0, none⟩) (w.setCell ⟨g, i * 21 + j, none⟩ u).heap.size ((ps.map TkP.t).set i t') := by
  have hgd := h.good y (List.mem_of_getElem? hy)
  have hsz : (w.setCell ⟨g, i * 21 + j, none⟩ u).heap.size = w.heap.size := by simp [World.setCell]
  have hb : ∀ k, k ≠ g → (w.setCell ⟨g, i * 21 + j, none⟩ u).heap[k]? = w.heap[k]? := fun k hk => heap_setCell_other w _ k _ hk
  refine set_row h hy (pc := some ⟨y.g, 0, none⟩) (cc := y.c) (by omega) (fun k _ hk _ => hb k hk) (fun o ho => World.cell?_setCell_other _ _ _ _ (fun e => by injection e with _ e; omega)) (tk_put (h.tk hy) hj e) ?_ (by rw [ec]; exact Nat.le_of_succ_le hgd.1.room)
  rw [ec]
  exact ⟨fun k x hk => by
    obtain ⟨g1, o1, e1, hg1, hc⟩ := hgd.1.row.c k x hk
    cases e1
    exact ⟨y.g, 0, rfl, by have := hgd.1.lt; omega, (cell_blk (hb y.g hgd.2)).trans hc⟩⟩
theorem wrap64_ok (v : Int) : i64ok (wrap64 v) := by
  unfold i64ok wrap64
  omega
theorem wrap64_ne (v : Int) : wrap64 (v + 1) ≠ v := by
  unfold wrap64
  omega
theorem u64w_eq (v : Int) : IntKind.u64.wrap v = v % 18446744073709551616 := by
  simp [IntKind.wrap, IntKind.signed, IntKind.bits]
theorem u64w_ok (v : Int) : u64ok (IntKind.u64.wrap v) := by
  rw [u64w_eq]
  unfold u64ok
  omega
theorem u64w_ne (v : Int) : IntKind.u64.wrap (v + 1) ≠ v := by
  rw [u64w_eq]
  omega
theorem name_ne (a : ByteArray) : a ++ ⟨#[120]⟩ ≠ a := fun e => by
  have h := congrArg ByteArray.size e
  rw [ByteArray.size_append] at h
  have h1 : (⟨#[120]⟩ : ByteArray).size = 1 := rfl
  omega
/-- One token of a copied list whose words have grown. -/
theorem put_words {w w4 : World} {base g cap : Nat} {ps : List TkP} (h : Cop w base g cap ps) {i : Nat} {y : TkP} (hy : ps[i]? = some y) {ga capa : Nat} {z : Int}
    (hO : w4.ownsRow base 35 1 (.slice (some ⟨ga, 0, none⟩) (y.t.cst.length + 1) capa) (y.t.cst.length + 1) (uC y.t.cst ++ [.int .u64 z])) (hs : w.heap.size ≤ w4.heap.size) (hg : ga = y.g ∨ w.heap.size ≤ ga)
    (hb : ∀ k, k < w.heap.size → k ≠ y.g → w4.heap[k]? = w.heap[k]?) :
    TkRow (w4.setCell ⟨g, i * 21 + 12, none⟩ (.slice (some ⟨ga, 0, none⟩) (y.t.cst.length + 1) capa)) (some ⟨g, 0, none⟩) (w4.setCell ⟨g, i * 21 + 12, none⟩ (.slice (some ⟨ga, 0, none⟩) (y.t.cst.length + 1) capa)).heap.size ((ps.map TkP.t).set i { y.t with cst := y.t.cst ++ [z] }) := by
  have hgd := h.good y (List.mem_of_getElem? hy)
  have hglt := h.lt
  have hsz : (w4.setCell ⟨g, i * 21 + 12, none⟩ (.slice (some ⟨ga, 0, none⟩) (y.t.cst.length + 1) capa)).heap.size = w4.heap.size := by simp [World.setCell]
  have hsame : ∀ k, k ≠ g → (w4.setCell ⟨g, i * 21 + 12, none⟩ (.slice (some ⟨ga, 0, none⟩) (y.t.cst.length + 1) capa)).heap[k]? = w4.heap[k]? := fun k hk => heap_setCell_other w4 _ k _ hk
  have hgg : w4.heap[g]? = w.heap[g]? := hb g hglt.2 (fun e => hgd.2 e.symm)
  have hne : ga ≠ g := by
    rcases hg with e | e
    · rw [e]; exact hgd.2
    · omega
  have hO3 := own_kept (w' := w4.setCell ⟨g, i * 21 + 12, none⟩ (.slice (some ⟨ga, 0, none⟩) (y.t.cst.length + 1) capa)) hO (fun j hj => hsame j (by simp [Value.ownBlock] at hj; omega))
  have hcap := own_cap hO (by omega)
  refine set_row h hy (pc := some ⟨ga, 0, none⟩) (cc := capa) (by omega) (fun k hk h1 h2 => (hsame k h1).trans (hb k hk h2)) (fun o ho => (World.cell?_setCell_other _ _ _ _ (fun e => by injection e with _ e; omega)).trans (cell_blk hgg)) (tk_put ((h.tk hy).same hgg) (by decide) (by simp [tkC])) ?_ (by simpa using hcap)
  rw [show uC y.t.cst ++ [Value.int .u64 z] = uC ((y.t.cst ++ [z]) ++ []) by simp [uC]] at hO3
  exact URow.of_own hO3 (by have := (hO.lt ga rfl).2; omega)
theorem fmV_set (f : Fm) (i : Nat) (t' : Tk) (p : Option Addr) (c : Nat) : fmV f p c = fmV { f with toks := f.toks.set i t' } p c := by
  have h : (f.toks.set i t').length = f.toks.length := List.length_set ..
  unfold fmV
  rw [h]
theorem set_ne {f : Fm} {i : Nat} {t t' : Tk} (ht : f.toks[i]? = some t) (hn : t' ≠ t) : ({ f with toks := f.toks.set i t' } : Fm) ≠ f := fun e => by
  have h := congrArg Fm.toks e
  have h2 : (f.toks.set i t')[i]? = f.toks[i]? := by rw [show f.toks.set i t' = f.toks from h]
  rw [ht, List.getElem?_set_self (List.getElem?_eq_some_iff.1 ht).1] at h2
  exact hn (Option.some.inj h2)
end Go.Proofs.Ytgobecedammlgaa
