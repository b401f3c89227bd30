/- A token loaded as a whole. -/
import Derived.Test.YtgobecedammlgaaJSn
import Derived.Test.YtgobecedammlgaaILex
import Derived.Deep.MidRow
namespace Go.Proofs.Ytgobecedammlgaa
open Go.ChangeShapes Go.WideShapes Go.ChangeAt Go.RowKit

theorem two_1 (w : World) (A B : Obj) : ((w.alloc A).alloc B).heap[w.heap.size]? = some A := by
  show ((w.heap.push A).push B)[w.heap.size]? = _
  rw [Array.getElem?_push, if_neg (by simp), Array.getElem?_push, if_pos rfl]
theorem two_2 (w : World) (A B : Obj) : ((w.alloc A).alloc B).heap[w.heap.size + 1]? = some B := by
  show ((w.heap.push A).push B)[w.heap.size + 1]? = _
  rw [Array.getElem?_push, if_pos (by simp)]
theorem tk_of {w : World} {g : Nat} {t : Tk} {pc : Option Addr} {cc : Nat} (h : w.heap[g]? = some (tkO t pc cc)) : TkC w g 0 t pc cc :=
  tkC_of fun j u hu => by
    rw [Nat.zero_add, cell_at h j, List.getElem?_toArray]
    exact hu
/-- A load of something great, by what it answers. -/
theorem wpList_ld {P : Program} {ops : Array Oper} {Q : Exit → Act → World → Prop} {a : Act} {w : World} {rest : List Oper} {o : Oper} (ty : TypeId) (x : Operand) (ho : o.op = .load ty x)
    (hw : Region.wanted o (yielded ops a.tmps) = true) (p v : Value) (hx : a.eval x = p) (hr : (Instr.loadAt ty p).run P w = .ok v w) (h : wpList P ops Q rest (a.put o.dst v) w) : wpList P ops Q (o :: rest) a w := by
  refine wpList_step fun K hK => ?_
  rw [if_pos hw]
  unfold Oper.wp execOp
  simp only [ho, hx, hr, Sem.run_bind, Result.andThen_ok]
  exact hK _ _ h
theorem tk_range {w : World} {g o : Nat} {t : Tk} {pc : Option Addr} {cc : Nat} (h : TkC w g o t pc cc) : w.rangeAt g o (tkC t pc cc) := by
  intro j v hv
  have hj : j < 21 := (List.getElem?_eq_some_iff.1 hv).1
  have h21 : j = 0 ∨ j = 1 ∨ j = 2 ∨ j = 3 ∨ j = 4 ∨ j = 5 ∨ j = 6 ∨ j = 7 ∨ j = 8 ∨ j = 9 ∨ j = 10 ∨ j = 11 ∨ j = 12 ∨ j = 13 ∨ j = 14 ∨ j = 15 ∨ j = 16 ∨ j = 17 ∨ j = 18 ∨ j = 19 ∨ j = 20 := by omega
  rcases h21 with rfl | rfl | rfl | rfl | rfl | rfl | rfl | rfl | rfl | rfl | rfl | rfl | rfl | rfl | rfl | rfl | rfl | rfl | rfl | rfl | rfl <;> cases Option.some.inj hv
  · exact h.c0
  · exact h.c1
  · exact h.c2
  · exact h.c3
  · exact h.c4
  · exact h.c5
  · exact h.c6
  · exact h.c7
  · exact h.c8
  · exact h.c9
  · exact h.c10
  · exact h.c11
  · exact h.c12
  · exact h.c13
  · exact h.c14
  · exact h.c15
  · exact h.c16
  · exact h.c17
  · exact h.c18
  · exact h.c19
  · exact h.c20
theorem infoTk : (Try.prog.info? 38).map (·.size) = some 21 := by kernel_rfl
theorem undTk : ∃ d, Try.prog.underlying 38 = some d ∧ d.isRow = true := ⟨_, Try.underlying38, rfl⟩
theorem TkC.loadV {w : World} {g o : Nat} {t : Tk} {pc : Option Addr} {cc : Nat} (h : TkC w g o t pc cc) : (loadVar 38 ⟨g, o, none⟩).run Try.prog w = .ok (tkV t pc cc) w := by
  obtain ⟨d, hu, hd⟩ := undTk
  exact run_loadVar_mid w g o 38 (tkC t pc cc) d (tk_range h) hu hd infoTk
theorem TkC.load {w : World} {g o : Nat} {t : Tk} {pc : Option Addr} {cc : Nat} (h : TkC w g o t pc cc) : (Instr.loadAt 38 (.pointer (some ⟨g, o, none⟩))).run Try.prog w = .ok (tkV t pc cc) w := by
  obtain ⟨d, hu, hd⟩ := undTk
  exact run_loadAt_mid w g o 38 (tkC t pc cc) d (tk_range h) hu hd infoTk
theorem tk_ext {t u : Tk} (h1 : t.op = u.op) (h2 : t.name = u.name) (h3 : t.id = u.id) (h4 : t.since = u.since) (h5 : t.pair = u.pair) (hp : t.off = u.off ∧ t.siz = u.siz ∧ t.blk = u.blk ∧ t.full = u.full ∧ t.a = u.a ∧ t.b = u.b) (hv : t.prim = u.prim ∧ t.len = u.len ∧ t.pres = u.pres ∧ t.nul = u.nul ∧ t.lo = u.lo ∧ t.hi = u.hi ∧ t.val = u.val ∧ t.cst = u.cst) : t = u := by
  obtain ⟨p1, p2, p3, p4, p5, p6⟩ := hp
  obtain ⟨v1, v2, v3, v4, v5, v6, v7, v8⟩ := hv
  cases t; cases u
  simp only at h1 h2 h3 h4 h5 p1 p2 p3 p4 p5 p6 v1 v2 v3 v4 v5 v6 v7 v8
  subst h1 h2 h3 h4 h5 p1 p2 p3 p4 p5 p6 v1 v2 v3 v4 v5 v6 v7 v8
  rfl
end Go.Proofs.Ytgobecedammlgaa
