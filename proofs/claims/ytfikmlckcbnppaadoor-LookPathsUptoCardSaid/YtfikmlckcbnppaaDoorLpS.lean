/- Package look's reader: step. -/
import Derived.Test.YtfikmlckcbnppaaDoorLpU
import Derived.Deep.MidRow
import Derived.Deep.WholeRow
namespace Go.Proofs.YtfikmlckcbnppaaDoor
open Go.ChangeShapes Go.WideShapes Go.ChangeAt Go.RowKit Go.Shelf

theorem wpList_ld {P : Program} {ops : Array Oper} {Q : Exit → Act → World → Prop} {a : Act} {w : World} {rest : List Oper} {o : Oper} (ty : TypeId) (x : Operand) (ho : o.op = .load ty x)
    (hw : Region.wanted o (yielded ops a.tmps) = true) (p v : Value) (hx : a.eval x = p) (hr : (Instr.loadAt ty p).run P w = .ok v w) (h : wpList P ops Q rest (a.put o.dst v) w) : wpList P ops Q (o :: rest) a w := by
  refine wpList_step fun K hK => ?_
  rw [if_pos hw]
  unfold Oper.wp execOp
  simp only [ho, hx, hr, Sem.run_bind, Result.andThen_ok]
  exact hK _ _ h
theorem wpList_st {P : Program} {ops : Array Oper} {Q : Exit → Act → World → Prop} {a : Act} {w w' : World} {rest : List Oper} {o : Oper} (ty : TypeId) (x y : Operand) (ho : o.op = .store ty x y)
    (hw : Region.wanted o (yielded ops a.tmps) = true) (p v : Value) (hx : a.eval x = p) (hy : a.eval y = v) (hr : (Instr.storeAt ty p v).run P w = .ok () w') (h : wpList P ops Q rest (a.put o.dst undef) w') : wpList P ops Q (o :: rest) a w := by
  refine wpList_step fun K hK => ?_
  rw [if_pos hw]
  unfold Oper.wp execOp
  simp only [ho, hx, hy, hr, Sem.run_bind, Result.andThen_ok]
  exact hK _ _ h
abbrev spC (x : ByteArray × Int) : Array Value := #[.string x.1, .int .i64 x.2]
abbrev spO (x : ByteArray × Int) : Obj := .cells (spC x) 46
abbrev spV (x : ByteArray × Int) : Value := .agg (spC x)
abbrev zSp : Obj := .cells #[.string ⟨#[]⟩, .int .i64 0] 46
theorem infoSp : (Tryd.prog.info? 46).map (·.size) = some 2 := by kernel_rfl
theorem undSp : ∃ d, Tryd.prog.underlying 46 = some d ∧ d.isRow = true := ⟨_, Tryd.underlying46, rfl⟩
theorem sp_one (x : ByteArray × Int) : (spC x).all (·.oneCell') = true := by simp [Value.oneCell']
theorem heap_al (w : World) (o : Obj) : (w.alloc o).heap[w.heap.size]? = some o := by show (w.heap.push o)[w.heap.size]? = _; rw [Array.getElem?_push, if_pos rfl]
theorem cell_at {w : World} {g : Nat} {cs : Array Value} {ty : TypeId} (h : w.heap[g]? = some (.cells cs ty)) (o : Nat) : w.cell? ⟨g, o, none⟩ = cs[o]? := by simp only [World.cell?, h]; rfl
theorem bel1 (w : World) (o : Obj) : Below w.heap.size w (w.alloc o) := (Below.refl _ _).alloc (Nat.le_refl _) _
theorem frz_at {W : World} {h i : Nat} {cs : Array Value} {ty : TypeId} (h1 : W.heap[h]? = some (.cells cs ty)) : W.frozen? ⟨h, i, none⟩ = false := by simp [World.frozen?, h1]
theorem set_at {W : World} {h i : Nat} {cs : Array Value} {ty : TypeId} (h1 : W.heap[h]? = some (.cells cs ty)) (v : Value) : (W.setCell ⟨h, i, none⟩ v).heap[h]? = some (.cells (cs.setIfInBounds i v) ty) := by
  show (W.heap.modify h _)[h]? = _
  rw [Array.getElem?_modify, if_pos rfl, h1]
  rfl
theorem set_off {W : World} {h i k : Nat} {v : Value} (hk : k ≠ h) : (W.setCell ⟨h, i, none⟩ v).heap[k]? = W.heap[k]? := by
  show (W.heap.modify h _)[k]? = _
  rw [Array.getElem?_modify, if_neg (Ne.symm hk)]
theorem sp_new (w : World) (z : Array Value) (hz : z.size = 2) (x : ByteArray × Int) : (Instr.storeAt 46 (.pointer (some ⟨w.heap.size, 0, none⟩)) (spV x)).run Tryd.prog (w.alloc (.cells z 46)) = .ok () (w.alloc (spO x)) :=
  run_storeAt_new w 46 z _ infoSp hz (sp_one x)
theorem sp_st {w : World} {b : Nat} {old : Array Value} (hb : w.heap[b]? = some (.cells old 46)) (ho : old.size = 2) (x : ByteArray × Int) : (Instr.storeAt 46 (.pointer (some ⟨b, 0, none⟩)) (spV x)).run Tryd.prog w = .ok () (w.setRow b (spC x)) := by
  simp only [Instr.storeAt, Instr.sureAddr, Sem.run_bind, Sem.run_pure, Result.andThen]
  exact run_storeVar_row _ _ _ _ _ _ hb infoSp (by rw [ho]; rfl) (sp_one x)
theorem sp_ld {w : World} {b : Nat} (x : ByteArray × Int) (hb : w.heap[b]? = some (spO x)) : (Instr.loadAt 46 (.pointer (some ⟨b, 0, none⟩))).run Tryd.prog w = .ok (spV x) w := by
  obtain ⟨d, hu, hd⟩ := undSp
  refine run_loadAt_mid w b 0 46 (spC x).toList d (fun j v hj => ?_) hu hd infoSp
  rw [Nat.zero_add, cell_at hb]
  simpa using hj
end Go.Proofs.YtfikmlckcbnppaaDoor
