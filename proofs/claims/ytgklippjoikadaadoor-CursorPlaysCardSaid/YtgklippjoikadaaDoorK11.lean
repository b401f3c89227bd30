/- CuT, CuF. -/
import Derived.Test.YtgklippjoikadaaDoorK09
import Derived.Test.YtgklippjoikadaaDoorK10
import Derived.Deep.MidRow
import Derived.Deep.WholeRow
import Derived.Deep.AppendLies
import Derived.Deep.AppendSrc
import Derived.Laws.AppendOwn
namespace Go.Proofs.YtgklippjoikadaaDoor
open Go.ChangeShapes Go.WideShapes Go.ChangeAt Go.RowKit

structure Sp where
  p : Int
  o : Int
structure Tk where
  op : Int
  name : ByteArray
  id : Int
  off : Int
  siz : Int
  since : Int
  prim : Int
  len : Int
  pres : Int
  nul : Int
  lo : Int
  hi : Int
  cst : List Int
  val : Int
  blk : Int
  full : Int
  a : Sp
  b : Sp
  pair : Int
structure Fm where
  ord : Int
  sch : Int
  ver : Int
  hsz : Int
  hb : Sp
  ht : Sp
  hs : Sp
  hv : Sp
  toks : List Tk
abbrev spV (s : Sp) : Value := .agg #[.int .i64 s.p, .int .i64 s.o]
def i64ok (x : Int) : Prop := -9223372036854775808 ≤ x ∧ x ≤ 9223372036854775807
def u64ok (x : Int) : Prop := 0 ≤ x ∧ x ≤ 18446744073709551615
theorem heap_al (w : World) (o : Obj) : (w.alloc o).heap[w.heap.size]? = some o := by show (w.heap.push o)[w.heap.size]? = _; rw [Array.getElem?_push, if_pos rfl]
theorem cell_at {w : World} {g : Nat} {cs : Array Value} {ty : TypeId} (h : w.heap[g]? = some (.cells cs ty)) (o : Nat) : w.cell? ⟨g, o, none⟩ = cs[o]? := by simp only [World.cell?, h]; rfl
theorem beq_ba {a b : ByteArray} (h : a ≠ b) : (a.toList == b.toList) = false :=
  beq_eq_false_iff_ne.2 fun e => h (by
    rw [ByteArray.toList_eq, ByteArray.toList_eq] at e
    exact ByteArray.ext (Array.toList_inj.1 e))
/-- A token as a value; its words lie somewhere. -/
abbrev tkV (t : Tk) (pc : Option Addr) (cc : Nat) : Value := .agg #[.int .i64 t.op, .string t.name, .int .i64 t.id, .int .i64 t.off, .int .i64 t.siz, .int .i64 t.since, .int .i64 t.prim, .int .i64 t.len, .int .i64 t.pres, .int .u64 t.nul, .int .u64 t.lo, .int .u64 t.hi, .slice pc t.cst.length cc, .int .u64 t.val, .int .i64 t.blk, .int .i64 t.full, .int .i64 t.a.p, .int .i64 t.a.o, .int .i64 t.b.p, .int .i64 t.b.o, .int .i64 t.pair]
def tkC (t : Tk) (pc : Option Addr) (cc : Nat) : List Value := [.int .i64 t.op, .string t.name, .int .i64 t.id, .int .i64 t.off, .int .i64 t.siz, .int .i64 t.since, .int .i64 t.prim, .int .i64 t.len, .int .i64 t.pres, .int .u64 t.nul, .int .u64 t.lo, .int .u64 t.hi, .slice pc t.cst.length cc, .int .u64 t.val, .int .i64 t.blk, .int .i64 t.full, .int .i64 t.a.p, .int .i64 t.a.o, .int .i64 t.b.p, .int .i64 t.b.o, .int .i64 t.pair]
/-- Words in memory. -/
structure URow (w : World) (p : Option Addr) (H : Nat) (l : List Int) : Prop where
  c : ∀ (i : Nat) (t : Int), l[i]? = some t → ∃ g o, p = some ⟨g, o, none⟩ ∧ g < H ∧ w.cell? ⟨g, o + i, none⟩ = some (.int .u64 t)
theorem cell_blk {w w' : World} {g o : Nat} (hb : w'.heap[g]? = w.heap[g]?) : w'.cell? ⟨g, o, none⟩ = w.cell? ⟨g, o, none⟩ := by simp only [World.cell?, hb]
theorem URow.same {w w' : World} {p : Option Addr} {H : Nat} {l : List Int} (h : URow w p H l) (hb : ∀ k, k < H → w'.heap[k]? = w.heap[k]?) : URow w' p H l :=
  ⟨fun i t ht => by
    obtain ⟨g, o, e, hg, h0⟩ := h.c i t ht
    exact ⟨g, o, e, hg, (cell_blk (hb g hg)).trans h0⟩⟩
theorem URow.mono {w : World} {p : Option Addr} {H H' : Nat} {l : List Int} (h : URow w p H l) (hH : H ≤ H') : URow w p H' l :=
  ⟨fun i t ht => by obtain ⟨g, o, e, hg, r⟩ := h.c i t ht; exact ⟨g, o, e, by omega, r⟩⟩
theorem URow.below {w w' : World} {p : Option Addr} {H : Nat} {l : List Int} (h : URow w p H l) (hb : Below H w w') : URow w' p H l := h.same fun k hk => hb.block k hk
theorem URow.nil (w : World) (p : Option Addr) (H : Nat) : URow w p H [] := ⟨fun i t ht => by cases ht⟩
/-- A token's cells in memory. -/
structure TkC (w : World) (g o : Nat) (t : Tk) (pc : Option Addr) (cc : Nat) : Prop where
  c0 : w.cell? ⟨g, o, none⟩ = some (.int .i64 t.op)
  c1 : w.cell? ⟨g, o + 1, none⟩ = some (.string t.name)
  c2 : w.cell? ⟨g, o + 2, none⟩ = some (.int .i64 t.id)
  c3 : w.cell? ⟨g, o + 3, none⟩ = some (.int .i64 t.off)
  c4 : w.cell? ⟨g, o + 4, none⟩ = some (.int .i64 t.siz)
  c5 : w.cell? ⟨g, o + 5, none⟩ = some (.int .i64 t.since)
  c6 : w.cell? ⟨g, o + 6, none⟩ = some (.int .i64 t.prim)
  c7 : w.cell? ⟨g, o + 7, none⟩ = some (.int .i64 t.len)
  c8 : w.cell? ⟨g, o + 8, none⟩ = some (.int .i64 t.pres)
  c9 : w.cell? ⟨g, o + 9, none⟩ = some (.int .u64 t.nul)
  c10 : w.cell? ⟨g, o + 10, none⟩ = some (.int .u64 t.lo)
  c11 : w.cell? ⟨g, o + 11, none⟩ = some (.int .u64 t.hi)
  c12 : w.cell? ⟨g, o + 12, none⟩ = some (.slice pc t.cst.length cc)
  c13 : w.cell? ⟨g, o + 13, none⟩ = some (.int .u64 t.val)
  c14 : w.cell? ⟨g, o + 14, none⟩ = some (.int .i64 t.blk)
  c15 : w.cell? ⟨g, o + 15, none⟩ = some (.int .i64 t.full)
  c16 : w.cell? ⟨g, o + 16, none⟩ = some (.int .i64 t.a.p)
  c17 : w.cell? ⟨g, o + 17, none⟩ = some (.int .i64 t.a.o)
  c18 : w.cell? ⟨g, o + 18, none⟩ = some (.int .i64 t.b.p)
  c19 : w.cell? ⟨g, o + 19, none⟩ = some (.int .i64 t.b.o)
  c20 : w.cell? ⟨g, o + 20, none⟩ = some (.int .i64 t.pair)
theorem TkC.same {w w' : World} {g o : Nat} {t : Tk} {pc : Option Addr} {cc : Nat} (h : TkC w g o t pc cc) (hb : w'.heap[g]? = w.heap[g]?) : TkC w' g o t pc cc :=
  ⟨(cell_blk hb).trans h.c0, (cell_blk hb).trans h.c1, (cell_blk hb).trans h.c2, (cell_blk hb).trans h.c3, (cell_blk hb).trans h.c4, (cell_blk hb).trans h.c5, (cell_blk hb).trans h.c6, (cell_blk hb).trans h.c7, (cell_blk hb).trans h.c8, (cell_blk hb).trans h.c9, (cell_blk hb).trans h.c10, (cell_blk hb).trans h.c11, (cell_blk hb).trans h.c12, (cell_blk hb).trans h.c13, (cell_blk hb).trans h.c14, (cell_blk hb).trans h.c15, (cell_blk hb).trans h.c16, (cell_blk hb).trans h.c17, (cell_blk hb).trans h.c18, (cell_blk hb).trans h.c19, (cell_blk hb).trans h.c20⟩
theorem tkC_of {w : World} {g o : Nat} {t : Tk} {pc : Option Addr} {cc : Nat} (h : ∀ (j : Nat) (u : Value), (tkC t pc cc)[j]? = some u → w.cell? ⟨g, o + j, none⟩ = some u) : TkC w g o t pc cc :=
  ⟨h 0 _ rfl, h 1 _ rfl, h 2 _ rfl, h 3 _ rfl, h 4 _ rfl, h 5 _ rfl, h 6 _ rfl, h 7 _ rfl, h 8 _ rfl, h 9 _ rfl, h 10 _ rfl, h 11 _ rfl, h 12 _ rfl, h 13 _ rfl, h 14 _ rfl, h 15 _ rfl, h 16 _ rfl, h 17 _ rfl, h 18 _ rfl, h 19 _ rfl, h 20 _ rfl⟩
/-- Tokens in memory, ahead of block H. -/
structure TkRow (w : World) (pp : Option Addr) (H : Nat) (l : List Tk) : Prop where
  c : ∀ (i : Nat) (t : Tk), l[i]? = some t → ∃ g o pc cc, pp = some ⟨g, o, none⟩ ∧ g < H ∧ TkC w g (o + i * 21) t pc cc ∧ URow w pc H t.cst ∧ t.cst.length ≤ cc
theorem TkRow.same {w w' : World} {pp : Option Addr} {H : Nat} {l : List Tk} (h : TkRow w pp H l) (hb : ∀ k, k < H → w'.heap[k]? = w.heap[k]?) : TkRow w' pp H l :=
  ⟨fun i t ht => by
    obtain ⟨g, o, pc, cc, e, hg, h0, h1, h2⟩ := h.c i t ht
    exact ⟨g, o, pc, cc, e, hg, h0.same (hb g hg), h1.same hb, h2⟩⟩
theorem TkRow.below {w w' : World} {pp : Option Addr} {H : Nat} {l : List Tk} (h : TkRow w pp H l) (hb : Below H w w') : TkRow w' pp H l := h.same fun k hk => hb.block k hk
theorem TkRow.mono {w : World} {pp : Option Addr} {H H' : Nat} {l : List Tk} (h : TkRow w pp H l) (hH : H ≤ H') : TkRow w pp H' l :=
  ⟨fun i t ht => by obtain ⟨g, o, pc, cc, e, hg, h0, h1, h2⟩ := h.c i t ht; exact ⟨g, o, pc, cc, e, by omega, h0, h1.mono hH, h2⟩⟩
/-- Of numbers that fit. -/
structure TkOk (t : Tk) : Prop where
  op : i64ok t.op
  name : t.name.size ≤ 281474976710656
  id : i64ok t.id
  off : i64ok t.off
  siz : i64ok t.siz
  since : i64ok t.since
  prim : i64ok t.prim
  len : i64ok t.len
  pres : i64ok t.pres
  nul : u64ok t.nul
  lo : u64ok t.lo
  hi : u64ok t.hi
  cst : t.cst.length * 8 ≤ 140737488355328
  cs : ∀ x ∈ t.cst, u64ok x
  val : u64ok t.val
  blk : i64ok t.blk
  full : i64ok t.full
  ap : i64ok t.a.p
  ao : i64ok t.a.o
  bp : i64ok t.b.p
  bo : i64ok t.b.o
  pair : i64ok t.pair
/-- Tokens as they are handed over. -/
structure TkL (w : World) (pp : Option Addr) (H : Nat) (l : List Tk) : Prop where
  row : TkRow w pp H l
  len : l.length * 192 ≤ 140737488355328
  ok : ∀ t ∈ l, TkOk t
theorem TkL.below {w w' : World} {pp : Option Addr} {H : Nat} {l : List Tk} (h : TkL w pp H l) (hb : Below H w w') : TkL w' pp H l := ⟨h.row.below hb, h.len, h.ok⟩
theorem TkL.mono {w : World} {pp : Option Addr} {H H' : Nat} {l : List Tk} (h : TkL w pp H l) (hH : H ≤ H') : TkL w pp H' l := ⟨h.row.mono hH, h.len, h.ok⟩
theorem TkL.at {w : World} {pp : Option Addr} {H : Nat} {l : List Tk} (h : TkL w pp H l) {i : Nat} {t : Tk} (hi : l[i]? = some t) : ∃ g o pc cc, pp = some ⟨g, o, none⟩ ∧ g < H ∧ TkC w g (o + i * 21) t pc cc ∧ URow w pc H t.cst ∧ t.cst.length ≤ cc ∧ TkOk t := by
  obtain ⟨g, o, pc, cc, e, hg, h0, h1, h2⟩ := h.row.c i t hi
  exact ⟨g, o, pc, cc, e, hg, h0, h1, h2, h.ok t (List.mem_of_getElem? hi)⟩
/-- A form as a value. -/
abbrev fmV (f : Fm) (pp : Option Addr) (cp : Nat) : Value := .agg #[.int .i64 f.ord, .int .i64 f.sch, .int .i64 f.ver, .int .i64 f.hsz, .int .i64 f.hb.p, .int .i64 f.hb.o, .int .i64 f.ht.p, .int .i64 f.ht.o, .int .i64 f.hs.p, .int .i64 f.hs.o, .int .i64 f.hv.p, .int .i64 f.hv.o, .slice pp f.toks.length cp]
/-- A form's cells in memory. -/
structure FmC (w : World) (g o : Nat) (f : Fm) (pp : Option Addr) (cp : Nat) : Prop where
  c0 : w.cell? ⟨g, o, none⟩ = some (.int .i64 f.ord)
  c1 : w.cell? ⟨g, o + 1, none⟩ = some (.int .i64 f.sch)
  c2 : w.cell? ⟨g, o + 2, none⟩ = some (.int .i64 f.ver)
  c3 : w.cell? ⟨g, o + 3, none⟩ = some (.int .i64 f.hsz)
  c4 : w.cell? ⟨g, o + 4, none⟩ = some (.int .i64 f.hb.p)
  c5 : w.cell? ⟨g, o + 5, none⟩ = some (.int .i64 f.hb.o)
  c6 : w.cell? ⟨g, o + 6, none⟩ = some (.int .i64 f.ht.p)
  c7 : w.cell? ⟨g, o + 7, none⟩ = some (.int .i64 f.ht.o)
  c8 : w.cell? ⟨g, o + 8, none⟩ = some (.int .i64 f.hs.p)
  c9 : w.cell? ⟨g, o + 9, none⟩ = some (.int .i64 f.hs.o)
  c10 : w.cell? ⟨g, o + 10, none⟩ = some (.int .i64 f.hv.p)
  c11 : w.cell? ⟨g, o + 11, none⟩ = some (.int .i64 f.hv.o)
  c12 : w.cell? ⟨g, o + 12, none⟩ = some (.slice pp f.toks.length cp)
theorem FmC.same {w w' : World} {g o : Nat} {f : Fm} {pp : Option Addr} {cp : Nat} (h : FmC w g o f pp cp) (hb : w'.heap[g]? = w.heap[g]?) : FmC w' g o f pp cp :=
  ⟨(cell_blk hb).trans h.c0, (cell_blk hb).trans h.c1, (cell_blk hb).trans h.c2, (cell_blk hb).trans h.c3, (cell_blk hb).trans h.c4, (cell_blk hb).trans h.c5, (cell_blk hb).trans h.c6, (cell_blk hb).trans h.c7, (cell_blk hb).trans h.c8, (cell_blk hb).trans h.c9, (cell_blk hb).trans h.c10, (cell_blk hb).trans h.c11, (cell_blk hb).trans h.c12⟩
theorem FmC.below {w w' : World} {g o B : Nat} {f : Fm} {pp : Option Addr} {cp : Nat} (h : FmC w g o f pp cp) (hg : g < B) (hb : Below B w w') : FmC w' g o f pp cp := h.same (hb.block g hg)
theorem TkC.below {w w' : World} {g o B : Nat} {t : Tk} {pc : Option Addr} {cc : Nat} (h : TkC w g o t pc cc) (hg : g < B) (hb : Below B w w') : TkC w' g o t pc cc := h.same (hb.block g hg)
structure SpOk (s : Sp) : Prop where
  p : i64ok s.p
  o : i64ok s.o
/-- Numbers that fit. -/
structure FmOk (f : Fm) : Prop where
  ord : i64ok f.ord
  sch : i64ok f.sch
  ver : i64ok f.ver
  hsz : i64ok f.hsz
  hb : SpOk f.hb
  ht : SpOk f.ht
  hs : SpOk f.hs
  hv : SpOk f.hv
theorem two_1 (w : World) (A B : Obj) : ((w.alloc A).alloc B).heap[w.heap.size]? = some A := by
  show ((w.heap.push A).push B)[w.heap.size]? = _
  rw [Array.getElem?_push, if_neg (by simp), Array.getElem?_push, if_pos rfl]
theorem two_2 (w : World) (A B : Obj) : ((w.alloc A).alloc B).heap[w.heap.size + 1]? = some B := by
  show ((w.heap.push A).push B)[w.heap.size + 1]? = _
  rw [Array.getElem?_push, if_pos (by simp)]
abbrev tkO (t : Tk) (pc : Option Addr) (cc : Nat) : Obj := .cells (tkC t pc cc).toArray 48
theorem tk_of {w : World} {g : Nat} {t : Tk} {pc : Option Addr} {cc : Nat} (h : w.heap[g]? = some (tkO t pc cc)) : TkC w g 0 t pc cc :=
  tkC_of fun j u hu => by
    rw [Nat.zero_add, cell_at h j, List.getElem?_toArray]
    exact hu
/-- A load of something great, by what it answers. -/
theorem wpList_ld {P : Program} {ops : Array Oper} {Q : Exit → Act → World → Prop} {a : Act} {w : World} {rest : List Oper} {o : Oper} (ty : TypeId) (x : Operand) (ho : o.op = .load ty x)
    (hw : Region.wanted o (yielded ops a.tmps) = true) (p v : Value) (hx : a.eval x = p) (hr : (Instr.loadAt ty p).run P w = .ok v w) (h : wpList P ops Q rest (a.put o.dst v) w) : wpList P ops Q (o :: rest) a w := by
  refine wpList_step fun K hK => ?_
  rw [if_pos hw]
  unfold Oper.wp execOp
  simp only [ho, hx, hr, Sem.run_bind, Result.andThen_ok]
  exact hK _ _ h
theorem tk_range {w : World} {g o : Nat} {t : Tk} {pc : Option Addr} {cc : Nat} (h : TkC w g o t pc cc) : w.rangeAt g o (tkC t pc cc) := by
  intro j v hv
  have hj : j < 21 := (List.getElem?_eq_some_iff.1 hv).1
  have h21 : j = 0 ∨ j = 1 ∨ j = 2 ∨ j = 3 ∨ j = 4 ∨ j = 5 ∨ j = 6 ∨ j = 7 ∨ j = 8 ∨ j = 9 ∨ j = 10 ∨ j = 11 ∨ j = 12 ∨ j = 13 ∨ j = 14 ∨ j = 15 ∨ j = 16 ∨ j = 17 ∨ j = 18 ∨ j = 19 ∨ j = 20 := by omega
  rcases h21 with rfl | rfl | rfl | rfl | rfl | rfl | rfl | rfl | rfl | rfl | rfl | rfl | rfl | rfl | rfl | rfl | rfl | rfl | rfl | rfl | rfl <;> cases Option.some.inj hv
  · exact h.c0
  · exact h.c1
  · exact h.c2
  · exact h.c3
  · exact h.c4
  · exact h.c5
  · exact h.c6
  · exact h.c7
  · exact h.c8
  · exact h.c9
  · exact h.c10
  · exact h.c11
  · exact h.c12
  · exact h.c13
  · exact h.c14
  · exact h.c15
  · exact h.c16
  · exact h.c17
  · exact h.c18
  · exact h.c19
  · exact h.c20
theorem infoTk : (Tryd.prog.info? 48).map (·.size) = some 21 := by kernel_rfl
theorem undTk : ∃ d, Tryd.prog.underlying 48 = some d ∧ d.isRow = true := ⟨_, Tryd.underlying48, rfl⟩
theorem TkC.loadV {w : World} {g o : Nat} {t : Tk} {pc : Option Addr} {cc : Nat} (h : TkC w g o t pc cc) : (loadVar 48 ⟨g, o, none⟩).run Tryd.prog w = .ok (tkV t pc cc) w := by
  obtain ⟨d, hu, hd⟩ := undTk
  exact run_loadVar_mid w g o 48 (tkC t pc cc) d (tk_range h) hu hd infoTk
theorem TkC.load {w : World} {g o : Nat} {t : Tk} {pc : Option Addr} {cc : Nat} (h : TkC w g o t pc cc) : (Instr.loadAt 48 (.pointer (some ⟨g, o, none⟩))).run Tryd.prog w = .ok (tkV t pc cc) w := by
  obtain ⟨d, hu, hd⟩ := undTk
  exact run_loadAt_mid w g o 48 (tkC t pc cc) d (tk_range h) hu hd infoTk
/-- A store of something great. -/
theorem wpList_st {P : Program} {ops : Array Oper} {Q : Exit → Act → World → Prop} {a : Act} {w w' : World} {rest : List Oper} {o : Oper} (ty : TypeId) (x y : Operand) (ho : o.op = .store ty x y)
    (hw : Region.wanted o (yielded ops a.tmps) = true) (p v : Value) (hx : a.eval x = p) (hy : a.eval y = v) (hr : (Instr.storeAt ty p v).run P w = .ok () w') (h : wpList P ops Q rest (a.put o.dst undef) w') : wpList P ops Q (o :: rest) a w := by
  refine wpList_step fun K hK => ?_
  rw [if_pos hw]
  unfold Oper.wp execOp
  simp only [ho, hx, hy, hr, Sem.run_bind, Result.andThen_ok]
  exact hK _ _ h
theorem tkC_one (t : Tk) (pc : Option Addr) (cc : Nat) : ∀ u ∈ tkC t pc cc, u.oneCell' = true := by
  intro u hu
  simp only [tkC, List.mem_cons, List.not_mem_nil, or_false] at hu
  rcases hu with rfl | rfl | rfl | rfl | rfl | rfl | rfl | rfl | rfl | rfl | rfl | rfl | rfl | rfl | rfl | rfl | rfl | rfl | rfl | rfl | rfl <;> rfl
theorem st_new (w : World) (z : Array Value) (hz : z.size = 21) (t : Tk) (pc : Option Addr) (cc : Nat) : (Instr.storeAt 48 (.pointer (some ⟨w.heap.size, 0, none⟩)) (tkV t pc cc)).run Tryd.prog (w.alloc (.cells z 48)) = .ok () (w.alloc (tkO t pc cc)) :=
  run_storeAt_new w 48 z (tkC t pc cc).toArray infoTk hz (all_oneCell_toArray (tkC_one t pc cc))
end Go.Proofs.YtgklippjoikadaaDoor
namespace Go.Proofs.YtgklippjoikadaaDoor
open Go.ChangeShapes Go.WideShapes Go.ChangeAt Go.RowKit

/-- Where the numbers of a header stand. -/
structure Hd where
  size : Int
  b : Sp
  t : Sp
  s : Sp
  v : Sp
abbrev hdV (h : Hd) : Value := .agg #[.int .i64 h.size, .int .i64 h.b.p, .int .i64 h.b.o, .int .i64 h.t.p, .int .i64 h.t.o, .int .i64 h.s.p, .int .i64 h.s.o, .int .i64 h.v.p, .int .i64 h.v.o]
def hdS (h : Hd) : List (Int × Int) := [(h.b.p, h.b.o), (h.t.p, h.t.o), (h.s.p, h.s.o), (h.v.p, h.v.o)]
def headG (h : Hd) : Bool := goods h.size (hdS h)
def dimG (t : Tk) : Bool := decide (t.op = 4) && goods t.siz [(t.a.p, t.a.o), (t.b.p, t.b.o)]
def lenG (t : Tk) : Bool := decide (t.op = 6) && goods t.siz [(t.a.p, t.a.o)]
theorem sp_new (w : World) (l : List (Int × Int)) (cs : Array Value) (ty : TypeId) (h : ∀ i s, l[i]? = some s → cs[i * 2]? = some (.int .i64 s.1) ∧ cs[i * 2 + 1]? = some (.int .i64 s.2)) : SpRow (w.alloc (.cells cs ty)) w.heap.size l :=
  ⟨by simp, fun i s hs => (cell_at (heap_al _ _) _).trans (h i s hs).1, fun i s hs => (cell_at (heap_al _ _) _).trans (h i s hs).2⟩
theorem sp_new4 (w : World) (a b c d : Int × Int) (ty : TypeId) : SpRow (w.alloc (.cells #[.int .i64 a.1, .int .i64 a.2, .int .i64 b.1, .int .i64 b.2, .int .i64 c.1, .int .i64 c.2, .int .i64 d.1, .int .i64 d.2] ty)) w.heap.size [a, b, c, d] :=
  sp_new w _ _ ty fun i s hs => by
    have hi : i < 4 := (List.getElem?_eq_some_iff.1 hs).1
    have : i = 0 ∨ i = 1 ∨ i = 2 ∨ i = 3 := by omega
    rcases this with rfl | rfl | rfl | rfl <;> cases Option.some.inj hs <;> exact ⟨rfl, rfl⟩
theorem sp_new2 (w : World) (a b : Int × Int) (ty : TypeId) : SpRow (w.alloc (.cells #[.int .i64 a.1, .int .i64 a.2, .int .i64 b.1, .int .i64 b.2] ty)) w.heap.size [a, b] :=
  sp_new w _ _ ty fun i s hs => by
    have hi : i < 2 := (List.getElem?_eq_some_iff.1 hs).1
    have : i = 0 ∨ i = 1 := by omega
    rcases this with rfl | rfl <;> cases Option.some.inj hs <;> exact ⟨rfl, rfl⟩
theorem sp_new1 (w : World) (a : Int × Int) (ty : TypeId) : SpRow (w.alloc (.cells #[.int .i64 a.1, .int .i64 a.2] ty)) w.heap.size [a] :=
  sp_new w _ _ ty fun i s hs => by
    have hi : i < 1 := (List.getElem?_eq_some_iff.1 hs).1
    have : i = 0 := by omega
    subst this
    cases Option.some.inj hs
    exact ⟨rfl, rfl⟩
theorem sp_new4' {w : World} {a b c d : Int × Int} {ty : TypeId} {g : Nat} (hg : w.heap.size = g) : SpRow (w.alloc (.cells #[.int .i64 a.1, .int .i64 a.2, .int .i64 b.1, .int .i64 b.2, .int .i64 c.1, .int .i64 c.2, .int .i64 d.1, .int .i64 d.2] ty)) g [a, b, c, d] := hg ▸ sp_new4 w a b c d ty
theorem sp_new2' {w : World} {a b : Int × Int} {ty : TypeId} {g : Nat} (hg : w.heap.size = g) : SpRow (w.alloc (.cells #[.int .i64 a.1, .int .i64 a.2, .int .i64 b.1, .int .i64 b.2] ty)) g [a, b] := hg ▸ sp_new2 w a b ty
theorem sp_new1' {w : World} {a : Int × Int} {ty : TypeId} {g : Nat} (hg : w.heap.size = g) : SpRow (w.alloc (.cells #[.int .i64 a.1, .int .i64 a.2] ty)) g [a] := hg ▸ sp_new1 w a ty
theorem bel2 (w : World) (a b : Obj) : Below w.heap.size w ((w.alloc a).alloc b) := (bel1 w a).trans ((bel1 (w.alloc a) b).mono (bel1 w a).size)
theorem belT {a b d : World} (h1 : Below a.heap.size a b) (h2 : Below b.heap.size b d) : Below a.heap.size a d := h1.trans (h2.mono h1.size)
theorem isHead_any (h : Hd) (w : World) (kt : KT w) : Calls Tryd.prog 36 #[hdV h] w fun e w' => e = .returned (.bool (headG h)) ∧ Below w.heap.size w w' := by
  have G := fun W (hW : Below w.heap.size w W) b (hs : SpRow W b (hdS h)) => areGood_any h.size b 4 (hdS h) W (kt.below kt.pos hW) hs (by simp [hdS])
  have hl : (hdS h).length = 4 := rfl
  rw [hl] at G
  go_enter Tryd.func36, Tryd.ntmps36
  go_wp2_with (go_at_call 62; refine (G _ (bel2 _ _ _) (w.heap.size + 1) (sp_new4' (by simp))).mono ?_; rintro e w1 ⟨rfl, hb1⟩)
  go_ret
  exact ⟨rfl, belT (bel2 _ _ _) hb1⟩
abbrev tkA (t : Tk) (pc : Option Addr) (cc : Nat) : Array Value := (tkC t pc cc).toArray
theorem isDim_any (t : Tk) (pc : Option Addr) (cc : Nat) (w : World) (kt : KT w) : Calls Tryd.prog 43 #[tkV t pc cc] w fun e w' => e = .returned (.bool (dimG t)) ∧ Below w.heap.size w w' := by
  unfold dimG
  by_cases h4 : t.op = 4
  · rw [decide_eq_true h4, Bool.true_and]
    have d4 : (t.op == 4) = true := by simp [h4]
    clear h4
    have G := fun W (hW : Below w.heap.size w W) b (hs : SpRow W b [(t.a.p, t.a.o), (t.b.p, t.b.o)]) => areGood_any t.siz b 2 [(t.a.p, t.a.o), (t.b.p, t.b.o)] W (kt.below kt.pos hW) hs (by simp)
    have hl : [(t.a.p, t.a.o), (t.b.p, t.b.o)].length = 2 := rfl
    rw [hl] at G
    go_enter Tryd.func43, Tryd.ntmps43
    go_wp2_with (go_at_call 62; refine (G _ (bel2 _ _ _) (w.heap.size + 1) (sp_new2' (by simp))).mono ?_; rintro e w1 ⟨rfl, hb1⟩)
    go_ret
    exact ⟨rfl, belT (bel2 _ _ _) hb1⟩
  · rw [decide_eq_false h4, Bool.false_and]
    have d4 : (t.op == 4) = false := by simpa using h4
    clear h4
    go_enter Tryd.func43, Tryd.ntmps43
    go_wp2_with fail
    go_ret
    exact ⟨rfl, bel1 _ _⟩
theorem isLen_any (t : Tk) (pc : Option Addr) (cc : Nat) (w : World) (kt : KT w) : Calls Tryd.prog 44 #[tkV t pc cc] w fun e w' => e = .returned (.bool (lenG t)) ∧ Below w.heap.size w w' := by
  unfold lenG
  by_cases h4 : t.op = 6
  · rw [decide_eq_true h4, Bool.true_and]
    have d4 : (t.op == 6) = true := by simp [h4]
    clear h4
    have G := fun W (hW : Below w.heap.size w W) b (hs : SpRow W b [(t.a.p, t.a.o)]) => areGood_any t.siz b 1 [(t.a.p, t.a.o)] W (kt.below kt.pos hW) hs (by simp)
    have hl : [(t.a.p, t.a.o)].length = 1 := rfl
    rw [hl] at G
    go_enter Tryd.func44, Tryd.ntmps44
    go_wp2_with (go_at_call 62; refine (G _ (bel2 _ _ _) (w.heap.size + 1) (sp_new1' (by simp))).mono ?_; rintro e w1 ⟨rfl, hb1⟩)
    go_ret
    exact ⟨rfl, belT (bel2 _ _ _) hb1⟩
  · rw [decide_eq_false h4, Bool.false_and]
    have d4 : (t.op == 6) = false := by simpa using h4
    clear h4
    go_enter Tryd.func44, Tryd.ntmps44
    go_wp2_with fail
    go_ret
    exact ⟨rfl, bel1 _ _⟩
end Go.Proofs.YtgklippjoikadaaDoor
