/- Tokens in memory, where the seat has no ir.Check. -/
import Derived.Test.YtfhphjgcmbneeaaDoorCuE
import Derived.Test.YtfhphjgcmbneeaaDoorILex
import Derived.Deep.MidRow
import Derived.Deep.WholeRow
import Derived.Deep.AppendLies
import Derived.Deep.AppendSrc
import Derived.Laws.AppendOwn
namespace Go.Proofs.YtfhphjgcmbneeaaDoor
open Go.ChangeShapes Go.WideShapes Go.ChangeAt Go.RowKit

structure Sp where
  p : Int
  o : Int
structure Tk where
  op : Int
  name : ByteArray
  id : Int
  off : Int
  siz : Int
  since : Int
  prim : Int
  len : Int
  pres : Int
  nul : Int
  lo : Int
  hi : Int
  cst : List Int
  val : Int
  blk : Int
  full : Int
  a : Sp
  b : Sp
  pair : Int
structure Fm where
  ord : Int
  sch : Int
  ver : Int
  hsz : Int
  hb : Sp
  ht : Sp
  hs : Sp
  hv : Sp
  toks : List Tk
abbrev spV (s : Sp) : Value := .agg #[.int .i64 s.p, .int .i64 s.o]
def i64ok (x : Int) : Prop := -9223372036854775808 ≤ x ∧ x ≤ 9223372036854775807
def u64ok (x : Int) : Prop := 0 ≤ x ∧ x ≤ 18446744073709551615
theorem heap_al (w : World) (o : Obj) : (w.alloc o).heap[w.heap.size]? = some o := by show (w.heap.push o)[w.heap.size]? = _; rw [Array.getElem?_push, if_pos rfl]
theorem cell_at {w : World} {g : Nat} {cs : Array Value} {ty : TypeId} (h : w.heap[g]? = some (.cells cs ty)) (o : Nat) : w.cell? ⟨g, o, none⟩ = cs[o]? := by simp only [World.cell?, h]; rfl
theorem beq_ba {a b : ByteArray} (h : a ≠ b) : (a.toList == b.toList) = false :=
  beq_eq_false_iff_ne.2 fun e => h (by
    rw [ByteArray.toList_eq, ByteArray.toList_eq] at e
    exact ByteArray.ext (Array.toList_inj.1 e))
/-- A token as a value; its words lie somewhere. -/
abbrev tkV (t : Tk) (pc : Option Addr) (cc : Nat) : Value := .agg #[.int .i64 t.op, .string t.name, .int .i64 t.id, .int .i64 t.off, .int .i64 t.siz, .int .i64 t.since, .int .i64 t.prim, .int .i64 t.len, .int .i64 t.pres, .int .u64 t.nul, .int .u64 t.lo, .int .u64 t.hi, .slice pc t.cst.length cc, .int .u64 t.val, .int .i64 t.blk, .int .i64 t.full, .int .i64 t.a.p, .int .i64 t.a.o, .int .i64 t.b.p, .int .i64 t.b.o, .int .i64 t.pair]
def tkC (t : Tk) (pc : Option Addr) (cc : Nat) : List Value := [.int .i64 t.op, .string t.name, .int .i64 t.id, .int .i64 t.off, .int .i64 t.siz, .int .i64 t.since, .int .i64 t.prim, .int .i64 t.len, .int .i64 t.pres, .int .u64 t.nul, .int .u64 t.lo, .int .u64 t.hi, .slice pc t.cst.length cc, .int .u64 t.val, .int .i64 t.blk, .int .i64 t.full, .int .i64 t.a.p, .int .i64 t.a.o, .int .i64 t.b.p, .int .i64 t.b.o, .int .i64 t.pair]
/-- Words in memory. -/
structure URow (w : World) (p : Option Addr) (H : Nat) (l : List Int) : Prop where
  c : ∀ (i : Nat) (t : Int), l[i]? = some t → ∃ g o, p = some ⟨g, o, none⟩ ∧ g < H ∧ w.cell? ⟨g, o + i, none⟩ = some (.int .u64 t)
theorem cell_blk {w w' : World} {g o : Nat} (hb : w'.heap[g]? = w.heap[g]?) : w'.cell? ⟨g, o, none⟩ = w.cell? ⟨g, o, none⟩ := by simp only [World.cell?, hb]
theorem URow.same {w w' : World} {p : Option Addr} {H : Nat} {l : List Int} (h : URow w p H l) (hb : ∀ k, k < H → w'.heap[k]? = w.heap[k]?) : URow w' p H l :=
  ⟨fun i t ht => by
    obtain ⟨g, o, e, hg, h0⟩ := h.c i t ht
    exact ⟨g, o, e, hg, (cell_blk (hb g hg)).trans h0⟩⟩
theorem URow.mono {w : World} {p : Option Addr} {H H' : Nat} {l : List Int} (h : URow w p H l) (hH : H ≤ H') : URow w p H' l :=
  ⟨fun i t ht => by obtain ⟨g, o, e, hg, r⟩ := h.c i t ht; exact ⟨g, o, e, by omega, r⟩⟩
theorem URow.below {w w' : World} {p : Option Addr} {H : Nat} {l : List Int} (h : URow w p H l) (hb : Below H w w') : URow w' p H l := h.same fun k hk => hb.block k hk
theorem URow.nil (w : World) (p : Option Addr) (H : Nat) : URow w p H [] := ⟨fun i t ht => by cases ht⟩
/-- A token's cells in memory. -/
structure TkC (w : World) (g o : Nat) (t : Tk) (pc : Option Addr) (cc : Nat) : Prop where
  c0 : w.cell? ⟨g, o, none⟩ = some (.int .i64 t.op)
  c1 : w.cell? ⟨g, o + 1, none⟩ = some (.string t.name)
  c2 : w.cell? ⟨g, o + 2, none⟩ = some (.int .i64 t.id)
  c3 : w.cell? ⟨g, o + 3, none⟩ = some (.int .i64 t.off)
  c4 : w.cell? ⟨g, o + 4, none⟩ = some (.int .i64 t.siz)
  c5 : w.cell? ⟨g, o + 5, none⟩ = some (.int .i64 t.since)
  c6 : w.cell? ⟨g, o + 6, none⟩ = some (.int .i64 t.prim)
  c7 : w.cell? ⟨g, o + 7, none⟩ = some (.int .i64 t.len)
  c8 : w.cell? ⟨g, o + 8, none⟩ = some (.int .i64 t.pres)
  c9 : w.cell? ⟨g, o + 9, none⟩ = some (.int .u64 t.nul)
  c10 : w.cell? ⟨g, o + 10, none⟩ = some (.int .u64 t.lo)
  c11 : w.cell? ⟨g, o + 11, none⟩ = some (.int .u64 t.hi)
  c12 : w.cell? ⟨g, o + 12, none⟩ = some (.slice pc t.cst.length cc)
  c13 : w.cell? ⟨g, o + 13, none⟩ = some (.int .u64 t.val)
  c14 : w.cell? ⟨g, o + 14, none⟩ = some (.int .i64 t.blk)
  c15 : w.cell? ⟨g, o + 15, none⟩ = some (.int .i64 t.full)
  c16 : w.cell? ⟨g, o + 16, none⟩ = some (.int .i64 t.a.p)
  c17 : w.cell? ⟨g, o + 17, none⟩ = some (.int .i64 t.a.o)
  c18 : w.cell? ⟨g, o + 18, none⟩ = some (.int .i64 t.b.p)
  c19 : w.cell? ⟨g, o + 19, none⟩ = some (.int .i64 t.b.o)
  c20 : w.cell? ⟨g, o + 20, none⟩ = some (.int .i64 t.pair)
theorem TkC.same {w w' : World} {g o : Nat} {t : Tk} {pc : Option Addr} {cc : Nat} (h : TkC w g o t pc cc) (hb : w'.heap[g]? = w.heap[g]?) : TkC w' g o t pc cc :=
  ⟨(cell_blk hb).trans h.c0, (cell_blk hb).trans h.c1, (cell_blk hb).trans h.c2, (cell_blk hb).trans h.c3, (cell_blk hb).trans h.c4, (cell_blk hb).trans h.c5, (cell_blk hb).trans h.c6, (cell_blk hb).trans h.c7, (cell_blk hb).trans h.c8, (cell_blk hb).trans h.c9, (cell_blk hb).trans h.c10, (cell_blk hb).trans h.c11, (cell_blk hb).trans h.c12, (cell_blk hb).trans h.c13, (cell_blk hb).trans h.c14, (cell_blk hb).trans h.c15, (cell_blk hb).trans h.c16, (cell_blk hb).trans h.c17, (cell_blk hb).trans h.c18, (cell_blk hb).trans h.c19, (cell_blk hb).trans h.c20⟩
theorem tkC_of {w : World} {g o : Nat} {t : Tk} {pc : Option Addr} {cc : Nat} (h : ∀ (j : Nat) (u : Value), (tkC t pc cc)[j]? = some u → w.cell? ⟨g, o + j, none⟩ = some u) : TkC w g o t pc cc :=
  ⟨h 0 _ rfl, h 1 _ rfl, h 2 _ rfl, h 3 _ rfl, h 4 _ rfl, h 5 _ rfl, h 6 _ rfl, h 7 _ rfl, h 8 _ rfl, h 9 _ rfl, h 10 _ rfl, h 11 _ rfl, h 12 _ rfl, h 13 _ rfl, h 14 _ rfl, h 15 _ rfl, h 16 _ rfl, h 17 _ rfl, h 18 _ rfl, h 19 _ rfl, h 20 _ rfl⟩
/-- Tokens in memory, ahead of block H. -/
structure TkRow (w : World) (pp : Option Addr) (H : Nat) (l : List Tk) : Prop where
  c : ∀ (i : Nat) (t : Tk), l[i]? = some t → ∃ g o pc cc, pp = some ⟨g, o, none⟩ ∧ g < H ∧ TkC w g (o + i * 21) t pc cc ∧ URow w pc H t.cst ∧ t.cst.length ≤ cc
theorem TkRow.same {w w' : World} {pp : Option Addr} {H : Nat} {l : List Tk} (h : TkRow w pp H l) (hb : ∀ k, k < H → w'.heap[k]? = w.heap[k]?) : TkRow w' pp H l :=
  ⟨fun i t ht => by
    obtain ⟨g, o, pc, cc, e, hg, h0, h1, h2⟩ := h.c i t ht
    exact ⟨g, o, pc, cc, e, hg, h0.same (hb g hg), h1.same hb, h2⟩⟩
theorem TkRow.below {w w' : World} {pp : Option Addr} {H : Nat} {l : List Tk} (h : TkRow w pp H l) (hb : Below H w w') : TkRow w' pp H l := h.same fun k hk => hb.block k hk
theorem TkRow.mono {w : World} {pp : Option Addr} {H H' : Nat} {l : List Tk} (h : TkRow w pp H l) (hH : H ≤ H') : TkRow w pp H' l :=
  ⟨fun i t ht => by obtain ⟨g, o, pc, cc, e, hg, h0, h1, h2⟩ := h.c i t ht; exact ⟨g, o, pc, cc, e, by omega, h0, h1.mono hH, h2⟩⟩
/-- Of numbers that fit. -/
structure TkOk (t : Tk) : Prop where
  op : i64ok t.op
  name : t.name.size ≤ 281474976710656
  id : i64ok t.id
  off : i64ok t.off
  siz : i64ok t.siz
  since : i64ok t.since
  prim : i64ok t.prim
  len : i64ok t.len
  pres : i64ok t.pres
  nul : u64ok t.nul
  lo : u64ok t.lo
  hi : u64ok t.hi
  cst : t.cst.length * 8 ≤ 140737488355328
  cs : ∀ x ∈ t.cst, u64ok x
  val : u64ok t.val
  blk : i64ok t.blk
  full : i64ok t.full
  ap : i64ok t.a.p
  ao : i64ok t.a.o
  bp : i64ok t.b.p
  bo : i64ok t.b.o
  pair : i64ok t.pair
/-- Tokens as they are handed over. -/
structure TkL (w : World) (pp : Option Addr) (H : Nat) (l : List Tk) : Prop where
  row : TkRow w pp H l
  len : l.length * 192 ≤ 140737488355328
  ok : ∀ t ∈ l, TkOk t
theorem TkL.below {w w' : World} {pp : Option Addr} {H : Nat} {l : List Tk} (h : TkL w pp H l) (hb : Below H w w') : TkL w' pp H l := ⟨h.row.below hb, h.len, h.ok⟩
theorem TkL.mono {w : World} {pp : Option Addr} {H H' : Nat} {l : List Tk} (h : TkL w pp H l) (hH : H ≤ H') : TkL w pp H' l := ⟨h.row.mono hH, h.len, h.ok⟩
theorem TkL.at {w : World} {pp : Option Addr} {H : Nat} {l : List Tk} (h : TkL w pp H l) {i : Nat} {t : Tk} (hi : l[i]? = some t) : ∃ g o pc cc, pp = some ⟨g, o, none⟩ ∧ g < H ∧ TkC w g (o + i * 21) t pc cc ∧ URow w pc H t.cst ∧ t.cst.length ≤ cc ∧ TkOk t := by
  obtain ⟨g, o, pc, cc, e, hg, h0, h1, h2⟩ := h.row.c i t hi
  exact ⟨g, o, pc, cc, e, hg, h0, h1, h2, h.ok t (List.mem_of_getElem? hi)⟩
/-- A form as a value. -/
abbrev fmV (f : Fm) (pp : Option Addr) (cp : Nat) : Value := .agg #[.int .i64 f.ord, .int .i64 f.sch, .int .i64 f.ver, .int .i64 f.hsz, .int .i64 f.hb.p, .int .i64 f.hb.o, .int .i64 f.ht.p, .int .i64 f.ht.o, .int .i64 f.hs.p, .int .i64 f.hs.o, .int .i64 f.hv.p, .int .i64 f.hv.o, .slice pp f.toks.length cp]
/-- A form's cells in memory. -/
structure FmC (w : World) (g o : Nat) (f : Fm) (pp : Option Addr) (cp : Nat) : Prop where
  c0 : w.cell? ⟨g, o, none⟩ = some (.int .i64 f.ord)
  c1 : w.cell? ⟨g, o + 1, none⟩ = some (.int .i64 f.sch)
  c2 : w.cell? ⟨g, o + 2, none⟩ = some (.int .i64 f.ver)
  c3 : w.cell? ⟨g, o + 3, none⟩ = some (.int .i64 f.hsz)
  c4 : w.cell? ⟨g, o + 4, none⟩ = some (.int .i64 f.hb.p)
  c5 : w.cell? ⟨g, o + 5, none⟩ = some (.int .i64 f.hb.o)
  c6 : w.cell? ⟨g, o + 6, none⟩ = some (.int .i64 f.ht.p)
  c7 : w.cell? ⟨g, o + 7, none⟩ = some (.int .i64 f.ht.o)
  c8 : w.cell? ⟨g, o + 8, none⟩ = some (.int .i64 f.hs.p)
  c9 : w.cell? ⟨g, o + 9, none⟩ = some (.int .i64 f.hs.o)
  c10 : w.cell? ⟨g, o + 10, none⟩ = some (.int .i64 f.hv.p)
  c11 : w.cell? ⟨g, o + 11, none⟩ = some (.int .i64 f.hv.o)
  c12 : w.cell? ⟨g, o + 12, none⟩ = some (.slice pp f.toks.length cp)
theorem FmC.same {w w' : World} {g o : Nat} {f : Fm} {pp : Option Addr} {cp : Nat} (h : FmC w g o f pp cp) (hb : w'.heap[g]? = w.heap[g]?) : FmC w' g o f pp cp :=
  ⟨(cell_blk hb).trans h.c0, (cell_blk hb).trans h.c1, (cell_blk hb).trans h.c2, (cell_blk hb).trans h.c3, (cell_blk hb).trans h.c4, (cell_blk hb).trans h.c5, (cell_blk hb).trans h.c6, (cell_blk hb).trans h.c7, (cell_blk hb).trans h.c8, (cell_blk hb).trans h.c9, (cell_blk hb).trans h.c10, (cell_blk hb).trans h.c11, (cell_blk hb).trans h.c12⟩
theorem FmC.below {w w' : World} {g o B : Nat} {f : Fm} {pp : Option Addr} {cp : Nat} (h : FmC w g o f pp cp) (hg : g < B) (hb : Below B w w') : FmC w' g o f pp cp := h.same (hb.block g hg)
theorem TkC.below {w w' : World} {g o B : Nat} {t : Tk} {pc : Option Addr} {cc : Nat} (h : TkC w g o t pc cc) (hg : g < B) (hb : Below B w w') : TkC w' g o t pc cc := h.same (hb.block g hg)
structure SpOk (s : Sp) : Prop where
  p : i64ok s.p
  o : i64ok s.o
/-- Numbers that fit. -/
structure FmOk (f : Fm) : Prop where
  ord : i64ok f.ord
  sch : i64ok f.sch
  ver : i64ok f.ver
  hsz : i64ok f.hsz
  hb : SpOk f.hb
  ht : SpOk f.ht
  hs : SpOk f.hs
  hv : SpOk f.hv
theorem two_1 (w : World) (A B : Obj) : ((w.alloc A).alloc B).heap[w.heap.size]? = some A := by
  show ((w.heap.push A).push B)[w.heap.size]? = _
  rw [Array.getElem?_push, if_neg (by simp), Array.getElem?_push, if_pos rfl]
theorem two_2 (w : World) (A B : Obj) : ((w.alloc A).alloc B).heap[w.heap.size + 1]? = some B := by
  show ((w.heap.push A).push B)[w.heap.size + 1]? = _
  rw [Array.getElem?_push, if_pos (by simp)]
abbrev tkO (t : Tk) (pc : Option Addr) (cc : Nat) : Obj := .cells (tkC t pc cc).toArray 35
theorem tk_of {w : World} {g : Nat} {t : Tk} {pc : Option Addr} {cc : Nat} (h : w.heap[g]? = some (tkO t pc cc)) : TkC w g 0 t pc cc :=
  tkC_of fun j u hu => by
    rw [Nat.zero_add, cell_at h j, List.getElem?_toArray]
    exact hu
/-- A load of something great, by what it answers. -/
theorem wpList_ld {P : Program} {ops : Array Oper} {Q : Exit → Act → World → Prop} {a : Act} {w : World} {rest : List Oper} {o : Oper} (ty : TypeId) (x : Operand) (ho : o.op = .load ty x)
    (hw : Region.wanted o (yielded ops a.tmps) = true) (p v : Value) (hx : a.eval x = p) (hr : (Instr.loadAt ty p).run P w = .ok v w) (h : wpList P ops Q rest (a.put o.dst v) w) : wpList P ops Q (o :: rest) a w := by
  refine wpList_step fun K hK => ?_
  rw [if_pos hw]
  unfold Oper.wp execOp
  simp only [ho, hx, hr, Sem.run_bind, Result.andThen_ok]
  exact hK _ _ h
theorem tk_range {w : World} {g o : Nat} {t : Tk} {pc : Option Addr} {cc : Nat} (h : TkC w g o t pc cc) : w.rangeAt g o (tkC t pc cc) := by
  intro j v hv
  have hj : j < 21 := (List.getElem?_eq_some_iff.1 hv).1
  have h21 : j = 0 ∨ j = 1 ∨ j = 2 ∨ j = 3 ∨ j = 4 ∨ j = 5 ∨ j = 6 ∨ j = 7 ∨ j = 8 ∨ j = 9 ∨ j = 10 ∨ j = 11 ∨ j = 12 ∨ j = 13 ∨ j = 14 ∨ j = 15 ∨ j = 16 ∨ j = 17 ∨ j = 18 ∨ j = 19 ∨ j = 20 := by omega
  rcases h21 with rfl | rfl | rfl | rfl | rfl | rfl | rfl | rfl | rfl | rfl | rfl | rfl | rfl | rfl | rfl | rfl | rfl | rfl | rfl | rfl | rfl <;> cases Option.some.inj hv
  · exact h.c0
  · exact h.c1
  · exact h.c2
  · exact h.c3
  · exact h.c4
  · exact h.c5
  · exact h.c6
  · exact h.c7
  · exact h.c8
  · exact h.c9
  · exact h.c10
  · exact h.c11
  · exact h.c12
  · exact h.c13
  · exact h.c14
  · exact h.c15
  · exact h.c16
  · exact h.c17
  · exact h.c18
  · exact h.c19
  · exact h.c20
theorem infoTk : (Tryd.prog.info? 35).map (·.size) = some 21 := by kernel_rfl
theorem undTk : ∃ d, Tryd.prog.underlying 35 = some d ∧ d.isRow = true := ⟨_, Tryd.underlying35, rfl⟩
theorem TkC.loadV {w : World} {g o : Nat} {t : Tk} {pc : Option Addr} {cc : Nat} (h : TkC w g o t pc cc) : (loadVar 35 ⟨g, o, none⟩).run Tryd.prog w = .ok (tkV t pc cc) w := by
  obtain ⟨d, hu, hd⟩ := undTk
  exact run_loadVar_mid w g o 35 (tkC t pc cc) d (tk_range h) hu hd infoTk
theorem TkC.load {w : World} {g o : Nat} {t : Tk} {pc : Option Addr} {cc : Nat} (h : TkC w g o t pc cc) : (Instr.loadAt 35 (.pointer (some ⟨g, o, none⟩))).run Tryd.prog w = .ok (tkV t pc cc) w := by
  obtain ⟨d, hu, hd⟩ := undTk
  exact run_loadAt_mid w g o 35 (tkC t pc cc) d (tk_range h) hu hd infoTk
/-- A store of something great. -/
theorem wpList_st {P : Program} {ops : Array Oper} {Q : Exit → Act → World → Prop} {a : Act} {w w' : World} {rest : List Oper} {o : Oper} (ty : TypeId) (x y : Operand) (ho : o.op = .store ty x y)
    (hw : Region.wanted o (yielded ops a.tmps) = true) (p v : Value) (hx : a.eval x = p) (hy : a.eval y = v) (hr : (Instr.storeAt ty p v).run P w = .ok () w') (h : wpList P ops Q rest (a.put o.dst undef) w') : wpList P ops Q (o :: rest) a w := by
  refine wpList_step fun K hK => ?_
  rw [if_pos hw]
  unfold Oper.wp execOp
  simp only [ho, hx, hy, hr, Sem.run_bind, Result.andThen_ok]
  exact hK _ _ h
theorem tkC_one (t : Tk) (pc : Option Addr) (cc : Nat) : ∀ u ∈ tkC t pc cc, u.oneCell' = true := by
  intro u hu
  simp only [tkC, List.mem_cons, List.not_mem_nil, or_false] at hu
  rcases hu with rfl | rfl | rfl | rfl | rfl | rfl | rfl | rfl | rfl | rfl | rfl | rfl | rfl | rfl | rfl | rfl | rfl | rfl | rfl | rfl | rfl <;> rfl
theorem st_new (w : World) (z : Array Value) (hz : z.size = 21) (t : Tk) (pc : Option Addr) (cc : Nat) : (Instr.storeAt 35 (.pointer (some ⟨w.heap.size, 0, none⟩)) (tkV t pc cc)).run Tryd.prog (w.alloc (.cells z 35)) = .ok () (w.alloc (tkO t pc cc)) :=
  run_storeAt_new w 35 z (tkC t pc cc).toArray infoTk hz (all_oneCell_toArray (tkC_one t pc cc))
end Go.Proofs.YtfhphjgcmbneeaaDoor
