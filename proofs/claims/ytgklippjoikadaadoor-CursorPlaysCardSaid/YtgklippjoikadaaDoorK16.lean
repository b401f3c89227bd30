/- CuO, CuQ. -/
import Derived.Test.YtgklippjoikadaaDoorK15
namespace Go.Proofs.YtgklippjoikadaaDoor
open Go.ChangeShapes Go.WideShapes Go.ChangeAt Go.RowKit

theorem New_ok {w : World} {g len cap : Nat} {f : Nat → Int} (row : w.rowIs g 5 cap (fun j => .int .u8 (f j))) (bd : ∀ j, 0 ≤ f j ∧ f j ≤ 255) (h3 : len ≤ cap) (h4 : len ≤ 140737488355328) (a : Nat) (ha : a ≤ len) (hi : Bool) :
    Calls Tryd.prog 7 #[.slice (some ⟨g, 0, none⟩) len cap, .int .i64 a, .int .i64 (ordV hi)] w fun e w' => ∃ c, e = .returned (.tuple #[.pointer (some ⟨c, 0, none⟩), .int .i64 0]) ∧ w.heap.size ≤ c ∧ Cs w' c 0 g len cap a a hi f ∧ Below w.heap.size w w' := by
  have h1 : (ordV hi != 0 && ordV hi != 1) = false := by cases hi <;> rfl
  have hd1 : ¬ (a : Int) < 0 := by omega
  have hd2 : ¬ (len : Int) < (a : Int) := by omega
  have lt := row.lt
  have FIN : Hid (∀ ty, Cs (w.alloc (.cells #[.slice (some ⟨g, 0, none⟩) len cap, .int .i64 a, .int .i64 a, .int .i64 (ordV hi)] ty)) w.heap.size 0 g len cap a a hi f) := fun ty => by
    have hh := heap_al w (.cells #[.slice (some ⟨g, 0, none⟩) len cap, .int .i64 a, .int .i64 a, .int .i64 (ordV hi)] ty)
    exact ⟨by simp, cell_at hh 0, cell_at hh 1, cell_at hh 2, cell_at hh 3, by simp only [World.frozen?, hh]; rfl, rowIs_below row (bel1 _ _) lt, bd, by omega, Nat.le_refl _, ha, h3, h4⟩
  clear row
  cases hi
  · have o0 : ordV false = 0 := rfl
    rw [o0] at FIN ⊢
    go_enter Tryd.func7, Tryd.ntmps7
    go_wp2_with fail
    go_ret2
    exact ⟨_, rfl, Nat.le_refl _, FIN.out _, bel1 _ _⟩
  · have o0 : ordV true = 1 := rfl
    rw [o0] at FIN ⊢
    go_enter Tryd.func7, Tryd.ntmps7
    go_wp2_with fail
    go_ret2
    exact ⟨_, rfl, Nat.le_refl _, FIN.out _, bel1 _ _⟩
theorem New_none {w : World} {p : Option Addr} {len cap : Nat} (a : Int) (o : Int) (h : (o = 0 ∨ o = 1) ∧ (a < 0 ∨ (len : Int) < a)) :
    Calls Tryd.prog 7 #[.slice p len cap, .int .i64 a, .int .i64 o] w fun e w' => e = .returned (.tuple #[.pointer none, .int .i64 170]) ∧ Below w.heap.size w w' := by
  obtain ⟨h1, h2⟩ := h
  by_cases h3 : a < 0
  · rcases h1 with rfl | rfl
    all_goals
      go_enter Tryd.func7, Tryd.ntmps7
      go_wp2_with fail
      go_ret2
      exact ⟨rfl, Below.refl _ _⟩
  · have h4 : (len : Int) < a := by omega
    have h5 : ¬ a ≤ (len : Int) := by omega
    rcases h1 with rfl | rfl
    all_goals
      go_enter Tryd.func7, Tryd.ntmps7
      go_wp2_with fail
      go_ret2
      exact ⟨rfl, Below.refl _ _⟩
theorem New_prim {w : World} {p : Option Addr} {len cap : Nat} (a : Int) :
    Calls Tryd.prog 7 #[.slice p len cap, .int .i64 a, .int .i64 2] w fun e w' => e = .returned (.tuple #[.pointer none, .int .i64 10]) ∧ Below w.heap.size w w' := by
  go_enter Tryd.func7, Tryd.ntmps7
  go_wp2_with fail
  go_ret2
  exact ⟨rfl, Below.refl _ _⟩
end Go.Proofs.YtgklippjoikadaaDoor
namespace Go.Proofs.YtgklippjoikadaaDoor
open Go.ChangeShapes Go.WideShapes Go.ChangeAt Go.RowKit

structure Op1 where
  k : Int
  at_ : Int
  n : Int
  p : Int
  x : Int
  s : ByteArray
  h : Hd
  v : Four
  t : Tk
def opL (o : Op1) : List Value := [.int .i64 o.k, .int .i64 o.at_, .int .i64 o.n, .int .i64 o.p, .int .u64 o.x, .string o.s, .int .i64 o.h.size, .int .i64 o.h.b.p, .int .i64 o.h.b.o, .int .i64 o.h.t.p, .int .i64 o.h.t.o, .int .i64 o.h.s.p, .int .i64 o.h.s.o, .int .i64 o.h.v.p, .int .i64 o.h.v.o, .int .u64 o.v.a, .int .u64 o.v.b, .int .u64 o.v.c, .int .u64 o.v.d]
abbrev opC (o : Op1) (pc : Option Addr) (cc : Nat) : List Value := [.int .i64 o.k, .int .i64 o.at_, .int .i64 o.n, .int .i64 o.p, .int .u64 o.x, .string o.s, .int .i64 o.h.size, .int .i64 o.h.b.p, .int .i64 o.h.b.o, .int .i64 o.h.t.p, .int .i64 o.h.t.o, .int .i64 o.h.s.p, .int .i64 o.h.s.o, .int .i64 o.h.v.p, .int .i64 o.h.v.o, .int .u64 o.v.a, .int .u64 o.v.b, .int .u64 o.v.c, .int .u64 o.v.d, .int .i64 o.t.op, .string o.t.name, .int .i64 o.t.id, .int .i64 o.t.off, .int .i64 o.t.siz, .int .i64 o.t.since, .int .i64 o.t.prim, .int .i64 o.t.len, .int .i64 o.t.pres, .int .u64 o.t.nul, .int .u64 o.t.lo, .int .u64 o.t.hi, .slice pc o.t.cst.length cc, .int .u64 o.t.val, .int .i64 o.t.blk, .int .i64 o.t.full, .int .i64 o.t.a.p, .int .i64 o.t.a.o, .int .i64 o.t.b.p, .int .i64 o.t.b.o, .int .i64 o.t.pair]
abbrev opV (o : Op1) (pc : Option Addr) (cc : Nat) : Value := .agg #[.int .i64 o.k, .int .i64 o.at_, .int .i64 o.n, .int .i64 o.p, .int .u64 o.x, .string o.s, .int .i64 o.h.size, .int .i64 o.h.b.p, .int .i64 o.h.b.o, .int .i64 o.h.t.p, .int .i64 o.h.t.o, .int .i64 o.h.s.p, .int .i64 o.h.s.o, .int .i64 o.h.v.p, .int .i64 o.h.v.o, .int .u64 o.v.a, .int .u64 o.v.b, .int .u64 o.v.c, .int .u64 o.v.d, .int .i64 o.t.op, .string o.t.name, .int .i64 o.t.id, .int .i64 o.t.off, .int .i64 o.t.siz, .int .i64 o.t.since, .int .i64 o.t.prim, .int .i64 o.t.len, .int .i64 o.t.pres, .int .u64 o.t.nul, .int .u64 o.t.lo, .int .u64 o.t.hi, .slice pc o.t.cst.length cc, .int .u64 o.t.val, .int .i64 o.t.blk, .int .i64 o.t.full, .int .i64 o.t.a.p, .int .i64 o.t.a.o, .int .i64 o.t.b.p, .int .i64 o.t.b.o, .int .i64 o.t.pair]
theorem opC_eq (o : Op1) (pc : Option Addr) (cc : Nat) : opC o pc cc = opL o ++ tkC o.t pc cc := rfl
structure OpOk (o : Op1) : Prop where
  n : o.n ≤ 9223372036854775807
  x : 0 ≤ o.x ∧ o.x < 18446744073709551616
  s : o.s.size ≤ 281474976710656
  v : FourOk o.v
  a1 : -9223372036854775808 ≤ o.at_ ∧ o.at_ ≤ 9223372036854775807
  n1 : -9223372036854775808 ≤ o.n ∧ o.n ≤ 9223372036854775807
/-- An op's cells in memory. -/
structure OpM (w : World) (g b : Nat) (o : Op1) (pc : Option Addr) (cc : Nat) : Prop where
  c : ∀ j u, (opC o pc cc)[j]? = some u → w.cell? ⟨g, b + j, none⟩ = some u
theorem OpM.tk {w : World} {g b : Nat} {o : Op1} {pc : Option Addr} {cc : Nat} (h : OpM w g b o pc cc) : TkC w g (b + 19) o.t pc cc :=
  tkC_of fun j u hu => by
    have := h.c (19 + j) u (by
      rw [opC_eq, List.getElem?_append_right (by show (opL o).length ≤ _; unfold opL; simp)]
      have e : 19 + j - (opL o).length = j := by unfold opL; simp
      rw [e]
      exact hu)
    rw [← Nat.add_assoc] at this
    exact this
theorem OpM.same {w w' : World} {g b : Nat} {o : Op1} {pc : Option Addr} {cc : Nat} (h : OpM w g b o pc cc) (hb : w'.heap[g]? = w.heap[g]?) : OpM w' g b o pc cc := ⟨fun j u hu => (cell_blk hb).trans (h.c j u hu)⟩
section
variable (hi : Bool) (len st en : Nat) (f : Nat → Int) (o : Op1)
def opE : Int :=
  if o.k = 0 then clE len en o.n else if o.k = 1 then getE st en o.at_ o.p else if o.k = 2 then putE st en o.at_ o.p o.x else if o.k = 3 then chE st en o.at_ o.n else if o.k = 4 then setE st en o.at_ o.n o.s else
  if o.k = 5 then pwE (headG o.h) len en o.h.size (hdN o.h o.v) else if o.k = 6 then gwE (headG o.h) len en o.h.size else if o.k = 7 then pwE (dimG o.t) len en o.t.siz (dimN o.t o.at_ o.n) else if o.k = 8 then gwE (dimG o.t) len en o.t.siz else
  if o.k = 9 then pdE len en o.t o.s.size else if o.k = 10 then gdE hi len st en f o.t else 0
def opN : Nat :=
  if o.k = 0 then clN len en o.n else if o.k = 5 then pwN (headG o.h) len en o.h.size (hdN o.h o.v) else if o.k = 6 then gwN (headG o.h) len en o.h.size else if o.k = 7 then pwN (dimG o.t) len en o.t.siz (dimN o.t o.at_ o.n) else if o.k = 8 then gwN (dimG o.t) len en o.t.siz else
  if o.k = 9 then pdN len en o.t o.s.size else if o.k = 10 then gdN hi len st en f o.t else en
def opF : Nat → Int :=
  if o.k = 2 then putF hi st en f o.at_ o.p o.x else if o.k = 4 then setF st en f o.at_ o.n o.s else if o.k = 5 then pwF (headG o.h) hi len st en f o.h.size (hdN o.h o.v) else
  if o.k = 7 then pwF (dimG o.t) hi len st en f o.t.siz (dimN o.t o.at_ o.n) else if o.k = 9 then pdF hi len st en f o.t o.s else f
def opW : Bool := decide (o.k = 2 ∨ o.k = 4 ∨ o.k = 5 ∨ o.k = 7 ∨ o.k = 9)
end
end Go.Proofs.YtgklippjoikadaaDoor
