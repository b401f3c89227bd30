/- Good heads, dimensions, lengths. -/
import Derived.Test.YtfhphjgcmbneeaaDoorCuT
namespace Go.Proofs.YtfhphjgcmbneeaaDoor
open Go.ChangeShapes Go.WideShapes Go.ChangeAt Go.RowKit

/-- Where the numbers of a header stand. -/
structure Hd where
  size : Int
  b : Sp
  t : Sp
  s : Sp
  v : Sp
abbrev hdV (h : Hd) : Value := .agg #[.int .i64 h.size, .int .i64 h.b.p, .int .i64 h.b.o, .int .i64 h.t.p, .int .i64 h.t.o, .int .i64 h.s.p, .int .i64 h.s.o, .int .i64 h.v.p, .int .i64 h.v.o]
def hdS (h : Hd) : List (Int × Int) := [(h.b.p, h.b.o), (h.t.p, h.t.o), (h.s.p, h.s.o), (h.v.p, h.v.o)]
def headG (h : Hd) : Bool := goods h.size (hdS h)
def dimG (t : Tk) : Bool := decide (t.op = 4) && goods t.siz [(t.a.p, t.a.o), (t.b.p, t.b.o)]
def lenG (t : Tk) : Bool := decide (t.op = 6) && goods t.siz [(t.a.p, t.a.o)]
theorem sp_new (w : World) (l : List (Int × Int)) (cs : Array Value) (ty : TypeId) (h : ∀ i s, l[i]? = some s → cs[i * 2]? = some (.int .i64 s.1) ∧ cs[i * 2 + 1]? = some (.int .i64 s.2)) : SpRow (w.alloc (.cells cs ty)) w.heap.size l :=
  ⟨by simp, fun i s hs => (cell_at (heap_al _ _) _).trans (h i s hs).1, fun i s hs => (cell_at (heap_al _ _) _).trans (h i s hs).2⟩
theorem sp_new4 (w : World) (a b c d : Int × Int) (ty : TypeId) : SpRow (w.alloc (.cells #[.int .i64 a.1, .int .i64 a.2, .int .i64 b.1, .int .i64 b.2, .int .i64 c.1, .int .i64 c.2, .int .i64 d.1, .int .i64 d.2] ty)) w.heap.size [a, b, c, d] :=
  sp_new w _ _ ty fun i s hs => by
    have hi : i < 4 := (List.getElem?_eq_some_iff.1 hs).1
    have : i = 0 ∨ i = 1 ∨ i = 2 ∨ i = 3 := by omega
    rcases this with rfl | rfl | rfl | rfl <;> cases Option.some.inj hs <;> exact ⟨rfl, rfl⟩
theorem sp_new2 (w : World) (a b : Int × Int) (ty : TypeId) : SpRow (w.alloc (.cells #[.int .i64 a.1, .int .i64 a.2, .int .i64 b.1, .int .i64 b.2] ty)) w.heap.size [a, b] :=
  sp_new w _ _ ty fun i s hs => by
    have hi : i < 2 := (List.getElem?_eq_some_iff.1 hs).1
    have : i = 0 ∨ i = 1 := by omega
    rcases this with rfl | rfl <;> cases Option.some.inj hs <;> exact ⟨rfl, rfl⟩
theorem sp_new1 (w : World) (a : Int × Int) (ty : TypeId) : SpRow (w.alloc (.cells #[.int .i64 a.1, .int .i64 a.2] ty)) w.heap.size [a] :=
  sp_new w _ _ ty fun i s hs => by
    have hi : i < 1 := (List.getElem?_eq_some_iff.1 hs).1
    have : i = 0 := by omega
    subst this
    cases Option.some.inj hs
    exact ⟨rfl, rfl⟩
theorem sp_new4' {w : World} {a b c d : Int × Int} {ty : TypeId} {g : Nat} (hg : w.heap.size = g) : SpRow (w.alloc (.cells #[.int .i64 a.1, .int .i64 a.2, .int .i64 b.1, .int .i64 b.2, .int .i64 c.1, .int .i64 c.2, .int .i64 d.1, .int .i64 d.2] ty)) g [a, b, c, d] := hg ▸ sp_new4 w a b c d ty
theorem sp_new2' {w : World} {a b : Int × Int} {ty : TypeId} {g : Nat} (hg : w.heap.size = g) : SpRow (w.alloc (.cells #[.int .i64 a.1, .int .i64 a.2, .int .i64 b.1, .int .i64 b.2] ty)) g [a, b] := hg ▸ sp_new2 w a b ty
theorem sp_new1' {w : World} {a : Int × Int} {ty : TypeId} {g : Nat} (hg : w.heap.size = g) : SpRow (w.alloc (.cells #[.int .i64 a.1, .int .i64 a.2] ty)) g [a] := hg ▸ sp_new1 w a ty
theorem bel2 (w : World) (a b : Obj) : Below w.heap.size w ((w.alloc a).alloc b) := (bel1 w a).trans ((bel1 (w.alloc a) b).mono (bel1 w a).size)
theorem belT {a b d : World} (h1 : Below a.heap.size a b) (h2 : Below b.heap.size b d) : Below a.heap.size a d := h1.trans (h2.mono h1.size)
theorem isHead_any (h : Hd) (w : World) (kt : KT w) : Calls Tryd.prog 23 #[hdV h] w fun e w' => e = .returned (.bool (headG h)) ∧ Below w.heap.size w w' := by
  have G := fun W (hW : Below w.heap.size w W) b (hs : SpRow W b (hdS h)) => areGood_any h.size b 4 (hdS h) W (kt.below kt.pos hW) hs (by simp [hdS])
  have hl : (hdS h).length = 4 := rfl
  rw [hl] at G
  go_enter Tryd.func23, Tryd.ntmps23
  go_wp2_with (go_at_call 49; refine (G _ (bel2 _ _ _) (w.heap.size + 1) (sp_new4' (by simp))).mono ?_; rintro e w1 ⟨rfl, hb1⟩)
  go_ret
  exact ⟨rfl, belT (bel2 _ _ _) hb1⟩
abbrev tkA (t : Tk) (pc : Option Addr) (cc : Nat) : Array Value := (tkC t pc cc).toArray
theorem isDim_any (t : Tk) (pc : Option Addr) (cc : Nat) (w : World) (kt : KT w) : Calls Tryd.prog 30 #[tkV t pc cc] w fun e w' => e = .returned (.bool (dimG t)) ∧ Below w.heap.size w w' := by
  unfold dimG
  by_cases h4 : t.op = 4
  · rw [decide_eq_true h4, Bool.true_and]
    have d4 : (t.op == 4) = true := by simp [h4]
    clear h4
    have G := fun W (hW : Below w.heap.size w W) b (hs : SpRow W b [(t.a.p, t.a.o), (t.b.p, t.b.o)]) => areGood_any t.siz b 2 [(t.a.p, t.a.o), (t.b.p, t.b.o)] W (kt.below kt.pos hW) hs (by simp)
    have hl : [(t.a.p, t.a.o), (t.b.p, t.b.o)].length = 2 := rfl
    rw [hl] at G
    go_enter Tryd.func30, Tryd.ntmps30
    go_wp2_with (go_at_call 49; refine (G _ (bel2 _ _ _) (w.heap.size + 1) (sp_new2' (by simp))).mono ?_; rintro e w1 ⟨rfl, hb1⟩)
    go_ret
    exact ⟨rfl, belT (bel2 _ _ _) hb1⟩
  · rw [decide_eq_false h4, Bool.false_and]
    have d4 : (t.op == 4) = false := by simpa using h4
    clear h4
    go_enter Tryd.func30, Tryd.ntmps30
    go_wp2_with fail
    go_ret
    exact ⟨rfl, bel1 _ _⟩
theorem isLen_any (t : Tk) (pc : Option Addr) (cc : Nat) (w : World) (kt : KT w) : Calls Tryd.prog 31 #[tkV t pc cc] w fun e w' => e = .returned (.bool (lenG t)) ∧ Below w.heap.size w w' := by
  unfold lenG
  by_cases h4 : t.op = 6
  · rw [decide_eq_true h4, Bool.true_and]
    have d4 : (t.op == 6) = true := by simp [h4]
    clear h4
    have G := fun W (hW : Below w.heap.size w W) b (hs : SpRow W b [(t.a.p, t.a.o)]) => areGood_any t.siz b 1 [(t.a.p, t.a.o)] W (kt.below kt.pos hW) hs (by simp)
    have hl : [(t.a.p, t.a.o)].length = 1 := rfl
    rw [hl] at G
    go_enter Tryd.func31, Tryd.ntmps31
    go_wp2_with (go_at_call 49; refine (G _ (bel2 _ _ _) (w.heap.size + 1) (sp_new1' (by simp))).mono ?_; rintro e w1 ⟨rfl, hb1⟩)
    go_ret
    exact ⟨rfl, belT (bel2 _ _ _) hb1⟩
  · rw [decide_eq_false h4, Bool.false_and]
    have d4 : (t.op == 6) = false := by simpa using h4
    clear h4
    go_enter Tryd.func31, Tryd.ntmps31
    go_wp2_with fail
    go_ret
    exact ⟨rfl, bel1 _ _⟩
end Go.Proofs.YtfhphjgcmbneeaaDoor
