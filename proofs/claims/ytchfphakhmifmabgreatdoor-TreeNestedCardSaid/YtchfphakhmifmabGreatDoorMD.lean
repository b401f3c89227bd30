/- XBuf, XPut, XPut2, XPri, XSame, XRow, XReads. -/
import Derived.Test.YtchfphakhmifmabGreatDoorXCan
import Derived.Test.YtchfphakhmifmabGreatDoorMA
namespace Go.Proofs.YtchfphakhmifmabGreatDoor
open Go.ChangeShapes Go.WideShapes Go.ChangeAt Go.RowKit

end Go.Proofs.YtchfphakhmifmabGreatDoor
namespace Go.Proofs.YtchfphakhmifmabGreatDoor
open Go.ChangeShapes Go.WideShapes Go.ChangeAt Go.RowKit Go.Shelf Go.Lib

/-- A printer in block B: what it has written, its last Kind. -/
structure PS (w : World) (B : Nat) (v : Value) (L : List Nat) (last : Int) : Prop where
  c0 : w.cell? ⟨B, 0, none⟩ = some v
  c1 : w.cell? ⟨B, 1, none⟩ = some (.int .i64 last)
  fz : ∀ o, w.frozen? ⟨B, o, none⟩ = false
  buf : Buf w (B + 1) v L
  lt : B < w.heap.size
theorem PS.below {w w' : World} {B : Nat} {v : Value} {L : List Nat} {last : Int} (h : PS w B v L last) (hb : Below w.heap.size w w') : PS w' B v L last :=
  ⟨(hb.cell (p := ⟨B, 0, none⟩) h.lt).trans h.c0, (hb.cell (p := ⟨B, 1, none⟩) h.lt).trans h.c1, fun o => (hb.frozen (p := ⟨B, o, none⟩) h.lt).trans (h.fz o), h.buf.below hb, Nat.lt_of_lt_of_le h.lt hb.size⟩
theorem PS.drew {w : World} {B : Nat} {v : Value} {L : List Nat} {last : Int} (h : PS w B v L last) : PS w.drew B v L last := ⟨h.c0, h.c1, h.fz, h.buf, h.lt⟩
end Go.Proofs.YtchfphakhmifmabGreatDoor
namespace Go.Proofs.YtchfphakhmifmabGreatDoor
open Go.ChangeShapes Go.WideShapes Go.ChangeAt Go.RowKit Go.Shelf Go.Lib

end Go.Proofs.YtchfphakhmifmabGreatDoor
namespace Go.Proofs.YtchfphakhmifmabGreatDoor
open Go.ChangeShapes Go.WideShapes Go.ChangeAt Go.RowKit Go.Shelf Go.Lib

/-- A piece as it is handed to Print: any Kind, any place. -/
structure IT where
  k : Int
  nm : ByteArray
  vl : ByteArray
  p : Int
def IT.v (t : IT) : Value := .agg #[.int .i64 t.k, .string t.nm, .string t.vl, .int .i64 t.p]
def IT.ok (t : IT) : Prop := t.nm.size ≤ 16777216 ∧ t.vl.size ≤ 16777216
def putE (last : Int) (t : IT) : Nat := if t.k < 0 ∨ 8 ≤ t.k then 40 else if canF last t.k.toNat t.nm t.vl = true then chkE t.k.toNat t.nm t.vl else 40
/-- A list of pieces, handed in: its cells lie ahead of block H. -/
structure IRow (w : World) (pp : Option Addr) (H : Nat) (ts : List IT) : Prop where
  c : ∀ (i : Nat) (t : IT), ts[i]? = some t → ∃ g o, pp = some ⟨g, o, none⟩ ∧ g < H ∧ w.cell? ⟨g, o + i * 4, none⟩ = some (.int .i64 t.k) ∧ w.cell? ⟨g, o + i * 4 + 1, none⟩ = some (.string t.nm) ∧ w.cell? ⟨g, o + i * 4 + 2, none⟩ = some (.string t.vl) ∧ w.cell? ⟨g, o + i * 4 + 3, none⟩ = some (.int .i64 t.p)
theorem IRow.below {w w' : World} {pp : Option Addr} {H : Nat} {ts : List IT} (h : IRow w pp H ts) (hb : Below H w w') : IRow w' pp H ts :=
  ⟨fun i t ht => by
    obtain ⟨g, o, e, hg, h0, h1, h2, h3⟩ := h.c i t ht
    exact ⟨g, o, e, hg, (hb.cell (p := ⟨g, _, none⟩) hg).trans h0, (hb.cell (p := ⟨g, _, none⟩) hg).trans h1, (hb.cell (p := ⟨g, _, none⟩) hg).trans h2, (hb.cell (p := ⟨g, _, none⟩) hg).trans h3⟩⟩
end Go.Proofs.YtchfphakhmifmabGreatDoor
namespace Go.Proofs.YtchfphakhmifmabGreatDoor
open Go.ChangeShapes Go.WideShapes Go.ChangeAt Go.RowKit Go.Shelf Go.Lib

end Go.Proofs.YtchfphakhmifmabGreatDoor
namespace Go.Proofs.YtchfphakhmifmabGreatDoor
open Go.ChangeShapes Go.WideShapes Go.ChangeAt Go.RowKit Go.Shelf Go.Lib

def Tok.it (t : Tok) : IT := ⟨t.k, t.nm, t.vl, t.p⟩
theorem tokCells_get : ∀ (ts : List Tok) (i : Nat) (t : Tok), ts[i]? = some t → ∀ j, j < 4 → (tokCells ts)[i * 4 + j]? = (tokC t)[j]?
  | [], _, _, h, _, _ => by cases h
  | a :: r, 0, t, h, j, hj => by
    cases h
    unfold tokCells
    rw [List.flatMap_cons, List.getElem?_append_left (by simp [tokC]; omega), Nat.zero_mul, Nat.zero_add]
  | a :: r, i + 1, t, h, j, hj => by
    have ih := tokCells_get r i t h j hj
    unfold tokCells at ih ⊢
    have hl : (tokC a).length = 4 := rfl
    rw [List.flatMap_cons, List.getElem?_append_right (by omega), hl, ← ih]
    congr 1
    omega
theorem TRow.irow {W : World} {base H : Nat} {v : Value} {ts : List Tok} (h : TRow W base v ts) (hH : W.heap.size ≤ H) : ∃ pp cp, v = .slice pp ts.length cp ∧ IRow W pp H (ts.map Tok.it) := by
  rcases h.2 with ⟨rfl, h0⟩ | ⟨g, cap, cur, rfl, hb, hg, hn, hm, hs, hx⟩
  · refine ⟨none, 0, by rw [h0], ⟨fun i t ht => ?_⟩⟩
    have : ts = [] := List.eq_nil_of_length_eq_zero h0
    subst this
    cases ht
  · refine ⟨_, _, rfl, ⟨fun i t ht => ?_⟩⟩
    rw [List.getElem?_map] at ht
    cases hi : ts[i]? with
    | none => rw [hi] at ht; cases ht
    | some u =>
      rw [hi] at ht
      cases ht
      have hlt : i < ts.length := (List.getElem?_eq_some_iff.1 hi).1
      have hc : ∀ j, j < 4 → W.cell? ⟨g, 0 + i * 4 + j, none⟩ = (tokC u)[j]? := by
        intro j hj
        have e := tokCells_get ts i u hi j hj
        rw [← hx, List.getElem?_take_of_lt (by omega), Array.getElem?_toList] at e
        simp only [World.cell?, hg, Nat.zero_add]
        exact e
      exact ⟨g, 0, rfl, Nat.lt_of_lt_of_le (Array.getElem?_eq_some_iff.1 hg).1 hH, hc 0 (by decide), hc 1 (by decide), hc 2 (by decide), hc 3 (by decide)⟩
end Go.Proofs.YtchfphakhmifmabGreatDoor
namespace Go.Proofs.YtchfphakhmifmabGreatDoor
open Go.ChangeShapes Go.WideShapes Go.ChangeAt Go.RowKit Go.Shelf Go.Lib

end Go.Proofs.YtchfphakhmifmabGreatDoor
