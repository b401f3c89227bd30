/- The program's Text. -/
import Derived.Test.YtfikmlckcbnppaaDoorLpK
namespace Go.Proofs.YtfikmlckcbnppaaDoor
open Go.ChangeShapes Go.WideShapes Go.ChangeAt Go.RowKit Go.Shelf Go.Maps

theorem sc_app (a b : ByteArray) : Lib.strCells (a ++ b) = Lib.strCells a ++ Lib.strCells b := by
  unfold Lib.strCells
  simp [ByteArray.data_append]
theorem sc_46 : Lib.strCells (⟨#[46]⟩ : ByteArray) = [.int .u8 46] := rfl
theorem sc_len (a : ByteArray) : (Lib.strCells a).length = a.size := Lib.strCells_length a
theorem IsB.below {B b : Nat} {bs : List Value} {W W' : World} (h : IsB B b bs W) (hb : Below W.heap.size W W') : IsB B b bs W' := by
  have key : ∀ p, Lib.BuilderAt 68 5 B b p bs W → Lib.BuilderAt 68 5 B b p bs W' := fun p ⟨h1, v, h2, h3, h4⟩ => ⟨h1, v, (hb.block _ (Array.getElem?_eq_some_iff.1 h2).1).trans h2, own_stay h3 fun g hg => hb.block g (h3.lt g hg).2, h4⟩
  rcases h with h | h
  · exact .inl (key _ h)
  · exact .inr (key _ h)
/-- Inside of textOf: the builder in block w.heap.size, the round's step in block X. -/
structure Tx (w : World) (t : ByteArray) (X : Nat) (x : ByteArray × Int) (W : World) : Prop where
  ib : IsB w.heap.size w.heap.size (Lib.strCells t) W
  bl : Below w.heap.size w W
  xb : W.heap[X]? = some (spO x)
  lt : w.heap.size < X
theorem Tx.sz {w : World} {t : ByteArray} {X : Nat} {x : ByteArray × Int} {W : World} (h : Tx w t X x W) : w.heap.size ≤ W.heap.size := h.bl.size
theorem neSp : 46 ≠ 5 := by decide
theorem Tx.step {w : World} {t t' : ByteArray} {X : Nat} {x : ByteArray × Int} {W W' : World} (h : Tx w t X x W) (ib : IsB w.heap.size w.heap.size (Lib.strCells t') W') (bl : Below w.heap.size W W') (ok : Ok8 w.heap.size W W') : Tx w t' X x W' :=
  ⟨ib, h.bl.trans bl, (ok X (Array.getElem?_eq_some_iff.1 h.xb).1 (by have := h.lt; omega) (fun c e => by rw [h.xb] at e; injection e with e; injection e with _ e _; exact neSp e)).trans h.xb, h.lt⟩
theorem Tx.dot {w : World} {t : ByteArray} {X : Nat} {x : ByteArray × Int} {W : World} (h : Tx w t X x W) (ht : t.size ≤ 100000000000) : Calls Tryd.prog 26 #[.pointer (some ⟨w.heap.size, 0, none⟩), .int .u8 46] W fun e w' => e = .returned .nilIface ∧ Tx w (t ++ (⟨#[46]⟩ : ByteArray)) X x w' :=
  (wByte w.heap.size w.heap.size (Lib.strCells t) 46 W h.ib (by rw [sc_len]; omega) h.sz).mono fun e w' ⟨h1, h2, h3, h4⟩ => ⟨h1, h.step (by rw [sc_app, sc_46]; exact h2) h3 h4⟩
theorem Tx.str {w : World} {t : ByteArray} {X : Nat} {x : ByteArray × Int} {W : World} (h : Tx w t X x W) (s : ByteArray) (ht : t.size + s.size ≤ 100000000000) : Calls Tryd.prog 27 #[.pointer (some ⟨w.heap.size, 0, none⟩), .string s] W fun e w' => e = .returned (.tuple #[.int .i64 (s.size : Int), .nilIface]) ∧ Tx w (t ++ s) X x w' :=
  (wString w.heap.size w.heap.size (Lib.strCells t) s W h.ib (by rw [sc_len]; omega) h.sz).mono fun e w' ⟨h1, h2, h3, h4⟩ => ⟨h1, h.step (by rw [sc_app]; exact h2) h3 h4⟩
theorem Tx.below {w : World} {t : ByteArray} {X : Nat} {x : ByteArray × Int} {W W' : World} (h : Tx w t X x W) (hb : Below W.heap.size W W') : Tx w t X x W' :=
  ⟨h.ib.below hb, h.bl.trans (hb.mono h.bl.size), (hb.block _ (Array.getElem?_eq_some_iff.1 h.xb).1).trans h.xb, h.lt⟩
end Go.Proofs.YtfikmlckcbnppaaDoor
