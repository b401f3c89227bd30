/- A cursor in memory (the program's and the document's lie alike), and its small methods. -/
import Derived.Test.YtfhphjgcmbneeaaDoorCuM
namespace Go.Proofs.YtfhphjgcmbneeaaDoor
open Go.ChangeShapes Go.WideShapes Go.ChangeAt Go.RowKit

def ordV (hi : Bool) : Int := if hi then 1 else 0
/-- A cursor in block c from cell o on; its buffer lies in block g. -/
structure Cs (w : World) (c o g len cap st en : Nat) (hi : Bool) (f : Nat → Int) : Prop where
  lt : c < w.heap.size
  buf : w.cell? ⟨c, o, none⟩ = some (.slice (some ⟨g, 0, none⟩) len cap)
  fro : w.cell? ⟨c, o + 1, none⟩ = some (.int .i64 st)
  to : w.cell? ⟨c, o + 2, none⟩ = some (.int .i64 en)
  ord : w.cell? ⟨c, o + 3, none⟩ = some (.int .i64 (ordV hi))
  frz : w.frozen? ⟨c, o + 2, none⟩ = false
  row : w.rowIs g 5 cap (fun j => .int .u8 (f j))
  bd : ∀ j, 0 ≤ f j ∧ f j ≤ 255
  ne : c ≠ g
  h1 : st ≤ en
  h2 : en ≤ len
  h3 : len ≤ cap
  h4 : len ≤ 140737488355328
/-- Of what was there only the cursor's end (block c, cell o + 2) and its buffer (block g) may have turned. -/
structure Cb (c o g : Nat) (w w' : World) : Prop where
  os : w'.os = w.os
  tape : w'.tape = w.tape
  output : w'.output = w.output
  size : w.heap.size ≤ w'.heap.size
  block : ∀ k, k < w.heap.size → k ≠ c → k ≠ g → w'.heap[k]? = w.heap[k]?
  cell : ∀ i, i ≠ o + 2 → w'.cell? ⟨c, i, none⟩ = w.cell? ⟨c, i, none⟩
  froz : ∀ i, w'.frozen? ⟨c, i, none⟩ = w.frozen? ⟨c, i, none⟩
theorem Cb.refl (c o g : Nat) (w : World) : Cb c o g w w := ⟨rfl, rfl, rfl, Nat.le_refl _, fun _ _ _ _ => rfl, fun _ _ => rfl, fun _ => rfl⟩
theorem Cb.trans {c o g : Nat} {a b d : World} (h : Cb c o g a b) (k : Cb c o g b d) : Cb c o g a d :=
  ⟨k.os.trans h.os, k.tape.trans h.tape, k.output.trans h.output, Nat.le_trans h.size k.size, fun i hi h1 h2 => (k.block i (Nat.lt_of_lt_of_le hi h.size) h1 h2).trans (h.block i hi h1 h2),
    fun i hi => (k.cell i hi).trans (h.cell i hi), fun i => (k.froz i).trans (h.froz i)⟩
theorem Cb.of_below {c o g : Nat} {w w' : World} (h : Below w.heap.size w w') (hc : c < w.heap.size) : Cb c o g w w' :=
  ⟨h.os, h.tape, h.output, h.size, fun k hk _ _ => h.block k hk, fun i _ => h.cell (p := ⟨c, i, none⟩) hc, fun i => h.frozen (p := ⟨c, i, none⟩) hc⟩
theorem Cb.of_only {c o g : Nat} {w w' : World} (h : Only g w w') (hc : c < w.heap.size) (hn : c ≠ g) : Cb c o g w w' :=
  ⟨h.os, h.tape, h.output, h.size, fun k hk _ h2 => h.block k hk h2, fun _ _ => World.cell?_of_block (w := w) (h.block c hc hn), fun _ => World.frozen?_of_block (w := w) (h.block c hc hn)⟩
theorem Cb.below {c o g B : Nat} {w w' : World} (h : Cb c o g w w') (hc : B ≤ c) (hg : B ≤ g) (hB : B ≤ w.heap.size) : Below B w w' := ⟨h.os, h.tape, h.output, h.size, fun k hk => h.block k (by omega) (by omega) (by omega)⟩
theorem Cb.at {c o g : Nat} {w w' : World} (h : Cb c o g w w') {b i : Nat} (hb : b < w.heap.size) (h1 : b ≠ c) (h2 : b ≠ g) : w'.cell? ⟨b, i, none⟩ = w.cell? ⟨b, i, none⟩ := World.cell?_of_block (w := w) (h.block b hb h1 h2)
theorem Cb.kt {c o g : Nat} {w w' : World} (h : Cb c o g w w') (k : KT w) (hc : 0 < c) (hg : 0 < g) : KT w' := k.below (B := 0 + 1) (by omega) (h.below hc hg k.pos)
theorem Cs.below {w w' : World} {c o g len cap st en : Nat} {hi : Bool} {f : Nat → Int} (h : Cs w c o g len cap st en hi f) (hb : Below w.heap.size w w') : Cs w' c o g len cap st en hi f :=
  ⟨Nat.lt_of_lt_of_le h.lt hb.size, (hb.cell (p := ⟨c, o, none⟩) h.lt).trans h.buf, (hb.cell (p := ⟨c, o + 1, none⟩) h.lt).trans h.fro, (hb.cell (p := ⟨c, o + 2, none⟩) h.lt).trans h.to, (hb.cell (p := ⟨c, o + 3, none⟩) h.lt).trans h.ord,
    (hb.frozen (p := ⟨c, o + 2, none⟩) h.lt).trans h.frz, rowIs_below h.row hb h.row.lt, h.bd, h.ne, h.h1, h.h2, h.h3, h.h4⟩
/-- The buffer turned, the cursor not. -/
theorem Cs.only {w w' : World} {c o g len cap st en : Nat} {hi : Bool} {f f' : Nat → Int} (h : Cs w c o g len cap st en hi f) (ho : Only g w w') (hr : w'.rowIs g 5 cap (fun j => .int .u8 (f' j))) (hb : ∀ j, 0 ≤ f' j ∧ f' j ≤ 255) : Cs w' c o g len cap st en hi f' :=
  ⟨Nat.lt_of_lt_of_le h.lt ho.size, (ho.cell (p := ⟨c, o, none⟩) h.lt h.ne).trans h.buf, (ho.cell (p := ⟨c, o + 1, none⟩) h.lt h.ne).trans h.fro, (ho.cell (p := ⟨c, o + 2, none⟩) h.lt h.ne).trans h.to, (ho.cell (p := ⟨c, o + 3, none⟩) h.lt h.ne).trans h.ord,
    (World.frozen?_of_block (w := w) (ho.block c h.lt h.ne)).trans h.frz, hr, hb, h.ne, h.h1, h.h2, h.h3, h.h4⟩
/-- Another cursor's work. -/
theorem Cs.other {w w' : World} {c o g len cap st en : Nat} {hi : Bool} {f : Nat → Int} {c2 o2 g2 : Nat} (h : Cs w c o g len cap st en hi f) (hb : Cb c2 o2 g2 w w') (n1 : c ≠ c2) (n2 : c ≠ g2) (n3 : g ≠ c2) (n4 : g ≠ g2) : Cs w' c o g len cap st en hi f :=
  ⟨Nat.lt_of_lt_of_le h.lt hb.size, (hb.at h.lt n1 n2).trans h.buf, (hb.at h.lt n1 n2).trans h.fro, (hb.at h.lt n1 n2).trans h.to, (hb.at h.lt n1 n2).trans h.ord,
    (World.frozen?_of_block (w := w) (hb.block c h.lt n1 n2)).trans h.frz, h.row.of_block (hb.block g h.row.lt n3 n4), h.bd, h.ne, h.h1, h.h2, h.h3, h.h4⟩
/-- The end moves. -/
theorem Cs.moved {w : World} {c o g len cap st en : Nat} {hi : Bool} {f : Nat → Int} (h : Cs w c o g len cap st en hi f) (m : Nat) (h1 : st ≤ m) (h2 : m ≤ len) :
    Cs (w.setCell ⟨c, o + 2, none⟩ (.int .i64 m)) c o g len cap st m hi f ∧ Cb c o g w (w.setCell ⟨c, o + 2, none⟩ (.int .i64 m)) := by
  have hcl : ∀ b, b ≠ c → (w.setCell ⟨c, o + 2, none⟩ (.int .i64 m)).heap[b]? = w.heap[b]? := fun b hb => Below.heap_setCell w _ _ b hb
  have hoc : ∀ i, i ≠ o + 2 → (w.setCell ⟨c, o + 2, none⟩ (.int .i64 m)).cell? ⟨c, i, none⟩ = w.cell? ⟨c, i, none⟩ := fun i hi => World.cell?_setCell_other _ _ _ _ (fun e => hi (by simpa using congrArg Addr.off e.symm))
  refine ⟨⟨by simpa [World.setCell] using h.lt, (hoc _ (by omega)).trans h.buf, (hoc _ (by omega)).trans h.fro, ?_, (hoc _ (by omega)).trans h.ord, ?_, h.row.of_block (hcl g (Ne.symm h.ne)), h.bd, h.ne, h1, h2, h.h3, h.h4⟩, ?_⟩
  · exact World.cell?_setCell_same _ _ _ h.to
  · rw [World.frozen?_setCell]; exact h.frz
  · exact ⟨rfl, rfl, rfl, by simp [World.setCell], fun k _ h1 _ => hcl k h1, hoc, fun i => World.frozen?_setCell _ _ _ _⟩
end Go.Proofs.YtfhphjgcmbneeaaDoor
