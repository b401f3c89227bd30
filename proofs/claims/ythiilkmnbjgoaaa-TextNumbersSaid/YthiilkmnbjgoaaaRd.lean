/- The readers: their memory, and take. -/
import Derived.Test.YthiilkmnbjgoaaaHex2
namespace Go.Proofs.Ythiilkmnbjgoaaa
open Go.ChangeShapes Go.WideShapes Go.ChangeAt Go.RowKit

/-- A reader in block g: its text, its place, what it holds, what else lies there. -/
structure Rd (w : World) (g : Nat) (s : ByteArray) (a : Nat) (v : Value) (L : List Nat) (x : Option Value) : Prop where
  h0 : w.cell? ⟨g, 0, none⟩ = some (.string s)
  h1 : w.cell? ⟨g, 1, none⟩ = some (.int .i64 (a : Int))
  h2 : w.cell? ⟨g, 2, none⟩ = some v
  h3 : w.cell? ⟨g, 3, none⟩ = x
  fz : ∀ o, w.frozen? ⟨g, o, none⟩ = false
  buf : Buf w (g + 1) v L
  lt : g < w.heap.size
theorem Rd.below {w w' : World} {g : Nat} {s : ByteArray} {a : Nat} {v : Value} {L : List Nat} {x : Option Value} (h : Rd w g s a v L x) (hb : Below w.heap.size w w') : Rd w' g s a v L x :=
  ⟨(hb.cell (p := ⟨g, 0, none⟩) h.lt).trans h.h0, (hb.cell (p := ⟨g, 1, none⟩) h.lt).trans h.h1, (hb.cell (p := ⟨g, 2, none⟩) h.lt).trans h.h2, (hb.cell (p := ⟨g, 3, none⟩) h.lt).trans h.h3,
    fun o => (hb.frozen (p := ⟨g, o, none⟩) h.lt).trans (h.fz o), h.buf.below hb, Nat.lt_of_lt_of_le h.lt hb.size⟩
theorem Buf.shape {w : World} {B : Nat} {v : Value} {L : List Nat} (h : Buf w B v L) : ∃ p c, v = .slice p L.length c := by
  rcases h.2 with ⟨rfl, h0⟩ | ⟨g', cap, cur, e, _⟩
  · exact ⟨none, 0, by rw [h0]⟩
  · exact ⟨_, _, e⟩
theorem set_cell_ne (w : World) (g o o' : Nat) (u : Value) (h : o' ≠ o) : (w.setCell ⟨g, o, none⟩ u).cell? ⟨g, o', none⟩ = w.cell? ⟨g, o', none⟩ :=
  World.cell?_setCell_other w _ _ _ (fun e => h (by injection e with _ e2; exact e2.symm))
theorem Buf.setCell {w : World} {g o : Nat} {v : Value} {L : List Nat} (h : Buf w (g + 1) v L) (u : Value) : Buf (w.setCell ⟨g, o, none⟩ u) (g + 1) v L := by
  refine ⟨h.1, ?_⟩
  rcases h.2 with h0 | ⟨g', cap, cur, e, hb, hg, r⟩
  · exact .inl h0
  · refine .inr ⟨g', cap, cur, e, hb, ?_, r⟩
    rw [Below.heap_setCell w ⟨g, o, none⟩ u g' (by show g' ≠ g; omega)]
    exact hg
theorem below_set {B g o : Nat} (hB : B ≤ g) (w : World) (u : Value) : Below B w (w.setCell ⟨g, o, none⟩ u) := (Below.refl B w).setCell hB u
/-- The place is moved. -/
theorem Rd.move {w : World} {g : Nat} {s : ByteArray} {a : Nat} {v : Value} {L : List Nat} {x : Option Value} (h : Rd w g s a v L x) (b : Nat) : Rd (w.setCell ⟨g, 1, none⟩ (.int .i64 (b : Int))) g s b v L x :=
  ⟨(set_cell_ne w g 1 0 _ (by decide)).trans h.h0, World.cell?_setCell_same w ⟨g, 1, none⟩ _ h.h1, (set_cell_ne w g 1 2 _ (by decide)).trans h.h2, (set_cell_ne w g 1 3 _ (by decide)).trans h.h3,
    fun o => by rw [World.frozen?_setCell]; exact h.fz o, h.buf.setCell _, by simpa [World.setCell] using h.lt⟩
/-- What it holds is another slice. -/
theorem Rd.held {w w' : World} {g : Nat} {s : ByteArray} {a : Nat} {v v' : Value} {L L' : List Nat} {x : Option Value} (h : Rd w g s a v L x) (hb : Below (g + 1) w w') (hv : Buf w' (g + 1) v' L') : Rd (w'.setCell ⟨g, 2, none⟩ v') g s a v' L' x := by
  have e : ∀ o, w'.cell? ⟨g, o, none⟩ = w.cell? ⟨g, o, none⟩ := fun o => hb.cell (p := ⟨g, o, none⟩) (by show g < g + 1; omega)
  exact ⟨(set_cell_ne w' g 2 0 _ (by decide)).trans ((e 0).trans h.h0), (set_cell_ne w' g 2 1 _ (by decide)).trans ((e 1).trans h.h1), World.cell?_setCell_same w' ⟨g, 2, none⟩ _ ((e 2).trans h.h2),
    (set_cell_ne w' g 2 3 _ (by decide)).trans ((e 3).trans h.h3), fun o => by rw [World.frozen?_setCell, hb.frozen (p := ⟨g, o, none⟩) (by show g < g + 1; omega)]; exact h.fz o, hv.setCell _,
    by have := hb.size; have := h.lt; simp [World.setCell]; omega⟩
set_option maxHeartbeats 1000000 in
theorem take_any (g : Nat) (s : ByteArray) (a n : Nat) (v : Value) (L M : List Nat) (x : Option Value) (ad : Addr) (c : Nat) (w : World) (h : Rd w g s a v L x) (hM : ∀ j u, (M.map cU)[j]? = some u → w.cell? (ad.add j) = some u) (hne : ∀ j, ((ad.add j).block = g) = False)
    (hl : L.length + M.length ≤ 140737488355328) (ha : a + n ≤ 9223372036854775807) :
    Calls Try.prog 40 #[.pointer (some ⟨g, 0, none⟩), .int .i64 (n : Int), .slice (some ad) M.length c] w fun e w' => e = .returned (.bool true) ∧ (∃ v', Rd w' g s (a + n) v' (L ++ M) x) ∧ Below g w w' ∧ w.heap.size ≤ w'.heap.size := by
  have hz := h.lt
  have R1 : Rd (w.setCell ⟨g, 1, none⟩ (.int .i64 ((a : Int) + (n : Int)))) g s (a + n) v L x := by
    have := h.move (a + n)
    rwa [Int.natCast_add] at this
  have S : Src Try.prog 1 22 (.slice (some ad) M.length c) M.length (M.map cU) (w.setCell ⟨g, 1, none⟩ (.int .i64 ((a : Int) + (n : Int)))) :=
    Src.ofSlice _ Try.underlying22 ad M.length c _ (by rw [List.length_map, Nat.mul_one]) (fun j u hu => by
      rw [World.cell?_setCell_other w _ _ _ (fun e => by have := hne j; rw [← e] at this; simp at this)]
      exact hM j u hu) (cU_one M)
  obtain ⟨v', w', hrun, hbuf, hbel⟩ := Buf.append R1.buf S hl (by simp [World.setCell]; omega)
  obtain ⟨pp, cp, hv'⟩ := hbuf.shape
  rw [List.length_append] at hv'
  subst hv'
  have R2 := R1.held hbel hbuf
  have c1 := h.h1
  have c2 := R1.h2
  have f1 := h.fz 1
  have f2 : w'.frozen? ⟨g, 2, none⟩ = false := (hbel.frozen (p := ⟨g, 2, none⟩) (by show g < g + 1; omega)).trans (R1.fz 2)
  have c2' : w'.cell? ⟨g, 2, none⟩ = some v := (hbel.cell (p := ⟨g, 2, none⟩) (by show g < g + 1; omega)).trans c2
  have HB : Hid (Below g w (w'.setCell ⟨g, 2, none⟩ (.slice pp (L.length + M.length) cp))) := (below_set (Nat.le_refl g) w _).trans ((hbel.mono (by omega)).trans (below_set (Nat.le_refl g) w' _))
  have R2' : Hid (Rd (w'.setCell ⟨g, 2, none⟩ (.slice pp (L.length + M.length) cp)) g s (a + n) (.slice pp (L.length + M.length) cp) (L ++ M) x) := R2
  clear R2 R1 S hM hne h hbuf hbel
  go_enter Try.func40, Try.ntmps40
  go_wp2_with (at_builtin; refine (wpList_append_ex (by rfl) _ _ _ _ (by rfl) _ _ (by rfl) (by rfl) (fun a b => a = .slice pp (L.length + M.length) cp ∧ b = w') ⟨_, w', hrun, rfl, rfl⟩ ?_); rintro _ _ ⟨rfl, rfl⟩)
  go_ret
  exact ⟨rfl, ⟨_, R2'⟩, HB, HB.out.size⟩
end Go.Proofs.Ythiilkmnbjgoaaa
