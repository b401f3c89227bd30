/- The document's reader of pieces: a piece is laid down. -/
import Derived.Test.YtchfphakhmifmaaGreatDoorXR2
import Derived.Test.YtchfphakhmifmaaGreatDoorXI
namespace Go.Proofs.YtchfphakhmifmaaGreatDoor
open Go.ChangeShapes Go.WideShapes Go.ChangeAt Go.RowKit Go.Shelf Go.Lib

/-- A reader and the pieces that it has. -/
structure RP (w : World) (R : Nat) (s : ByteArray) (a : Nat) (al : List IT) (er fl : Nat) : Prop where
  x : ∃ v, RX w R s a v er fl ∧ w.ownsRow (R + 1) 39 4 v al.length (itCells al)
theorem ownI_below {w w' : World} {base : Nat} {v : Value} {n : Nat} {xs : List Value} (h : w.ownsRow base 39 4 v n xs) (hb : Below w.heap.size w w') : w'.ownsRow base 39 4 v n xs := by
  refine World.ownsRow.kept (row := none) h ⟨hb.os, hb.tape, hb.output, hb.size, fun k hk _ => hb.block k hk⟩ ?_
  cases hv : v.ownBlock <;> simp
theorem RP.put {w : World} {R : Nat} {s : ByteArray} {a : Nat} {al : List IT} {er fl : Nat} {v : Value} (h : RX w R s a v er fl) (own : w.ownsRow (R + 1) 39 4 v al.length (itCells al)) (hl : al.length ≤ 1048576) (t : IT) :
    ∃ v' w', (∀ ty, (Builtin.append_ #[31, 31] ty #[v, .slice (some ⟨w.heap.size, 0, none⟩) 1 1]).run Tryz.prog (w.alloc (.cells #[.int .i64 t.k, .string t.nm, .string t.vl, .int .i64 t.p] 39)) = .ok v' w') ∧
      Below (R + 1) w w' ∧ RX w' R s a v er fl ∧ w'.ownsRow (R + 1) 39 4 v' (al ++ [t]).length (itCells (al ++ [t])) := by
  have hR := h.lt
  have b3 := bel1 w (.cells #[.int .i64 t.k, .string t.nm, .string t.vl, .int .i64 t.p] 39)
  have hTK := TK.of (heap_new w (.cells #[.int .i64 t.k, .string t.nm, .string t.vl, .int .i64 t.p] 39))
  have hB : IRow (w.alloc (.cells #[.int .i64 t.k, .string t.nm, .string t.vl, .int .i64 t.p] 39)) (some ⟨w.heap.size, 0, none⟩) (w.heap.size + 1) [t] :=
    ⟨fun i t' ht => by
      cases i with
      | succ i => cases ht
      | zero => cases ht; exact ⟨_, 0, rfl, Nat.lt_succ_self _, hTK.c0, hTK.c1, hTK.c2, hTK.c3⟩⟩
  obtain ⟨v5, w5, hrun5, hown5, hbel5⟩ := it_ap (bl := [t]) 1 (ownI_below own b3) hB (by simp; omega) (by rw [World.size_alloc]; omega)
  have hx1 := h.below b3
  refine ⟨v5, w5, hrun5, (b3.mono (by omega)).trans hbel5, ?_, by rw [List.length_append]; exact hown5⟩
  have e : ∀ o, w5.cell? ⟨R, o, none⟩ = (w.alloc (.cells #[.int .i64 t.k, .string t.nm, .string t.vl, .int .i64 t.p] 39)).cell? ⟨R, o, none⟩ := fun o => hbel5.cell (p := ⟨R, o, none⟩) (Nat.lt_succ_self R)
  exact ⟨(e 0).trans hx1.c0, (e 1).trans hx1.c1, (e 2).trans hx1.c2, (e 3).trans hx1.c3, (e 4).trans hx1.c4, fun o => (hbel5.frozen (p := ⟨R, o, none⟩) (Nat.lt_succ_self R)).trans (hx1.fz o)⟩
theorem RX.lay {w : World} {R : Nat} {s : ByteArray} {a : Nat} {v : Value} {er fl : Nat} (h : RX w R s a v er fl) (u : Value) : RX (w.setCell ⟨R, 2, none⟩ u) R s a u er fl :=
  ⟨(cell_neX _ (by decide)).trans h.c0, (cell_neX _ (by decide)).trans h.c1, World.cell?_setCell_same w ⟨R, 2, none⟩ _ h.c2, (cell_neX _ (by decide)).trans h.c3, (cell_neX _ (by decide)).trans h.c4, fun o => by rw [World.frozen?_setCell]; exact h.fz o⟩
set_option maxHeartbeats 2000000 in
theorem rput (R : Nat) (s : ByteArray) (a : Nat) (al : List IT) (k : Int) (nm vl : ByteArray) (p : Int) (w : World) (h : RP w R s a al 0 0) (hl : al.length ≤ 1048576) :
    Calls Tryz.prog 69 #[.pointer (some ⟨R, 0, none⟩), .int .i64 k, .string nm, .string vl, .int .i64 p] w fun r w' => r = .returned (.tuple #[]) ∧ Below R w w' ∧ RP w' R s a (al ++ [⟨k, nm, vl, p⟩]) 0 0 := by
  obtain ⟨v, hX, own⟩ := h.x
  obtain ⟨v3, w3, hrun, hbel, hX3, hown3⟩ := RP.put hX own hl ⟨k, nm, vl, p⟩
  obtain ⟨G, cap, rfl⟩ : ∃ G cap, v3 = .slice (some ⟨G, 0, none⟩) (al.length + 1) cap := by
    rcases hown3.2 with ⟨_, h0⟩ | ⟨g, c, cur, e, _⟩
    · simp at h0
    · exact ⟨g, c, by rw [e]; simp⟩
  have HO := Hid.mk' hown3
  have HB := Hid.mk' hbel
  clear hown3 own h hbel
  have d2 := hX.c2
  have e2 := hX3.c2
  have f2 := hX3.fz 2
  have HX := Hid.mk' (hX3.lay (.slice (some ⟨G, 0, none⟩) (al.length + 1) cap))
  go_enter Tryz.func69, Tryz.ntmps69
  go_wp2_with (at_builtin; refine (wpList_append_ex (by rfl) _ _ _ _ (by rfl) _ _ (by rfl) (by rfl) (fun a b => a = .slice (some ⟨G, 0, none⟩) (al.length + 1) cap ∧ b = w3) ⟨_, w3, hrun, rfl, rfl⟩ ?_); rintro _ _ ⟨rfl, rfl⟩)
  go_end0
  have hG : R + 1 ≤ G := by
    rcases HO.out.2 with ⟨h0, _⟩ | ⟨g, c, cur, e, hb, _⟩
    · cases h0
    · injection e with e1 _ _
      injection e1 with e2
      injection e2 with e3
      omega
  refine ⟨rfl, (HB.out.mono (Nat.le_succ R)).setCell (Nat.le_refl _) _, ⟨_, HX.out, ?_⟩⟩
  exact World.ownsRow.kept (row := some R) HO.out ⟨rfl, rfl, rfl, by simp [World.setCell], fun k _ hk => Below.heap_setCell _ _ _ _ (fun e => hk (by rw [e]))⟩ (.inr (fun e => by have : G = R := Option.some.inj e; omega))
end Go.Proofs.YtchfphakhmifmaaGreatDoor
