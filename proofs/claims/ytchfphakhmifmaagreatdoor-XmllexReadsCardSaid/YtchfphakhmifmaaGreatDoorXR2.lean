/- The document's reader of pieces: faults, bytes, names. -/
import Derived.Test.YtchfphakhmifmaaGreatDoorXR1
import Derived.Test.YtchfphakhmifmaaGreatDoorMR
namespace Go.Proofs.YtchfphakhmifmaaGreatDoor
open Go.ChangeShapes Go.WideShapes Go.ChangeAt Go.RowKit Go.Shelf Go.Lib

/-- The reader's five cells: the text, the place, the pieces so far, the first fault and its place. -/
structure RX (w : World) (R : Nat) (s : ByteArray) (a : Nat) (v : Value) (er fl : Nat) : Prop where
  c0 : w.cell? ⟨R, 0, none⟩ = some (.string s)
  c1 : w.cell? ⟨R, 1, none⟩ = some (.int .i64 (a : Int))
  c2 : w.cell? ⟨R, 2, none⟩ = some v
  c3 : w.cell? ⟨R, 3, none⟩ = some (.int .i64 (er : Int))
  c4 : w.cell? ⟨R, 4, none⟩ = some (.int .i64 (fl : Int))
  fz : ∀ o, w.frozen? ⟨R, o, none⟩ = false
theorem RX.lt {w : World} {R : Nat} {s : ByteArray} {a : Nat} {v : Value} {er fl : Nat} (h : RX w R s a v er fl) : R < w.heap.size := World.block_lt_of_cell? w ⟨R, 0, none⟩ h.c0
theorem RX.ra {w : World} {R : Nat} {s : ByteArray} {a : Nat} {v : Value} {er fl : Nat} (h : RX w R s a v er fl) : RA w R s a := ⟨h.c0, h.c1, h.fz, h.lt⟩
theorem RX.mv {w w' : World} {R : Nat} {s : ByteArray} {a b : Nat} {v : Value} {er fl : Nat} (h : RX w R s a v er fl) (m : Mv R w w') (hb : RA w' R s b) : RX w' R s b v er fl :=
  ⟨hb.h0, hb.h1, (m.cell 2 (by decide)).trans h.c2, (m.cell 3 (by decide)).trans h.c3, (m.cell 4 (by decide)).trans h.c4, hb.fz⟩
theorem RX.below {w w' : World} {R : Nat} {s : ByteArray} {a : Nat} {v : Value} {er fl : Nat} (h : RX w R s a v er fl) (hb : Below w.heap.size w w') : RX w' R s a v er fl :=
  ⟨(hb.cell (p := ⟨R, _, none⟩) h.lt).trans h.c0, (hb.cell (p := ⟨R, _, none⟩) h.lt).trans h.c1, (hb.cell (p := ⟨R, _, none⟩) h.lt).trans h.c2, (hb.cell (p := ⟨R, _, none⟩) h.lt).trans h.c3, (hb.cell (p := ⟨R, _, none⟩) h.lt).trans h.c4, fun o => (hb.frozen (p := ⟨R, o, none⟩) h.lt).trans (h.fz o)⟩
theorem But.setX {R : Nat} {w wr : World} (h : But R w wr) (o : Nat) (u : Value) : But R w (wr.setCell ⟨R, o, none⟩ u) :=
  ⟨h.os, h.tape, h.output, by have := h.size; simp [World.setCell]; omega, fun k hk hn => (Below.heap_setCell wr _ _ _ (show k ≠ R from hn)).trans (h.block k hk hn)⟩
theorem cell_neX {w : World} {R i j : Nat} (u : Value) (h : i ≠ j) : (w.setCell ⟨R, i, none⟩ u).cell? ⟨R, j, none⟩ = w.cell? ⟨R, j, none⟩ := World.cell?_setCell_other w _ _ _ (fun e => h (by injection e))
/-- The first fault is laid down. -/
theorem RX.flt {w : World} {R : Nat} {s : ByteArray} {a : Nat} {v : Value} (h : RX w R s a v 0 0) (e p : Nat) : RX ((w.setCell ⟨R, 3, none⟩ (.int .i64 (e : Int))).setCell ⟨R, 4, none⟩ (.int .i64 (p : Int))) R s a v e p :=
  ⟨(cell_neX _ (by decide)).trans ((cell_neX _ (by decide)).trans h.c0), (cell_neX _ (by decide)).trans ((cell_neX _ (by decide)).trans h.c1), (cell_neX _ (by decide)).trans ((cell_neX _ (by decide)).trans h.c2),
    (cell_neX _ (by decide)).trans (World.cell?_setCell_same w ⟨R, 3, none⟩ _ h.c3), World.cell?_setCell_same _ ⟨R, 4, none⟩ _ ((cell_neX _ (by decide)).trans h.c4), fun o => by rw [World.frozen?_setCell, World.frozen?_setCell]; exact h.fz o⟩
theorem rfault (R : Nat) (s : ByteArray) (a : Nat) (v : Value) (e p : Nat) (w : World) (h : RX w R s a v 0 0) :
    Calls Tryz.prog 40 #[.pointer (some ⟨R, 0, none⟩), .int .i64 (e : Int), .int .i64 (p : Int)] w fun r w' => r = .returned (.bool false) ∧ But R w w' ∧ RX w' R s a v e p := by
  have d3 := h.c3
  have d4 := h.c4
  have f3 := h.fz 3
  have f4 := h.fz 4
  have d4' : (w.setCell ⟨R, 3, none⟩ (.int .i64 (e : Int))).cell? ⟨R, 4, none⟩ = some (.int .i64 0) := (cell_neX _ (by decide)).trans h.c4
  have HF := Hid.mk' (h.flt e p)
  go_enter Tryz.func40, Tryz.ntmps40
  go_wp2_with fail
  go_ret
  exact ⟨rfl, ((But.refl R w).setX _ _).setX _ _, HF.out⟩
/-- What a part of the reader leaves: the place moved on, or the first fault. -/
def RZ (R : Nat) (s : ByteArray) (v : Value) (w : World) (z : Nat ⊕ (Nat × Nat)) (a : Nat) (w' : World) : Prop :=
  But R w w' ∧ match z with
    | .inl b => RX w' R s b v 0 0
    | .inr (e, p) => RX w' R s a v e p
def okZ {α β : Type} : α ⊕ β → Bool
  | .inl _ => true
  | .inr _ => false
/-- A byte that must stand at a place. -/
def byteZ (s : ByteArray) (a c : Nat) : Nat ⊕ (Nat × Nat) := if a = s.size then .inr (41, a) else if ch s a = c then .inl (a + 1) else .inr (40, a)
set_option maxHeartbeats 2000000 in
theorem rbyteIs (R : Nat) (s : ByteArray) (a : Nat) (v : Value) (c : Nat) (w : World) (h : RX w R s a v 0 0) (ha : a ≤ s.size) (hs : s.size ≤ 4611686018427387904) :
    Calls Tryz.prog 92 #[.pointer (some ⟨R, 0, none⟩), .int .u8 (c : Int)] w fun r w' => r = .returned (.bool (okZ (byteZ s a c))) ∧ RZ R s v w (byteZ s a c) a w' := by
  have d0 := h.c0
  have d1 := h.c1
  have f1 := h.fz 1
  unfold byteZ
  by_cases h0 : a = s.size
  · rw [if_pos h0]
    have k0 : (a : Int) = (s.size : Int) := by omega
    have cF := fun n => rfault R s a v 41 a (w.drewN n) ⟨h.c0, h.c1, h.c2, h.c3, h.c4, h.fz⟩
    have HW := Hid.mk' h
    have k1 : ((a : Int) == (s.size : Int)) = true := beq_iff_eq.2 k0
    clear k0 h0
    go_enter Tryz.func92, Tryz.ntmps92
    go_wp2_with fail
    go_quiet (fail)
    go_wp2_with (go_at_call 40; refine (cF _).mono ?_; rintro e w1 ⟨rfl, hb, hx⟩)
    go_ret
    exact ⟨rfl, ⟨hb.os, hb.tape, hb.output, hb.size, hb.block⟩, hx⟩
  · rw [if_neg h0]
    have k0 : ((a : Int) == (s.size : Int)) = false := beq_eq_false_iff_ne.2 (by omega)
    have k00 : ¬ (a : Int) = (s.size : Int) := by omega
    have ix : ∀ w : World, (Instr.index 9 (.string s) (.int .i64 (a : Int))).run Tryz.prog w = .ok (.int .u8 (ch s a : Int)) w := fun w => idx (w := w) s a (by omega) .i64
    have hlt : (a : Int) < (s.size : Int) := by omega
    by_cases h1 : ch s a = c
    · rw [if_pos h1]
      rw [h1] at ix
      have HP := Hid.mk' (fun n => h.mv ((Mv.refl R w).drewN n |>.back (.int .i64 ((a : Int) + 1))) ((h.ra.drewN n).put (b := a + 1) ((a : Int) + 1) (by omega)))
      clear h1 h0
      go_enter Tryz.func92, Tryz.ntmps92
      go_wp2_with fail
      go_quiet (fail)
      go_wp2_with fail
      go_quiet (fail)
      go_wp2_with fail
      go_ret
      exact ⟨rfl, ((Mv.refl R w).drewN _ |>.back _).but, HP.out _⟩
    · rw [if_neg h1]
      have k1 : ((ch s a : Int) != (c : Int)) = true := bne_iff_ne.2 (by omega)
      have k2 : decide ((ch s a : Int) = (c : Int)) = false := decide_eq_false (by omega)
      have cF := fun n => rfault R s a v 40 a (w.drewN n) ⟨h.c0, h.c1, h.c2, h.c3, h.c4, h.fz⟩
      generalize ch s a = d at *
      clear h1 h0
      go_enter Tryz.func92, Tryz.ntmps92
      go_wp2_with fail
      go_quiet (fail)
      go_wp2_with fail
      go_quiet (fail)
      go_wp2_with (go_at_call 40; refine (cF _).mono ?_; rintro e w1 ⟨rfl, hb, hx⟩)
      go_ret
      exact ⟨rfl, ⟨hb.os, hb.tape, hb.output, hb.size, hb.block⟩, hx⟩
/-- A name that must stand at a place. -/
def nameY (s : ByteArray) (a : Nat) : Nat ⊕ (Nat × Nat) := if a = s.size then .inr (41, a) else if xmlNameB (s.extract a (rowN s a)) = true then .inl (rowN s a) else .inr (42, a)
def nameT (s : ByteArray) (a : Nat) : ByteArray := if okZ (nameY s a) = true then s.extract a (rowN s a) else E0
set_option maxHeartbeats 4000000 in
theorem rname (R : Nat) (s : ByteArray) (a : Nat) (v : Value) (w : World) (h : RX w R s a v 0 0) (ha : a ≤ s.size) (hs : s.size ≤ 4611686018427387904) :
    Calls Tryz.prog 91 #[.pointer (some ⟨R, 0, none⟩)] w fun r w' => r = .returned (.tuple #[.string (nameT s a), .bool (okZ (nameY s a))]) ∧ RZ R s v w (nameY s a) a w' := by
  have d0 := h.c0
  have d1 := h.c1
  unfold nameT nameY
  by_cases h0 : a = s.size
  · rw [if_pos h0]
    have cF := fun n => rfault R s a v 41 a (w.drewN n) ⟨h.c0, h.c1, h.c2, h.c3, h.c4, h.fz⟩
    have k1 : ((a : Int) == (s.size : Int)) = true := beq_iff_eq.2 (by omega)
    clear h0
    go_enter Tryz.func91, Tryz.ntmps91
    go_wp2_with fail
    go_quiet (fail)
    go_wp2_with (go_at_call 40; refine (cF _).mono ?_; rintro e w1 ⟨rfl, hb, hx⟩)
    exact bodyPost_ret (v := .tuple #[.string ⟨#[]⟩, .bool false]) (by simp [results, Tryz.results91, go_sem]) rfl ⟨rfl, ⟨hb.os, hb.tape, hb.output, hb.size, hb.block⟩, hx⟩
  · rw [if_neg h0]
    have k0 : ((a : Int) == (s.size : Int)) = false := beq_eq_false_iff_ne.2 (by omega)
    have k00 : ¬ (a : Int) = (s.size : Int) := by omega
    obtain ⟨m1, m2⟩ := rowN_le s a ha
    have cR := fun n => rrow R s a (w.drewN n) (h.ra.drewN n) ha (by omega)
    have hxs : (s.extract a (rowN s a)).size ≤ s.size := ext_size_le _ _ _
    have cX := fun w => rXMLName (s.extract a (rowN s a)) (by omega) w
    generalize rowN s a = b at *
    have j1 : (a : Int) ≤ (b : Int) := by omega
    have j2 : (b : Int) ≤ (s.size : Int) := by omega
    have HX := Hid.mk' h
    cases hx : xmlNameB (s.extract a b)
    · rw [hx] at cX
      simp only [Bool.false_eq_true, if_false]
      clear hx h0 hxs
      go_enter Tryz.func91, Tryz.ntmps91
      go_wp2_with fail
      go_quiet (fail)
      go_wp2_with (go_at_call 116; refine (cR _).mono ?_; rintro e w1 ⟨rfl, rfl⟩)
      go_quiet (fail)
      go_wp2_with (first
        | (go_at_call 43; refine (cX _).mono ?_; rintro e w2 ⟨rfl, hb2⟩; have HY := Hid.mk' (RX.below (w := w.drewN _) ⟨HX.out.c0, HX.out.c1, HX.out.c2, HX.out.c3, HX.out.c4, HX.out.fz⟩ hb2); have y1 := HY.out.c1)
        | (go_at_call 40; refine (rfault R s a v 42 a _ HY.out).mono ?_; rintro e w3 ⟨rfl, hb, hx⟩))
      exact bodyPost_ret (v := .tuple #[.string ⟨#[]⟩, .bool false]) (by simp [results, Tryz.results91, go_sem]) rfl ⟨rfl, (show But R w w2 from ⟨hb2.os, hb2.tape, hb2.output, hb2.size, fun k hk _ => hb2.block k hk⟩).trans hb, hx⟩
    · rw [hx] at cX
      rw [if_pos rfl]
      clear hx h0 hxs
      go_enter Tryz.func91, Tryz.ntmps91
      go_wp2_with fail
      go_quiet (fail)
      go_wp2_with (go_at_call 116; refine (cR _).mono ?_; rintro e w1 ⟨rfl, rfl⟩)
      go_quiet (fail)
      go_wp2_with (go_at_call 43; refine (cX _).mono ?_; rintro e w2 ⟨rfl, hb2⟩; have HY := Hid.mk' (RX.below (w := w.drewN _) ⟨HX.out.c0, HX.out.c1, HX.out.c2, HX.out.c3, HX.out.c4, HX.out.fz⟩ hb2); have y1 := HY.out.c1; have y2 := HY.out.fz 1)
      exact bodyPost_ret (v := .tuple #[.string (s.extract a b), .bool true]) (by simp [results, Tryz.results91, go_sem]) rfl ⟨rfl, (show But R w w2 from ⟨hb2.os, hb2.tape, hb2.output, hb2.size, fun k hk _ => hb2.block k hk⟩).setX _ _, HY.out.mv (Mv.set R _ _) (HY.out.ra.put _ rfl)⟩
end Go.Proofs.YtchfphakhmifmaaGreatDoor
