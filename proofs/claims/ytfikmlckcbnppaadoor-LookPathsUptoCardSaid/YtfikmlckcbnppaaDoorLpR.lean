/- Package look's reader: its memory; sees, needSome, want. -/
import Derived.Test.YtfikmlckcbnppaaDoorLpM
import Derived.Test.YtfikmlckcbnppaaDoorILx2
namespace Go.Proofs.YtfikmlckcbnppaaDoor
open Go.ChangeShapes Go.WideShapes Go.ChangeAt Go.RowKit

structure Hid (p : Prop) : Prop where
  out : p
theorem beqN {a b : Int} (h : a ≠ b) : (a == b) = false := beq_eq_false_iff_ne.2 h
/-- But for block R the world is as it was; new blocks may lie behind. -/
structure But (R : Nat) (w w' : World) : Prop where
  os : w'.os = w.os
  tape : w'.tape = w.tape
  output : w'.output = w.output
  size : w.heap.size ≤ w'.heap.size
  block : ∀ k, k < w.heap.size → k ≠ R → w'.heap[k]? = w.heap[k]?
theorem But.refl (R : Nat) (w : World) : But R w w := ⟨rfl, rfl, rfl, Nat.le_refl _, fun _ _ _ => rfl⟩
theorem But.trans {R : Nat} {a b c : World} (h : But R a b) (k : But R b c) : But R a c :=
  ⟨k.os.trans h.os, k.tape.trans h.tape, k.output.trans h.output, Nat.le_trans h.size k.size, fun i hi hn => (k.block i (Nat.lt_of_lt_of_le hi h.size) hn).trans (h.block i hi hn)⟩
theorem But.below {R B : Nat} {w w' : World} (h : But R w w') (hB : B ≤ R) (hR : R < w.heap.size) : Below B w w' := ⟨h.os, h.tape, h.output, h.size, fun k hk => h.block k (by omega) (by omega)⟩
theorem But.of {R : Nat} {w w' : World} (h : Below w.heap.size w w') : But R w w' := ⟨h.os, h.tape, h.output, h.size, fun k hk _ => h.block k hk⟩
/-- Its cells but the place are as they were too. -/
structure Mv (R : Nat) (w w' : World) : Prop where
  but : But R w w'
  cell : ∀ o, o ≠ 1 → w'.cell? ⟨R, o, none⟩ = w.cell? ⟨R, o, none⟩
  fz : ∀ o, w'.frozen? ⟨R, o, none⟩ = w.frozen? ⟨R, o, none⟩
theorem Mv.refl (R : Nat) (w : World) : Mv R w w := ⟨But.refl R w, fun _ _ => rfl, fun _ => rfl⟩
theorem Mv.trans {R : Nat} {a b c : World} (h : Mv R a b) (k : Mv R b c) : Mv R a c := ⟨h.but.trans k.but, fun o ho => (k.cell o ho).trans (h.cell o ho), fun o => (k.fz o).trans (h.fz o)⟩
theorem Mv.of {R : Nat} {w w' : World} (h : Below w.heap.size w w') (hR : R < w.heap.size) : Mv R w w' :=
  ⟨But.of h, fun o _ => h.cell (p := ⟨R, o, none⟩) hR, fun o => h.frozen (p := ⟨R, o, none⟩) hR⟩
theorem Mv.set (R : Nat) (w : World) (u : Value) : Mv R w (w.setCell ⟨R, 1, none⟩ u) :=
  ⟨⟨rfl, rfl, rfl, by simp [World.setCell], fun k _ hk => Below.heap_setCell _ _ _ _ hk⟩,
    fun o ho => World.cell?_setCell_other w _ _ _ (fun e => ho (by injection e with _ e2; exact e2.symm)), fun o => by rw [World.frozen?_setCell]⟩
theorem Mv.lt {R : Nat} {w w' : World} (h : Mv R w w') (hR : R < w.heap.size) : R < w'.heap.size := Nat.lt_of_lt_of_le hR h.but.size
/-- A reader in block R: its text and its place. -/
structure RA (w : World) (R : Nat) (s : ByteArray) (a : Nat) : Prop where
  h0 : w.cell? ⟨R, 0, none⟩ = some (.string s)
  h1 : w.cell? ⟨R, 1, none⟩ = some (.int .i64 (a : Int))
  fz : ∀ o, w.frozen? ⟨R, o, none⟩ = false
  lt : R < w.heap.size
theorem RA.mv {w w' : World} {R : Nat} {s : ByteArray} {a b : Nat} (h : RA w R s a) (m : Mv R w w') (hb : w'.cell? ⟨R, 1, none⟩ = some (.int .i64 (b : Int))) : RA w' R s b :=
  ⟨(m.cell 0 (by decide)).trans h.h0, hb, fun o => (m.fz o).trans (h.fz o), m.lt h.lt⟩
theorem RA.below {w w' : World} {R : Nat} {s : ByteArray} {a : Nat} (h : RA w R s a) (hb : Below w.heap.size w w') : RA w' R s a :=
  h.mv (Mv.of hb h.lt) ((hb.cell (p := ⟨R, 1, none⟩) h.lt).trans h.h1)
theorem RA.drewN {w : World} {R : Nat} {s : ByteArray} {a : Nat} (h : RA w R s a) (n : Nat) : RA (w.drewN n) R s a := ⟨h.h0, h.h1, h.fz, h.lt⟩
theorem Mv.drewN {R : Nat} {w w' : World} (h : Mv R w w') (n : Nat) : Mv R w (w'.drewN n) := ⟨⟨h.but.os, h.but.tape, h.but.output, h.but.size, h.but.block⟩, h.cell, h.fz⟩
/-- The place is laid anew. -/
theorem RA.put {w : World} {R : Nat} {s : ByteArray} {a b : Nat} (h : RA w R s a) (z : Int) (hz : z = (b : Int)) : RA (w.setCell ⟨R, 1, none⟩ (.int .i64 z)) R s b :=
  h.mv (Mv.set R w _) (by rw [hz]; exact World.cell?_setCell_same w ⟨R, 1, none⟩ _ h.h1)
theorem bel_drew {w w1 : World} (hb : Below w.drew.heap.size w.drew w1) : Below w.heap.size w w1 := (Below.refl _ w).drew.trans hb

abbrev pvE : PanicEntry := { v := .iface 23 (.int .i64 210), recovered := false }
/-- The reader stands so, and nothing else has turned. -/
structure Rd (w0 : World) (R : Nat) (s : ByteArray) (a : Nat) (W : World) : Prop where
  ra : RA W R s a
  mv : Mv R w0 W
theorem Rd.drew {w0 : World} {R : Nat} {s : ByteArray} {a : Nat} {W : World} (h : Rd w0 R s a W) : Rd w0 R s a W.drew := ⟨⟨h.ra.h0, h.ra.h1, h.ra.fz, h.ra.lt⟩, ⟨⟨h.mv.but.os, h.mv.but.tape, h.mv.but.output, h.mv.but.size, h.mv.but.block⟩, h.mv.cell, h.mv.fz⟩⟩
theorem Rd.below {w0 : World} {R : Nat} {s : ByteArray} {a : Nat} {W W' : World} (h : Rd w0 R s a W) (hb : Below W.heap.size W W') : Rd w0 R s a W' := ⟨h.ra.below hb, h.mv.trans (Mv.of hb h.ra.lt)⟩
theorem Rd.put {w0 : World} {R : Nat} {s : ByteArray} {a : Nat} {W : World} (h : Rd w0 R s a W) (z : Int) (b : Nat) (hz : z = (b : Int)) : Rd w0 R s b (W.setCell ⟨R, 1, none⟩ (.int .i64 z)) := ⟨h.ra.put z hz, h.mv.trans (Mv.set R W _)⟩
theorem Rd.refl {w : World} {R : Nat} {s : ByteArray} {a : Nat} (h : RA w R s a) : Rd w R s a w := ⟨h, Mv.refl R w⟩
theorem Rd.from {w0 w1 : World} {R : Nat} {s : ByteArray} {a b : Nat} {W : World} (h : Rd w0 R s a w1) (k : Rd w1 R s b W) : Rd w0 R s b W := ⟨k.ra, h.mv.trans k.mv⟩
/-- A class of worlds in which the reader stands so. -/
theorem rd_class {w0 : World} {R : Nat} {s : ByteArray} {a : Nat} {W : World} (h : Rd w0 R s a W) : ∃ p : World → Prop, p W.drew ∧ Nonempty (CW p) ∧ (∀ V, p V → Hid (Rd w0 R s a V)) ∧ (∀ V, Rd w0 R s a V → p V) ∧ (∀ θ : CW p, θ.w.cell? ⟨R, 0, none⟩ = some (.string s)) ∧ (∀ θ : CW p, θ.w.cell? ⟨R, 1, none⟩ = some (.int .i64 (a : Int))) :=
  ⟨Rd w0 R s a, h.drew, ⟨⟨_, h⟩⟩, fun _ h => ⟨h⟩, fun _ h => h, fun θ => (Rd.ra θ.h).h0, fun θ => (Rd.ra θ.h).h1⟩
set_option maxRecDepth 20000 in
set_option maxHeartbeats 2000000 in
theorem sees_any (R : Nat) (s : ByteArray) (a c : Nat) (w w0 : World) (h : Rd w0 R s a w) : Calls Tryd.prog 33 #[.pointer (some ⟨R, 0, none⟩), .int .u8 (c : Int)] w fun e w' => e = .returned (.bool (decide (a < s.size ∧ ch s a = c))) ∧ Rd w0 R s a w' := by
  obtain ⟨p, p0, pN, pE, -, k0, k1⟩ := rd_class h
  have hF := pE _ p0
  clear h pE
  by_cases ha : a < s.size
  · have d1 : decide ((a : Int) < (s.size : Int)) = true := decide_eq_true (by omega)
    have d1n : decide (a < s.size) = true := decide_eq_true ha
    have ix : ∀ w : World, (Instr.index 9 (.string s) (.int .i64 (a : Int))).run Tryd.prog w = .ok (.int .u8 (ch s a : Int)) w := fun w => nidx (w := w) s a ha .i64
    have hR : decide (a < s.size ∧ ch s a = c) = ((ch s a : Int) == (c : Int)) := by
      by_cases e : ch s a = c
      · rw [decide_eq_true ⟨ha, e⟩, e]; simp
      · rw [decide_eq_false (fun h => e h.2), beqN (by omega)]
    rw [hR]
    clear hR
    go_enter Tryd.func33, Tryd.ntmps33
    go_wp2_with fail
    refine wp_region_pp p [0, 1, 2, 3, 4, 5, 6, 7, 8, 9, 10, 11, 12, 13, 14, 15, 16, 17, 18, 19, 20, 21, 22, 23] (by kernel_rfl) (by kernel_rfl) (fun _ _ d _ _ h => by cases d <;> exact h) p0 ?_
    simp only [List.filterMap_cons, List.filterMap_nil, List.getElem?_cons_zero, List.getElem?_cons_succ]
    generalize w.drew = W at p0 hF ⊢
    repeat (refine lx_one rfl ?_; (first | go_big_quiet_skip | (go_big_quiet_want; go_big_quiet_op; go_big_quiet_on)); refine wpQuiet_nil ?_)
    refine lx_done ?_
    go_wp2_with fail
    go_ret
    exact ⟨rfl, hF.out⟩
  · have d1 : decide ((a : Int) < (s.size : Int)) = false := decide_eq_false (by omega)
    have d1n : decide (a < s.size) = false := decide_eq_false ha
    have hR : decide (a < s.size ∧ ch s a = c) = false := decide_eq_false fun h => ha h.1
    rw [hR]
    clear hR
    go_enter Tryd.func33, Tryd.ntmps33
    go_wp2_with fail
    refine wp_region_pp p [0, 1, 2, 3, 4, 5, 6, 7, 8, 9, 10, 11, 12, 13, 14, 15, 16, 17, 18, 19, 20, 21, 22, 23] (by kernel_rfl) (by kernel_rfl) (fun _ _ d _ _ h => by cases d <;> exact h) p0 ?_
    simp only [List.filterMap_cons, List.filterMap_nil, List.getElem?_cons_zero, List.getElem?_cons_succ]
    generalize w.drew = W at p0 hF ⊢
    repeat (refine lx_one rfl ?_; (first | go_big_quiet_skip | (go_big_quiet_want; go_big_quiet_op; go_big_quiet_on)); refine wpQuiet_nil ?_)
    refine lx_done ?_
    go_wp2_with fail
    go_ret
    exact ⟨rfl, hF.out⟩
theorem needSome_no (R : Nat) (s : ByteArray) (a : Nat) (w w0 : World) (h : Rd w0 R s a w) : Calls Tryd.prog 39 #[.pointer (some ⟨R, 0, none⟩), .int .i64 (a : Int)] w fun e w' => e = .panicked [pvE] ∧ Rd w0 R s a w' := by
  have k1 := h.ra.h1
  go_enter Tryd.func39, Tryd.ntmps39
  go_wp2
  exact ⟨rfl, rfl, h⟩
theorem needSome_ok (R : Nat) (s : ByteArray) (a f : Nat) (hne : a ≠ f) (w w0 : World) (h : Rd w0 R s a w) : Calls Tryd.prog 39 #[.pointer (some ⟨R, 0, none⟩), .int .i64 (f : Int)] w fun e w' => e = .returned (.tuple #[]) ∧ Rd w0 R s a w' := by
  have k1 := h.ra.h1
  have hb : ((a : Int) == (f : Int)) = false := beqN (by omega)
  have hb2 : (a == f) = false := beq_eq_false_iff_ne.2 hne
  go_enter Tryd.func39, Tryd.ntmps39
  go_wp2
  go_end0
  exact ⟨rfl, h⟩
theorem want_ok (R : Nat) (s : ByteArray) (a c : Nat) (hs : s.size ≤ 9223372036854775806) (hc : a < s.size ∧ ch s a = c) (w w0 : World) (h : Rd w0 R s a w) : Calls Tryd.prog 24 #[.pointer (some ⟨R, 0, none⟩), .int .u8 (c : Int)] w fun e w' => e = .returned (.tuple #[]) ∧ Rd w0 R s (a + 1) w' := by
  have hp := sees_any R s a c w w0 h
  rw [decide_eq_true hc] at hp
  have ha : (a : Int) + 1 ≤ 9223372036854775807 := by omega
  clear h
  go_enter Tryd.func24, Tryd.ntmps24
  go_wp2_with (go_at_call 33; refine hp.mono ?_; clear hp; rintro e w1 ⟨rfl, h1⟩; have k1 := h1.ra.h1; have f1 := h1.ra.fz 1)
  go_end0
  exact ⟨rfl, h1.put _ (a + 1) (by omega)⟩
theorem want_no (R : Nat) (s : ByteArray) (a c : Nat) (hc : ¬ (a < s.size ∧ ch s a = c)) (w w0 : World) (h : Rd w0 R s a w) : Calls Tryd.prog 24 #[.pointer (some ⟨R, 0, none⟩), .int .u8 (c : Int)] w fun e w' => e = .panicked [pvE] ∧ Rd w0 R s a w' := by
  have hp := sees_any R s a c w w0 h
  rw [decide_eq_false hc] at hp
  clear h
  go_enter Tryd.func24, Tryd.ntmps24
  go_wp2_with (go_at_call 33; refine hp.mono ?_; clear hp; rintro e w1 ⟨rfl, h1⟩)
  exact ⟨rfl, rfl, h1⟩
end Go.Proofs.YtfikmlckcbnppaaDoor
