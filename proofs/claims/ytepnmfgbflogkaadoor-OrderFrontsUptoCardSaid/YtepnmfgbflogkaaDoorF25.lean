/- IMk. -/
import Derived.Test.YtepnmfgbflogkaaDoorF05
namespace Go.Proofs.YtepnmfgbflogkaaDoor
open Go.ChangeShapes Go.WideShapes Go.ChangeAt Go.RowKit Go.Shelf

theorem tdrN {B n : Nat} {a w : World} (h : Below B a w) : Below B a (w.drewN n) := ⟨h.os, h.tape, h.output, h.size, h.block⟩
theorem i64_or_nat (a b : Nat) (ha : a < 65536) (hb : b < 65536) : bits .or .i64 (a : Int) (b : Int) = ((a ||| b : Nat) : Int) := by
  have hx : a ||| b < 2 ^ 16 := Nat.or_lt_two_pow (by omega) (by omega)
  show IntKind.i64.wrap ((BitVec.ofInt 64 (a : Int) ||| BitVec.ofInt 64 (b : Int)).toNat : Int) = _
  rw [BitVec.toNat_or, BitVec.ofInt_natCast, BitVec.ofInt_natCast, BitVec.toNat_ofNat, BitVec.toNat_ofNat, Nat.mod_eq_of_lt (by omega), Nat.mod_eq_of_lt (by omega), IntKind.wrap_i64]
  omega
theorem bneD (a : Int) : (a != 0) = decide (a ≠ 0) := by rw [Bool.eq_iff_iff]; simp
theorem bneL (n : Nat) : ((n : Int) != 0) = decide (n ≠ 0) := by rw [Bool.eq_iff_iff]; simp
/-- A number whose bits are a list's, as far as place j. -/
def BitsTo (l : List Bool) (j N : Nat) : Prop := N < 65536 ∧ ∀ k, N.testBit k = (decide (k < j) && l.getD k false)
theorem bits_zero (l : List Bool) : BitsTo l 0 0 := ⟨by omega, fun k => by simp⟩
theorem bits_no {l : List Bool} {j N : Nat} (h : BitsTo l j N) (hb : l.getD j false = false) : BitsTo l (j + 1) N := ⟨h.1, fun k => by
  rw [h.2 k]
  by_cases e : k = j
  · subst e; rw [hb]; simp
  · congr 1
    exact decide_eq_decide.2 (by omega)⟩
theorem bits_yes {l : List Bool} {j N : Nat} (h : BitsTo l j N) (hj : j < 16) (hb : l.getD j false = true) : BitsTo l (j + 1) (N ||| 2 ^ j) := ⟨Nat.or_lt_two_pow (n := 16) (by have := h.1; omega) (Nat.pow_lt_pow_right (by omega) hj), fun k => by
  rw [Nat.testBit_or, h.2 k, Nat.testBit_two_pow]
  by_cases e : k = j
  · subst e; rw [hb]; simp
  · rw [decide_eq_false (show ¬ j = k from fun x => e x.symm), Bool.or_false]
    congr 1
    exact decide_eq_decide.2 (by omega)⟩
set_option maxRecDepth 20000 in
set_option maxHeartbeats 8000000 in
theorem marksOf_any (t : Tk) (g o : Nat) (pc : Option Addr) (cc : Nat) (w : World) (hT : TkC w g o t pc cc) :
    Calls Tryd.prog 80 #[.pointer (some ⟨g, o, none⟩)] w fun r w' => ∃ N : Nat, r = .returned (.int .i64 (N : Int)) ∧ BitsTo (nzs t) 16 N ∧ Below w.heap.size w w' := by
  have t2 := hT.c2
  have t3 := hT.c3
  have t4 := hT.c4
  have t5 := hT.c5
  have t6 := hT.c6
  have t7 := hT.c7
  have t8 := hT.c8
  have t9 := hT.c9
  have t10 := hT.c10
  have t11 := hT.c11
  have t12 := hT.c12
  have t13 := hT.c13
  have t14 := hT.c14
  have t15 := hT.c15
  have t16 := hT.c16
  have t17 := hT.c17
  have t18 := hT.c18
  have t19 := hT.c19
  clear hT
  obtain ⟨b0, hb0⟩ : ∃ b, (t.id != 0) = b := ⟨_, rfl⟩
  obtain ⟨b1, hb1⟩ : ∃ b, (t.off != 0) = b := ⟨_, rfl⟩
  obtain ⟨b2, hb2⟩ : ∃ b, (t.siz != 0) = b := ⟨_, rfl⟩
  obtain ⟨b3, hb3⟩ : ∃ b, (t.since != 0) = b := ⟨_, rfl⟩
  obtain ⟨b4, hb4⟩ : ∃ b, (t.prim != 0) = b := ⟨_, rfl⟩
  obtain ⟨b5, hb5⟩ : ∃ b, (t.len != 0) = b := ⟨_, rfl⟩
  obtain ⟨b6, hb6⟩ : ∃ b, (t.pres != 0) = b := ⟨_, rfl⟩
  obtain ⟨b7, hb7⟩ : ∃ b, (t.nul != 0) = b := ⟨_, rfl⟩
  obtain ⟨b8, hb8⟩ : ∃ b, (t.lo != 0) = b := ⟨_, rfl⟩
  obtain ⟨b9, hb9⟩ : ∃ b, (t.hi != 0) = b := ⟨_, rfl⟩
  obtain ⟨b10, hb10⟩ : ∃ b, ((t.cst.length : Int) != 0) = b := ⟨_, rfl⟩
  obtain ⟨b11, hb11⟩ : ∃ b, (t.val != 0) = b := ⟨_, rfl⟩
  obtain ⟨b12, hb12⟩ : ∃ b, (t.blk != 0) = b := ⟨_, rfl⟩
  obtain ⟨b13, hb13⟩ : ∃ b, (t.full != 0) = b := ⟨_, rfl⟩
  obtain ⟨b14, hb14⟩ : ∃ b, (!decide (t.a.p = 0 ∧ t.a.o = 0)) = b := ⟨_, rfl⟩
  obtain ⟨b15, hb15⟩ : ∃ b, (!decide (t.b.p = 0 ∧ t.b.o = 0)) = b := ⟨_, rfl⟩
  have hl : nzs t = [b0, b1, b2, b3, b4, b5, b6, b7, b8, b9, b10, b11, b12, b13, b14, b15] := by
    unfold nzs
    rw [← hb0, ← hb1, ← hb2, ← hb3, ← hb4, ← hb5, ← hb6, ← hb7, ← hb8, ← hb9, ← hb10, ← hb11, ← hb12, ← hb13, ← hb14, ← hb15]
    simp only [bneL]
    simp only [bneD, decide_not]
  rw [hl]
  clear hl
  go_enter Tryd.func80, Tryd.ntmps80
  go_wp2_with fail
  simp only [List.append_eq, List.cons_append, List.nil_append]
  refine wp_region_quiet_lit (by kernel_rfl) (by kernel_rfl) ?_
  repeat (go_big_quiet_step (fail))
  go_big_quiet_want
  go_big_quiet_op
  refine ⟨.bool b14, fun _ => ?_, ?_⟩
  · rw [← hb14]; by_cases q1 : t.a.p = 0 <;> by_cases q2 : t.a.o = 0 <;> simp [q1, q2]
  go_big_quiet_on
  repeat (go_big_quiet_step (fail))
  go_big_quiet_want
  go_big_quiet_op
  refine ⟨.bool b15, fun _ => ?_, ?_⟩
  · rw [← hb15]; by_cases q1 : t.b.p = 0 <;> by_cases q2 : t.b.o = 0 <;> simp [q1, q2]
  go_big_quiet_on
  repeat (go_big_quiet_step (fail))
  refine wpQuiet_nil ?_
  intro _ hw'
  obtain ⟨nq, hw''⟩ := hw'
  subst hw''
  clear t2 t3 t4 t5 t6 t7 t8 t9 t10 t11 t12 t13 t14 t15 t16 t17 t18 t19 hb0 hb1 hb2 hb3 hb4 hb5 hb6 hb7 hb8 hb9 hb10 hb11 hb12 hb13 hb14 hb15
  go_wp2_with fail
  go_loopw [90, 3] (fun n h wr => ∃ j N : Nat, j ≤ 16 ∧ n = .int .i64 j ∧ h = .int .i64 (N : Int) ∧ BitsTo [b0, b1, b2, b3, b4, b5, b6, b7, b8, b9, b10, b11, b12, b13, b14, b15] j N ∧ wr = w.drewN nq) (fun n _ _ => 16 - (RowKit.intOf n).toNat)
  case atStart => exact ⟨0, 0, by omega, rfl, rfl, bits_zero _, rfl⟩
  case round =>
    obtain ⟨j, N, hj, rfl, rfl, hN, rfl⟩ := hrel
    have hN1 := hN.1
    by_cases hlt : j < 16
    · rcases (show j = 0 ∨ j = 1 ∨ j = 2 ∨ j = 3 ∨ j = 4 ∨ j = 5 ∨ j = 6 ∨ j = 7 ∨ j = 8 ∨ j = 9 ∨ j = 10 ∨ j = 11 ∨ j = 12 ∨ j = 13 ∨ j = 14 ∨ j = 15 by omega) with rfl | rfl | rfl | rfl | rfl | rfl | rfl | rfl | rfl | rfl | rfl | rfl | rfl | rfl | rfl | rfl
      · have ho := i64_or_nat N 1 hN1 (by omega)
        rw [show ((0 : Nat) : Int) = 0 from rfl]
        have hix : ∀ W, (Instr.index 150 (.agg #[.bool b0, .bool b1, .bool b2, .bool b3, .bool b4, .bool b5, .bool b6, .bool b7, .bool b8, .bool b9, .bool b10, .bool b11, .bool b12, .bool b13, .bool b14, .bool b15]) (.int .i64 0)).run Tryd.prog W = .ok (.bool b0) W := fun W => by kernel_rfl
        cases b0 with
        | false =>
          go_wp2_with fail
          go_roundw
          case rel => exact ⟨1, N, by omega, rfl, rfl, bits_no hN rfl, trivial⟩
          case measure => simp [RowKit.intOf]
        | true =>
          go_wp2_with fail
          go_roundw
          case rel => exact ⟨1, N ||| 1, by omega, rfl, by first | rfl | exact congrArg _ ho, bits_yes hN (by omega) rfl, trivial⟩
          case measure => simp [RowKit.intOf]
      · have ho := i64_or_nat N 2 hN1 (by omega)
        rw [show ((1 : Nat) : Int) = 1 from rfl]
        have hix : ∀ W, (Instr.index 150 (.agg #[.bool b0, .bool b1, .bool b2, .bool b3, .bool b4, .bool b5, .bool b6, .bool b7, .bool b8, .bool b9, .bool b10, .bool b11, .bool b12, .bool b13, .bool b14, .bool b15]) (.int .i64 1)).run Tryd.prog W = .ok (.bool b1) W := fun W => by kernel_rfl
        cases b1 with
        | false =>
          go_wp2_with fail
          go_roundw
          case rel => exact ⟨2, N, by omega, rfl, rfl, bits_no hN rfl, trivial⟩
          case measure => simp [RowKit.intOf]
        | true =>
          go_wp2_with fail
          go_roundw
          case rel => exact ⟨2, N ||| 2, by omega, rfl, by first | rfl | exact congrArg _ ho, bits_yes hN (by omega) rfl, trivial⟩
          case measure => simp [RowKit.intOf]
      · have ho := i64_or_nat N 4 hN1 (by omega)
        rw [show ((2 : Nat) : Int) = 2 from rfl]
        have hix : ∀ W, (Instr.index 150 (.agg #[.bool b0, .bool b1, .bool b2, .bool b3, .bool b4, .bool b5, .bool b6, .bool b7, .bool b8, .bool b9, .bool b10, .bool b11, .bool b12, .bool b13, .bool b14, .bool b15]) (.int .i64 2)).run Tryd.prog W = .ok (.bool b2) W := fun W => by kernel_rfl
        cases b2 with
        | false =>
          go_wp2_with fail
          go_roundw
          case rel => exact ⟨3, N, by omega, rfl, rfl, bits_no hN rfl, trivial⟩
          case measure => simp [RowKit.intOf]
        | true =>
          go_wp2_with fail
          go_roundw
          case rel => exact ⟨3, N ||| 4, by omega, rfl, by first | rfl | exact congrArg _ ho, bits_yes hN (by omega) rfl, trivial⟩
          case measure => simp [RowKit.intOf]
      · have ho := i64_or_nat N 8 hN1 (by omega)
        rw [show ((3 : Nat) : Int) = 3 from rfl]
        have hix : ∀ W, (Instr.index 150 (.agg #[.bool b0, .bool b1, .bool b2, .bool b3, .bool b4, .bool b5, .bool b6, .bool b7, .bool b8, .bool b9, .bool b10, .bool b11, .bool b12, .bool b13, .bool b14, .bool b15]) (.int .i64 3)).run Tryd.prog W = .ok (.bool b3) W := fun W => by kernel_rfl
        cases b3 with
        | false =>
          go_wp2_with fail
          go_roundw
          case rel => exact ⟨4, N, by omega, rfl, rfl, bits_no hN rfl, trivial⟩
          case measure => simp [RowKit.intOf]
        | true =>
          go_wp2_with fail
          go_roundw
          case rel => exact ⟨4, N ||| 8, by omega, rfl, by first | rfl | exact congrArg _ ho, bits_yes hN (by omega) rfl, trivial⟩
          case measure => simp [RowKit.intOf]
      · have ho := i64_or_nat N 16 hN1 (by omega)
        rw [show ((4 : Nat) : Int) = 4 from rfl]
        have hix : ∀ W, (Instr.index 150 (.agg #[.bool b0, .bool b1, .bool b2, .bool b3, .bool b4, .bool b5, .bool b6, .bool b7, .bool b8, .bool b9, .bool b10, .bool b11, .bool b12, .bool b13, .bool b14, .bool b15]) (.int .i64 4)).run Tryd.prog W = .ok (.bool b4) W := fun W => by kernel_rfl
        cases b4 with
        | false =>
          go_wp2_with fail
          go_roundw
          case rel => exact ⟨5, N, by omega, rfl, rfl, bits_no hN rfl, trivial⟩
          case measure => simp [RowKit.intOf]
        | true =>
          go_wp2_with fail
          go_roundw
          case rel => exact ⟨5, N ||| 16, by omega, rfl, by first | rfl | exact congrArg _ ho, bits_yes hN (by omega) rfl, trivial⟩
          case measure => simp [RowKit.intOf]
      · have ho := i64_or_nat N 32 hN1 (by omega)
        rw [show ((5 : Nat) : Int) = 5 from rfl]
        have hix : ∀ W, (Instr.index 150 (.agg #[.bool b0, .bool b1, .bool b2, .bool b3, .bool b4, .bool b5, .bool b6, .bool b7, .bool b8, .bool b9, .bool b10, .bool b11, .bool b12, .bool b13, .bool b14, .bool b15]) (.int .i64 5)).run Tryd.prog W = .ok (.bool b5) W := fun W => by kernel_rfl
        cases b5 with
        | false =>
          go_wp2_with fail
          go_roundw
          case rel => exact ⟨6, N, by omega, rfl, rfl, bits_no hN rfl, trivial⟩
          case measure => simp [RowKit.intOf]
        | true =>
          go_wp2_with fail
          go_roundw
          case rel => exact ⟨6, N ||| 32, by omega, rfl, by first | rfl | exact congrArg _ ho, bits_yes hN (by omega) rfl, trivial⟩
          case measure => simp [RowKit.intOf]
      · have ho := i64_or_nat N 64 hN1 (by omega)
        rw [show ((6 : Nat) : Int) = 6 from rfl]
        have hix : ∀ W, (Instr.index 150 (.agg #[.bool b0, .bool b1, .bool b2, .bool b3, .bool b4, .bool b5, .bool b6, .bool b7, .bool b8, .bool b9, .bool b10, .bool b11, .bool b12, .bool b13, .bool b14, .bool b15]) (.int .i64 6)).run Tryd.prog W = .ok (.bool b6) W := fun W => by kernel_rfl
        cases b6 with
        | false =>
          go_wp2_with fail
          go_roundw
          case rel => exact ⟨7, N, by omega, rfl, rfl, bits_no hN rfl, trivial⟩
          case measure => simp [RowKit.intOf]
        | true =>
          go_wp2_with fail
          go_roundw
          case rel => exact ⟨7, N ||| 64, by omega, rfl, by first | rfl | exact congrArg _ ho, bits_yes hN (by omega) rfl, trivial⟩
          case measure => simp [RowKit.intOf]
      · have ho := i64_or_nat N 128 hN1 (by omega)
        rw [show ((7 : Nat) : Int) = 7 from rfl]
        have hix : ∀ W, (Instr.index 150 (.agg #[.bool b0, .bool b1, .bool b2, .bool b3, .bool b4, .bool b5, .bool b6, .bool b7, .bool b8, .bool b9, .bool b10, .bool b11, .bool b12, .bool b13, .bool b14, .bool b15]) (.int .i64 7)).run Tryd.prog W = .ok (.bool b7) W := fun W => by kernel_rfl
        cases b7 with
        | false =>
          go_wp2_with fail
          go_roundw
          case rel => exact ⟨8, N, by omega, rfl, rfl, bits_no hN rfl, trivial⟩
          case measure => simp [RowKit.intOf]
        | true =>
          go_wp2_with fail
          go_roundw
          case rel => exact ⟨8, N ||| 128, by omega, rfl, by first | rfl | exact congrArg _ ho, bits_yes hN (by omega) rfl, trivial⟩
          case measure => simp [RowKit.intOf]
      · have ho := i64_or_nat N 256 hN1 (by omega)
        rw [show ((8 : Nat) : Int) = 8 from rfl]
        have hix : ∀ W, (Instr.index 150 (.agg #[.bool b0, .bool b1, .bool b2, .bool b3, .bool b4, .bool b5, .bool b6, .bool b7, .bool b8, .bool b9, .bool b10, .bool b11, .bool b12, .bool b13, .bool b14, .bool b15]) (.int .i64 8)).run Tryd.prog W = .ok (.bool b8) W := fun W => by kernel_rfl
        cases b8 with
        | false =>
          go_wp2_with fail
          go_roundw
          case rel => exact ⟨9, N, by omega, rfl, rfl, bits_no hN rfl, trivial⟩
          case measure => simp [RowKit.intOf]
        | true =>
          go_wp2_with fail
          go_roundw
          case rel => exact ⟨9, N ||| 256, by omega, rfl, by first | rfl | exact congrArg _ ho, bits_yes hN (by omega) rfl, trivial⟩
          case measure => simp [RowKit.intOf]
      · have ho := i64_or_nat N 512 hN1 (by omega)
        rw [show ((9 : Nat) : Int) = 9 from rfl]
        have hix : ∀ W, (Instr.index 150 (.agg #[.bool b0, .bool b1, .bool b2, .bool b3, .bool b4, .bool b5, .bool b6, .bool b7, .bool b8, .bool b9, .bool b10, .bool b11, .bool b12, .bool b13, .bool b14, .bool b15]) (.int .i64 9)).run Tryd.prog W = .ok (.bool b9) W := fun W => by kernel_rfl
        cases b9 with
        | false =>
          go_wp2_with fail
          go_roundw
          case rel => exact ⟨10, N, by omega, rfl, rfl, bits_no hN rfl, trivial⟩
          case measure => simp [RowKit.intOf]
        | true =>
          go_wp2_with fail
          go_roundw
          case rel => exact ⟨10, N ||| 512, by omega, rfl, by first | rfl | exact congrArg _ ho, bits_yes hN (by omega) rfl, trivial⟩
          case measure => simp [RowKit.intOf]
      · have ho := i64_or_nat N 1024 hN1 (by omega)
        rw [show ((10 : Nat) : Int) = 10 from rfl]
        have hix : ∀ W, (Instr.index 150 (.agg #[.bool b0, .bool b1, .bool b2, .bool b3, .bool b4, .bool b5, .bool b6, .bool b7, .bool b8, .bool b9, .bool b10, .bool b11, .bool b12, .bool b13, .bool b14, .bool b15]) (.int .i64 10)).run Tryd.prog W = .ok (.bool b10) W := fun W => by kernel_rfl
        cases b10 with
        | false =>
          go_wp2_with fail
          go_roundw
          case rel => exact ⟨11, N, by omega, rfl, rfl, bits_no hN rfl, trivial⟩
          case measure => simp [RowKit.intOf]
        | true =>
          go_wp2_with fail
          go_roundw
          case rel => exact ⟨11, N ||| 1024, by omega, rfl, by first | rfl | exact congrArg _ ho, bits_yes hN (by omega) rfl, trivial⟩
          case measure => simp [RowKit.intOf]
      · have ho := i64_or_nat N 2048 hN1 (by omega)
        rw [show ((11 : Nat) : Int) = 11 from rfl]
        have hix : ∀ W, (Instr.index 150 (.agg #[.bool b0, .bool b1, .bool b2, .bool b3, .bool b4, .bool b5, .bool b6, .bool b7, .bool b8, .bool b9, .bool b10, .bool b11, .bool b12, .bool b13, .bool b14, .bool b15]) (.int .i64 11)).run Tryd.prog W = .ok (.bool b11) W := fun W => by kernel_rfl
        cases b11 with
        | false =>
          go_wp2_with fail
          go_roundw
          case rel => exact ⟨12, N, by omega, rfl, rfl, bits_no hN rfl, trivial⟩
          case measure => simp [RowKit.intOf]
        | true =>
          go_wp2_with fail
          go_roundw
          case rel => exact ⟨12, N ||| 2048, by omega, rfl, by first | rfl | exact congrArg _ ho, bits_yes hN (by omega) rfl, trivial⟩
          case measure => simp [RowKit.intOf]
      · have ho := i64_or_nat N 4096 hN1 (by omega)
        rw [show ((12 : Nat) : Int) = 12 from rfl]
        have hix : ∀ W, (Instr.index 150 (.agg #[.bool b0, .bool b1, .bool b2, .bool b3, .bool b4, .bool b5, .bool b6, .bool b7, .bool b8, .bool b9, .bool b10, .bool b11, .bool b12, .bool b13, .bool b14, .bool b15]) (.int .i64 12)).run Tryd.prog W = .ok (.bool b12) W := fun W => by kernel_rfl
        cases b12 with
        | false =>
          go_wp2_with fail
          go_roundw
          case rel => exact ⟨13, N, by omega, rfl, rfl, bits_no hN rfl, trivial⟩
          case measure => simp [RowKit.intOf]
        | true =>
          go_wp2_with fail
          go_roundw
          case rel => exact ⟨13, N ||| 4096, by omega, rfl, by first | rfl | exact congrArg _ ho, bits_yes hN (by omega) rfl, trivial⟩
          case measure => simp [RowKit.intOf]
      · have ho := i64_or_nat N 8192 hN1 (by omega)
        rw [show ((13 : Nat) : Int) = 13 from rfl]
        have hix : ∀ W, (Instr.index 150 (.agg #[.bool b0, .bool b1, .bool b2, .bool b3, .bool b4, .bool b5, .bool b6, .bool b7, .bool b8, .bool b9, .bool b10, .bool b11, .bool b12, .bool b13, .bool b14, .bool b15]) (.int .i64 13)).run Tryd.prog W = .ok (.bool b13) W := fun W => by kernel_rfl
        cases b13 with
        | false =>
          go_wp2_with fail
          go_roundw
          case rel => exact ⟨14, N, by omega, rfl, rfl, bits_no hN rfl, trivial⟩
          case measure => simp [RowKit.intOf]
        | true =>
          go_wp2_with fail
          go_roundw
          case rel => exact ⟨14, N ||| 8192, by omega, rfl, by first | rfl | exact congrArg _ ho, bits_yes hN (by omega) rfl, trivial⟩
          case measure => simp [RowKit.intOf]
      · have ho := i64_or_nat N 16384 hN1 (by omega)
        rw [show ((14 : Nat) : Int) = 14 from rfl]
        have hix : ∀ W, (Instr.index 150 (.agg #[.bool b0, .bool b1, .bool b2, .bool b3, .bool b4, .bool b5, .bool b6, .bool b7, .bool b8, .bool b9, .bool b10, .bool b11, .bool b12, .bool b13, .bool b14, .bool b15]) (.int .i64 14)).run Tryd.prog W = .ok (.bool b14) W := fun W => by kernel_rfl
        cases b14 with
        | false =>
          go_wp2_with fail
          go_roundw
          case rel => exact ⟨15, N, by omega, rfl, rfl, bits_no hN rfl, trivial⟩
          case measure => simp [RowKit.intOf]
        | true =>
          go_wp2_with fail
          go_roundw
          case rel => exact ⟨15, N ||| 16384, by omega, rfl, by first | rfl | exact congrArg _ ho, bits_yes hN (by omega) rfl, trivial⟩
          case measure => simp [RowKit.intOf]
      · have ho := i64_or_nat N 32768 hN1 (by omega)
        rw [show ((15 : Nat) : Int) = 15 from rfl]
        have hix : ∀ W, (Instr.index 150 (.agg #[.bool b0, .bool b1, .bool b2, .bool b3, .bool b4, .bool b5, .bool b6, .bool b7, .bool b8, .bool b9, .bool b10, .bool b11, .bool b12, .bool b13, .bool b14, .bool b15]) (.int .i64 15)).run Tryd.prog W = .ok (.bool b15) W := fun W => by kernel_rfl
        cases b15 with
        | false =>
          go_wp2_with fail
          go_roundw
          case rel => exact ⟨16, N, by omega, rfl, rfl, bits_no hN rfl, trivial⟩
          case measure => simp [RowKit.intOf]
        | true =>
          go_wp2_with fail
          go_roundw
          case rel => exact ⟨16, N ||| 32768, by omega, rfl, by first | rfl | exact congrArg _ ho, bits_yes hN (by omega) rfl, trivial⟩
          case measure => simp [RowKit.intOf]
    · obtain rfl : j = 16 := by omega
      go_wp2_with fail
      go_ret
      exact ⟨N, rfl, hN, tdrN (Below.refl _ _)⟩
end Go.Proofs.YtepnmfgbflogkaaDoor
