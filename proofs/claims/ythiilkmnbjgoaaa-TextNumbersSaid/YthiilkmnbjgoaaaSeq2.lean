/- The contracts of begins and sequence. -/
import Derived.Test.YthiilkmnbjgoaaaSeq
namespace Go.Proofs.Ythiilkmnbjgoaaa
open Go.ChangeShapes Go.WideShapes Go.ChangeAt Go.RowKit

theorem isAnyChar_any (n : Int) (w : World) : Calls Try.prog 17 #[.int .i64 n] w fun e w' => e = .returned (.bool true) ∧ w' = w := by
  go_enter Try.func17, Try.ntmps17
  go_wp2
  go_ret
  exact ⟨rfl, rfl⟩
theorem begins_short (k lo hi : Nat) (s : ByteArray) (w : World) (h : s.size < k) : Calls Try.prog 39 #[rowV k lo hi, .string s] w fun e w' => e = .returned (.bool (begB k lo hi s)) ∧ Below w.heap.size w w' := by
  have hb : begB k lo hi s = false := by unfold begB; rw [decide_eq_false (by omega)]; rfl
  have hd : decide ((s.size : Int) < (k : Int)) = true := by simp; omega
  rw [hb]
  go_enter Try.func39, Try.ntmps39
  go_wp2
  go_ret
  exact ⟨rfl, bel1 _ _⟩
theorem begins_0 (lo hi : Nat) (s : ByteArray) (w : World) : Calls Try.prog 39 #[rowV 0 lo hi, .string s] w fun e w' => e = .returned (.bool (begB 0 lo hi s)) ∧ Below w.heap.size w w' := by
  have hb : begB 0 lo hi s = false := by unfold begB; simp
  have hd : decide ((s.size : Int) < 0) = false := by simp
  rw [hb]
  go_enter Try.func39, Try.ntmps39
  go_wp2
  go_ret
  exact ⟨rfl, bel1 _ _⟩
theorem begins_1 (lo hi : Nat) (s : ByteArray) (w : World) (h : 1 ≤ s.size) : Calls Try.prog 39 #[rowV 1 lo hi, .string s] w fun e w' => e = .returned (.bool (begB 1 lo hi s)) ∧ Below w.heap.size w w' := by
  have hb : begB 1 lo hi s = true := by unfold begB; rw [decide_eq_true h]; rfl
  have hd : decide ((s.size : Int) < 1) = false := by simp; omega
  rw [hb]
  go_enter Try.func39, Try.ntmps39
  go_wp2
  go_ret
  exact ⟨rfl, bel1 _ _⟩
theorem bdN {B : Nat} {a w : World} (h : Below B a w) (n : Nat) : Below B a (w.drewN n) := ⟨h.os, h.tape, h.output, h.size, h.block⟩
set_option maxHeartbeats 1000000 in
theorem begins_2 (lo hi : Nat) (s : ByteArray) (w : World) (h : 2 ≤ s.size) : Calls Try.prog 39 #[rowV 2 lo hi, .string s] w fun e w' => e = .returned (.bool (begB 2 lo hi s)) ∧ Below w.heap.size w w' := by
  have hb : begB 2 lo hi s = (decide (lo ≤ ch s 1) && decide (ch s 1 ≤ hi)) := by unfold begB; rw [decide_eq_true h]; simp
  have hd : decide ((s.size : Int) < 2) = false := by simp; omega
  have i1 : ∀ w : World, (Instr.index 9 (.string s) (.int .i64 1)).run Try.prog w = .ok (.int .u8 (ch s 1 : Int)) w := fun w => idx (w := w) s 1 (by omega) .i64
  rw [hb]
  by_cases c1 : ch s 1 < lo
  · have d1 : decide ((ch s 1 : Int) < (lo : Int)) = true := by simp; omega
    go_enter Try.func39, Try.ntmps39
    go_wp2_with (go_at_call 46; refine (isTail_any _ _).mono ?_; rintro e w' ⟨rfl, rfl⟩)
    go_quiet (fail)
    go_wp2
    go_ret
    exact ⟨ret_bool (by simp; omega), bdN (bel1 _ _) _⟩
  · have d1 : decide ((ch s 1 : Int) < (lo : Int)) = false := by simp; omega
    go_enter Try.func39, Try.ntmps39
    go_wp2_with (go_at_call 46; refine (isTail_any _ _).mono ?_; rintro e w' ⟨rfl, rfl⟩)
    go_quiet (fail)
    go_wp2
    · go_ret
      exact ⟨ret_bool (by simp; omega), bdN (bel1 _ _) _⟩
    · go_ret
      exact ⟨ret_bool (by simp; omega), bdN (bel1 _ _) _⟩
set_option maxHeartbeats 1000000 in
theorem begins_3 (lo hi : Nat) (s : ByteArray) (w : World) (h : 3 ≤ s.size) : Calls Try.prog 39 #[rowV 3 lo hi, .string s] w fun e w' => e = .returned (.bool (begB 3 lo hi s)) ∧ Below w.heap.size w w' := by
  have hb : begB 3 lo hi s = (decide (lo ≤ ch s 1) && decide (ch s 1 ≤ hi) && tailB (ch s 2)) := by unfold begB; rw [decide_eq_true h]; simp
  have hd : decide ((s.size : Int) < 3) = false := by simp; omega
  have i1 : ∀ w : World, (Instr.index 9 (.string s) (.int .i64 1)).run Try.prog w = .ok (.int .u8 (ch s 1 : Int)) w := fun w => idx (w := w) s 1 (by omega) .i64
  have i2 : ∀ w : World, (Instr.index 9 (.string s) (.int .i64 2)).run Try.prog w = .ok (.int .u8 (ch s 2 : Int)) w := fun w => idx (w := w) s 2 (by omega) .i64
  rw [hb]
  cases t2 : tailB (ch s 2)
  · go_enter Try.func39, Try.ntmps39
    go_wp2_with (go_at_call 46; refine (isTail_any _ _).mono ?_; rintro e w' ⟨rfl, rfl⟩)
    go_ret
    exact ⟨ret_bool (by simp), bel1 _ _⟩
  · skip
    by_cases c1 : ch s 1 < lo
    · have d1 : decide ((ch s 1 : Int) < (lo : Int)) = true := by simp; omega
      go_enter Try.func39, Try.ntmps39
      go_wp2_with (go_at_call 46; refine (isTail_any _ _).mono ?_; rintro e w' ⟨rfl, rfl⟩)
      go_quiet (fail)
      go_wp2
      go_ret
      exact ⟨ret_bool (by simp; omega), bdN (bel1 _ _) _⟩
    · have d1 : decide ((ch s 1 : Int) < (lo : Int)) = false := by simp; omega
      go_enter Try.func39, Try.ntmps39
      go_wp2_with (go_at_call 46; refine (isTail_any _ _).mono ?_; rintro e w' ⟨rfl, rfl⟩)
      go_quiet (fail)
      go_wp2
      · go_ret
        exact ⟨ret_bool (by simp; omega), bdN (bel1 _ _) _⟩
      · go_ret
        exact ⟨ret_bool (by simp; omega), bdN (bel1 _ _) _⟩
set_option maxHeartbeats 1000000 in
theorem begins_4 (lo hi : Nat) (s : ByteArray) (w : World) (h : 4 ≤ s.size) : Calls Try.prog 39 #[rowV 4 lo hi, .string s] w fun e w' => e = .returned (.bool (begB 4 lo hi s)) ∧ Below w.heap.size w w' := by
  have hb : begB 4 lo hi s = (decide (lo ≤ ch s 1) && decide (ch s 1 ≤ hi) && tailB (ch s 2) && tailB (ch s 3)) := by unfold begB; rw [decide_eq_true h]; simp
  have hd : decide ((s.size : Int) < 4) = false := by simp; omega
  have i1 : ∀ w : World, (Instr.index 9 (.string s) (.int .i64 1)).run Try.prog w = .ok (.int .u8 (ch s 1 : Int)) w := fun w => idx (w := w) s 1 (by omega) .i64
  have i2 : ∀ w : World, (Instr.index 9 (.string s) (.int .i64 2)).run Try.prog w = .ok (.int .u8 (ch s 2 : Int)) w := fun w => idx (w := w) s 2 (by omega) .i64
  have i3 : ∀ w : World, (Instr.index 9 (.string s) (.int .i64 3)).run Try.prog w = .ok (.int .u8 (ch s 3 : Int)) w := fun w => idx (w := w) s 3 (by omega) .i64
  rw [hb]
  cases t3 : tailB (ch s 3)
  · go_enter Try.func39, Try.ntmps39
    go_wp2_with (go_at_call 46; refine (isTail_any _ _).mono ?_; rintro e w' ⟨rfl, rfl⟩)
    go_ret
    exact ⟨ret_bool (by simp), bel1 _ _⟩
  · skip
    cases t2 : tailB (ch s 2)
    · go_enter Try.func39, Try.ntmps39
      go_wp2_with (go_at_call 46; refine (isTail_any _ _).mono ?_; rintro e w' ⟨rfl, rfl⟩)
      go_ret
      exact ⟨ret_bool (by simp), bel1 _ _⟩
    · skip
      by_cases c1 : ch s 1 < lo
      · have d1 : decide ((ch s 1 : Int) < (lo : Int)) = true := by simp; omega
        go_enter Try.func39, Try.ntmps39
        go_wp2_with (go_at_call 46; refine (isTail_any _ _).mono ?_; rintro e w' ⟨rfl, rfl⟩)
        go_quiet (fail)
        go_wp2
        go_ret
        exact ⟨ret_bool (by simp; omega), bdN (bel1 _ _) _⟩
      · have d1 : decide ((ch s 1 : Int) < (lo : Int)) = false := by simp; omega
        go_enter Try.func39, Try.ntmps39
        go_wp2_with (go_at_call 46; refine (isTail_any _ _).mono ?_; rintro e w' ⟨rfl, rfl⟩)
        go_quiet (fail)
        go_wp2
        · go_ret
          exact ⟨ret_bool (by simp; omega), bdN (bel1 _ _) _⟩
        · go_ret
          exact ⟨ret_bool (by simp; omega), bdN (bel1 _ _) _⟩
theorem begins_any (k lo hi : Nat) (hk : k ≤ 4) (s : ByteArray) (w : World) : Calls Try.prog 39 #[rowV k lo hi, .string s] w fun e w' => e = .returned (.bool (begB k lo hi s)) ∧ Below w.heap.size w w' := by
  by_cases h : s.size < k
  · exact begins_short k lo hi s w h
  · have : k = 0 ∨ k = 1 ∨ k = 2 ∨ k = 3 ∨ k = 4 := by omega
    rcases this with rfl | rfl | rfl | rfl | rfl
    · exact begins_0 lo hi s w
    · exact begins_1 lo hi s w (by omega)
    · exact begins_2 lo hi s w (by omega)
    · exact begins_3 lo hi s w (by omega)
    · exact begins_4 lo hi s w (by omega)
end Go.Proofs.Ythiilkmnbjgoaaa
