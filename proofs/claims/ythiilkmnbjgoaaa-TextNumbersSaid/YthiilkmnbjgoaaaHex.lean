/- The contracts of hex digits. -/
import Derived.Test.YthiilkmnbjgoaaaBuf
import Derived.Test.YthiilkmnbjgoaaaSeq3
namespace Go.Proofs.Ythiilkmnbjgoaaa
open Go.ChangeShapes Go.WideShapes Go.ChangeAt Go.RowKit

def digB (c : Nat) : Bool := decide (48 ≤ c) && decide (c ≤ 57)
def worth (c : Nat) : Option Nat := if 48 ≤ c ∧ c ≤ 57 then some (c - 48) else if 97 ≤ c ∧ c ≤ 102 then some (c - 87) else if 65 ≤ c ∧ c ≤ 70 then some (c - 55) else none
theorem worth_lt {c d : Nat} (h : worth c = some d) : d < 16 := by
  unfold worth at h
  split at h
  · cases h; omega
  · split at h
    · cases h; omega
    · split at h
      · cases h; omega
      · cases h
theorem isDigit_any (c : Nat) (w : World) : Calls Try.prog 42 #[.int .u8 (c : Int)] w fun e w' => e = .returned (.bool (digB c)) ∧ w' = w := by
  unfold digB
  by_cases h : 48 ≤ c
  · go_enter Try.func42, Try.ntmps42
    go_wp2
    go_ret
    exact ⟨ret_bool (by simp [h]; omega), rfl⟩
  · have d : decide (48 ≤ (c : Int)) = false := by simp; omega
    go_enter Try.func42, Try.ntmps42
    go_wp2
    go_ret
    exact ⟨ret_bool (by simp; omega), rfl⟩
theorem ret_ib {a b : Int} {p q : Bool} (h : a = b) (h2 : p = q) : Ending.returned (.tuple #[.int .i64 a, .bool p]) = .returned (.tuple #[.int .i64 b, .bool q]) := by rw [h, h2]
theorem hexDigit_some (c d : Nat) (hc : c < 256) (h : worth c = some d) (w : World) : Calls Try.prog 33 #[.int .u8 (c : Int)] w fun e w' => e = .returned (.tuple #[.int .i64 (d : Int), .bool true]) ∧ w' = w := by
  unfold worth at h
  by_cases h1 : 48 ≤ c ∧ c ≤ 57
  · rw [if_pos h1] at h
    cases h
    have b : digB c = true := by unfold digB; simp [h1]
    have sb : IntKind.u8.wrap ((c : Int) - 48) = ((c - 48 : Nat) : Int) := by rw [IntKind.wrap_u8']; omega
    have e : ((c - 48 : Nat) : Int) = (c : Int) - 48 := by omega
    go_enter Try.func33, Try.ntmps33
    go_wp2_with (go_at_call 42; refine (isDigit_any _ _).mono ?_; rintro e w1 ⟨rfl, rfl⟩)
    go_ret2
    exact ⟨ret_ib e.symm rfl, rfl⟩
  · rw [if_neg h1] at h
    have b : digB c = false := by unfold digB; simp; omega
    by_cases h2 : 97 ≤ c ∧ c ≤ 102
    · rw [if_pos h2] at h
      cases h
      have d1 : decide (97 ≤ (c : Int)) = true := by simp; omega
      have e : ((c - 87 : Nat) : Int) = (c : Int) - 97 + 10 := by omega
      go_enter Try.func33, Try.ntmps33
      go_wp2_with (go_at_call 42; refine (isDigit_any _ _).mono ?_; rintro e w1 ⟨rfl, rfl⟩)
      go_ret2
      exact ⟨ret_ib e.symm rfl, rfl⟩
    · rw [if_neg h2] at h
      by_cases h3 : 65 ≤ c ∧ c ≤ 70
      · rw [if_pos h3] at h
        cases h
        have d1 : decide (97 ≤ (c : Int)) = false := by simp; omega
        have d2 : decide (65 ≤ (c : Int)) = true := by simp; omega
        have e : ((c - 55 : Nat) : Int) = (c : Int) - 65 + 10 := by omega
        go_enter Try.func33, Try.ntmps33
        go_wp2_with (go_at_call 42; refine (isDigit_any _ _).mono ?_; rintro e w1 ⟨rfl, rfl⟩)
        go_ret2
        exact ⟨ret_ib e.symm rfl, rfl⟩
      · rw [if_neg h3] at h
        cases h
theorem hexDigit_none (c : Nat) (h : worth c = none) (w : World) : Calls Try.prog 33 #[.int .u8 (c : Int)] w fun e w' => e = .returned (.tuple #[.int .i64 0, .bool false]) ∧ w' = w := by
  unfold worth at h
  have h1 : ¬ (48 ≤ c ∧ c ≤ 57) := fun hh => by rw [if_pos hh] at h; cases h
  rw [if_neg h1] at h
  have h2 : ¬ (97 ≤ c ∧ c ≤ 102) := fun hh => by rw [if_pos hh] at h; cases h
  rw [if_neg h2] at h
  have h3 : ¬ (65 ≤ c ∧ c ≤ 70) := fun hh => by rw [if_pos hh] at h; cases h
  have b : digB c = false := by unfold digB; simp; omega
  cases d1 : decide (97 ≤ (c : Int))
  · cases d2 : decide (65 ≤ (c : Int))
    · go_enter Try.func33, Try.ntmps33
      go_wp2_with (go_at_call 42; refine (isDigit_any _ _).mono ?_; rintro e w1 ⟨rfl, rfl⟩)
      go_ret2
      exact ⟨rfl, rfl⟩
    · have d3 : decide ((c : Int) ≤ 70) = false := by simp at d2 ⊢; omega
      go_enter Try.func33, Try.ntmps33
      go_wp2_with (go_at_call 42; refine (isDigit_any _ _).mono ?_; rintro e w1 ⟨rfl, rfl⟩)
      go_ret2
      exact ⟨rfl, rfl⟩
  · have d3 : decide ((c : Int) ≤ 102) = false := by simp at d1 ⊢; omega
    have d2 : decide (65 ≤ (c : Int)) = true := by simp at d1 ⊢; omega
    have d4 : decide ((c : Int) ≤ 70) = false := by simp at d1 ⊢; omega
    go_enter Try.func33, Try.ntmps33
    go_wp2_with (go_at_call 42; refine (isDigit_any _ _).mono ?_; rintro e w1 ⟨rfl, rfl⟩)
    go_ret2
    exact ⟨rfl, rfl⟩
/-- The byte that two digits say, and the place behind them. -/
def pairN (s : ByteArray) (a : Nat) : Nat × Nat :=
  if s.size ≤ a then (0, a) else
  match worth (ch s a) with
  | none => (0, a)
  | some d => if s.size ≤ a + 1 then (d, a + 1) else
    match worth (ch s (a + 1)) with
    | none => (d, a + 1)
    | some e => (d * 16 + e, a + 2)
set_option maxHeartbeats 1000000 in
theorem hexPair_any (s : ByteArray) (a : Nat) (w : World) (ha : a + 2 ≤ 9223372036854775807) : Calls Try.prog 23 #[.string s, .int .i64 (a : Int)] w fun e w' => e = .returned (.tuple #[.int .u8 ((pairN s a).1 : Nat), .int .i64 ((pairN s a).2 : Nat)]) ∧ w' = w := by
  go_enter Try.func23, Try.ntmps23
  go_wp2
  go_loop [6, 7] (fun c i => ∃ j v : Nat, j ≤ 2 ∧ i = .int .i64 ((a : Int) + (j : Int)) ∧ c = .int .i64 (v : Int) ∧ a + j ≤ max a s.size ∧
    ((j = 0 ∧ v = 0) ∨ (j = 1 ∧ a < s.size ∧ worth (ch s a) = some v) ∨ (j = 2 ∧ a + 1 < s.size ∧ ∃ d e, worth (ch s a) = some d ∧ worth (ch s (a + 1)) = some e ∧ v = d * 16 + e))) (fun _ i => a + 2 - (intOf i).toNat)
  case atStart => exact ⟨0, 0, by omega, by go_num, rfl, by omega, Or.inl ⟨rfl, rfl⟩⟩
  case round =>
    obtain ⟨j, v, hj, rfl, rfl, hjs, hcs⟩ := hrel
    by_cases hin : a + j < s.size
    · have l1 : decide ((a : Int) + (j : Int) < (s.size : Int)) = true := by simp; omega
      by_cases hj2 : j < 2
      · have ix : ∀ w : World, (Instr.index 9 (.string s) (.int .i64 ((a : Int) + (j : Int)))).run Try.prog w = .ok (.int .u8 (ch s (a + j) : Int)) w := fun w => idx (w := w) s (a + j) hin .i64
        have ch256 := ch_lt s (a + j)
        cases hw : worth (ch s (a + j)) with
        | none =>
          have hp : Hid (pairN s a = (v, a + j)) := by
            show pairN s a = (v, a + j)
            unfold pairN
            rw [if_neg (by omega)]
            rcases hcs with ⟨rfl, rfl⟩ | ⟨rfl, h1, h2⟩ | ⟨rfl, _⟩
            · rw [Nat.add_zero] at hw
              rw [hw]; rfl
            · rw [h2]; dsimp only; rw [if_neg (by omega), hw]
            · omega
          have hv : v < 256 := by
            rcases hcs with ⟨rfl, rfl⟩ | ⟨rfl, h1, h2⟩ | ⟨rfl, _⟩
            · decide
            · have := worth_lt h2; omega
            · omega
          go_wp2_with (go_at_call 33; refine (hexDigit_none _ hw _).mono ?_; rintro e w1 ⟨rfl, rfl⟩)
          go_ret2
          rw [hp.out]
          exact ⟨ret_pair (by simp) (by simp), rfl⟩
        | some d =>
          have hd := worth_lt hw
          have hv16 : v < 16 := by
            rcases hcs with ⟨rfl, rfl⟩ | ⟨rfl, h1, h2⟩ | ⟨rfl, _⟩
            · decide
            · exact worth_lt h2
            · omega
          have hor : bits .or .i64 ((v : Int) * 16) (d : Int) = ((v * 16 + d : Nat) : Int) := by
            rw [show ((v : Int) * 16) = ((v * 16 : Nat) : Int) by simp, i64_or_nat _ _ (by omega) (by omega), nat_join 4 _ _ (by omega) (by omega)]
          go_wp2_with (go_at_call 33; refine (hexDigit_some _ d ch256 hw _).mono ?_; rintro e w1 ⟨rfl, rfl⟩)
          go_round
          case rel =>
            refine ⟨j + 1, v * 16 + d, by omega, by go_num, rfl, by omega, ?_⟩
            rcases hcs with ⟨rfl, rfl⟩ | ⟨rfl, h1, h2⟩ | ⟨rfl, _⟩
            · exact Or.inr (Or.inl ⟨rfl, by omega, by simpa using hw⟩)
            · exact Or.inr (Or.inr ⟨rfl, by omega, v, d, h2, hw, rfl⟩)
            · omega
          case measure => simp [intOf]; omega
      · obtain rfl : j = 2 := by omega
        rcases hcs with ⟨h, _⟩ | ⟨h, _⟩ | ⟨_, h1, d, e, h2, h3, rfl⟩
        · omega
        · omega
        have hd := worth_lt h2
        have he := worth_lt h3
        have hp : Hid (pairN s a = (d * 16 + e, a + 2)) := by show pairN s a = _; unfold pairN; rw [if_neg (by omega), h2]; dsimp only; rw [if_neg (by omega), h3]
        go_wp2
        go_ret2
        rw [hp.out]
        exact ⟨ret_pair (by simp) (by simp), rfl⟩
    · have l1 : decide ((a : Int) + (j : Int) < (s.size : Int)) = false := by simp; omega
      have hp : Hid (pairN s a = (v, a + j)) ∧ v < 256 := by
        show pairN s a = (v, a + j) ∧ v < 256
        unfold pairN
        rcases hcs with ⟨rfl, rfl⟩ | ⟨rfl, h1, h2⟩ | ⟨rfl, h1, d, e, h2, h3, rfl⟩
        · exact ⟨by rw [if_pos (by omega)]; rfl, by decide⟩
        · have := worth_lt h2
          exact ⟨by rw [if_neg (by omega), h2]; dsimp only; rw [if_pos (by omega)], by omega⟩
        · have hd := worth_lt h2
          have he := worth_lt h3
          exact ⟨by rw [if_neg (by omega), h2]; dsimp only; rw [if_neg (by omega), h3], by omega⟩
      obtain ⟨hp, hv⟩ := hp
      go_wp2
      go_ret2
      rw [hp.out]
      exact ⟨ret_pair (by simp) (by simp), rfl⟩
end Go.Proofs.Ythiilkmnbjgoaaa
