/- The contracts of XMLName and Symbol. -/
import Derived.Test.YtfikmlckcbnppaaDoorNam1
namespace Go.Proofs.YtfikmlckcbnppaaDoor
open Go.ChangeShapes Go.WideShapes Go.ChangeAt Go.RowKit

theorem nempty (s : ByteArray) : (s.toList == []) = decide (s.size = 0) := by
  have h : s.toList.length = s.size := by rw [ByteArray.toList_eq]; exact Array.length_toList
  cases hs : s.toList with
  | nil => rw [hs] at h; have : s.size = 0 := h.symm; simp [this]
  | cons a l => rw [hs] at h; have : ¬ s.size = 0 := by simp at h; omega
                simp [this]
set_option maxHeartbeats 2000000 in
theorem Symbol_any (s : ByteArray) (hs : s.size ≤ 9223372036854775806) (w : World) : Calls Tryd.prog 25 #[.string s] w fun e w' => e = .returned (.bool (symbolB s)) ∧ w' = w := by
  by_cases h0 : s.size = 0
  · have e0 : (s.toList == []) = true := by rw [nempty]; simp [h0]
    have g : symbolB s = false := by unfold symbolB; simp [h0]
    rw [g]
    go_enter Tryd.func25, Tryd.ntmps25
    go_wp2_with fail
    go_ret
    exact ⟨rfl, rfl⟩
  have e0 : (s.toList == []) = false := by rw [nempty]; simp [h0]
  by_cases h64 : 64 < s.size
  · have d1 : decide (64 < (s.size : Int)) = true := by simp; omega
    have g : symbolB s = false := by unfold symbolB; simp; omega
    rw [g]
    go_enter Tryd.func25, Tryd.ntmps25
    go_wp2_with fail
    go_ret
    exact ⟨rfl, rfl⟩
  have d1 : decide (64 < (s.size : Int)) = false := by simp; omega
  have ix0 : ∀ w : World, (Instr.index 9 (.string s) (.int .i64 0)).run Tryd.prog w = .ok (.int .u8 (ch s 0 : Int)) w := fun w => nidx (w := w) s 0 (by omega) .i64
  cases hd0 : ndig (ch s 0)
  case true =>
    have g : symbolB s = false := by unfold symbolB; simp [hd0]
    rw [g]
    go_enter Tryd.func25, Tryd.ntmps25
    go_wp2_with (go_at_call 35; refine (nisDigit _ _).mono ?_; rintro e w1 ⟨rfl, rfl⟩)
    go_ret
    exact ⟨rfl, rfl⟩
  case false =>
  go_enter Tryd.func25, Tryd.ntmps25
  go_wp2_with (go_at_call 35; refine (nisDigit _ _).mono ?_; rintro e w1 ⟨rfl, rfl⟩)
  go_loop [19] (fun i => ∃ k : Nat, k ≤ s.size ∧ i = .int .i64 (k : Int) ∧ ∀ j, j < k → nsym (ch s j) = true) (fun i => s.size - (intOf i).toNat)
  case atStart => exact ⟨0, Nat.zero_le _, rfl, fun j hj => absurd hj (Nat.not_lt_zero j)⟩
  case round =>
    obtain ⟨k, hk, rfl, hall⟩ := hrel
    by_cases hlt : k < s.size
    · have d1 : decide ((k : Int) < (s.size : Int)) = true := by simp; omega
      have ix : ∀ w : World, (Instr.index 9 (.string s) (.int .i64 (k : Int))).run Tryd.prog w = .ok (.int .u8 (ch s k : Int)) w := fun w => nidx (w := w) s k hlt .i64
      have hgo : nsym (ch s k) = true ∨ (nlet (ch s k) = false ∧ ndig (ch s k) = false ∧ ((ch s k : Int) != 95) = true ∧ symbolB s = false) := by
        cases hx : nsym (ch s k)
        · right
          have hx' := hx
          unfold nsym at hx'
          simp only [Bool.or_eq_false_iff, decide_eq_false_iff_not] at hx'
          refine ⟨hx'.1.1, hx'.1.2, by simp; omega, ?_⟩
          unfold symbolB
          simp only [decide_eq_false_iff_not]
          rintro ⟨-, -, -, h⟩
          rw [h k hlt] at hx
          cases hx
        · exact Or.inl rfl
      rcases hgo with hx | ⟨a1, a2, a3, g⟩
      · have hall2 : ∀ j, j < k + 1 → nsym (ch s j) = true := fun j hj => by
          by_cases h : j = k
          · rw [h]; exact hx
          · exact hall j (by omega)
        have a3 : ((ch s k : Int) != 95) = !(decide (ch s k = 95)) := by by_cases h : ch s k = 95 <;> simp [h]; omega
        unfold nsym at hx
        clear hall
        cases hl : nlet (ch s k) <;> cases hd : ndig (ch s k) <;> cases h95 : decide (ch s k = 95) <;> rw [hl, hd, h95] at hx <;> first | (cases hx; done) | skip
        all_goals
          clear hx
          rw [h95] at a3
          simp only [Bool.not_true, Bool.not_false] at a3
          clear h95
          go_wp2_with (first | (go_at_call 36; refine (nisLetter _ _).mono ?_; rintro e w1 ⟨rfl, rfl⟩) | (go_at_call 35; refine (nisDigit _ _).mono ?_; rintro e w1 ⟨rfl, rfl⟩))
          go_round
          case rel => exact ⟨k + 1, by omega, by go_num, hall2⟩
          case measure => simp [intOf]; omega
      · skip
        go_wp2_with (first | (go_at_call 36; refine (nisLetter _ _).mono ?_; rintro e w1 ⟨rfl, rfl⟩) | (go_at_call 35; refine (nisDigit _ _).mono ?_; rintro e w1 ⟨rfl, rfl⟩))
        go_ret
        first | exact ⟨rfl, rfl⟩ | exact ⟨nret g.symm, rfl⟩
    · obtain rfl : k = s.size := by omega
      have g : symbolB s = true := by
        unfold symbolB
        simp only [decide_eq_true_eq]
        exact ⟨by omega, by omega, hd0, hall⟩
      clear hall
      go_wp2_with fail
      go_ret
      first | exact ⟨rfl, rfl⟩ | exact ⟨nret g.symm, rfl⟩
end Go.Proofs.YtfikmlckcbnppaaDoor
