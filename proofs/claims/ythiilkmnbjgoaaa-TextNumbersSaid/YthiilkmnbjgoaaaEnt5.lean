/- The contracts of numberOf. -/
import Derived.Test.YthiilkmnbjgoaaaEnt4
namespace Go.Proofs.Ythiilkmnbjgoaaa
open Go.ChangeShapes Go.WideShapes Go.ChangeAt Go.RowKit

set_option maxHeartbeats 1000000 in
theorem numberOf_10 (t : ByteArray) (w : World) (ht : t.size ≤ 140737488355328) :
    Calls Try.prog 48 #[.string t, .int .i64 10] w fun e w' => e = .returned (.tuple #[.int .i64 (((numS 10 t).getD 0 : Nat) : Int), .bool (decide (0 < t.size) && (numS 10 t).isSome)]) ∧ w' = w := by
  go_enter Try.func48, Try.ntmps48
  go_wp2
  go_loop [6, 12] (fun n i => ∃ k m : Nat, k ≤ t.size ∧ i = .int .i64 k ∧ n = .int .i64 (m : Int) ∧ m ≤ 1114112 ∧ numF 10 ((lOf t).drop k) m = numS 10 t) (fun _ i => t.size - (intOf i).toNat)
  case atStart => exact ⟨0, 0, Nat.zero_le _, rfl, rfl, by decide, rfl⟩
  case round =>
    obtain ⟨k, m, hk, rfl, rfl, hm, hq⟩ := hrel
    by_cases hlt : k < t.size
    · have ix : ∀ w : World, (Instr.index 9 (.string t) (.int .i64 (k : Int))).run Try.prog w = .ok (.int .u8 (ch t k : Int)) w := fun w => idx (w := w) t k hlt .i64
      rw [drop_ch t k hlt, numF_cons] at hq
      cases hw : worth (ch t k) with
      | none =>
        rw [hw] at hq
        dsimp only at hq
        go_wp2_with (go_at_call 33; refine (hexDigit_none _ hw _).mono ?_; rintro e w1 ⟨rfl, hw1⟩; subst w1)
        go_ret2
        rw [← hq]
        exact ⟨ret_ib rfl (by simp), rfl⟩
      | some d =>
        rw [hw] at hq
        dsimp only at hq
        have hd16 := worth_lt hw
        by_cases hd : d < 10
        · rw [if_pos hd] at hq
          have e1 : decide ((10 : Int) ≤ (d : Int)) = false := by simp; omega
          by_cases hmn : m * 10 + d ≤ 1114112
          · rw [Nat.min_eq_left hmn] at hq
            have hmin : ((m : Int) * 10 + (d : Int)) ≤ 1114112 := by omega
            go_wp2_with (go_at_call 33; refine (hexDigit_some _ d (ch_lt _ _) hw _).mono ?_; rintro e w1 ⟨rfl, hw1⟩; subst w1)
            go_round
            case rel => exact ⟨k + 1, m * 10 + d, by omega, by go_num, by simp <;> omega, hmn, hq⟩
            case measure => simp [intOf]; omega
          · rw [Nat.min_eq_right (by omega)] at hq
            have hmin : 1114112 < ((m : Int) * 10 + (d : Int)) := by omega
            go_wp2_with (go_at_call 33; refine (hexDigit_some _ d (ch_lt _ _) hw _).mono ?_; rintro e w1 ⟨rfl, hw1⟩; subst w1)
            go_round
            case rel => exact ⟨k + 1, 1114112, by omega, by go_num, by simp <;> omega, by decide, hq⟩
            case measure => simp [intOf]; omega
        · rw [if_neg hd] at hq
          have e1 : decide ((10 : Int) ≤ (d : Int)) = true := by simp; omega
          go_wp2_with (go_at_call 33; refine (hexDigit_some _ d (ch_lt _ _) hw _).mono ?_; rintro e w1 ⟨rfl, hw1⟩; subst w1)
          go_ret2
          rw [← hq]
          exact ⟨ret_ib rfl (by simp), rfl⟩
    · obtain rfl : k = t.size := by omega
      have hd : (lOf t).drop t.size = [] := by rw [← lOf_length]; exact List.drop_length
      rw [hd] at hq
      have hq' : Hid (numS 10 t = some m) := hq.symm
      clear hq
      by_cases hz : t.size = 0
      · have e1 : (t.toList == []) = true := by
          rw [ByteArray.toList_eq, beq_iff_eq]
          exact List.length_eq_zero_iff.1 (by rw [tl_len]; exact hz)
        have et : ({ data := #[] } : ByteArray).toList = [] := by rw [ByteArray.toList_eq]
        go_wp2
        go_ret2
        rw [hq'.out]
        exact ⟨ret_ib rfl (by simp), rfl⟩
      · have e1 : (t.toList == []) = false := by
          rw [ByteArray.toList_eq, beq_eq_false_iff_ne]
          intro e
          have := tl_len t
          rw [e] at this
          simp at this
          omega
        have et : ({ data := #[] } : ByteArray).toList = [] := by rw [ByteArray.toList_eq]
        go_wp2
        go_ret2
        rw [hq'.out]
        exact ⟨ret_ib rfl (by simp; omega), rfl⟩
set_option maxHeartbeats 1000000 in
theorem numberOf_16 (t : ByteArray) (w : World) (ht : t.size ≤ 140737488355328) :
    Calls Try.prog 48 #[.string t, .int .i64 16] w fun e w' => e = .returned (.tuple #[.int .i64 (((numS 16 t).getD 0 : Nat) : Int), .bool (decide (0 < t.size) && (numS 16 t).isSome)]) ∧ w' = w := by
  go_enter Try.func48, Try.ntmps48
  go_wp2
  go_loop [6, 12] (fun n i => ∃ k m : Nat, k ≤ t.size ∧ i = .int .i64 k ∧ n = .int .i64 (m : Int) ∧ m ≤ 1114112 ∧ numF 16 ((lOf t).drop k) m = numS 16 t) (fun _ i => t.size - (intOf i).toNat)
  case atStart => exact ⟨0, 0, Nat.zero_le _, rfl, rfl, by decide, rfl⟩
  case round =>
    obtain ⟨k, m, hk, rfl, rfl, hm, hq⟩ := hrel
    by_cases hlt : k < t.size
    · have ix : ∀ w : World, (Instr.index 9 (.string t) (.int .i64 (k : Int))).run Try.prog w = .ok (.int .u8 (ch t k : Int)) w := fun w => idx (w := w) t k hlt .i64
      rw [drop_ch t k hlt, numF_cons] at hq
      cases hw : worth (ch t k) with
      | none =>
        rw [hw] at hq
        dsimp only at hq
        go_wp2_with (go_at_call 33; refine (hexDigit_none _ hw _).mono ?_; rintro e w1 ⟨rfl, hw1⟩; subst w1)
        go_ret2
        rw [← hq]
        exact ⟨ret_ib rfl (by simp), rfl⟩
      | some d =>
        rw [hw] at hq
        dsimp only at hq
        have hd16 := worth_lt hw
        by_cases hd : d < 16
        · rw [if_pos hd] at hq
          have e1 : decide ((16 : Int) ≤ (d : Int)) = false := by simp; omega
          by_cases hmn : m * 16 + d ≤ 1114112
          · rw [Nat.min_eq_left hmn] at hq
            have hmin : ((m : Int) * 16 + (d : Int)) ≤ 1114112 := by omega
            go_wp2_with (go_at_call 33; refine (hexDigit_some _ d (ch_lt _ _) hw _).mono ?_; rintro e w1 ⟨rfl, hw1⟩; subst w1)
            go_round
            case rel => exact ⟨k + 1, m * 16 + d, by omega, by go_num, by simp <;> omega, hmn, hq⟩
            case measure => simp [intOf]; omega
          · rw [Nat.min_eq_right (by omega)] at hq
            have hmin : 1114112 < ((m : Int) * 16 + (d : Int)) := by omega
            go_wp2_with (go_at_call 33; refine (hexDigit_some _ d (ch_lt _ _) hw _).mono ?_; rintro e w1 ⟨rfl, hw1⟩; subst w1)
            go_round
            case rel => exact ⟨k + 1, 1114112, by omega, by go_num, by simp <;> omega, by decide, hq⟩
            case measure => simp [intOf]; omega
        · rw [if_neg hd] at hq
          have e1 : decide ((16 : Int) ≤ (d : Int)) = true := by simp; omega
          go_wp2_with (go_at_call 33; refine (hexDigit_some _ d (ch_lt _ _) hw _).mono ?_; rintro e w1 ⟨rfl, hw1⟩; subst w1)
          go_ret2
          rw [← hq]
          exact ⟨ret_ib rfl (by simp), rfl⟩
    · obtain rfl : k = t.size := by omega
      have hd : (lOf t).drop t.size = [] := by rw [← lOf_length]; exact List.drop_length
      rw [hd] at hq
      have hq' : Hid (numS 16 t = some m) := hq.symm
      clear hq
      by_cases hz : t.size = 0
      · have e1 : (t.toList == []) = true := by
          rw [ByteArray.toList_eq, beq_iff_eq]
          exact List.length_eq_zero_iff.1 (by rw [tl_len]; exact hz)
        have et : ({ data := #[] } : ByteArray).toList = [] := by rw [ByteArray.toList_eq]
        go_wp2
        go_ret2
        rw [hq'.out]
        exact ⟨ret_ib rfl (by simp), rfl⟩
      · have e1 : (t.toList == []) = false := by
          rw [ByteArray.toList_eq, beq_eq_false_iff_ne]
          intro e
          have := tl_len t
          rw [e] at this
          simp at this
          omega
        have et : ({ data := #[] } : ByteArray).toList = [] := by rw [ByteArray.toList_eq]
        go_wp2
        go_ret2
        rw [hq'.out]
        exact ⟨ret_ib rfl (by simp; omega), rfl⟩
end Go.Proofs.Ythiilkmnbjgoaaa
