/- PRefF. -/
import Derived.Test.YtgklippjoikadaaDoorK04
namespace Go.Proofs.YtgklippjoikadaaDoor
open Go.ChangeShapes Go.WideShapes Go.ChangeAt Go.RowKit
theorem or_no {p q : Prop} [Decidable p] [Decidable q] (h : ¬ p) : (decide p || decide q) = decide q := by simp [h]
theorem bool_of {x : Bool} {q : Prop} [Decidable q] (h : x = true ↔ q) : decide q = x := by cases x <;> simp_all
set_option maxHeartbeats 1000000 in
theorem refFits_0 (b : Int) (w : World) (h0 : 0 ≤ b) (h1 : b < 18446744073709551616) : Calls Tryd.prog 52 #[.int .i64 0, .int .u64 b] w fun e w' => e = .returned (.bool (fitsF 1 0 b)) ∧ w' = w := by
  have e1 := sz_0
  have e2 := rd_0
  have F := fits_iff 1 0 b (by unfold KOk; omega) h0 h1
  simp [pw] at F
  have e3 : bitsF 8 = 255 := rfl
  have G : decide (b ≤ 255) = fitsF 1 0 b := bool_of (F.trans (by omega))
  rw [← G]; clear F G
  go_enter Tryd.func52, Tryd.ntmps52
  go_wp2_with (first | (go_at_call 49; refine (refSize_any _ _).mono ?_; rintro e w' ⟨rfl, rfl⟩) | (go_at_call 72; refine (refSigned_any _ _).mono ?_; rintro e w' ⟨rfl, rfl⟩) | (go_at_call 75; refine (refNull_any _ _).mono ?_; rintro e w' ⟨rfl, rfl⟩) | (go_at_call 74; refine (refBits_any _ _ (by omega)).mono ?_; rintro e w' ⟨rfl, rfl⟩) | (go_at_call 73; refine (refHigh_any _ _).mono ?_; rintro e w' ⟨rfl, rfl⟩))
  go_ret
  exact ⟨rfl, rfl⟩
set_option maxHeartbeats 1000000 in
theorem refFits_1 (b : Int) (w : World) (h0 : 0 ≤ b) (h1 : b < 18446744073709551616) : Calls Tryd.prog 52 #[.int .i64 1, .int .u64 b] w fun e w' => e = .returned (.bool (fitsF 1 1 b)) ∧ w' = w := by
  have e1 := sz_1
  have e2 := rd_1
  have F := fits_iff 1 1 b (by unfold KOk; omega) h0 h1
  simp [pw] at F
  have e3 : highF 1 = 128 := rfl
  have e4 : nl 1 = 18446744073709551488 := rfl
  by_cases g1 : b < 128
  · have G : fitsF 1 1 b = true := F.2 (by omega)
    rw [G]; clear F G
    go_enter Tryd.func52, Tryd.ntmps52
    go_wp2_with (first | (go_at_call 49; refine (refSize_any _ _).mono ?_; rintro e w' ⟨rfl, rfl⟩) | (go_at_call 72; refine (refSigned_any _ _).mono ?_; rintro e w' ⟨rfl, rfl⟩) | (go_at_call 75; refine (refNull_any _ _).mono ?_; rintro e w' ⟨rfl, rfl⟩) | (go_at_call 74; refine (refBits_any _ _ (by omega)).mono ?_; rintro e w' ⟨rfl, rfl⟩) | (go_at_call 73; refine (refHigh_any _ _).mono ?_; rintro e w' ⟨rfl, rfl⟩))
    go_ret
    first | exact ⟨rfl, rfl⟩ | exact ⟨ret_bool (or_no (by omega)), rfl⟩ | exact ⟨ret_bool (decide_eq_true (by omega)).symm, rfl⟩
  · have G : decide (18446744073709551488 ≤ b) = fitsF 1 1 b := bool_of (F.trans (by omega))
    rw [← G]; clear F G
    go_enter Tryd.func52, Tryd.ntmps52
    go_wp2_with (first | (go_at_call 49; refine (refSize_any _ _).mono ?_; rintro e w' ⟨rfl, rfl⟩) | (go_at_call 72; refine (refSigned_any _ _).mono ?_; rintro e w' ⟨rfl, rfl⟩) | (go_at_call 75; refine (refNull_any _ _).mono ?_; rintro e w' ⟨rfl, rfl⟩) | (go_at_call 74; refine (refBits_any _ _ (by omega)).mono ?_; rintro e w' ⟨rfl, rfl⟩) | (go_at_call 73; refine (refHigh_any _ _).mono ?_; rintro e w' ⟨rfl, rfl⟩))
    go_ret
    first | exact ⟨rfl, rfl⟩ | exact ⟨ret_bool (or_no (by omega)), rfl⟩ | exact ⟨ret_bool (decide_eq_true (by omega)).symm, rfl⟩
set_option maxHeartbeats 1000000 in
theorem refFits_2 (b : Int) (w : World) (h0 : 0 ≤ b) (h1 : b < 18446744073709551616) : Calls Tryd.prog 52 #[.int .i64 2, .int .u64 b] w fun e w' => e = .returned (.bool (fitsF 2 1 b)) ∧ w' = w := by
  have e1 := sz_2
  have e2 := rd_2
  have F := fits_iff 2 1 b (by unfold KOk; omega) h0 h1
  simp [pw] at F
  have e3 : highF 2 = 32768 := rfl
  have e4 : nl 2 = 18446744073709518848 := rfl
  by_cases g1 : b < 32768
  · have G : fitsF 2 1 b = true := F.2 (by omega)
    rw [G]; clear F G
    go_enter Tryd.func52, Tryd.ntmps52
    go_wp2_with (first | (go_at_call 49; refine (refSize_any _ _).mono ?_; rintro e w' ⟨rfl, rfl⟩) | (go_at_call 72; refine (refSigned_any _ _).mono ?_; rintro e w' ⟨rfl, rfl⟩) | (go_at_call 75; refine (refNull_any _ _).mono ?_; rintro e w' ⟨rfl, rfl⟩) | (go_at_call 74; refine (refBits_any _ _ (by omega)).mono ?_; rintro e w' ⟨rfl, rfl⟩) | (go_at_call 73; refine (refHigh_any _ _).mono ?_; rintro e w' ⟨rfl, rfl⟩))
    go_ret
    first | exact ⟨rfl, rfl⟩ | exact ⟨ret_bool (or_no (by omega)), rfl⟩ | exact ⟨ret_bool (decide_eq_true (by omega)).symm, rfl⟩
  · have G : decide (18446744073709518848 ≤ b) = fitsF 2 1 b := bool_of (F.trans (by omega))
    rw [← G]; clear F G
    go_enter Tryd.func52, Tryd.ntmps52
    go_wp2_with (first | (go_at_call 49; refine (refSize_any _ _).mono ?_; rintro e w' ⟨rfl, rfl⟩) | (go_at_call 72; refine (refSigned_any _ _).mono ?_; rintro e w' ⟨rfl, rfl⟩) | (go_at_call 75; refine (refNull_any _ _).mono ?_; rintro e w' ⟨rfl, rfl⟩) | (go_at_call 74; refine (refBits_any _ _ (by omega)).mono ?_; rintro e w' ⟨rfl, rfl⟩) | (go_at_call 73; refine (refHigh_any _ _).mono ?_; rintro e w' ⟨rfl, rfl⟩))
    go_ret
    first | exact ⟨rfl, rfl⟩ | exact ⟨ret_bool (or_no (by omega)), rfl⟩ | exact ⟨ret_bool (decide_eq_true (by omega)).symm, rfl⟩
set_option maxHeartbeats 1000000 in
theorem refFits_3 (b : Int) (w : World) (h0 : 0 ≤ b) (h1 : b < 18446744073709551616) : Calls Tryd.prog 52 #[.int .i64 3, .int .u64 b] w fun e w' => e = .returned (.bool (fitsF 4 1 b)) ∧ w' = w := by
  have e1 := sz_3
  have e2 := rd_3
  have F := fits_iff 4 1 b (by unfold KOk; omega) h0 h1
  simp [pw] at F
  have e3 : highF 4 = 2147483648 := rfl
  have e4 : nl 3 = 18446744071562067968 := rfl
  by_cases g1 : b < 2147483648
  · have G : fitsF 4 1 b = true := F.2 (by omega)
    rw [G]; clear F G
    go_enter Tryd.func52, Tryd.ntmps52
    go_wp2_with (first | (go_at_call 49; refine (refSize_any _ _).mono ?_; rintro e w' ⟨rfl, rfl⟩) | (go_at_call 72; refine (refSigned_any _ _).mono ?_; rintro e w' ⟨rfl, rfl⟩) | (go_at_call 75; refine (refNull_any _ _).mono ?_; rintro e w' ⟨rfl, rfl⟩) | (go_at_call 74; refine (refBits_any _ _ (by omega)).mono ?_; rintro e w' ⟨rfl, rfl⟩) | (go_at_call 73; refine (refHigh_any _ _).mono ?_; rintro e w' ⟨rfl, rfl⟩))
    go_ret
    first | exact ⟨rfl, rfl⟩ | exact ⟨ret_bool (or_no (by omega)), rfl⟩ | exact ⟨ret_bool (decide_eq_true (by omega)).symm, rfl⟩
  · have G : decide (18446744071562067968 ≤ b) = fitsF 4 1 b := bool_of (F.trans (by omega))
    rw [← G]; clear F G
    go_enter Tryd.func52, Tryd.ntmps52
    go_wp2_with (first | (go_at_call 49; refine (refSize_any _ _).mono ?_; rintro e w' ⟨rfl, rfl⟩) | (go_at_call 72; refine (refSigned_any _ _).mono ?_; rintro e w' ⟨rfl, rfl⟩) | (go_at_call 75; refine (refNull_any _ _).mono ?_; rintro e w' ⟨rfl, rfl⟩) | (go_at_call 74; refine (refBits_any _ _ (by omega)).mono ?_; rintro e w' ⟨rfl, rfl⟩) | (go_at_call 73; refine (refHigh_any _ _).mono ?_; rintro e w' ⟨rfl, rfl⟩))
    go_ret
    first | exact ⟨rfl, rfl⟩ | exact ⟨ret_bool (or_no (by omega)), rfl⟩ | exact ⟨ret_bool (decide_eq_true (by omega)).symm, rfl⟩
set_option maxHeartbeats 1000000 in
theorem refFits_4 (b : Int) (w : World) (h0 : 0 ≤ b) (h1 : b < 18446744073709551616) : Calls Tryd.prog 52 #[.int .i64 4, .int .u64 b] w fun e w' => e = .returned (.bool (fitsF 8 1 b)) ∧ w' = w := by
  have e1 := sz_4
  have e2 := rd_4
  have F := fits_iff 8 1 b (by unfold KOk; omega) h0 h1
  simp [pw] at F
  have e3 : highF 8 = 9223372036854775808 := rfl
  have e4 : nl 4 = 9223372036854775808 := rfl
  by_cases g1 : b < 9223372036854775808
  · have G : fitsF 8 1 b = true := F.2 (by omega)
    rw [G]; clear F G
    go_enter Tryd.func52, Tryd.ntmps52
    go_wp2_with (first | (go_at_call 49; refine (refSize_any _ _).mono ?_; rintro e w' ⟨rfl, rfl⟩) | (go_at_call 72; refine (refSigned_any _ _).mono ?_; rintro e w' ⟨rfl, rfl⟩) | (go_at_call 75; refine (refNull_any _ _).mono ?_; rintro e w' ⟨rfl, rfl⟩) | (go_at_call 74; refine (refBits_any _ _ (by omega)).mono ?_; rintro e w' ⟨rfl, rfl⟩) | (go_at_call 73; refine (refHigh_any _ _).mono ?_; rintro e w' ⟨rfl, rfl⟩))
    go_ret
    first | exact ⟨rfl, rfl⟩ | exact ⟨ret_bool (or_no (by omega)), rfl⟩ | exact ⟨ret_bool (decide_eq_true (by omega)).symm, rfl⟩
  · have G : decide (9223372036854775808 ≤ b) = fitsF 8 1 b := bool_of (F.trans (by omega))
    rw [← G]; clear F G
    go_enter Tryd.func52, Tryd.ntmps52
    go_wp2_with (first | (go_at_call 49; refine (refSize_any _ _).mono ?_; rintro e w' ⟨rfl, rfl⟩) | (go_at_call 72; refine (refSigned_any _ _).mono ?_; rintro e w' ⟨rfl, rfl⟩) | (go_at_call 75; refine (refNull_any _ _).mono ?_; rintro e w' ⟨rfl, rfl⟩) | (go_at_call 74; refine (refBits_any _ _ (by omega)).mono ?_; rintro e w' ⟨rfl, rfl⟩) | (go_at_call 73; refine (refHigh_any _ _).mono ?_; rintro e w' ⟨rfl, rfl⟩))
    go_ret
    first | exact ⟨rfl, rfl⟩ | exact ⟨ret_bool (or_no (by omega)), rfl⟩ | exact ⟨ret_bool (decide_eq_true (by omega)).symm, rfl⟩
set_option maxHeartbeats 1000000 in
theorem refFits_5 (b : Int) (w : World) (h0 : 0 ≤ b) (h1 : b < 18446744073709551616) : Calls Tryd.prog 52 #[.int .i64 5, .int .u64 b] w fun e w' => e = .returned (.bool (fitsF 1 0 b)) ∧ w' = w := by
  have e1 := sz_5
  have e2 := rd_5
  have F := fits_iff 1 0 b (by unfold KOk; omega) h0 h1
  simp [pw] at F
  have e3 : bitsF 8 = 255 := rfl
  have G : decide (b ≤ 255) = fitsF 1 0 b := bool_of (F.trans (by omega))
  rw [← G]; clear F G
  go_enter Tryd.func52, Tryd.ntmps52
  go_wp2_with (first | (go_at_call 49; refine (refSize_any _ _).mono ?_; rintro e w' ⟨rfl, rfl⟩) | (go_at_call 72; refine (refSigned_any _ _).mono ?_; rintro e w' ⟨rfl, rfl⟩) | (go_at_call 75; refine (refNull_any _ _).mono ?_; rintro e w' ⟨rfl, rfl⟩) | (go_at_call 74; refine (refBits_any _ _ (by omega)).mono ?_; rintro e w' ⟨rfl, rfl⟩) | (go_at_call 73; refine (refHigh_any _ _).mono ?_; rintro e w' ⟨rfl, rfl⟩))
  go_ret
  exact ⟨rfl, rfl⟩
set_option maxHeartbeats 1000000 in
theorem refFits_6 (b : Int) (w : World) (h0 : 0 ≤ b) (h1 : b < 18446744073709551616) : Calls Tryd.prog 52 #[.int .i64 6, .int .u64 b] w fun e w' => e = .returned (.bool (fitsF 2 0 b)) ∧ w' = w := by
  have e1 := sz_6
  have e2 := rd_6
  have F := fits_iff 2 0 b (by unfold KOk; omega) h0 h1
  simp [pw] at F
  have e3 : bitsF 16 = 65535 := rfl
  have G : decide (b ≤ 65535) = fitsF 2 0 b := bool_of (F.trans (by omega))
  rw [← G]; clear F G
  go_enter Tryd.func52, Tryd.ntmps52
  go_wp2_with (first | (go_at_call 49; refine (refSize_any _ _).mono ?_; rintro e w' ⟨rfl, rfl⟩) | (go_at_call 72; refine (refSigned_any _ _).mono ?_; rintro e w' ⟨rfl, rfl⟩) | (go_at_call 75; refine (refNull_any _ _).mono ?_; rintro e w' ⟨rfl, rfl⟩) | (go_at_call 74; refine (refBits_any _ _ (by omega)).mono ?_; rintro e w' ⟨rfl, rfl⟩) | (go_at_call 73; refine (refHigh_any _ _).mono ?_; rintro e w' ⟨rfl, rfl⟩))
  go_ret
  exact ⟨rfl, rfl⟩
set_option maxHeartbeats 1000000 in
theorem refFits_7 (b : Int) (w : World) (h0 : 0 ≤ b) (h1 : b < 18446744073709551616) : Calls Tryd.prog 52 #[.int .i64 7, .int .u64 b] w fun e w' => e = .returned (.bool (fitsF 4 0 b)) ∧ w' = w := by
  have e1 := sz_7
  have e2 := rd_7
  have F := fits_iff 4 0 b (by unfold KOk; omega) h0 h1
  simp [pw] at F
  have e3 : bitsF 32 = 4294967295 := rfl
  have G : decide (b ≤ 4294967295) = fitsF 4 0 b := bool_of (F.trans (by omega))
  rw [← G]; clear F G
  go_enter Tryd.func52, Tryd.ntmps52
  go_wp2_with (first | (go_at_call 49; refine (refSize_any _ _).mono ?_; rintro e w' ⟨rfl, rfl⟩) | (go_at_call 72; refine (refSigned_any _ _).mono ?_; rintro e w' ⟨rfl, rfl⟩) | (go_at_call 75; refine (refNull_any _ _).mono ?_; rintro e w' ⟨rfl, rfl⟩) | (go_at_call 74; refine (refBits_any _ _ (by omega)).mono ?_; rintro e w' ⟨rfl, rfl⟩) | (go_at_call 73; refine (refHigh_any _ _).mono ?_; rintro e w' ⟨rfl, rfl⟩))
  go_ret
  exact ⟨rfl, rfl⟩
set_option maxHeartbeats 1000000 in
theorem refFits_8 (b : Int) (w : World) (h0 : 0 ≤ b) (h1 : b < 18446744073709551616) : Calls Tryd.prog 52 #[.int .i64 8, .int .u64 b] w fun e w' => e = .returned (.bool (fitsF 8 0 b)) ∧ w' = w := by
  have e1 := sz_8
  have e2 := rd_8
  have F := fits_iff 8 0 b (by unfold KOk; omega) h0 h1
  simp [pw] at F
  have e3 : bitsF 64 = 18446744073709551615 := rfl
  have G : decide (b ≤ 18446744073709551615) = fitsF 8 0 b := bool_of (F.trans (by omega))
  rw [← G]; clear F G
  go_enter Tryd.func52, Tryd.ntmps52
  go_wp2_with (first | (go_at_call 49; refine (refSize_any _ _).mono ?_; rintro e w' ⟨rfl, rfl⟩) | (go_at_call 72; refine (refSigned_any _ _).mono ?_; rintro e w' ⟨rfl, rfl⟩) | (go_at_call 75; refine (refNull_any _ _).mono ?_; rintro e w' ⟨rfl, rfl⟩) | (go_at_call 74; refine (refBits_any _ _ (by omega)).mono ?_; rintro e w' ⟨rfl, rfl⟩) | (go_at_call 73; refine (refHigh_any _ _).mono ?_; rintro e w' ⟨rfl, rfl⟩))
  go_ret
  exact ⟨rfl, rfl⟩
set_option maxHeartbeats 1000000 in
theorem refFits_9 (b : Int) (w : World) (h0 : 0 ≤ b) (h1 : b < 18446744073709551616) : Calls Tryd.prog 52 #[.int .i64 9, .int .u64 b] w fun e w' => e = .returned (.bool (fitsF 4 2 b)) ∧ w' = w := by
  have e1 := sz_9
  have e2 := rd_9
  have F := fits_iff 4 2 b (by unfold KOk; omega) h0 h1
  simp [pw] at F
  have e3 : bitsF 32 = 4294967295 := rfl
  have G : decide (b ≤ 4294967295) = fitsF 4 2 b := bool_of (F.trans (by omega))
  rw [← G]; clear F G
  go_enter Tryd.func52, Tryd.ntmps52
  go_wp2_with (first | (go_at_call 49; refine (refSize_any _ _).mono ?_; rintro e w' ⟨rfl, rfl⟩) | (go_at_call 72; refine (refSigned_any _ _).mono ?_; rintro e w' ⟨rfl, rfl⟩) | (go_at_call 75; refine (refNull_any _ _).mono ?_; rintro e w' ⟨rfl, rfl⟩) | (go_at_call 74; refine (refBits_any _ _ (by omega)).mono ?_; rintro e w' ⟨rfl, rfl⟩) | (go_at_call 73; refine (refHigh_any _ _).mono ?_; rintro e w' ⟨rfl, rfl⟩))
  go_ret
  exact ⟨rfl, rfl⟩
set_option maxHeartbeats 1000000 in
theorem refFits_10 (b : Int) (w : World) (h0 : 0 ≤ b) (h1 : b < 18446744073709551616) : Calls Tryd.prog 52 #[.int .i64 10, .int .u64 b] w fun e w' => e = .returned (.bool (fitsF 8 2 b)) ∧ w' = w := by
  have e1 := sz_10
  have e2 := rd_10
  have F := fits_iff 8 2 b (by unfold KOk; omega) h0 h1
  simp [pw] at F
  have e3 : bitsF 64 = 18446744073709551615 := rfl
  have G : decide (b ≤ 18446744073709551615) = fitsF 8 2 b := bool_of (F.trans (by omega))
  rw [← G]; clear F G
  go_enter Tryd.func52, Tryd.ntmps52
  go_wp2_with (first | (go_at_call 49; refine (refSize_any _ _).mono ?_; rintro e w' ⟨rfl, rfl⟩) | (go_at_call 72; refine (refSigned_any _ _).mono ?_; rintro e w' ⟨rfl, rfl⟩) | (go_at_call 75; refine (refNull_any _ _).mono ?_; rintro e w' ⟨rfl, rfl⟩) | (go_at_call 74; refine (refBits_any _ _ (by omega)).mono ?_; rintro e w' ⟨rfl, rfl⟩) | (go_at_call 73; refine (refHigh_any _ _).mono ?_; rintro e w' ⟨rfl, rfl⟩))
  go_ret
  exact ⟨rfl, rfl⟩
theorem refFits_any (p b : Int) (w : World) (h0 : 0 ≤ b) (h1 : b < 18446744073709551616) : Calls Tryd.prog 52 #[.int .i64 p, .int .u64 b] w fun e w' => e = .returned (.bool (fitsF (sz p) (rd p) b)) ∧ w' = w := by
  rcases prim_cases p with h | rfl | rfl | rfl | rfl | rfl | rfl | rfl | rfl | rfl | rfl | rfl
  · have e1 : sz p = 0 := by unfold sz; rw [kRow_out p h]
    have e2 : fitsF (sz p) (rd p) b = false := by rw [e1]; rfl
    rw [e2]; clear e2 h
    go_enter Tryd.func52, Tryd.ntmps52
    go_wp2_with (first | (go_at_call 49; refine (refSize_any _ _).mono ?_; rintro e w' ⟨rfl, rfl⟩) | (go_at_call 72; refine (refSigned_any _ _).mono ?_; rintro e w' ⟨rfl, rfl⟩) | (go_at_call 75; refine (refNull_any _ _).mono ?_; rintro e w' ⟨rfl, rfl⟩) | (go_at_call 74; refine (refBits_any _ _ (by omega)).mono ?_; rintro e w' ⟨rfl, rfl⟩) | (go_at_call 73; refine (refHigh_any _ _).mono ?_; rintro e w' ⟨rfl, rfl⟩))
    go_ret
    exact ⟨rfl, rfl⟩
  · exact refFits_0 b w h0 h1
  · exact refFits_1 b w h0 h1
  · exact refFits_2 b w h0 h1
  · exact refFits_3 b w h0 h1
  · exact refFits_4 b w h0 h1
  · exact refFits_5 b w h0 h1
  · exact refFits_6 b w h0 h1
  · exact refFits_7 b w h0 h1
  · exact refFits_8 b w h0 h1
  · exact refFits_9 b w h0 h1
  · exact refFits_10 b w h0 h1
end Go.Proofs.YtgklippjoikadaaDoor
