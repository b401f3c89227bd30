/- The contracts of the document's answers of layer 1: Fits, below, Compare. -/
import Derived.Test.YthelmmdbgmdgeaaDoorRef
namespace Go.Proofs.YthelmmdbgmdgeaaDoor
open Go.ChangeShapes Go.WideShapes Go.ChangeAt Go.RowKit
theorem or_no {p q : Prop} [Decidable p] [Decidable q] (h : ¬ p) : (decide p || decide q) = decide q := by simp [h]
theorem bool_of {x : Bool} {q : Prop} [Decidable q] (h : x = true ↔ q) : decide q = x := by cases x <;> simp_all
set_option maxHeartbeats 1000000 in
theorem refFits_0 (b : Int) (w : World) (h0 : 0 ≤ b) (h1 : b < 18446744073709551616) : Calls Tryd.prog 21 #[.int .i64 0, .int .u64 b] w fun e w' => e = .returned (.bool (fitsF 1 0 b)) ∧ w' = w := by
  have e1 := sz_0
  have e2 := rd_0
  have F := fits_iff 1 0 b (by unfold KOk; omega) h0 h1
  simp [pw] at F
  have e3 : bitsF 8 = 255 := rfl
  have G : decide (b ≤ 255) = fitsF 1 0 b := bool_of (F.trans (by omega))
  rw [← G]; clear F G
  go_enter Tryd.func21, Tryd.ntmps21
  go_wp2_with (first | (go_at_call 15; refine (refSize_any _ _).mono ?_; rintro e w' ⟨rfl, rfl⟩) | (go_at_call 17; refine (refSigned_any _ _).mono ?_; rintro e w' ⟨rfl, rfl⟩) | (go_at_call 18; refine (refNull_any _ _).mono ?_; rintro e w' ⟨rfl, rfl⟩) | (go_at_call 37; refine (refBits_any _ _ (by omega)).mono ?_; rintro e w' ⟨rfl, rfl⟩) | (go_at_call 38; refine (refHigh_any _ _).mono ?_; rintro e w' ⟨rfl, rfl⟩))
  go_ret
  exact ⟨rfl, rfl⟩
set_option maxHeartbeats 1000000 in
theorem refFits_1 (b : Int) (w : World) (h0 : 0 ≤ b) (h1 : b < 18446744073709551616) : Calls Tryd.prog 21 #[.int .i64 1, .int .u64 b] w fun e w' => e = .returned (.bool (fitsF 1 1 b)) ∧ w' = w := by
  have e1 := sz_1
  have e2 := rd_1
  have F := fits_iff 1 1 b (by unfold KOk; omega) h0 h1
  simp [pw] at F
  have e3 : highF 1 = 128 := rfl
  have e4 : nl 1 = 18446744073709551488 := rfl
  by_cases g1 : b < 128
  · have G : fitsF 1 1 b = true := F.2 (by omega)
    rw [G]; clear F G
    go_enter Tryd.func21, Tryd.ntmps21
    go_wp2_with (first | (go_at_call 15; refine (refSize_any _ _).mono ?_; rintro e w' ⟨rfl, rfl⟩) | (go_at_call 17; refine (refSigned_any _ _).mono ?_; rintro e w' ⟨rfl, rfl⟩) | (go_at_call 18; refine (refNull_any _ _).mono ?_; rintro e w' ⟨rfl, rfl⟩) | (go_at_call 37; refine (refBits_any _ _ (by omega)).mono ?_; rintro e w' ⟨rfl, rfl⟩) | (go_at_call 38; refine (refHigh_any _ _).mono ?_; rintro e w' ⟨rfl, rfl⟩))
    go_ret
    first | exact ⟨rfl, rfl⟩ | exact ⟨ret_bool (or_no (by omega)), rfl⟩ | exact ⟨ret_bool (decide_eq_true (by omega)).symm, rfl⟩
  · have G : decide (18446744073709551488 ≤ b) = fitsF 1 1 b := bool_of (F.trans (by omega))
    rw [← G]; clear F G
    go_enter Tryd.func21, Tryd.ntmps21
    go_wp2_with (first | (go_at_call 15; refine (refSize_any _ _).mono ?_; rintro e w' ⟨rfl, rfl⟩) | (go_at_call 17; refine (refSigned_any _ _).mono ?_; rintro e w' ⟨rfl, rfl⟩) | (go_at_call 18; refine (refNull_any _ _).mono ?_; rintro e w' ⟨rfl, rfl⟩) | (go_at_call 37; refine (refBits_any _ _ (by omega)).mono ?_; rintro e w' ⟨rfl, rfl⟩) | (go_at_call 38; refine (refHigh_any _ _).mono ?_; rintro e w' ⟨rfl, rfl⟩))
    go_ret
    first | exact ⟨rfl, rfl⟩ | exact ⟨ret_bool (or_no (by omega)), rfl⟩ | exact ⟨ret_bool (decide_eq_true (by omega)).symm, rfl⟩
set_option maxHeartbeats 1000000 in
theorem refFits_2 (b : Int) (w : World) (h0 : 0 ≤ b) (h1 : b < 18446744073709551616) : Calls Tryd.prog 21 #[.int .i64 2, .int .u64 b] w fun e w' => e = .returned (.bool (fitsF 2 1 b)) ∧ w' = w := by
  have e1 := sz_2
  have e2 := rd_2
  have F := fits_iff 2 1 b (by unfold KOk; omega) h0 h1
  simp [pw] at F
  have e3 : highF 2 = 32768 := rfl
  have e4 : nl 2 = 18446744073709518848 := rfl
  by_cases g1 : b < 32768
  · have G : fitsF 2 1 b = true := F.2 (by omega)
    rw [G]; clear F G
    go_enter Tryd.func21, Tryd.ntmps21
    go_wp2_with (first | (go_at_call 15; refine (refSize_any _ _).mono ?_; rintro e w' ⟨rfl, rfl⟩) | (go_at_call 17; refine (refSigned_any _ _).mono ?_; rintro e w' ⟨rfl, rfl⟩) | (go_at_call 18; refine (refNull_any _ _).mono ?_; rintro e w' ⟨rfl, rfl⟩) | (go_at_call 37; refine (refBits_any _ _ (by omega)).mono ?_; rintro e w' ⟨rfl, rfl⟩) | (go_at_call 38; refine (refHigh_any _ _).mono ?_; rintro e w' ⟨rfl, rfl⟩))
    go_ret
    first | exact ⟨rfl, rfl⟩ | exact ⟨ret_bool (or_no (by omega)), rfl⟩ | exact ⟨ret_bool (decide_eq_true (by omega)).symm, rfl⟩
  · have G : decide (18446744073709518848 ≤ b) = fitsF 2 1 b := bool_of (F.trans (by omega))
    rw [← G]; clear F G
    go_enter Tryd.func21, Tryd.ntmps21
    go_wp2_with (first | (go_at_call 15; refine (refSize_any _ _).mono ?_; rintro e w' ⟨rfl, rfl⟩) | (go_at_call 17; refine (refSigned_any _ _).mono ?_; rintro e w' ⟨rfl, rfl⟩) | (go_at_call 18; refine (refNull_any _ _).mono ?_; rintro e w' ⟨rfl, rfl⟩) | (go_at_call 37; refine (refBits_any _ _ (by omega)).mono ?_; rintro e w' ⟨rfl, rfl⟩) | (go_at_call 38; refine (refHigh_any _ _).mono ?_; rintro e w' ⟨rfl, rfl⟩))
    go_ret
    first | exact ⟨rfl, rfl⟩ | exact ⟨ret_bool (or_no (by omega)), rfl⟩ | exact ⟨ret_bool (decide_eq_true (by omega)).symm, rfl⟩
set_option maxHeartbeats 1000000 in
theorem refFits_3 (b : Int) (w : World) (h0 : 0 ≤ b) (h1 : b < 18446744073709551616) : Calls Tryd.prog 21 #[.int .i64 3, .int .u64 b] w fun e w' => e = .returned (.bool (fitsF 4 1 b)) ∧ w' = w := by
  have e1 := sz_3
  have e2 := rd_3
  have F := fits_iff 4 1 b (by unfold KOk; omega) h0 h1
  simp [pw] at F
  have e3 : highF 4 = 2147483648 := rfl
  have e4 : nl 3 = 18446744071562067968 := rfl
  by_cases g1 : b < 2147483648
  · have G : fitsF 4 1 b = true := F.2 (by omega)
    rw [G]; clear F G
    go_enter Tryd.func21, Tryd.ntmps21
    go_wp2_with (first | (go_at_call 15; refine (refSize_any _ _).mono ?_; rintro e w' ⟨rfl, rfl⟩) | (go_at_call 17; refine (refSigned_any _ _).mono ?_; rintro e w' ⟨rfl, rfl⟩) | (go_at_call 18; refine (refNull_any _ _).mono ?_; rintro e w' ⟨rfl, rfl⟩) | (go_at_call 37; refine (refBits_any _ _ (by omega)).mono ?_; rintro e w' ⟨rfl, rfl⟩) | (go_at_call 38; refine (refHigh_any _ _).mono ?_; rintro e w' ⟨rfl, rfl⟩))
    go_ret
    first | exact ⟨rfl, rfl⟩ | exact ⟨ret_bool (or_no (by omega)), rfl⟩ | exact ⟨ret_bool (decide_eq_true (by omega)).symm, rfl⟩
  · have G : decide (18446744071562067968 ≤ b) = fitsF 4 1 b := bool_of (F.trans (by omega))
    rw [← G]; clear F G
    go_enter Tryd.func21, Tryd.ntmps21
    go_wp2_with (first | (go_at_call 15; refine (refSize_any _ _).mono ?_; rintro e w' ⟨rfl, rfl⟩) | (go_at_call 17; refine (refSigned_any _ _).mono ?_; rintro e w' ⟨rfl, rfl⟩) | (go_at_call 18; refine (refNull_any _ _).mono ?_; rintro e w' ⟨rfl, rfl⟩) | (go_at_call 37; refine (refBits_any _ _ (by omega)).mono ?_; rintro e w' ⟨rfl, rfl⟩) | (go_at_call 38; refine (refHigh_any _ _).mono ?_; rintro e w' ⟨rfl, rfl⟩))
    go_ret
    first | exact ⟨rfl, rfl⟩ | exact ⟨ret_bool (or_no (by omega)), rfl⟩ | exact ⟨ret_bool (decide_eq_true (by omega)).symm, rfl⟩
set_option maxHeartbeats 1000000 in
theorem refFits_4 (b : Int) (w : World) (h0 : 0 ≤ b) (h1 : b < 18446744073709551616) : Calls Tryd.prog 21 #[.int .i64 4, .int .u64 b] w fun e w' => e = .returned (.bool (fitsF 8 1 b)) ∧ w' = w := by
  have e1 := sz_4
  have e2 := rd_4
  have F := fits_iff 8 1 b (by unfold KOk; omega) h0 h1
  simp [pw] at F
  have e3 : highF 8 = 9223372036854775808 := rfl
  have e4 : nl 4 = 9223372036854775808 := rfl
  by_cases g1 : b < 9223372036854775808
  · have G : fitsF 8 1 b = true := F.2 (by omega)
    rw [G]; clear F G
    go_enter Tryd.func21, Tryd.ntmps21
    go_wp2_with (first | (go_at_call 15; refine (refSize_any _ _).mono ?_; rintro e w' ⟨rfl, rfl⟩) | (go_at_call 17; refine (refSigned_any _ _).mono ?_; rintro e w' ⟨rfl, rfl⟩) | (go_at_call 18; refine (refNull_any _ _).mono ?_; rintro e w' ⟨rfl, rfl⟩) | (go_at_call 37; refine (refBits_any _ _ (by omega)).mono ?_; rintro e w' ⟨rfl, rfl⟩) | (go_at_call 38; refine (refHigh_any _ _).mono ?_; rintro e w' ⟨rfl, rfl⟩))
    go_ret
    first | exact ⟨rfl, rfl⟩ | exact ⟨ret_bool (or_no (by omega)), rfl⟩ | exact ⟨ret_bool (decide_eq_true (by omega)).symm, rfl⟩
  · have G : decide (9223372036854775808 ≤ b) = fitsF 8 1 b := bool_of (F.trans (by omega))
    rw [← G]; clear F G
    go_enter Tryd.func21, Tryd.ntmps21
    go_wp2_with (first | (go_at_call 15; refine (refSize_any _ _).mono ?_; rintro e w' ⟨rfl, rfl⟩) | (go_at_call 17; refine (refSigned_any _ _).mono ?_; rintro e w' ⟨rfl, rfl⟩) | (go_at_call 18; refine (refNull_any _ _).mono ?_; rintro e w' ⟨rfl, rfl⟩) | (go_at_call 37; refine (refBits_any _ _ (by omega)).mono ?_; rintro e w' ⟨rfl, rfl⟩) | (go_at_call 38; refine (refHigh_any _ _).mono ?_; rintro e w' ⟨rfl, rfl⟩))
    go_ret
    first | exact ⟨rfl, rfl⟩ | exact ⟨ret_bool (or_no (by omega)), rfl⟩ | exact ⟨ret_bool (decide_eq_true (by omega)).symm, rfl⟩
set_option maxHeartbeats 1000000 in
theorem refFits_5 (b : Int) (w : World) (h0 : 0 ≤ b) (h1 : b < 18446744073709551616) : Calls Tryd.prog 21 #[.int .i64 5, .int .u64 b] w fun e w' => e = .returned (.bool (fitsF 1 0 b)) ∧ w' = w := by
  have e1 := sz_5
  have e2 := rd_5
  have F := fits_iff 1 0 b (by unfold KOk; omega) h0 h1
  simp [pw] at F
  have e3 : bitsF 8 = 255 := rfl
  have G : decide (b ≤ 255) = fitsF 1 0 b := bool_of (F.trans (by omega))
  rw [← G]; clear F G
  go_enter Tryd.func21, Tryd.ntmps21
  go_wp2_with (first | (go_at_call 15; refine (refSize_any _ _).mono ?_; rintro e w' ⟨rfl, rfl⟩) | (go_at_call 17; refine (refSigned_any _ _).mono ?_; rintro e w' ⟨rfl, rfl⟩) | (go_at_call 18; refine (refNull_any _ _).mono ?_; rintro e w' ⟨rfl, rfl⟩) | (go_at_call 37; refine (refBits_any _ _ (by omega)).mono ?_; rintro e w' ⟨rfl, rfl⟩) | (go_at_call 38; refine (refHigh_any _ _).mono ?_; rintro e w' ⟨rfl, rfl⟩))
  go_ret
  exact ⟨rfl, rfl⟩
set_option maxHeartbeats 1000000 in
theorem refFits_6 (b : Int) (w : World) (h0 : 0 ≤ b) (h1 : b < 18446744073709551616) : Calls Tryd.prog 21 #[.int .i64 6, .int .u64 b] w fun e w' => e = .returned (.bool (fitsF 2 0 b)) ∧ w' = w := by
  have e1 := sz_6
  have e2 := rd_6
  have F := fits_iff 2 0 b (by unfold KOk; omega) h0 h1
  simp [pw] at F
  have e3 : bitsF 16 = 65535 := rfl
  have G : decide (b ≤ 65535) = fitsF 2 0 b := bool_of (F.trans (by omega))
  rw [← G]; clear F G
  go_enter Tryd.func21, Tryd.ntmps21
  go_wp2_with (first | (go_at_call 15; refine (refSize_any _ _).mono ?_; rintro e w' ⟨rfl, rfl⟩) | (go_at_call 17; refine (refSigned_any _ _).mono ?_; rintro e w' ⟨rfl, rfl⟩) | (go_at_call 18; refine (refNull_any _ _).mono ?_; rintro e w' ⟨rfl, rfl⟩) | (go_at_call 37; refine (refBits_any _ _ (by omega)).mono ?_; rintro e w' ⟨rfl, rfl⟩) | (go_at_call 38; refine (refHigh_any _ _).mono ?_; rintro e w' ⟨rfl, rfl⟩))
  go_ret
  exact ⟨rfl, rfl⟩
set_option maxHeartbeats 1000000 in
theorem refFits_7 (b : Int) (w : World) (h0 : 0 ≤ b) (h1 : b < 18446744073709551616) : Calls Tryd.prog 21 #[.int .i64 7, .int .u64 b] w fun e w' => e = .returned (.bool (fitsF 4 0 b)) ∧ w' = w := by
  have e1 := sz_7
  have e2 := rd_7
  have F := fits_iff 4 0 b (by unfold KOk; omega) h0 h1
  simp [pw] at F
  have e3 : bitsF 32 = 4294967295 := rfl
  have G : decide (b ≤ 4294967295) = fitsF 4 0 b := bool_of (F.trans (by omega))
  rw [← G]; clear F G
  go_enter Tryd.func21, Tryd.ntmps21
  go_wp2_with (first | (go_at_call 15; refine (refSize_any _ _).mono ?_; rintro e w' ⟨rfl, rfl⟩) | (go_at_call 17; refine (refSigned_any _ _).mono ?_; rintro e w' ⟨rfl, rfl⟩) | (go_at_call 18; refine (refNull_any _ _).mono ?_; rintro e w' ⟨rfl, rfl⟩) | (go_at_call 37; refine (refBits_any _ _ (by omega)).mono ?_; rintro e w' ⟨rfl, rfl⟩) | (go_at_call 38; refine (refHigh_any _ _).mono ?_; rintro e w' ⟨rfl, rfl⟩))
  go_ret
  exact ⟨rfl, rfl⟩
set_option maxHeartbeats 1000000 in
theorem refFits_8 (b : Int) (w : World) (h0 : 0 ≤ b) (h1 : b < 18446744073709551616) : Calls Tryd.prog 21 #[.int .i64 8, .int .u64 b] w fun e w' => e = .returned (.bool (fitsF 8 0 b)) ∧ w' = w := by
  have e1 := sz_8
  have e2 := rd_8
  have F := fits_iff 8 0 b (by unfold KOk; omega) h0 h1
  simp [pw] at F
  have e3 : bitsF 64 = 18446744073709551615 := rfl
  have G : decide (b ≤ 18446744073709551615) = fitsF 8 0 b := bool_of (F.trans (by omega))
  rw [← G]; clear F G
  go_enter Tryd.func21, Tryd.ntmps21
  go_wp2_with (first | (go_at_call 15; refine (refSize_any _ _).mono ?_; rintro e w' ⟨rfl, rfl⟩) | (go_at_call 17; refine (refSigned_any _ _).mono ?_; rintro e w' ⟨rfl, rfl⟩) | (go_at_call 18; refine (refNull_any _ _).mono ?_; rintro e w' ⟨rfl, rfl⟩) | (go_at_call 37; refine (refBits_any _ _ (by omega)).mono ?_; rintro e w' ⟨rfl, rfl⟩) | (go_at_call 38; refine (refHigh_any _ _).mono ?_; rintro e w' ⟨rfl, rfl⟩))
  go_ret
  exact ⟨rfl, rfl⟩
set_option maxHeartbeats 1000000 in
theorem refFits_9 (b : Int) (w : World) (h0 : 0 ≤ b) (h1 : b < 18446744073709551616) : Calls Tryd.prog 21 #[.int .i64 9, .int .u64 b] w fun e w' => e = .returned (.bool (fitsF 4 2 b)) ∧ w' = w := by
  have e1 := sz_9
  have e2 := rd_9
  have F := fits_iff 4 2 b (by unfold KOk; omega) h0 h1
  simp [pw] at F
  have e3 : bitsF 32 = 4294967295 := rfl
  have G : decide (b ≤ 4294967295) = fitsF 4 2 b := bool_of (F.trans (by omega))
  rw [← G]; clear F G
  go_enter Tryd.func21, Tryd.ntmps21
  go_wp2_with (first | (go_at_call 15; refine (refSize_any _ _).mono ?_; rintro e w' ⟨rfl, rfl⟩) | (go_at_call 17; refine (refSigned_any _ _).mono ?_; rintro e w' ⟨rfl, rfl⟩) | (go_at_call 18; refine (refNull_any _ _).mono ?_; rintro e w' ⟨rfl, rfl⟩) | (go_at_call 37; refine (refBits_any _ _ (by omega)).mono ?_; rintro e w' ⟨rfl, rfl⟩) | (go_at_call 38; refine (refHigh_any _ _).mono ?_; rintro e w' ⟨rfl, rfl⟩))
  go_ret
  exact ⟨rfl, rfl⟩
set_option maxHeartbeats 1000000 in
theorem refFits_10 (b : Int) (w : World) (h0 : 0 ≤ b) (h1 : b < 18446744073709551616) : Calls Tryd.prog 21 #[.int .i64 10, .int .u64 b] w fun e w' => e = .returned (.bool (fitsF 8 2 b)) ∧ w' = w := by
  have e1 := sz_10
  have e2 := rd_10
  have F := fits_iff 8 2 b (by unfold KOk; omega) h0 h1
  simp [pw] at F
  have e3 : bitsF 64 = 18446744073709551615 := rfl
  have G : decide (b ≤ 18446744073709551615) = fitsF 8 2 b := bool_of (F.trans (by omega))
  rw [← G]; clear F G
  go_enter Tryd.func21, Tryd.ntmps21
  go_wp2_with (first | (go_at_call 15; refine (refSize_any _ _).mono ?_; rintro e w' ⟨rfl, rfl⟩) | (go_at_call 17; refine (refSigned_any _ _).mono ?_; rintro e w' ⟨rfl, rfl⟩) | (go_at_call 18; refine (refNull_any _ _).mono ?_; rintro e w' ⟨rfl, rfl⟩) | (go_at_call 37; refine (refBits_any _ _ (by omega)).mono ?_; rintro e w' ⟨rfl, rfl⟩) | (go_at_call 38; refine (refHigh_any _ _).mono ?_; rintro e w' ⟨rfl, rfl⟩))
  go_ret
  exact ⟨rfl, rfl⟩
theorem refFits_any (p b : Int) (w : World) (h0 : 0 ≤ b) (h1 : b < 18446744073709551616) : Calls Tryd.prog 21 #[.int .i64 p, .int .u64 b] w fun e w' => e = .returned (.bool (fitsF (sz p) (rd p) b)) ∧ w' = w := by
  rcases prim_cases p with h | rfl | rfl | rfl | rfl | rfl | rfl | rfl | rfl | rfl | rfl | rfl
  · have e1 : sz p = 0 := by unfold sz; rw [kRow_out p h]
    have e2 : fitsF (sz p) (rd p) b = false := by rw [e1]; rfl
    rw [e2]; clear e2 h
    go_enter Tryd.func21, Tryd.ntmps21
    go_wp2_with (first | (go_at_call 15; refine (refSize_any _ _).mono ?_; rintro e w' ⟨rfl, rfl⟩) | (go_at_call 17; refine (refSigned_any _ _).mono ?_; rintro e w' ⟨rfl, rfl⟩) | (go_at_call 18; refine (refNull_any _ _).mono ?_; rintro e w' ⟨rfl, rfl⟩) | (go_at_call 37; refine (refBits_any _ _ (by omega)).mono ?_; rintro e w' ⟨rfl, rfl⟩) | (go_at_call 38; refine (refHigh_any _ _).mono ?_; rintro e w' ⟨rfl, rfl⟩))
    go_ret
    exact ⟨rfl, rfl⟩
  · exact refFits_0 b w h0 h1
  · exact refFits_1 b w h0 h1
  · exact refFits_2 b w h0 h1
  · exact refFits_3 b w h0 h1
  · exact refFits_4 b w h0 h1
  · exact refFits_5 b w h0 h1
  · exact refFits_6 b w h0 h1
  · exact refFits_7 b w h0 h1
  · exact refFits_8 b w h0 h1
  · exact refFits_9 b w h0 h1
  · exact refFits_10 b w h0 h1
set_option maxHeartbeats 1000000 in
theorem refBelow_0 (a b : Int) (w : World) (_ha : 0 ≤ a) (_ha' : a < 18446744073709551616) (_hb : 0 ≤ b) (_hb' : b < 18446744073709551616) : Calls Tryd.prog 39 #[.int .i64 0, .int .u64 a, .int .u64 b] w fun e w' => e = .returned (.bool (decide (rankF 1 0 a < rankF 1 0 b))) ∧ w' = w := by
  have e1 := sz_0
  have e2 := rd_0
  have e3 : highF 1 = 128 := rfl
  have G : decide (rankF 1 0 a < rankF 1 0 b) = decide (a < b) := rfl
  rw [G]; clear G
  go_enter Tryd.func39, Tryd.ntmps39
  go_wp2_with (first | (go_at_call 17; refine (refSigned_any _ _).mono ?_; rintro e w' ⟨rfl, rfl⟩) | (go_at_call 38; refine (refHigh_any _ _).mono ?_; rintro e w' ⟨rfl, rfl⟩))
  go_ret
  exact ⟨rfl, rfl⟩
set_option maxHeartbeats 1000000 in
theorem refBelow_1 (a b : Int) (w : World) (_ha : 0 ≤ a) (_ha' : a < 18446744073709551616) (_hb : 0 ≤ b) (_hb' : b < 18446744073709551616) : Calls Tryd.prog 39 #[.int .i64 1, .int .u64 a, .int .u64 b] w fun e w' => e = .returned (.bool (decide (rankF 1 1 a < rankF 1 1 b))) ∧ w' = w := by
  have e1 := sz_1
  have e2 := rd_1
  have e3 : highF 1 = 128 := rfl
  have G : decide (rankF 1 1 a < rankF 1 1 b) = decide (wrap64 a < wrap64 b) := by
    apply decide_eq_decide.2
    show (a + 9223372036854775808) % 18446744073709551616 < (b + 9223372036854775808) % 18446744073709551616 ↔ _
    unfold wrap64
    omega
  rw [G]; clear G
  go_enter Tryd.func39, Tryd.ntmps39
  go_wp2_with (first | (go_at_call 17; refine (refSigned_any _ _).mono ?_; rintro e w' ⟨rfl, rfl⟩) | (go_at_call 38; refine (refHigh_any _ _).mono ?_; rintro e w' ⟨rfl, rfl⟩))
  go_ret
  exact ⟨rfl, rfl⟩
set_option maxHeartbeats 1000000 in
theorem refBelow_2 (a b : Int) (w : World) (_ha : 0 ≤ a) (_ha' : a < 18446744073709551616) (_hb : 0 ≤ b) (_hb' : b < 18446744073709551616) : Calls Tryd.prog 39 #[.int .i64 2, .int .u64 a, .int .u64 b] w fun e w' => e = .returned (.bool (decide (rankF 2 1 a < rankF 2 1 b))) ∧ w' = w := by
  have e1 := sz_2
  have e2 := rd_2
  have e3 : highF 2 = 32768 := rfl
  have G : decide (rankF 2 1 a < rankF 2 1 b) = decide (wrap64 a < wrap64 b) := by
    apply decide_eq_decide.2
    show (a + 9223372036854775808) % 18446744073709551616 < (b + 9223372036854775808) % 18446744073709551616 ↔ _
    unfold wrap64
    omega
  rw [G]; clear G
  go_enter Tryd.func39, Tryd.ntmps39
  go_wp2_with (first | (go_at_call 17; refine (refSigned_any _ _).mono ?_; rintro e w' ⟨rfl, rfl⟩) | (go_at_call 38; refine (refHigh_any _ _).mono ?_; rintro e w' ⟨rfl, rfl⟩))
  go_ret
  exact ⟨rfl, rfl⟩
set_option maxHeartbeats 1000000 in
theorem refBelow_3 (a b : Int) (w : World) (_ha : 0 ≤ a) (_ha' : a < 18446744073709551616) (_hb : 0 ≤ b) (_hb' : b < 18446744073709551616) : Calls Tryd.prog 39 #[.int .i64 3, .int .u64 a, .int .u64 b] w fun e w' => e = .returned (.bool (decide (rankF 4 1 a < rankF 4 1 b))) ∧ w' = w := by
  have e1 := sz_3
  have e2 := rd_3
  have e3 : highF 4 = 2147483648 := rfl
  have G : decide (rankF 4 1 a < rankF 4 1 b) = decide (wrap64 a < wrap64 b) := by
    apply decide_eq_decide.2
    show (a + 9223372036854775808) % 18446744073709551616 < (b + 9223372036854775808) % 18446744073709551616 ↔ _
    unfold wrap64
    omega
  rw [G]; clear G
  go_enter Tryd.func39, Tryd.ntmps39
  go_wp2_with (first | (go_at_call 17; refine (refSigned_any _ _).mono ?_; rintro e w' ⟨rfl, rfl⟩) | (go_at_call 38; refine (refHigh_any _ _).mono ?_; rintro e w' ⟨rfl, rfl⟩))
  go_ret
  exact ⟨rfl, rfl⟩
set_option maxHeartbeats 1000000 in
theorem refBelow_4 (a b : Int) (w : World) (_ha : 0 ≤ a) (_ha' : a < 18446744073709551616) (_hb : 0 ≤ b) (_hb' : b < 18446744073709551616) : Calls Tryd.prog 39 #[.int .i64 4, .int .u64 a, .int .u64 b] w fun e w' => e = .returned (.bool (decide (rankF 8 1 a < rankF 8 1 b))) ∧ w' = w := by
  have e1 := sz_4
  have e2 := rd_4
  have e3 : highF 8 = 9223372036854775808 := rfl
  have G : decide (rankF 8 1 a < rankF 8 1 b) = decide (wrap64 a < wrap64 b) := by
    apply decide_eq_decide.2
    show (a + 9223372036854775808) % 18446744073709551616 < (b + 9223372036854775808) % 18446744073709551616 ↔ _
    unfold wrap64
    omega
  rw [G]; clear G
  go_enter Tryd.func39, Tryd.ntmps39
  go_wp2_with (first | (go_at_call 17; refine (refSigned_any _ _).mono ?_; rintro e w' ⟨rfl, rfl⟩) | (go_at_call 38; refine (refHigh_any _ _).mono ?_; rintro e w' ⟨rfl, rfl⟩))
  go_ret
  exact ⟨rfl, rfl⟩
set_option maxHeartbeats 1000000 in
theorem refBelow_5 (a b : Int) (w : World) (_ha : 0 ≤ a) (_ha' : a < 18446744073709551616) (_hb : 0 ≤ b) (_hb' : b < 18446744073709551616) : Calls Tryd.prog 39 #[.int .i64 5, .int .u64 a, .int .u64 b] w fun e w' => e = .returned (.bool (decide (rankF 1 0 a < rankF 1 0 b))) ∧ w' = w := by
  have e1 := sz_5
  have e2 := rd_5
  have e3 : highF 1 = 128 := rfl
  have G : decide (rankF 1 0 a < rankF 1 0 b) = decide (a < b) := rfl
  rw [G]; clear G
  go_enter Tryd.func39, Tryd.ntmps39
  go_wp2_with (first | (go_at_call 17; refine (refSigned_any _ _).mono ?_; rintro e w' ⟨rfl, rfl⟩) | (go_at_call 38; refine (refHigh_any _ _).mono ?_; rintro e w' ⟨rfl, rfl⟩))
  go_ret
  exact ⟨rfl, rfl⟩
set_option maxHeartbeats 1000000 in
theorem refBelow_6 (a b : Int) (w : World) (_ha : 0 ≤ a) (_ha' : a < 18446744073709551616) (_hb : 0 ≤ b) (_hb' : b < 18446744073709551616) : Calls Tryd.prog 39 #[.int .i64 6, .int .u64 a, .int .u64 b] w fun e w' => e = .returned (.bool (decide (rankF 2 0 a < rankF 2 0 b))) ∧ w' = w := by
  have e1 := sz_6
  have e2 := rd_6
  have e3 : highF 2 = 32768 := rfl
  have G : decide (rankF 2 0 a < rankF 2 0 b) = decide (a < b) := rfl
  rw [G]; clear G
  go_enter Tryd.func39, Tryd.ntmps39
  go_wp2_with (first | (go_at_call 17; refine (refSigned_any _ _).mono ?_; rintro e w' ⟨rfl, rfl⟩) | (go_at_call 38; refine (refHigh_any _ _).mono ?_; rintro e w' ⟨rfl, rfl⟩))
  go_ret
  exact ⟨rfl, rfl⟩
set_option maxHeartbeats 1000000 in
theorem refBelow_7 (a b : Int) (w : World) (_ha : 0 ≤ a) (_ha' : a < 18446744073709551616) (_hb : 0 ≤ b) (_hb' : b < 18446744073709551616) : Calls Tryd.prog 39 #[.int .i64 7, .int .u64 a, .int .u64 b] w fun e w' => e = .returned (.bool (decide (rankF 4 0 a < rankF 4 0 b))) ∧ w' = w := by
  have e1 := sz_7
  have e2 := rd_7
  have e3 : highF 4 = 2147483648 := rfl
  have G : decide (rankF 4 0 a < rankF 4 0 b) = decide (a < b) := rfl
  rw [G]; clear G
  go_enter Tryd.func39, Tryd.ntmps39
  go_wp2_with (first | (go_at_call 17; refine (refSigned_any _ _).mono ?_; rintro e w' ⟨rfl, rfl⟩) | (go_at_call 38; refine (refHigh_any _ _).mono ?_; rintro e w' ⟨rfl, rfl⟩))
  go_ret
  exact ⟨rfl, rfl⟩
set_option maxHeartbeats 1000000 in
theorem refBelow_8 (a b : Int) (w : World) (_ha : 0 ≤ a) (_ha' : a < 18446744073709551616) (_hb : 0 ≤ b) (_hb' : b < 18446744073709551616) : Calls Tryd.prog 39 #[.int .i64 8, .int .u64 a, .int .u64 b] w fun e w' => e = .returned (.bool (decide (rankF 8 0 a < rankF 8 0 b))) ∧ w' = w := by
  have e1 := sz_8
  have e2 := rd_8
  have e3 : highF 8 = 9223372036854775808 := rfl
  have G : decide (rankF 8 0 a < rankF 8 0 b) = decide (a < b) := rfl
  rw [G]; clear G
  go_enter Tryd.func39, Tryd.ntmps39
  go_wp2_with (first | (go_at_call 17; refine (refSigned_any _ _).mono ?_; rintro e w' ⟨rfl, rfl⟩) | (go_at_call 38; refine (refHigh_any _ _).mono ?_; rintro e w' ⟨rfl, rfl⟩))
  go_ret
  exact ⟨rfl, rfl⟩
set_option maxHeartbeats 1000000 in
theorem refBelow_9 (a b : Int) (w : World) (_ha : 0 ≤ a) (_ha' : a < 18446744073709551616) (_hb : 0 ≤ b) (_hb' : b < 18446744073709551616) (_fa : a < 4294967296) (_fb : b < 4294967296) : Calls Tryd.prog 39 #[.int .i64 9, .int .u64 a, .int .u64 b] w fun e w' => e = .returned (.bool (decide (rankF 4 2 a < rankF 4 2 b))) ∧ w' = w := by
  have e1 := sz_9
  have e2 := rd_9
  have e3 : highF 4 = 2147483648 := rfl
  by_cases ga : 2147483648 ≤ a
  · have Ra : rankF 4 2 a = 4294967295 - a := by have : rankF 4 2 a = if 4294967296 ≤ 2 * a then 4294967296 - 1 - a else a + 4294967296 / 2 := rfl; rw [this, if_pos (by omega)]; omega
    have ga' : decide (2147483648 ≤ a) = true := decide_eq_true ga
    by_cases gb : 2147483648 ≤ b
    · have Rb : rankF 4 2 b = 4294967295 - b := by have : rankF 4 2 b = if 4294967296 ≤ 2 * b then 4294967296 - 1 - b else b + 4294967296 / 2 := rfl; rw [this, if_pos (by omega)]; omega
      have gb' : decide (2147483648 ≤ b) = true := decide_eq_true gb
      have G : decide (rankF 4 2 a < rankF 4 2 b) = decide (b < a) := decide_eq_decide.2 (by rw [Ra, Rb]; omega)
      rw [G]; clear G Ra Rb
      go_enter Tryd.func39, Tryd.ntmps39
      go_wp2_with (first | (go_at_call 17; refine (refSigned_any _ _).mono ?_; rintro e w' ⟨rfl, rfl⟩) | (go_at_call 38; refine (refHigh_any _ _).mono ?_; rintro e w' ⟨rfl, rfl⟩))
      go_ret
      exact ⟨rfl, rfl⟩
    · have Rb : rankF 4 2 b = b + 2147483648 := by have : rankF 4 2 b = if 4294967296 ≤ 2 * b then 4294967296 - 1 - b else b + 4294967296 / 2 := rfl; rw [this, if_neg (by omega)]; omega
      have gb' : decide (2147483648 ≤ b) = false := decide_eq_false gb
      have G : decide (rankF 4 2 a < rankF 4 2 b) = true := decide_eq_true (by rw [Ra, Rb]; omega)
      rw [G]; clear G Ra Rb
      go_enter Tryd.func39, Tryd.ntmps39
      go_wp2_with (first | (go_at_call 17; refine (refSigned_any _ _).mono ?_; rintro e w' ⟨rfl, rfl⟩) | (go_at_call 38; refine (refHigh_any _ _).mono ?_; rintro e w' ⟨rfl, rfl⟩))
      go_ret
      exact ⟨rfl, rfl⟩
  · have Ra : rankF 4 2 a = a + 2147483648 := by have : rankF 4 2 a = if 4294967296 ≤ 2 * a then 4294967296 - 1 - a else a + 4294967296 / 2 := rfl; rw [this, if_neg (by omega)]; omega
    have ga' : decide (2147483648 ≤ a) = false := decide_eq_false ga
    by_cases gb : 2147483648 ≤ b
    · have Rb : rankF 4 2 b = 4294967295 - b := by have : rankF 4 2 b = if 4294967296 ≤ 2 * b then 4294967296 - 1 - b else b + 4294967296 / 2 := rfl; rw [this, if_pos (by omega)]; omega
      have gb' : decide (2147483648 ≤ b) = true := decide_eq_true gb
      have G : decide (rankF 4 2 a < rankF 4 2 b) = false := decide_eq_false (by rw [Ra, Rb]; omega)
      rw [G]; clear G Ra Rb
      go_enter Tryd.func39, Tryd.ntmps39
      go_wp2_with (first | (go_at_call 17; refine (refSigned_any _ _).mono ?_; rintro e w' ⟨rfl, rfl⟩) | (go_at_call 38; refine (refHigh_any _ _).mono ?_; rintro e w' ⟨rfl, rfl⟩))
      go_ret
      exact ⟨rfl, rfl⟩
    · have Rb : rankF 4 2 b = b + 2147483648 := by have : rankF 4 2 b = if 4294967296 ≤ 2 * b then 4294967296 - 1 - b else b + 4294967296 / 2 := rfl; rw [this, if_neg (by omega)]; omega
      have gb' : decide (2147483648 ≤ b) = false := decide_eq_false gb
      have G : decide (rankF 4 2 a < rankF 4 2 b) = decide (a < b) := decide_eq_decide.2 (by rw [Ra, Rb]; omega)
      rw [G]; clear G Ra Rb
      go_enter Tryd.func39, Tryd.ntmps39
      go_wp2_with (first | (go_at_call 17; refine (refSigned_any _ _).mono ?_; rintro e w' ⟨rfl, rfl⟩) | (go_at_call 38; refine (refHigh_any _ _).mono ?_; rintro e w' ⟨rfl, rfl⟩))
      go_ret
      exact ⟨rfl, rfl⟩
set_option maxHeartbeats 1000000 in
theorem refBelow_10 (a b : Int) (w : World) (_ha : 0 ≤ a) (_ha' : a < 18446744073709551616) (_hb : 0 ≤ b) (_hb' : b < 18446744073709551616) (_fa : a < 18446744073709551616) (_fb : b < 18446744073709551616) : Calls Tryd.prog 39 #[.int .i64 10, .int .u64 a, .int .u64 b] w fun e w' => e = .returned (.bool (decide (rankF 8 2 a < rankF 8 2 b))) ∧ w' = w := by
  have e1 := sz_10
  have e2 := rd_10
  have e3 : highF 8 = 9223372036854775808 := rfl
  by_cases ga : 9223372036854775808 ≤ a
  · have Ra : rankF 8 2 a = 18446744073709551615 - a := by have : rankF 8 2 a = if 18446744073709551616 ≤ 2 * a then 18446744073709551616 - 1 - a else a + 18446744073709551616 / 2 := rfl; rw [this, if_pos (by omega)]; omega
    have ga' : decide (9223372036854775808 ≤ a) = true := decide_eq_true ga
    by_cases gb : 9223372036854775808 ≤ b
    · have Rb : rankF 8 2 b = 18446744073709551615 - b := by have : rankF 8 2 b = if 18446744073709551616 ≤ 2 * b then 18446744073709551616 - 1 - b else b + 18446744073709551616 / 2 := rfl; rw [this, if_pos (by omega)]; omega
      have gb' : decide (9223372036854775808 ≤ b) = true := decide_eq_true gb
      have G : decide (rankF 8 2 a < rankF 8 2 b) = decide (b < a) := decide_eq_decide.2 (by rw [Ra, Rb]; omega)
      rw [G]; clear G Ra Rb
      go_enter Tryd.func39, Tryd.ntmps39
      go_wp2_with (first | (go_at_call 17; refine (refSigned_any _ _).mono ?_; rintro e w' ⟨rfl, rfl⟩) | (go_at_call 38; refine (refHigh_any _ _).mono ?_; rintro e w' ⟨rfl, rfl⟩))
      go_ret
      exact ⟨rfl, rfl⟩
    · have Rb : rankF 8 2 b = b + 9223372036854775808 := by have : rankF 8 2 b = if 18446744073709551616 ≤ 2 * b then 18446744073709551616 - 1 - b else b + 18446744073709551616 / 2 := rfl; rw [this, if_neg (by omega)]; omega
      have gb' : decide (9223372036854775808 ≤ b) = false := decide_eq_false gb
      have G : decide (rankF 8 2 a < rankF 8 2 b) = true := decide_eq_true (by rw [Ra, Rb]; omega)
      rw [G]; clear G Ra Rb
      go_enter Tryd.func39, Tryd.ntmps39
      go_wp2_with (first | (go_at_call 17; refine (refSigned_any _ _).mono ?_; rintro e w' ⟨rfl, rfl⟩) | (go_at_call 38; refine (refHigh_any _ _).mono ?_; rintro e w' ⟨rfl, rfl⟩))
      go_ret
      exact ⟨rfl, rfl⟩
  · have Ra : rankF 8 2 a = a + 9223372036854775808 := by have : rankF 8 2 a = if 18446744073709551616 ≤ 2 * a then 18446744073709551616 - 1 - a else a + 18446744073709551616 / 2 := rfl; rw [this, if_neg (by omega)]; omega
    have ga' : decide (9223372036854775808 ≤ a) = false := decide_eq_false ga
    by_cases gb : 9223372036854775808 ≤ b
    · have Rb : rankF 8 2 b = 18446744073709551615 - b := by have : rankF 8 2 b = if 18446744073709551616 ≤ 2 * b then 18446744073709551616 - 1 - b else b + 18446744073709551616 / 2 := rfl; rw [this, if_pos (by omega)]; omega
      have gb' : decide (9223372036854775808 ≤ b) = true := decide_eq_true gb
      have G : decide (rankF 8 2 a < rankF 8 2 b) = false := decide_eq_false (by rw [Ra, Rb]; omega)
      rw [G]; clear G Ra Rb
      go_enter Tryd.func39, Tryd.ntmps39
      go_wp2_with (first | (go_at_call 17; refine (refSigned_any _ _).mono ?_; rintro e w' ⟨rfl, rfl⟩) | (go_at_call 38; refine (refHigh_any _ _).mono ?_; rintro e w' ⟨rfl, rfl⟩))
      go_ret
      exact ⟨rfl, rfl⟩
    · have Rb : rankF 8 2 b = b + 9223372036854775808 := by have : rankF 8 2 b = if 18446744073709551616 ≤ 2 * b then 18446744073709551616 - 1 - b else b + 18446744073709551616 / 2 := rfl; rw [this, if_neg (by omega)]; omega
      have gb' : decide (9223372036854775808 ≤ b) = false := decide_eq_false gb
      have G : decide (rankF 8 2 a < rankF 8 2 b) = decide (a < b) := decide_eq_decide.2 (by rw [Ra, Rb]; omega)
      rw [G]; clear G Ra Rb
      go_enter Tryd.func39, Tryd.ntmps39
      go_wp2_with (first | (go_at_call 17; refine (refSigned_any _ _).mono ?_; rintro e w' ⟨rfl, rfl⟩) | (go_at_call 38; refine (refHigh_any _ _).mono ?_; rintro e w' ⟨rfl, rfl⟩))
      go_ret
      exact ⟨rfl, rfl⟩
theorem refBelow_any (p a b : Int) (w : World) (ha : 0 ≤ a) (ha' : a < 18446744073709551616) (hb : 0 ≤ b) (hb' : b < 18446744073709551616) (fa : fitsF (sz p) (rd p) a = true) (fb : fitsF (sz p) (rd p) b = true) :
    Calls Tryd.prog 39 #[.int .i64 p, .int .u64 a, .int .u64 b] w fun e w' => e = .returned (.bool (decide (rankF (sz p) (rd p) a < rankF (sz p) (rd p) b))) ∧ w' = w := by
  have Fa := (fits_iff _ _ a (kok p) ha ha').1 fa
  have Fb := (fits_iff _ _ b (kok p) hb hb').1 fb
  rcases prim_cases p with h | rfl | rfl | rfl | rfl | rfl | rfl | rfl | rfl | rfl | rfl | rfl
  · exact absurd (show sz p = 0 by unfold sz; rw [kRow_out p h]) Fa.1
  · exact refBelow_0 a b w ha ha' hb hb'
  · exact refBelow_1 a b w ha ha' hb hb'
  · exact refBelow_2 a b w ha ha' hb hb'
  · exact refBelow_3 a b w ha ha' hb hb'
  · exact refBelow_4 a b w ha ha' hb hb'
  · exact refBelow_5 a b w ha ha' hb hb'
  · exact refBelow_6 a b w ha ha' hb hb'
  · exact refBelow_7 a b w ha ha' hb hb'
  · exact refBelow_8 a b w ha ha' hb hb'
  · have k : rd 9 ≠ 1 := by decide
    have ka : a < pw (sz 9) := by omega
    have kb : b < pw (sz 9) := by omega
    exact refBelow_9 a b w ha ha' hb hb' ka kb
  · have k : rd 10 ≠ 1 := by decide
    have ka : a < pw (sz 10) := by omega
    have kb : b < pw (sz 10) := by omega
    exact refBelow_10 a b w ha ha' hb hb' ka kb
set_option maxHeartbeats 1000000 in
theorem refCompare_any (p a b : Int) (w : World) (ha : 0 ≤ a) (ha' : a < 18446744073709551616) (hb : 0 ≤ b) (hb' : b < 18446744073709551616) :
    Calls Tryd.prog 22 #[.int .i64 p, .int .u64 a, .int .u64 b] w fun e w' => e = .returned (.int .i64 (cmpF (sz p) (rd p) a b)) ∧ w' = w := by
  cases fa : fitsF (sz p) (rd p) a
  · rw [cmpF_no _ _ _ _ (by rw [fa]; rfl)]
    go_enter Tryd.func22, Tryd.ntmps22
    go_wp2_with (first | (go_at_call 21; refine (refFits_any _ _ _ (by assumption) (by assumption)).mono ?_; rintro e w' ⟨rfl, rfl⟩) | (go_at_call 39; refine (refBelow_any _ _ _ _ (by assumption) (by assumption) (by assumption) (by assumption) (by assumption) (by assumption)).mono ?_; rintro e w' ⟨rfl, rfl⟩))
    go_ret
    exact ⟨rfl, rfl⟩
  · cases fb : fitsF (sz p) (rd p) b
    · rw [cmpF_no _ _ _ _ (by rw [fa, fb]; rfl)]
      go_enter Tryd.func22, Tryd.ntmps22
      go_wp2_with (first | (go_at_call 21; refine (refFits_any _ _ _ (by assumption) (by assumption)).mono ?_; rintro e w' ⟨rfl, rfl⟩) | (go_at_call 39; refine (refBelow_any _ _ _ _ (by assumption) (by assumption) (by assumption) (by assumption) (by assumption) (by assumption)).mono ?_; rintro e w' ⟨rfl, rfl⟩))
      go_ret
      exact ⟨rfl, rfl⟩
    · by_cases e : a = b
      · subst e
        rw [cmpF_self]
        go_enter Tryd.func22, Tryd.ntmps22
        go_wp2_with (first | (go_at_call 21; refine (refFits_any _ _ _ (by assumption) (by assumption)).mono ?_; rintro e w' ⟨rfl, rfl⟩) | (go_at_call 39; refine (refBelow_any _ _ _ _ (by assumption) (by assumption) (by assumption) (by assumption) (by assumption) (by assumption)).mono ?_; rintro e w' ⟨rfl, rfl⟩))
        go_ret
        exact ⟨rfl, rfl⟩
      · have ne : (a == b) = false := by simpa using e
        have z := cmpF_zero (sz p) (rd p) a b (kok p) ha ha' hb hb' fa fb
        have nz : ¬ cmpF (sz p) (rd p) a b = 0 := fun k => e (z.1 k)
        rw [cmpF_yes _ _ _ _ fa fb] at nz ⊢
        clear z e
        by_cases g : rankF (sz p) (rd p) a < rankF (sz p) (rd p) b
        · have g' : decide (rankF (sz p) (rd p) a < rankF (sz p) (rd p) b) = true := decide_eq_true g
          have c : cmp3 (rankF (sz p) (rd p) a) (rankF (sz p) (rd p) b) = -1 := by unfold cmp3; rw [if_pos g]
          rw [c]; clear nz c
          go_enter Tryd.func22, Tryd.ntmps22
          go_wp2_with (first | (go_at_call 21; refine (refFits_any _ _ _ (by assumption) (by assumption)).mono ?_; rintro e w' ⟨rfl, rfl⟩) | (go_at_call 39; refine (refBelow_any _ _ _ _ (by assumption) (by assumption) (by assumption) (by assumption) (by assumption) (by assumption)).mono ?_; rintro e w' ⟨rfl, rfl⟩))
          go_ret
          exact ⟨rfl, rfl⟩
        · have g' : decide (rankF (sz p) (rd p) a < rankF (sz p) (rd p) b) = false := decide_eq_false g
          have c : cmp3 (rankF (sz p) (rd p) a) (rankF (sz p) (rd p) b) = 1 := by
            have n2 := nz
            unfold cmp3 at n2 ⊢
            rw [if_neg g] at n2 ⊢
            by_cases k : rankF (sz p) (rd p) b < rankF (sz p) (rd p) a
            · rw [if_pos k]
            · rw [if_neg k] at n2; exact absurd rfl n2
          rw [c]; clear nz c
          go_enter Tryd.func22, Tryd.ntmps22
          go_wp2_with (first | (go_at_call 21; refine (refFits_any _ _ _ (by assumption) (by assumption)).mono ?_; rintro e w' ⟨rfl, rfl⟩) | (go_at_call 39; refine (refBelow_any _ _ _ _ (by assumption) (by assumption) (by assumption) (by assumption) (by assumption) (by assumption)).mono ?_; rintro e w' ⟨rfl, rfl⟩))
          go_ret
          exact ⟨rfl, rfl⟩
end Go.Proofs.YthelmmdbgmdgeaaDoor
