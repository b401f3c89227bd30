/- PRef. -/
import Derived.Test.YtgklippjoikadaaDoorK01
namespace Go.Proofs.YtgklippjoikadaaDoor
open Go.ChangeShapes Go.WideShapes Go.ChangeAt Go.RowKit

def bitsF (n : Int) : Int := 2 ^ n.toNat - 1
theorem bitsF_succ (k : Nat) : bitsF ((k : Int) + 1) = 2 * bitsF k + 1 := by
  unfold bitsF
  rw [show ((k : Int) + 1).toNat = k + 1 by omega, show (k : Int).toNat = k by omega, Int.pow_succ]
  omega
theorem bitsF_bd (n : Nat) (h : n ≤ 64) : 0 ≤ bitsF n ∧ bitsF n ≤ 18446744073709551615 := by
  unfold bitsF
  rw [show (n : Int).toNat = n by omega]
  have h1 : (2 : Nat) ^ n ≤ 2 ^ 64 := Nat.pow_le_pow_right (by decide) h
  have h2 : 0 < (2 : Nat) ^ n := Nat.pow_pos (by decide)
  have h3 : ((2 : Int) ^ n) = ((2 ^ n : Nat) : Int) := by norm_cast
  rw [h3]
  have h4 : (2 : Nat) ^ 64 = 18446744073709551616 := by decide
  omega
theorem bitsF_nat (n : Int) : bitsF n.toNat = bitsF n := by unfold bitsF; rw [show ((n.toNat : Nat) : Int).toNat = n.toNat by omega]
theorem refBits_any (n : Int) (w : World) (h : n ≤ 64) : Calls Tryd.prog 74 #[.int .i64 n] w fun e w' => e = .returned (.int .u64 (bitsF n)) ∧ w' = w := by
  go_enter Tryd.func74, Tryd.ntmps74
  go_wp2
  go_loop [3, 4] (fun b i => ∃ k : Nat, k ≤ n.toNat ∧ i = .int .i64 k ∧ b = .int .u64 (bitsF k)) (fun _ i => n.toNat - (intOf i).toNat)
  case atStart => exact ⟨0, Nat.zero_le _, rfl, rfl⟩
  case round =>
    obtain ⟨k, hk, rfl, rfl⟩ := hrel
    have hb := bitsF_bd k (by omega)
    have hb' := bitsF_bd (k + 1)
    have HS : Hid (bitsF ((k + 1 : Nat) : Int) = 2 * bitsF k + 1) := bitsF_succ k
    by_cases hlt : (k : Int) < n
    · have hm : 2 * bitsF k + 1 ≤ 18446744073709551615 := by have := hb' (by omega); rw [HS.out] at this; exact this.2
      clear hb'
      go_wp2
      go_round
      case rel => exact ⟨k + 1, by omega, by go_num, by rw [HS.out]⟩
      case measure => simp [intOf]; omega
    · clear hb'
      go_wp2
      go_ret
      exact ⟨ret_int (by rw [← bitsF_nat n]; congr 1; omega), rfl⟩

/-- The document's answers hang on numbers alone: the world stands. -/
theorem refSize_any (p : Int) (w : World) : Calls Tryd.prog 49 #[.int .i64 p] w fun e w' => e = .returned (.int .i64 (sz p)) ∧ w' = w := by
  rcases prim_cases p with h | rfl | rfl | rfl | rfl | rfl | rfl | rfl | rfl | rfl | rfl | rfl
  · have e : sz p = 0 := by unfold sz; rw [kRow_out p h]
    rw [e]; clear e
    rcases h with h | h
    all_goals
      go_enter Tryd.func49, Tryd.ntmps49
      go_wp2
      go_ret
      exact ⟨rfl, rfl⟩
  all_goals
    go_enter Tryd.func49, Tryd.ntmps49
    go_wp2
    go_ret
    exact ⟨rfl, rfl⟩
theorem refSigned_any (p : Int) (w : World) : Calls Tryd.prog 72 #[.int .i64 p] w fun e w' => e = .returned (.bool (rd p == 1)) ∧ w' = w := by
  rcases prim_cases p with h | rfl | rfl | rfl | rfl | rfl | rfl | rfl | rfl | rfl | rfl | rfl
  · have e : (rd p == 1) = false := by unfold rd; rw [kRow_out p h]; rfl
    rw [e]; clear e
    rcases h with h | h
    all_goals
      go_enter Tryd.func72, Tryd.ntmps72
      go_wp2
      go_ret
      first | exact ⟨rfl, rfl⟩ | exact ⟨ret_bool (decide_eq_false (by omega)), rfl⟩
  all_goals
    go_enter Tryd.func72, Tryd.ntmps72
    go_wp2
    go_ret
    exact ⟨rfl, rfl⟩
def highF (s : Int) : Int := if s = 0 then 0 else pw s / 2
theorem refHigh_any (p : Int) (w : World) : Calls Tryd.prog 73 #[.int .i64 p] w fun e w' => e = .returned (.int .u64 (highF (sz p))) ∧ w' = w := by
  have hc : sz p = 0 ∨ sz p = 1 ∨ sz p = 2 ∨ sz p = 4 ∨ sz p = 8 := by have := kok p; unfold KOk at this; omega
  rcases hc with hs | hs | hs | hs | hs
  all_goals
    rw [hs]
    go_enter Tryd.func73, Tryd.ntmps73
    go_wp2_with (first | (go_at_call 49; refine (refSize_any _ _).mono ?_; rintro e w' ⟨rfl, rfl⟩) | (go_at_call 74; refine (refBits_any _ _ (by omega)).mono ?_; rintro e w' ⟨rfl, rfl⟩))
    go_ret
    exact ⟨ret_int (by simp only [IntKind.wrap_u64]; decide), rfl⟩
theorem sz_0 : sz 0 = 1 := rfl
theorem rd_0 : (rd 0 == 1) = false := rfl
theorem sz_1 : sz 1 = 1 := rfl
theorem rd_1 : (rd 1 == 1) = true := rfl
theorem sz_2 : sz 2 = 2 := rfl
theorem rd_2 : (rd 2 == 1) = true := rfl
theorem sz_3 : sz 3 = 4 := rfl
theorem rd_3 : (rd 3 == 1) = true := rfl
theorem sz_4 : sz 4 = 8 := rfl
theorem rd_4 : (rd 4 == 1) = true := rfl
theorem sz_5 : sz 5 = 1 := rfl
theorem rd_5 : (rd 5 == 1) = false := rfl
theorem sz_6 : sz 6 = 2 := rfl
theorem rd_6 : (rd 6 == 1) = false := rfl
theorem sz_7 : sz 7 = 4 := rfl
theorem rd_7 : (rd 7 == 1) = false := rfl
theorem sz_8 : sz 8 = 8 := rfl
theorem rd_8 : (rd 8 == 1) = false := rfl
theorem sz_9 : sz 9 = 4 := rfl
theorem rd_9 : (rd 9 == 1) = false := rfl
theorem sz_10 : sz 10 = 8 := rfl
theorem rd_10 : (rd 10 == 1) = false := rfl
set_option maxHeartbeats 1000000 in
theorem refNull_any (p : Int) (w : World) : Calls Tryd.prog 75 #[.int .i64 p] w fun e w' => e = .returned (.int .u64 (nl p)) ∧ w' = w := by
  rcases prim_cases p with h | rfl | rfl | rfl | rfl | rfl | rfl | rfl | rfl | rfl | rfl | rfl
  · have e : nl p = 0 := by unfold nl; rw [kRow_out p h]
    have e1 : sz p = 0 := by unfold sz; rw [kRow_out p h]
    have e2 : (rd p == 1) = false := by unfold rd; rw [kRow_out p h]; rfl
    rw [e]; clear e
    rcases h with h | h
    all_goals
      go_enter Tryd.func75, Tryd.ntmps75
      go_wp2_with (first | (go_at_call 49; refine (refSize_any _ _).mono ?_; rintro e w' ⟨rfl, rfl⟩) | (go_at_call 72; refine (refSigned_any _ _).mono ?_; rintro e w' ⟨rfl, rfl⟩) | (go_at_call 74; refine (refBits_any _ _ (by omega)).mono ?_; rintro e w' ⟨rfl, rfl⟩) | (go_at_call 73; refine (refHigh_any _ _).mono ?_; rintro e w' ⟨rfl, rfl⟩))
      go_ret
      exact ⟨rfl, rfl⟩
  · have e1 := sz_0
    have e2 := rd_0
    go_enter Tryd.func75, Tryd.ntmps75
    go_wp2_with (first | (go_at_call 49; refine (refSize_any _ _).mono ?_; rintro e w' ⟨rfl, rfl⟩) | (go_at_call 72; refine (refSigned_any _ _).mono ?_; rintro e w' ⟨rfl, rfl⟩) | (go_at_call 74; refine (refBits_any _ _ (by omega)).mono ?_; rintro e w' ⟨rfl, rfl⟩) | (go_at_call 73; refine (refHigh_any _ _).mono ?_; rintro e w' ⟨rfl, rfl⟩))
    go_ret
    first | exact ⟨rfl, rfl⟩ | exact ⟨ret_int (by simp only [IntKind.wrap_u64]; decide), rfl⟩
  · have e1 := sz_1
    have e2 := rd_1
    go_enter Tryd.func75, Tryd.ntmps75
    go_wp2_with (first | (go_at_call 49; refine (refSize_any _ _).mono ?_; rintro e w' ⟨rfl, rfl⟩) | (go_at_call 72; refine (refSigned_any _ _).mono ?_; rintro e w' ⟨rfl, rfl⟩) | (go_at_call 74; refine (refBits_any _ _ (by omega)).mono ?_; rintro e w' ⟨rfl, rfl⟩) | (go_at_call 73; refine (refHigh_any _ _).mono ?_; rintro e w' ⟨rfl, rfl⟩))
    go_ret
    first | exact ⟨rfl, rfl⟩ | exact ⟨ret_int (by simp only [IntKind.wrap_u64]; decide), rfl⟩
  · have e1 := sz_2
    have e2 := rd_2
    go_enter Tryd.func75, Tryd.ntmps75
    go_wp2_with (first | (go_at_call 49; refine (refSize_any _ _).mono ?_; rintro e w' ⟨rfl, rfl⟩) | (go_at_call 72; refine (refSigned_any _ _).mono ?_; rintro e w' ⟨rfl, rfl⟩) | (go_at_call 74; refine (refBits_any _ _ (by omega)).mono ?_; rintro e w' ⟨rfl, rfl⟩) | (go_at_call 73; refine (refHigh_any _ _).mono ?_; rintro e w' ⟨rfl, rfl⟩))
    go_ret
    first | exact ⟨rfl, rfl⟩ | exact ⟨ret_int (by simp only [IntKind.wrap_u64]; decide), rfl⟩
  · have e1 := sz_3
    have e2 := rd_3
    go_enter Tryd.func75, Tryd.ntmps75
    go_wp2_with (first | (go_at_call 49; refine (refSize_any _ _).mono ?_; rintro e w' ⟨rfl, rfl⟩) | (go_at_call 72; refine (refSigned_any _ _).mono ?_; rintro e w' ⟨rfl, rfl⟩) | (go_at_call 74; refine (refBits_any _ _ (by omega)).mono ?_; rintro e w' ⟨rfl, rfl⟩) | (go_at_call 73; refine (refHigh_any _ _).mono ?_; rintro e w' ⟨rfl, rfl⟩))
    go_ret
    first | exact ⟨rfl, rfl⟩ | exact ⟨ret_int (by simp only [IntKind.wrap_u64]; decide), rfl⟩
  · have e1 := sz_4
    have e2 := rd_4
    go_enter Tryd.func75, Tryd.ntmps75
    go_wp2_with (first | (go_at_call 49; refine (refSize_any _ _).mono ?_; rintro e w' ⟨rfl, rfl⟩) | (go_at_call 72; refine (refSigned_any _ _).mono ?_; rintro e w' ⟨rfl, rfl⟩) | (go_at_call 74; refine (refBits_any _ _ (by omega)).mono ?_; rintro e w' ⟨rfl, rfl⟩) | (go_at_call 73; refine (refHigh_any _ _).mono ?_; rintro e w' ⟨rfl, rfl⟩))
    go_ret
    first | exact ⟨rfl, rfl⟩ | exact ⟨ret_int (by simp only [IntKind.wrap_u64]; decide), rfl⟩
  · have e1 := sz_5
    have e2 := rd_5
    go_enter Tryd.func75, Tryd.ntmps75
    go_wp2_with (first | (go_at_call 49; refine (refSize_any _ _).mono ?_; rintro e w' ⟨rfl, rfl⟩) | (go_at_call 72; refine (refSigned_any _ _).mono ?_; rintro e w' ⟨rfl, rfl⟩) | (go_at_call 74; refine (refBits_any _ _ (by omega)).mono ?_; rintro e w' ⟨rfl, rfl⟩) | (go_at_call 73; refine (refHigh_any _ _).mono ?_; rintro e w' ⟨rfl, rfl⟩))
    go_ret
    first | exact ⟨rfl, rfl⟩ | exact ⟨ret_int (by simp only [IntKind.wrap_u64]; decide), rfl⟩
  · have e1 := sz_6
    have e2 := rd_6
    go_enter Tryd.func75, Tryd.ntmps75
    go_wp2_with (first | (go_at_call 49; refine (refSize_any _ _).mono ?_; rintro e w' ⟨rfl, rfl⟩) | (go_at_call 72; refine (refSigned_any _ _).mono ?_; rintro e w' ⟨rfl, rfl⟩) | (go_at_call 74; refine (refBits_any _ _ (by omega)).mono ?_; rintro e w' ⟨rfl, rfl⟩) | (go_at_call 73; refine (refHigh_any _ _).mono ?_; rintro e w' ⟨rfl, rfl⟩))
    go_ret
    first | exact ⟨rfl, rfl⟩ | exact ⟨ret_int (by simp only [IntKind.wrap_u64]; decide), rfl⟩
  · have e1 := sz_7
    have e2 := rd_7
    go_enter Tryd.func75, Tryd.ntmps75
    go_wp2_with (first | (go_at_call 49; refine (refSize_any _ _).mono ?_; rintro e w' ⟨rfl, rfl⟩) | (go_at_call 72; refine (refSigned_any _ _).mono ?_; rintro e w' ⟨rfl, rfl⟩) | (go_at_call 74; refine (refBits_any _ _ (by omega)).mono ?_; rintro e w' ⟨rfl, rfl⟩) | (go_at_call 73; refine (refHigh_any _ _).mono ?_; rintro e w' ⟨rfl, rfl⟩))
    go_ret
    first | exact ⟨rfl, rfl⟩ | exact ⟨ret_int (by simp only [IntKind.wrap_u64]; decide), rfl⟩
  · have e1 := sz_8
    have e2 := rd_8
    go_enter Tryd.func75, Tryd.ntmps75
    go_wp2_with (first | (go_at_call 49; refine (refSize_any _ _).mono ?_; rintro e w' ⟨rfl, rfl⟩) | (go_at_call 72; refine (refSigned_any _ _).mono ?_; rintro e w' ⟨rfl, rfl⟩) | (go_at_call 74; refine (refBits_any _ _ (by omega)).mono ?_; rintro e w' ⟨rfl, rfl⟩) | (go_at_call 73; refine (refHigh_any _ _).mono ?_; rintro e w' ⟨rfl, rfl⟩))
    go_ret
    first | exact ⟨rfl, rfl⟩ | exact ⟨ret_int (by simp only [IntKind.wrap_u64]; decide), rfl⟩
  · have e1 := sz_9
    have e2 := rd_9
    go_enter Tryd.func75, Tryd.ntmps75
    go_wp2_with (first | (go_at_call 49; refine (refSize_any _ _).mono ?_; rintro e w' ⟨rfl, rfl⟩) | (go_at_call 72; refine (refSigned_any _ _).mono ?_; rintro e w' ⟨rfl, rfl⟩) | (go_at_call 74; refine (refBits_any _ _ (by omega)).mono ?_; rintro e w' ⟨rfl, rfl⟩) | (go_at_call 73; refine (refHigh_any _ _).mono ?_; rintro e w' ⟨rfl, rfl⟩))
    go_ret
    first | exact ⟨rfl, rfl⟩ | exact ⟨ret_int (by simp only [IntKind.wrap_u64]; decide), rfl⟩
  · have e1 := sz_10
    have e2 := rd_10
    go_enter Tryd.func75, Tryd.ntmps75
    go_wp2_with (first | (go_at_call 49; refine (refSize_any _ _).mono ?_; rintro e w' ⟨rfl, rfl⟩) | (go_at_call 72; refine (refSigned_any _ _).mono ?_; rintro e w' ⟨rfl, rfl⟩) | (go_at_call 74; refine (refBits_any _ _ (by omega)).mono ?_; rintro e w' ⟨rfl, rfl⟩) | (go_at_call 73; refine (refHigh_any _ _).mono ?_; rintro e w' ⟨rfl, rfl⟩))
    go_ret
    first | exact ⟨rfl, rfl⟩ | exact ⟨ret_int (by simp only [IntKind.wrap_u64]; decide), rfl⟩
set_option maxHeartbeats 1000000 in
theorem refMax_any (p : Int) (w : World) : Calls Tryd.prog 57 #[.int .i64 p] w fun e w' => e = .returned (.int .u64 (mx p)) ∧ w' = w := by
  rcases prim_cases p with h | rfl | rfl | rfl | rfl | rfl | rfl | rfl | rfl | rfl | rfl | rfl
  · have e : mx p = 0 := by unfold mx; rw [kRow_out p h]
    have e1 : sz p = 0 := by unfold sz; rw [kRow_out p h]
    have e2 : (rd p == 1) = false := by unfold rd; rw [kRow_out p h]; rfl
    rw [e]; clear e
    have g0 : (p == 0) = false := by simp; omega
    have g9 : (p == 9) = false := by simp; omega
    have g10 : (p == 10) = false := by simp; omega
    rcases h with h | h
    all_goals
      go_enter Tryd.func57, Tryd.ntmps57
      go_wp2_with (first | (go_at_call 49; refine (refSize_any _ _).mono ?_; rintro e w' ⟨rfl, rfl⟩) | (go_at_call 72; refine (refSigned_any _ _).mono ?_; rintro e w' ⟨rfl, rfl⟩) | (go_at_call 75; refine (refNull_any _ _).mono ?_; rintro e w' ⟨rfl, rfl⟩) | (go_at_call 74; refine (refBits_any _ _ (by omega)).mono ?_; rintro e w' ⟨rfl, rfl⟩) | (go_at_call 73; refine (refHigh_any _ _).mono ?_; rintro e w' ⟨rfl, rfl⟩))
      go_ret
      exact ⟨rfl, rfl⟩
  · have e1 := sz_0
    have e2 := rd_0
    go_enter Tryd.func57, Tryd.ntmps57
    go_wp2_with (first | (go_at_call 49; refine (refSize_any _ _).mono ?_; rintro e w' ⟨rfl, rfl⟩) | (go_at_call 72; refine (refSigned_any _ _).mono ?_; rintro e w' ⟨rfl, rfl⟩) | (go_at_call 75; refine (refNull_any _ _).mono ?_; rintro e w' ⟨rfl, rfl⟩) | (go_at_call 74; refine (refBits_any _ _ (by omega)).mono ?_; rintro e w' ⟨rfl, rfl⟩) | (go_at_call 73; refine (refHigh_any _ _).mono ?_; rintro e w' ⟨rfl, rfl⟩))
    go_ret
    first | exact ⟨rfl, rfl⟩ | exact ⟨ret_int (by simp only [IntKind.wrap_u64]; decide), rfl⟩
  · have e1 := sz_1
    have e2 := rd_1
    go_enter Tryd.func57, Tryd.ntmps57
    go_wp2_with (first | (go_at_call 49; refine (refSize_any _ _).mono ?_; rintro e w' ⟨rfl, rfl⟩) | (go_at_call 72; refine (refSigned_any _ _).mono ?_; rintro e w' ⟨rfl, rfl⟩) | (go_at_call 75; refine (refNull_any _ _).mono ?_; rintro e w' ⟨rfl, rfl⟩) | (go_at_call 74; refine (refBits_any _ _ (by omega)).mono ?_; rintro e w' ⟨rfl, rfl⟩) | (go_at_call 73; refine (refHigh_any _ _).mono ?_; rintro e w' ⟨rfl, rfl⟩))
    go_ret
    first | exact ⟨rfl, rfl⟩ | exact ⟨ret_int (by simp only [IntKind.wrap_u64]; decide), rfl⟩
  · have e1 := sz_2
    have e2 := rd_2
    go_enter Tryd.func57, Tryd.ntmps57
    go_wp2_with (first | (go_at_call 49; refine (refSize_any _ _).mono ?_; rintro e w' ⟨rfl, rfl⟩) | (go_at_call 72; refine (refSigned_any _ _).mono ?_; rintro e w' ⟨rfl, rfl⟩) | (go_at_call 75; refine (refNull_any _ _).mono ?_; rintro e w' ⟨rfl, rfl⟩) | (go_at_call 74; refine (refBits_any _ _ (by omega)).mono ?_; rintro e w' ⟨rfl, rfl⟩) | (go_at_call 73; refine (refHigh_any _ _).mono ?_; rintro e w' ⟨rfl, rfl⟩))
    go_ret
    first | exact ⟨rfl, rfl⟩ | exact ⟨ret_int (by simp only [IntKind.wrap_u64]; decide), rfl⟩
  · have e1 := sz_3
    have e2 := rd_3
    go_enter Tryd.func57, Tryd.ntmps57
    go_wp2_with (first | (go_at_call 49; refine (refSize_any _ _).mono ?_; rintro e w' ⟨rfl, rfl⟩) | (go_at_call 72; refine (refSigned_any _ _).mono ?_; rintro e w' ⟨rfl, rfl⟩) | (go_at_call 75; refine (refNull_any _ _).mono ?_; rintro e w' ⟨rfl, rfl⟩) | (go_at_call 74; refine (refBits_any _ _ (by omega)).mono ?_; rintro e w' ⟨rfl, rfl⟩) | (go_at_call 73; refine (refHigh_any _ _).mono ?_; rintro e w' ⟨rfl, rfl⟩))
    go_ret
    first | exact ⟨rfl, rfl⟩ | exact ⟨ret_int (by simp only [IntKind.wrap_u64]; decide), rfl⟩
  · have e1 := sz_4
    have e2 := rd_4
    go_enter Tryd.func57, Tryd.ntmps57
    go_wp2_with (first | (go_at_call 49; refine (refSize_any _ _).mono ?_; rintro e w' ⟨rfl, rfl⟩) | (go_at_call 72; refine (refSigned_any _ _).mono ?_; rintro e w' ⟨rfl, rfl⟩) | (go_at_call 75; refine (refNull_any _ _).mono ?_; rintro e w' ⟨rfl, rfl⟩) | (go_at_call 74; refine (refBits_any _ _ (by omega)).mono ?_; rintro e w' ⟨rfl, rfl⟩) | (go_at_call 73; refine (refHigh_any _ _).mono ?_; rintro e w' ⟨rfl, rfl⟩))
    go_ret
    first | exact ⟨rfl, rfl⟩ | exact ⟨ret_int (by simp only [IntKind.wrap_u64]; decide), rfl⟩
  · have e1 := sz_5
    have e2 := rd_5
    go_enter Tryd.func57, Tryd.ntmps57
    go_wp2_with (first | (go_at_call 49; refine (refSize_any _ _).mono ?_; rintro e w' ⟨rfl, rfl⟩) | (go_at_call 72; refine (refSigned_any _ _).mono ?_; rintro e w' ⟨rfl, rfl⟩) | (go_at_call 75; refine (refNull_any _ _).mono ?_; rintro e w' ⟨rfl, rfl⟩) | (go_at_call 74; refine (refBits_any _ _ (by omega)).mono ?_; rintro e w' ⟨rfl, rfl⟩) | (go_at_call 73; refine (refHigh_any _ _).mono ?_; rintro e w' ⟨rfl, rfl⟩))
    go_ret
    first | exact ⟨rfl, rfl⟩ | exact ⟨ret_int (by simp only [IntKind.wrap_u64]; decide), rfl⟩
  · have e1 := sz_6
    have e2 := rd_6
    go_enter Tryd.func57, Tryd.ntmps57
    go_wp2_with (first | (go_at_call 49; refine (refSize_any _ _).mono ?_; rintro e w' ⟨rfl, rfl⟩) | (go_at_call 72; refine (refSigned_any _ _).mono ?_; rintro e w' ⟨rfl, rfl⟩) | (go_at_call 75; refine (refNull_any _ _).mono ?_; rintro e w' ⟨rfl, rfl⟩) | (go_at_call 74; refine (refBits_any _ _ (by omega)).mono ?_; rintro e w' ⟨rfl, rfl⟩) | (go_at_call 73; refine (refHigh_any _ _).mono ?_; rintro e w' ⟨rfl, rfl⟩))
    go_ret
    first | exact ⟨rfl, rfl⟩ | exact ⟨ret_int (by simp only [IntKind.wrap_u64]; decide), rfl⟩
  · have e1 := sz_7
    have e2 := rd_7
    go_enter Tryd.func57, Tryd.ntmps57
    go_wp2_with (first | (go_at_call 49; refine (refSize_any _ _).mono ?_; rintro e w' ⟨rfl, rfl⟩) | (go_at_call 72; refine (refSigned_any _ _).mono ?_; rintro e w' ⟨rfl, rfl⟩) | (go_at_call 75; refine (refNull_any _ _).mono ?_; rintro e w' ⟨rfl, rfl⟩) | (go_at_call 74; refine (refBits_any _ _ (by omega)).mono ?_; rintro e w' ⟨rfl, rfl⟩) | (go_at_call 73; refine (refHigh_any _ _).mono ?_; rintro e w' ⟨rfl, rfl⟩))
    go_ret
    first | exact ⟨rfl, rfl⟩ | exact ⟨ret_int (by simp only [IntKind.wrap_u64]; decide), rfl⟩
  · have e1 := sz_8
    have e2 := rd_8
    go_enter Tryd.func57, Tryd.ntmps57
    go_wp2_with (first | (go_at_call 49; refine (refSize_any _ _).mono ?_; rintro e w' ⟨rfl, rfl⟩) | (go_at_call 72; refine (refSigned_any _ _).mono ?_; rintro e w' ⟨rfl, rfl⟩) | (go_at_call 75; refine (refNull_any _ _).mono ?_; rintro e w' ⟨rfl, rfl⟩) | (go_at_call 74; refine (refBits_any _ _ (by omega)).mono ?_; rintro e w' ⟨rfl, rfl⟩) | (go_at_call 73; refine (refHigh_any _ _).mono ?_; rintro e w' ⟨rfl, rfl⟩))
    go_ret
    first | exact ⟨rfl, rfl⟩ | exact ⟨ret_int (by simp only [IntKind.wrap_u64]; decide), rfl⟩
  · have e1 := sz_9
    have e2 := rd_9
    go_enter Tryd.func57, Tryd.ntmps57
    go_wp2_with (first | (go_at_call 49; refine (refSize_any _ _).mono ?_; rintro e w' ⟨rfl, rfl⟩) | (go_at_call 72; refine (refSigned_any _ _).mono ?_; rintro e w' ⟨rfl, rfl⟩) | (go_at_call 75; refine (refNull_any _ _).mono ?_; rintro e w' ⟨rfl, rfl⟩) | (go_at_call 74; refine (refBits_any _ _ (by omega)).mono ?_; rintro e w' ⟨rfl, rfl⟩) | (go_at_call 73; refine (refHigh_any _ _).mono ?_; rintro e w' ⟨rfl, rfl⟩))
    go_ret
    first | exact ⟨rfl, rfl⟩ | exact ⟨ret_int (by simp only [IntKind.wrap_u64]; decide), rfl⟩
  · have e1 := sz_10
    have e2 := rd_10
    go_enter Tryd.func57, Tryd.ntmps57
    go_wp2_with (first | (go_at_call 49; refine (refSize_any _ _).mono ?_; rintro e w' ⟨rfl, rfl⟩) | (go_at_call 72; refine (refSigned_any _ _).mono ?_; rintro e w' ⟨rfl, rfl⟩) | (go_at_call 75; refine (refNull_any _ _).mono ?_; rintro e w' ⟨rfl, rfl⟩) | (go_at_call 74; refine (refBits_any _ _ (by omega)).mono ?_; rintro e w' ⟨rfl, rfl⟩) | (go_at_call 73; refine (refHigh_any _ _).mono ?_; rintro e w' ⟨rfl, rfl⟩))
    go_ret
    first | exact ⟨rfl, rfl⟩ | exact ⟨ret_int (by simp only [IntKind.wrap_u64]; decide), rfl⟩
end Go.Proofs.YtgklippjoikadaaDoor
