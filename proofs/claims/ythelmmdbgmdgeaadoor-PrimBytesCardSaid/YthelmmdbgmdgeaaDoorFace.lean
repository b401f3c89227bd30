/- The contracts of package prim's plain calls: fits, rank, cmp.Compare, and Size, Signed, Null, Min, Max, Fits, Compare. -/
import Derived.Test.YthelmmdbgmdgeaaDoorKind
import Derived.Lib.Zigzag
namespace Go.Proofs.YthelmmdbgmdgeaaDoor
open Go.ChangeShapes Go.WideShapes Go.ChangeAt Go.RowKit

theorem fits_any (s r n m x b : Int) (w : World) (hk : KOk s r) (hb : 0 ≤ b) (hb' : b < 18446744073709551616) :
    Calls Tryd.prog 30 #[kV s r n m x, .int .u64 b] w fun e w' => e = .returned (.bool (fitsF s r b)) ∧ Below w.heap.size w w' := by
  by_cases hs : s = 0
  · subst hs
    go_enter Tryd.func30, Tryd.ntmps30
    go_wp2
    go_ret
    exact ⟨ret_bool rfl, (bel1 _ _).alloc (by simp) _⟩
  · have hpos : 0 < s := by unfold KOk at hk; omega
    have e : fitsF s r b = (wordF s r b == b) := by unfold fitsF; rw [decide_eq_true hpos]; rfl
    rw [e]
    have hk' : Hid (KOk s r) := hk
    clear hk e
    go_enter Tryd.func30, Tryd.ntmps30
    go_wp2_with (first | (go_at_call 36; refine (word_any _ _ _ _ _ _ _ hk'.out hs hb hb').mono ?_; rintro e w' ⟨rfl, hbl⟩) | (go_at_call 34; go_in))
    go_ret
    exact ⟨rfl, ((bel1 _ _).alloc (by simp) _).trans (hbl.mono (by simp; omega))⟩

theorem field0 (s r n m x : Int) (w : World) : (Instr.field 47 (kV s r n m x) 0).run Tryd.prog w = .ok (.int .i64 s) w := by kernel_rfl
theorem field1 (s r n m x : Int) (w : World) : (Instr.field 47 (kV s r n m x) 1).run Tryd.prog w = .ok (.int .i64 r) w := by kernel_rfl
theorem field2 (s r n m x : Int) (w : World) : (Instr.field 47 (kV s r n m x) 2).run Tryd.prog w = .ok (.int .u64 n) w := by kernel_rfl
theorem field3 (s r n m x : Int) (w : World) : (Instr.field 47 (kV s r n m x) 3).run Tryd.prog w = .ok (.int .u64 m) w := by kernel_rfl
theorem field4 (s r n m x : Int) (w : World) : (Instr.field 47 (kV s r n m x) 4).run Tryd.prog w = .ok (.int .u64 x) w := by kernel_rfl
theorem size_any (p : Int) (w : World) (h : KT w) : Calls Tryd.prog 9 #[.int .i64 p] w fun e w' => e = .returned (.int .i64 (sz p)) ∧ Below w.heap.size w w' := by
  have hf := field0
  go_enter Tryd.func9, Tryd.ntmps9
  go_wp2_with (go_at_call 29; refine (kindOf_any _ _ h).mono ?_; rintro e w' ⟨rfl, hbl⟩)
  go_ret
  exact ⟨rfl, hbl⟩
theorem null_any (p : Int) (w : World) (h : KT w) : Calls Tryd.prog 10 #[.int .i64 p] w fun e w' => e = .returned (.int .u64 (nl p)) ∧ Below w.heap.size w w' := by
  have hf := field2
  go_enter Tryd.func10, Tryd.ntmps10
  go_wp2_with (go_at_call 29; refine (kindOf_any _ _ h).mono ?_; rintro e w' ⟨rfl, hbl⟩)
  go_ret
  exact ⟨rfl, hbl⟩
theorem min_any (p : Int) (w : World) (h : KT w) : Calls Tryd.prog 11 #[.int .i64 p] w fun e w' => e = .returned (.int .u64 (mn p)) ∧ Below w.heap.size w w' := by
  have hf := field3
  go_enter Tryd.func11, Tryd.ntmps11
  go_wp2_with (go_at_call 29; refine (kindOf_any _ _ h).mono ?_; rintro e w' ⟨rfl, hbl⟩)
  go_ret
  exact ⟨rfl, hbl⟩
theorem max_any (p : Int) (w : World) (h : KT w) : Calls Tryd.prog 12 #[.int .i64 p] w fun e w' => e = .returned (.int .u64 (mx p)) ∧ Below w.heap.size w w' := by
  have hf := field4
  go_enter Tryd.func12, Tryd.ntmps12
  go_wp2_with (go_at_call 29; refine (kindOf_any _ _ h).mono ?_; rintro e w' ⟨rfl, hbl⟩)
  go_ret
  exact ⟨rfl, hbl⟩
theorem signed_any (p : Int) (w : World) (h : KT w) : Calls Tryd.prog 16 #[.int .i64 p] w fun e w' => e = .returned (.bool (rd p == 1)) ∧ Below w.heap.size w w' := by
  have hf := field1
  go_enter Tryd.func16, Tryd.ntmps16
  go_wp2_with (go_at_call 29; refine (kindOf_any _ _ h).mono ?_; rintro e w' ⟨rfl, hbl⟩)
  go_ret
  exact ⟨rfl, hbl⟩
theorem Fits_any (p b : Int) (w : World) (h : KT w) (hb : 0 ≤ b) (hb' : b < 18446744073709551616) : Calls Tryd.prog 8 #[.int .i64 p, .int .u64 b] w fun e w' => e = .returned (.bool (fitsF (sz p) (rd p) b)) ∧ Below w.heap.size w w' := by
  go_enter Tryd.func8, Tryd.ntmps8
  go_wp2_with (first | (go_at_call 29; refine (kindOf_any _ _ h).mono ?_; rintro e w' ⟨rfl, hbl⟩) | (go_at_call 30; refine (fits_any _ _ _ _ _ _ _ (kok p) hb hb').mono ?_; rintro e w1 ⟨rfl, hbl1⟩))
  go_ret
  exact ⟨rfl, hbl.trans (hbl1.mono hbl.size)⟩

theorem cmp_any (a b : Int) (w : World) : Calls Tryd.prog 31 #[.int .u64 a, .int .u64 b] w fun e w' => e = .returned (.int .i64 (cmp3 a b)) ∧ Below w.heap.size w w' := by
  unfold cmp3
  by_cases h1 : a < b
  · rw [if_pos h1]
    go_enter Tryd.func31, Tryd.ntmps31
    go_wp2
    go_ret
    exact ⟨rfl, Below.refl _ _⟩
  · rw [if_neg h1]
    by_cases h2 : b < a
    · rw [if_pos h2]
      go_enter Tryd.func31, Tryd.ntmps31
      go_wp2
      go_ret
      exact ⟨rfl, Below.refl _ _⟩
    · rw [if_neg h2]
      go_enter Tryd.func31, Tryd.ntmps31
      go_wp2
      go_ret
      exact ⟨rfl, Below.refl _ _⟩
theorem xor_low (x : Nat) (h : x < 9223372036854775808) : x ^^^ 9223372036854775808 = x + 9223372036854775808 := by
  have e : x ^^^ 2 ^ 63 = 2 ^ 63 ||| x := by
    apply Nat.eq_of_testBit_eq
    intro j
    rw [Nat.testBit_xor, Nat.testBit_or, Nat.testBit_two_pow]
    by_cases hj : 63 = j
    · subst hj
      rw [Nat.testBit_lt_two_pow (by simpa using h)]; rfl
    · simp [hj]
  have e2 := nat_join 63 (2 ^ 63) x (Nat.mod_self _) (by simpa using h)
  rw [e2] at e
  have e3 : (2 : Nat) ^ 63 = 9223372036854775808 := by decide
  rw [e3] at e
  omega
theorem xor_top (b : Int) (h0 : 0 ≤ b) (h1 : b < 18446744073709551616) : bits .xor .u64 b 9223372036854775808 = (b + 9223372036854775808) % 18446744073709551616 := by
  rw [u64_xor b 9223372036854775808 h0 h1 (by decide) (by decide)]
  by_cases h : b.toNat < 9223372036854775808
  · rw [show (9223372036854775808 : Int).toNat = 9223372036854775808 from rfl, xor_low _ h]; omega
  · obtain ⟨y, hy, hl⟩ : ∃ y, b.toNat = y + 9223372036854775808 ∧ y < 9223372036854775808 := ⟨b.toNat - 9223372036854775808, by omega, by omega⟩
    rw [show (9223372036854775808 : Int).toNat = 9223372036854775808 from rfl, hy, ← xor_low y hl, Nat.xor_assoc, Nat.xor_self, Nat.xor_zero]
    omega
theorem not_u64 (b : Int) (h0 : 0 ≤ b) (h1 : b < 18446744073709551616) : bits .xor .u64 IntKind.u64.max b = 18446744073709551615 - b := by
  rw [show IntKind.u64.max = 18446744073709551615 from rfl]
  rw [u64_xor 18446744073709551615 b (by decide) (by decide) h0 h1]
  have := Lib.xor_ones64 b.toNat (by omega)
  rw [show (18446744073709551615 : Int).toNat = 2 ^ 64 - 1 from rfl, this]
  omega
theorem and_31 (b : Int) (h0 : 0 ≤ b) (h1 : b < 4294967296) : bits .and .u64 b 2147483648 = if 4294967296 ≤ 2 * b then 2147483648 else 0 := by
  rw [u64_and b 2147483648 h0 (by omega) (by decide) (by decide), show (2147483648 : Int).toNat = 2 ^ 31 from rfl, nat_bit]
  split <;> omega
theorem and_63 (b : Int) (h0 : 0 ≤ b) (h1 : b < 18446744073709551616) : bits .and .u64 b 9223372036854775808 = if 18446744073709551616 ≤ 2 * b then 9223372036854775808 else 0 := by
  rw [u64_and b 9223372036854775808 h0 (by omega) (by decide) (by decide), show (9223372036854775808 : Int).toNat = 2 ^ 63 from rfl, nat_bit]
  split <;> omega
theorem or_31 (b : Int) (h0 : 0 ≤ b) (h1 : 2 * b < 4294967296) : bits .or .u64 b 2147483648 = b + 2147483648 := by
  rw [u64_or b 2147483648 h0 (by omega) (by decide) (by decide), show (2147483648 : Int).toNat = 2 ^ 31 from rfl, Nat.or_comm, nat_join 31 _ _ (Nat.mod_self _) (by omega)]
  omega
theorem or_63 (b : Int) (h0 : 0 ≤ b) (h1 : 2 * b < 18446744073709551616) : bits .or .u64 b 9223372036854775808 = b + 9223372036854775808 := by
  rw [u64_or b 9223372036854775808 h0 (by omega) (by decide) (by decide), show (9223372036854775808 : Int).toNat = 2 ^ 63 from rfl, Nat.or_comm, nat_join 63 _ _ (Nat.mod_self _) (by omega)]
  omega
theorem rank_pat (s n m x b : Int) (w : World) (hs : s = 4 ∨ s = 8) (h0 : 0 ≤ b) (h1 : b < pw s) :
    Calls Tryd.prog 44 #[kV s 2 n m x, .int .u64 b] w fun e w' => e = .returned (.int .u64 (rankF s 2 b)) ∧ Below w.heap.size w w' := by
  rcases hs with rfl | rfl
  · rw [pw_4] at h1
    by_cases h : 4294967296 ≤ 2 * b
    · have hn := not_u64 b h0 (by omega)
      have hsg : IntKind.u64.signed = false := rfl
      have ha : (bits .and .u64 b 2147483648 != 0) = true := by rw [and_31 b h0 h1, if_pos h]; decide
      have k4 : KOk 4 2 := by unfold KOk; omega
      have e : rankF 4 2 b = wordF 4 2 (18446744073709551615 - b) := rankF_hi 4 b (Or.inl rfl) h1 h
      rw [e]; clear e
      go_enter Tryd.func44, Tryd.ntmps44
      go_wp2_with (go_at_call 36; refine (word_any _ _ _ _ _ (18446744073709551615 - b) _ k4 (by omega) (by omega) (by omega)).mono ?_; rintro e w' ⟨rfl, hbl⟩)
      go_ret
      exact ⟨rfl, (bel1 _ _).trans (hbl.mono (by simp))⟩
    · have ho := or_31 b h0 (by omega)
      have ha : (bits .and .u64 b 2147483648 != 0) = false := by rw [and_31 b h0 h1, if_neg h]; rfl
      have e : rankF 4 2 b = b + 2147483648 := rankF_lo 4 b h
      rw [e]; clear e
      go_enter Tryd.func44, Tryd.ntmps44
      go_wp2
      go_ret
      exact ⟨rfl, bel1 _ _⟩
  · rw [pw_8] at h1
    by_cases h : 18446744073709551616 ≤ 2 * b
    · have hn := not_u64 b h0 (by omega)
      have hsg : IntKind.u64.signed = false := rfl
      have ha : (bits .and .u64 b 9223372036854775808 != 0) = true := by rw [and_63 b h0 h1, if_pos h]; decide
      have k4 : KOk 8 2 := by unfold KOk; omega
      have e : rankF 8 2 b = wordF 8 2 (18446744073709551615 - b) := rankF_hi 8 b (Or.inr rfl) h1 h
      rw [e]; clear e
      go_enter Tryd.func44, Tryd.ntmps44
      go_wp2_with (go_at_call 36; refine (word_any _ _ _ _ _ (18446744073709551615 - b) _ k4 (by omega) (by omega) (by omega)).mono ?_; rintro e w' ⟨rfl, hbl⟩)
      go_ret
      exact ⟨rfl, (bel1 _ _).trans (hbl.mono (by simp))⟩
    · have ho := or_63 b h0 (by omega)
      have ha : (bits .and .u64 b 9223372036854775808 != 0) = false := by rw [and_63 b h0 h1, if_neg h]; rfl
      have e : rankF 8 2 b = b + 9223372036854775808 := rankF_lo 8 b h
      rw [e]; clear e
      go_enter Tryd.func44, Tryd.ntmps44
      go_wp2
      go_ret
      exact ⟨rfl, bel1 _ _⟩
theorem rank_any (s r n m x b : Int) (w : World) (hk : KOk s r) (h0 : 0 ≤ b) (h1 : b < 18446744073709551616) (hf : fitsF s r b = true) :
    Calls Tryd.prog 32 #[kV s r n m x, .int .u64 b] w fun e w' => e = .returned (.int .u64 (rankF s r b)) ∧ Below w.heap.size w w' := by
  rw [fits_iff s r b hk h0 h1] at hf
  by_cases hr1 : r = 1
  · subst hr1
    have hx := xor_top b h0 h1
    have e : rankF s 1 b = (b + 9223372036854775808) % 18446744073709551616 := rfl
    rw [e]; clear e hf hk
    go_enter Tryd.func32, Tryd.ntmps32
    go_wp2
    go_ret
    exact ⟨rfl, bel1 _ _⟩
  · by_cases hr2 : r = 2
    · subst hr2
      have hs : s = 4 ∨ s = 8 := by unfold KOk at hk; omega
      have h1' : b < pw s := by omega
      clear hf hk hr1
      go_enter Tryd.func32, Tryd.ntmps32
      go_wp2_with (go_at_call 44; refine (rank_pat _ _ _ _ _ _ hs h0 h1').mono ?_; rintro e w' ⟨rfl, hbl⟩)
      go_ret
      exact ⟨rfl, (bel1 _ _).trans (hbl.mono (by simp))⟩
    · have e : rankF s r b = b := by unfold rankF; rw [if_neg hr1, if_neg hr2]
      rw [e]; clear e hf hk
      have g1 : (r == 1) = false := by simpa using hr1
      have g2 : (r == 2) = false := by simpa using hr2
      go_enter Tryd.func32, Tryd.ntmps32
      go_wp2
      go_ret
      exact ⟨rfl, bel1 _ _⟩
end Go.Proofs.YthelmmdbgmdgeaaDoor
