/- TextPoints: the rows of a number, between letters. -/
import Derived.Test.YthiilkmnbjgoaaaPtsMath
import Derived.Laws.BytesArg
namespace Go.Proofs.Ythiilkmnbjgoaaa
open Go.ChangeShapes Go.WideShapes Go.ChangeAt Go.RowKit

theorem ch_nums (xs : List Int) (i : Nat) : ch (strOfNums xs) i = (xs.getD i 0).toNat % 256 := by
  unfold ch
  rw [strOfNums_data]
  by_cases h : i < xs.length
  · simp [List.getD, h]
  · simp [List.getD, h]
def padS (A : Nat) : ByteArray := (ByteArray.mk #[97, 98, 99, 100, 101, 102, 103]).extract 0 A
abbrev zS : ByteArray := ByteArray.mk #[122]
theorem padS_size (A : Nat) (h : A ≤ 7) : (padS A).size = A := size_ext _ 0 A h
theorem padS_ch (A j : Nat) (h : j < A) (hA : A ≤ 7) : ch (padS A) j = 97 + j := by
  unfold padS
  rw [ch_ext _ 0 A j (by omega)]
  have : j = 0 ∨ j = 1 ∨ j = 2 ∨ j = 3 ∨ j = 4 ∨ j = 5 ∨ j = 6 := by omega
  rcases this with rfl | rfl | rfl | rfl | rfl | rfl | rfl <;> rfl
/-- Letters, a row, a letter. -/
def ptS (A : Nat) (xs : List Int) : ByteArray := (padS A ++ strOfNums xs) ++ zS
theorem ptS_size (A : Nat) (xs : List Int) (hA : A ≤ 7) : (ptS A xs).size = A + xs.length + 1 := by
  unfold ptS
  rw [ByteArray.size_append, ByteArray.size_append, padS_size A hA, strOfNums_size]; rfl
theorem ptS_pad (A : Nat) (xs : List Int) (hA : A ≤ 7) (j : Nat) (h : j < A) : ch (ptS A xs) j = 97 + j := by
  unfold ptS
  rw [ch_app_l _ _ _ (by rw [ByteArray.size_append, padS_size A hA]; omega), ch_app_l _ _ _ (by rw [padS_size A hA]; exact h), padS_ch A j h hA]
theorem ptS_row (A : Nat) (xs : List Int) (hA : A ≤ 7) (i : Nat) (h : i < xs.length) : ch (ptS A xs) (A + i) = (xs.getD i 0).toNat % 256 := by
  unfold ptS
  rw [ch_app_l _ _ _ (by rw [ByteArray.size_append, padS_size A hA, strOfNums_size]; omega)]
  have := ch_app_r (padS A) (strOfNums xs) i
  rw [padS_size A hA] at this
  rw [this, ch_nums]
theorem ptS_z (A : Nat) (xs : List Int) (hA : A ≤ 7) : ch (ptS A xs) (A + xs.length) = 122 := by
  have := ch_app_r (padS A ++ strOfNums xs) zS 0
  rw [ByteArray.size_append, padS_size A hA, strOfNums_size] at this
  exact this
theorem ptS_tail (A : Nat) (xs : List Int) (hA : A ≤ 7) (i : Nat) (h : i < xs.length) : ch ((ptS A xs).extract A (ptS A xs).size) i = (xs.getD i 0).toNat % 256 := by
  rw [ch_ext _ _ _ _ (by rw [ptS_size A xs hA]; omega), ptS_row A xs hA i h]
theorem ptS_tsize (A : Nat) (xs : List Int) (hA : A ≤ 7) : ((ptS A xs).extract A (ptS A xs).size).size = xs.length + 1 := by
  rw [size_ext _ _ _ (Nat.le_refl _), ptS_size A xs hA]; omega
theorem pad_ok (A : Nat) (xs : List Int) (hA : A ≤ 7) (j : Nat) (h : j < A) : ch (ptS A xs) j ≤ 127 ∧ anyB (ch (ptS A xs) j) = true := by
  rw [ptS_pad A xs hA j h]; exact ⟨by omega, rfl⟩
theorem pad_xml (A : Nat) (xs : List Int) (hA : A ≤ 7) (j : Nat) (h : j < A) : ch (ptS A xs) j ≤ 127 ∧ xmlB (ch (ptS A xs) j) = true := by
  rw [ptS_pad A xs hA j h]
  refine ⟨by omega, ?_⟩
  unfold xmlB
  simp
  omega
theorem pts_good (A : Nat) (xs : List Int) (hA : A ≤ 7) (n : Nat) (h0 : 0 < xs.length) (hq : seqN ((ptS A xs).extract A (ptS A xs).size) = (n, xs.length)) (hx : xmlB n = true) :
    faultN anyB (ptS A xs) = (0, 0) ∧ faultN xmlB (ptS A xs) = (0, 0) :=
  ⟨fault_at anyB _ A xs.length n (ptS_size A xs hA) (pad_ok A xs hA) (ptS_z A xs hA) rfl h0 hq rfl, fault_at xmlB _ A xs.length n (ptS_size A xs hA) (pad_xml A xs hA) (ptS_z A xs hA) (by decide) h0 hq hx⟩
theorem pts_odd (A : Nat) (xs : List Int) (hA : A ≤ 7) (n : Nat) (h0 : 0 < xs.length) (hq : seqN ((ptS A xs).extract A (ptS A xs).size) = (n, xs.length)) (hx : xmlB n = false) :
    faultN anyB (ptS A xs) = (0, 0) ∧ faultN xmlB (ptS A xs) = (21, A) :=
  ⟨fault_at anyB _ A xs.length n (ptS_size A xs hA) (pad_ok A xs hA) (ptS_z A xs hA) rfl h0 hq rfl, fault_at_no xmlB _ A xs.length n (by rw [ptS_size A xs hA]; omega) (pad_xml A xs hA) h0 hq hx⟩
theorem pts_bad (A : Nat) (xs : List Int) (hA : A ≤ 7) (hq : seqN ((ptS A xs).extract A (ptS A xs).size) = (0, 0)) :
    faultN anyB (ptS A xs) = (20, A) ∧ faultN xmlB (ptS A xs) = (20, A) :=
  ⟨fault_at_bad anyB _ A (by rw [ptS_size A xs hA]; omega) (pad_ok A xs hA) hq, fault_at_bad xmlB _ A (by rw [ptS_size A xs hA]; omega) (pad_xml A xs hA) hq⟩
abbrev r0 (n : Int) : List Int := [n % 128]
abbrev r1 (n : Int) : List Int := [192 + n / 64 % 32, 128 + n % 64]
abbrev r2 (n : Int) : List Int := [224 + n / 4096 % 16, 128 + n / 64 % 64, 128 + n % 64]
abbrev r3 (n : Int) : List Int := [240 + n / 262144, 128 + n / 4096 % 64, 128 + n / 64 % 64, 128 + n % 64]
theorem q0 (A : Nat) (hA : A ≤ 7) (n : Int) (hn0 : 0 ≤ n) (hn1 : n ≤ 1114111) (h : n ≤ 127) : seqN ((ptS A (r0 n)).extract A (ptS A (r0 n)).size) = (n.toNat, 1) := by
  have t0 := ptS_tail A (r0 n) hA 0 (by simp)
  have ts := ptS_tsize A (r0 n) hA
  simp only [List.length_cons, List.length_nil, List.getD_cons_zero] at t0 ts
  rw [seq1 _ (by omega) (by omega), t0, Prod.mk.injEq]
  exact ⟨by omega, rfl⟩
theorem q1_no (A : Nat) (hA : A ≤ 7) (n : Int) (hn0 : 0 ≤ n) (hn1 : n ≤ 1114111) (h : n < 128) : seqN ((ptS A (r1 n)).extract A (ptS A (r1 n)).size) = (0, 0) := by
  have t0 := ptS_tail A (r1 n) hA 0 (by simp)
  simp only [List.getD_cons_zero] at t0
  exact seq_none _ (by omega) (by omega)
theorem q1 (A : Nat) (hA : A ≤ 7) (n : Int) (hn0 : 0 ≤ n) (hn1 : n ≤ 1114111) (h : n ≤ 2047) (h2 : 128 ≤ n) : seqN ((ptS A (r1 n)).extract A (ptS A (r1 n)).size) = (n.toNat, 2) := by
  have t0 := ptS_tail A (r1 n) hA 0 (by simp)
  have t1 := ptS_tail A (r1 n) hA 1 (by simp)
  have ts := ptS_tsize A (r1 n) hA
  simp only [List.length_cons, List.length_nil, List.getD_cons_zero, List.getD_cons_succ] at t0 t1 ts
  rw [seq2 _ (by omega) (by omega) (by omega) (by omega) (by omega), Prod.mk.injEq]
  exact ⟨by omega, rfl⟩
theorem q2 (A : Nat) (hA : A ≤ 7) (n : Int) (hn0 : 0 ≤ n) (hn1 : n ≤ 1114111) (h : n ≤ 65535) (h2 : 2048 ≤ n) (h3 : n < 55296 ∨ 57343 < n) : seqN ((ptS A (r2 n)).extract A (ptS A (r2 n)).size) = (n.toNat, 3) := by
  have t0 := ptS_tail A (r2 n) hA 0 (by simp)
  have t1 := ptS_tail A (r2 n) hA 1 (by simp)
  have t2 := ptS_tail A (r2 n) hA 2 (by simp)
  have ts := ptS_tsize A (r2 n) hA
  simp only [List.length_cons, List.length_nil, List.getD_cons_zero, List.getD_cons_succ] at t0 t1 t2 ts
  rw [seq3 _ (by omega) (by omega) (by omega) (by rw [lo3 _ (by omega) (by omega)]; split <;> omega) (by rw [hi3 _ (by omega) (by omega)]; split <;> omega) (by omega) (by omega), Prod.mk.injEq]
  exact ⟨by omega, rfl⟩
theorem q2_no (A : Nat) (hA : A ≤ 7) (n : Int) (hn0 : 0 ≤ n) (hn1 : n ≤ 1114111) (h : n ≤ 65535) (h3 : n < 2048 ∨ (55296 ≤ n ∧ n ≤ 57343)) : seqN ((ptS A (r2 n)).extract A (ptS A (r2 n)).size) = (0, 0) := by
  have t0 := ptS_tail A (r2 n) hA 0 (by simp)
  have t1 := ptS_tail A (r2 n) hA 1 (by simp)
  simp only [List.getD_cons_zero, List.getD_cons_succ] at t0 t1
  refine seq_bad _ (by omega) (by omega) ?_
  rw [lo3 _ (by omega) (by omega), hi3 _ (by omega) (by omega)]
  split <;> split <;> omega
theorem q3 (A : Nat) (hA : A ≤ 7) (n : Int) (hn0 : 0 ≤ n) (hn1 : n ≤ 1114111) (h2 : 65536 ≤ n) : seqN ((ptS A (r3 n)).extract A (ptS A (r3 n)).size) = (n.toNat, 4) := by
  have t0 := ptS_tail A (r3 n) hA 0 (by simp)
  have t1 := ptS_tail A (r3 n) hA 1 (by simp)
  have t2 := ptS_tail A (r3 n) hA 2 (by simp)
  have t3 := ptS_tail A (r3 n) hA 3 (by simp)
  have ts := ptS_tsize A (r3 n) hA
  simp only [List.length_cons, List.length_nil, List.getD_cons_zero, List.getD_cons_succ] at t0 t1 t2 t3 ts
  rw [seq4 _ (by omega) (by omega) (by omega) (by rw [lo4 _ (by omega) (by omega)]; split <;> omega) (by rw [hi4 _ (by omega) (by omega)]; split <;> omega) (by omega) (by omega) (by omega) (by omega), Prod.mk.injEq]
  exact ⟨by omega, rfl⟩
theorem q3_no (A : Nat) (hA : A ≤ 7) (n : Int) (hn0 : 0 ≤ n) (hn1 : n ≤ 1114111) (h2 : n < 65536) : seqN ((ptS A (r3 n)).extract A (ptS A (r3 n)).size) = (0, 0) := by
  have t0 := ptS_tail A (r3 n) hA 0 (by simp)
  have t1 := ptS_tail A (r3 n) hA 1 (by simp)
  simp only [List.getD_cons_zero, List.getD_cons_succ] at t0 t1
  refine seq_bad _ (by omega) (by omega) ?_
  rw [lo4 _ (by omega) (by omega), hi4 _ (by omega) (by omega)]
  split <;> split <;> omega
end Go.Proofs.Ythiilkmnbjgoaaa
