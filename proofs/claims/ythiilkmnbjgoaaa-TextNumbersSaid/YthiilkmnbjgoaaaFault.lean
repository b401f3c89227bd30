/- The contracts of isXMLChar, firstFault, Check and Chars. -/
import Derived.Test.YthiilkmnbjgoaaaSeq3
namespace Go.Proofs.Ythiilkmnbjgoaaa
open Go.ChangeShapes Go.WideShapes Go.ChangeAt Go.RowKit

def anyB (_ : Int) : Bool := true
theorem isAnyChar_all (n : Int) (w : World) : Calls Try.prog 17 #[.int .i64 n] w fun e w' => e = .returned (.bool (anyB n)) ∧ w' = w := isAnyChar_any n w
theorem isXMLChar_any (n : Int) (w : World) : Calls Try.prog 18 #[.int .i64 n] w fun e w' => e = .returned (.bool (xmlB n)) ∧ w' = w := by
  unfold xmlB
  by_cases h1 : n < 32
  · by_cases h2 : n = 9
    · have e1 : (n == 9) = true := by simp [h2]
      go_enter Try.func18, Try.ntmps18
      go_wp2
      go_ret
      exact ⟨ret_bool (by simp [h2]), rfl⟩
    · have e1 : (n == 9) = false := by simp [h2]
      by_cases h3 : n = 10
      · have e2 : (n == 10) = true := by simp [h3]
        go_enter Try.func18, Try.ntmps18
        go_wp2
        go_ret
        exact ⟨ret_bool (by simp [h3]), rfl⟩
      · have e2 : (n == 10) = false := by simp [h3]
        go_enter Try.func18, Try.ntmps18
        go_wp2
        go_ret
        refine ⟨ret_bool ?_, rfl⟩
        rw [Bool.eq_iff_iff]
        first | done | (simp <;> omega)
  · by_cases h2 : n ≤ 55295
    · go_enter Try.func18, Try.ntmps18
      go_wp2
      go_ret
      refine ⟨ret_bool ?_, rfl⟩
      rw [Bool.eq_iff_iff]
      first | done | (simp <;> omega)
    · by_cases h3 : n ≤ 65533
      · go_enter Try.func18, Try.ntmps18
        go_wp2
        go_ret
        refine ⟨ret_bool ?_, rfl⟩
        rw [Bool.eq_iff_iff]
        first | done | (simp <;> omega)
      · by_cases h4 : 65536 ≤ n
        · go_enter Try.func18, Try.ntmps18
          go_wp2
          go_ret
          refine ⟨ret_bool ?_, rfl⟩
          rw [Bool.eq_iff_iff]
          first | done | (simp <;> omega)
        · have d4 : decide (65536 ≤ n) = false := by simp; omega
          go_enter Try.func18, Try.ntmps18
          go_wp2
          go_ret
          refine ⟨ret_bool ?_, rfl⟩
          rw [Bool.eq_iff_iff]
          first | done | (simp <;> omega)
theorem fault_step (ok : Int → Bool) (s : ByteArray) (a : Nat) (h : a < s.size) : faultF ok s (s.size + 1) a =
    if (seqN (s.extract a s.size)).2 = 0 then (20, a) else if ok (seqN (s.extract a s.size)).1 then faultF ok s (s.size + 1) (a + (seqN (s.extract a s.size)).2) else (21, a) := by
  rw [faultF, if_neg (by omega)]
  dsimp only
  split
  · rfl
  · split
    · exact faultF_more ok s _ _ (by omega) _ (by omega)
    · rfl
theorem fault_end (ok : Int → Bool) (s : ByteArray) : faultF ok s (s.size + 1) s.size = (0, 0) := by
  rw [faultF, if_pos (Nat.le_refl _)]
set_option maxHeartbeats 1000000 in
theorem firstFault_any (s : ByteArray) (w : World) (hs : s.size ≤ 9223372036854775807) :
    Calls Try.prog 16 #[.string s, .func (Fn.func 17) #[] #[]] w fun e w' => e = .returned (.tuple #[.int .i64 ((faultN anyB s).1 : Nat), .int .i64 ((faultN anyB s).2 : Nat)]) ∧ Below w.heap.size w w' := by
  have hfe := fault_end anyB s
  go_enter Try.func16, Try.ntmps16
  go_wp2
  go_loopw [6] (fun i wr => ∃ a : Nat, a ≤ s.size ∧ i = .int .i64 a ∧ faultF anyB s (s.size + 1) a = faultN anyB s ∧ Below w.heap.size w wr) (fun i _ => s.size - (intOf i).toNat)
  case atStart => exact ⟨0, Nat.zero_le _, rfl, rfl, Below.refl _ _⟩
  case round =>
    obtain ⟨a, ha, rfl, hfa, HB⟩ := hrel
    by_cases hlt : a < s.size
    · have hst := fault_step anyB s a hlt
      rw [hfa] at hst
      have hsl : ∀ w : World, (Instr.slice 9 (.string s) (some (.int .i64 a)) none none).run Try.prog w = .ok (.string (s.extract a s.size)) w := fun w => by
        rw [run_slice_string_from_if w 9 s .i64 a Try.underlying9, if_pos ⟨by omega, by omega⟩, Int.toNat_natCast]
      have hez : (s.extract a s.size).size = s.size - a := size_ext s a s.size (Nat.le_refl _)
      have hle := seqN_size_le (s.extract a s.size)
      rw [hez] at hle
      by_cases hz : (seqN (s.extract a s.size)).2 = 0
      · rw [if_pos hz] at hst
        have hz' : (((seqN (s.extract a s.size)).2 : Int) == 0) = true := by simp [hz]
        go_wp2_with (go_at_call 28; refine (sequence_any _ _ (by rw [hez]; omega)).mono ?_; rintro e w1 ⟨rfl, hb1⟩)
        go_ret2
        rw [hst]
        exact ⟨rfl, HB.trans (hb1.mono HB.size)⟩
      · rw [if_neg hz] at hst
        have hz' : (((seqN (s.extract a s.size)).2 : Int) == 0) = false := by simp; omega
        cases hok : anyB ((seqN (s.extract a s.size)).1 : Int)
        · rw [hok, if_neg (by decide)] at hst
          go_wp2_with (first | (go_at_call 28; refine (sequence_any _ _ (by rw [hez]; omega)).mono ?_; rintro e w1 ⟨rfl, hb1⟩) | (go_at_call 17; refine (isAnyChar_all _ _).mono ?_; rintro e w2 ⟨rfl, rfl⟩))
          go_ret2
          rw [hst]
          exact ⟨rfl, HB.trans (hb1.mono HB.size)⟩
        · rw [hok, if_pos rfl] at hst
          go_wp2_with (first | (go_at_call 28; refine (sequence_any _ _ (by rw [hez]; omega)).mono ?_; rintro e w1 ⟨rfl, hb1⟩) | (go_at_call 17; refine (isAnyChar_all _ _).mono ?_; rintro e w2 ⟨rfl, rfl⟩))
          go_roundw
          case rel => exact ⟨a + (seqN (s.extract a s.size)).2, by omega, by go_num, hst.symm, HB.trans (hb1.mono HB.size)⟩
          case measure => simp [intOf]; omega
    · obtain rfl : a = s.size := by omega
      rw [hfe] at hfa
      go_wp2
      go_ret2
      rw [← hfa]
      exact ⟨rfl, HB⟩
set_option maxHeartbeats 1000000 in
theorem firstFault_xml (s : ByteArray) (w : World) (hs : s.size ≤ 9223372036854775807) :
    Calls Try.prog 16 #[.string s, .func (Fn.func 18) #[] #[]] w fun e w' => e = .returned (.tuple #[.int .i64 ((faultN xmlB s).1 : Nat), .int .i64 ((faultN xmlB s).2 : Nat)]) ∧ Below w.heap.size w w' := by
  have hfe := fault_end xmlB s
  go_enter Try.func16, Try.ntmps16
  go_wp2
  go_loopw [6] (fun i wr => ∃ a : Nat, a ≤ s.size ∧ i = .int .i64 a ∧ faultF xmlB s (s.size + 1) a = faultN xmlB s ∧ Below w.heap.size w wr) (fun i _ => s.size - (intOf i).toNat)
  case atStart => exact ⟨0, Nat.zero_le _, rfl, rfl, Below.refl _ _⟩
  case round =>
    obtain ⟨a, ha, rfl, hfa, HB⟩ := hrel
    by_cases hlt : a < s.size
    · have hst := fault_step xmlB s a hlt
      rw [hfa] at hst
      have hsl : ∀ w : World, (Instr.slice 9 (.string s) (some (.int .i64 a)) none none).run Try.prog w = .ok (.string (s.extract a s.size)) w := fun w => by
        rw [run_slice_string_from_if w 9 s .i64 a Try.underlying9, if_pos ⟨by omega, by omega⟩, Int.toNat_natCast]
      have hez : (s.extract a s.size).size = s.size - a := size_ext s a s.size (Nat.le_refl _)
      have hle := seqN_size_le (s.extract a s.size)
      rw [hez] at hle
      by_cases hz : (seqN (s.extract a s.size)).2 = 0
      · rw [if_pos hz] at hst
        have hz' : (((seqN (s.extract a s.size)).2 : Int) == 0) = true := by simp [hz]
        go_wp2_with (go_at_call 28; refine (sequence_any _ _ (by rw [hez]; omega)).mono ?_; rintro e w1 ⟨rfl, hb1⟩)
        go_ret2
        rw [hst]
        exact ⟨rfl, HB.trans (hb1.mono HB.size)⟩
      · rw [if_neg hz] at hst
        have hz' : (((seqN (s.extract a s.size)).2 : Int) == 0) = false := by simp; omega
        cases hok : xmlB ((seqN (s.extract a s.size)).1 : Int)
        · rw [hok, if_neg (by decide)] at hst
          go_wp2_with (first | (go_at_call 28; refine (sequence_any _ _ (by rw [hez]; omega)).mono ?_; rintro e w1 ⟨rfl, hb1⟩) | (go_at_call 18; refine (isXMLChar_any _ _).mono ?_; rintro e w2 ⟨rfl, rfl⟩))
          go_ret2
          rw [hst]
          exact ⟨rfl, HB.trans (hb1.mono HB.size)⟩
        · rw [hok, if_pos rfl] at hst
          go_wp2_with (first | (go_at_call 28; refine (sequence_any _ _ (by rw [hez]; omega)).mono ?_; rintro e w1 ⟨rfl, hb1⟩) | (go_at_call 18; refine (isXMLChar_any _ _).mono ?_; rintro e w2 ⟨rfl, rfl⟩))
          go_roundw
          case rel => exact ⟨a + (seqN (s.extract a s.size)).2, by omega, by go_num, hst.symm, HB.trans (hb1.mono HB.size)⟩
          case measure => simp [intOf]; omega
    · obtain rfl : a = s.size := by omega
      rw [hfe] at hfa
      go_wp2
      go_ret2
      rw [← hfa]
      exact ⟨rfl, HB⟩
theorem Check_all (s : ByteArray) (w : World) (hs : s.size ≤ 9223372036854775807) :
    Calls Try.prog 7 #[.string s] w fun e w' => e = .returned (.tuple #[.int .i64 ((faultN anyB s).1 : Nat), .int .i64 ((faultN anyB s).2 : Nat)]) ∧ Below w.heap.size w w' := by
  go_enter Try.func7, Try.ntmps7
  go_wp2_with (go_at_call 16; refine (firstFault_any _ _ hs).mono ?_; rintro e w1 ⟨rfl, hb1⟩)
  go_ret2
  exact ⟨rfl, hb1⟩
theorem Chars_all (s : ByteArray) (w : World) (hs : s.size ≤ 9223372036854775807) :
    Calls Try.prog 8 #[.string s] w fun e w' => e = .returned (.tuple #[.int .i64 ((faultN xmlB s).1 : Nat), .int .i64 ((faultN xmlB s).2 : Nat)]) ∧ Below w.heap.size w w' := by
  go_enter Try.func8, Try.ntmps8
  go_wp2_with (go_at_call 16; refine (firstFault_xml _ _ hs).mono ?_; rintro e w1 ⟨rfl, hb1⟩)
  go_ret2
  exact ⟨rfl, hb1⟩
end Go.Proofs.Ythiilkmnbjgoaaa
