/- The document's answer: Check, Chars. -/
import Derived.Test.YtmnjpkeeoeoegaaGreatDoorRef6
import Derived.Test.YtmnjpkeeoeoegaaGreatDoorFault
namespace Go.Proofs.YtmnjpkeeoeoegaaGreatDoor
open Go.ChangeShapes Go.WideShapes Go.ChangeAt Go.RowKit

set_option maxHeartbeats 1000000 in
theorem rCheck (s : ByteArray) (w : World) (hs : s.size ≤ 9223372036854775806) :
    Calls Tryz.prog 8 #[.string s] w fun e w' => e = .returned (.tuple #[.int .i64 ((faultN anyB s).1 : Nat), .int .i64 ((faultN anyB s).2 : Nat)]) ∧ Below w.heap.size w w' := by
  have hfe := fault_end anyB s
  go_enter Tryz.func8, Tryz.ntmps8
  go_wp2
  go_loopw [4] (fun i wr => ∃ a : Nat, a ≤ s.size ∧ i = .int .i64 a ∧ faultF anyB s (s.size + 1) a = faultN anyB s ∧ Below w.heap.size w wr) (fun i _ => s.size - (intOf i).toNat)
  case atStart => exact ⟨0, Nat.zero_le _, rfl, rfl, Below.refl _ _⟩
  case round =>
    obtain ⟨a, ha, rfl, hfa, HB⟩ := hrel
    by_cases hlt : a < s.size
    · have hst := fault_step anyB s a hlt
      rw [hfa] at hst
      have hsl : ∀ w : World, (Instr.slice 9 (.string s) (some (.int .i64 a)) none none).run Tryz.prog w = .ok (.string (s.extract a s.size)) w := fun w => by
        rw [run_slice_string_from_if w 9 s .i64 a Tryz.underlying9, if_pos ⟨by omega, by omega⟩, Int.toNat_natCast]
      have hez : (s.extract a s.size).size = s.size - a := size_ext s a s.size (Nat.le_refl _)
      have hle := seqN_size_le (s.extract a s.size)
      rw [hez] at hle
      by_cases hz : (seqN (s.extract a s.size)).2 = 0
      · rw [if_pos hz] at hst
        have hz' : (((seqN (s.extract a s.size)).2 : Int) == 0) = true := by simp [hz]
        go_wp2_with (go_at_call 34; refine (rDecode _ (by rw [hez]; omega) (by rw [hez]; omega) _).mono ?_; rintro e w1 ⟨rfl, hb1⟩)
        go_ret2
        rw [hst]
        exact ⟨rfl, HB.trans (hb1.mono HB.size)⟩
      · rw [if_neg hz] at hst
        have hz' : (((seqN (s.extract a s.size)).2 : Int) == 0) = false := by simp; omega
        cases hok : anyB ((seqN (s.extract a s.size)).1 : Int)
        · rw [hok, if_neg (by decide)] at hst
          cases hok
        · rw [hok, if_pos rfl] at hst
          go_wp2_with (first | (go_at_call 34; refine (rDecode _ (by rw [hez]; omega) (by rw [hez]; omega) _).mono ?_; rintro e w1 ⟨rfl, hb1⟩))
          go_roundw
          case rel => exact ⟨a + (seqN (s.extract a s.size)).2, by omega, by go_num, hst.symm, HB.trans (hb1.mono HB.size)⟩
          case measure => simp [intOf]; omega
    · obtain rfl : a = s.size := by omega
      rw [hfe] at hfa
      go_wp2
      go_ret2
      rw [← hfa]
      exact ⟨rfl, HB⟩
set_option maxHeartbeats 1000000 in
theorem rChars (s : ByteArray) (w : World) (hs : s.size ≤ 9223372036854775806) :
    Calls Tryz.prog 11 #[.string s] w fun e w' => e = .returned (.tuple #[.int .i64 ((faultN xmlB s).1 : Nat), .int .i64 ((faultN xmlB s).2 : Nat)]) ∧ Below w.heap.size w w' := by
  have hfe := fault_end xmlB s
  go_enter Tryz.func11, Tryz.ntmps11
  go_wp2
  go_loopw [4] (fun i wr => ∃ a : Nat, a ≤ s.size ∧ i = .int .i64 a ∧ faultF xmlB s (s.size + 1) a = faultN xmlB s ∧ Below w.heap.size w wr) (fun i _ => s.size - (intOf i).toNat)
  case atStart => exact ⟨0, Nat.zero_le _, rfl, rfl, Below.refl _ _⟩
  case round =>
    obtain ⟨a, ha, rfl, hfa, HB⟩ := hrel
    by_cases hlt : a < s.size
    · have hst := fault_step xmlB s a hlt
      rw [hfa] at hst
      have hsl : ∀ w : World, (Instr.slice 9 (.string s) (some (.int .i64 a)) none none).run Tryz.prog w = .ok (.string (s.extract a s.size)) w := fun w => by
        rw [run_slice_string_from_if w 9 s .i64 a Tryz.underlying9, if_pos ⟨by omega, by omega⟩, Int.toNat_natCast]
      have hez : (s.extract a s.size).size = s.size - a := size_ext s a s.size (Nat.le_refl _)
      have hle := seqN_size_le (s.extract a s.size)
      rw [hez] at hle
      by_cases hz : (seqN (s.extract a s.size)).2 = 0
      · rw [if_pos hz] at hst
        have hz' : (((seqN (s.extract a s.size)).2 : Int) == 0) = true := by simp [hz]
        go_wp2_with (go_at_call 34; refine (rDecode _ (by rw [hez]; omega) (by rw [hez]; omega) _).mono ?_; rintro e w1 ⟨rfl, hb1⟩)
        go_ret2
        rw [hst]
        exact ⟨rfl, HB.trans (hb1.mono HB.size)⟩
      · rw [if_neg hz] at hst
        have hz' : (((seqN (s.extract a s.size)).2 : Int) == 0) = false := by simp; omega
        cases hok : xmlB ((seqN (s.extract a s.size)).1 : Int)
        · rw [hok, if_neg (by decide)] at hst
          go_wp2_with (first | (go_at_call 34; refine (rDecode _ (by rw [hez]; omega) (by rw [hez]; omega) _).mono ?_; rintro e w1 ⟨rfl, hb1⟩) | (go_at_call 36; refine (rxml _ _).mono ?_; rintro e w2 ⟨rfl, rfl⟩))
          go_ret2
          rw [hst]
          exact ⟨rfl, HB.trans (hb1.mono HB.size)⟩
        · rw [hok, if_pos rfl] at hst
          go_wp2_with (first | (go_at_call 34; refine (rDecode _ (by rw [hez]; omega) (by rw [hez]; omega) _).mono ?_; rintro e w1 ⟨rfl, hb1⟩) | (go_at_call 36; refine (rxml _ _).mono ?_; rintro e w2 ⟨rfl, rfl⟩))
          go_roundw
          case rel => exact ⟨a + (seqN (s.extract a s.size)).2, by omega, by go_num, hst.symm, HB.trans (hb1.mono HB.size)⟩
          case measure => simp [intOf]; omega
    · obtain rfl : a = s.size := by omega
      rw [hfe] at hfa
      go_wp2
      go_ret2
      rw [← hfa]
      exact ⟨rfl, HB⟩
end Go.Proofs.YtmnjpkeeoeoegaaGreatDoor
