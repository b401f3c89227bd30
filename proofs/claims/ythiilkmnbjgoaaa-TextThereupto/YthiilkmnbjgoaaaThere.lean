/- The walk of TextThere. -/
import Derived.Test.YthiilkmnbjgoaaaEMath
import Derived.Deep.DeepCutAuto
namespace Go.Proofs.Ythiilkmnbjgoaaa
open Go.ChangeShapes Go.WideShapes Go.ChangeAt Go.RowKit

theorem esc_take (attr : Bool) (s : ByteArray) (j : Nat) (h : j < s.size) : (escL attr ((lOf s).take (j + 1))).length = (escL attr ((lOf s).take j)).length + (escC attr (ch s j)).length := by
  rw [take_succ_ch s j h]
  unfold escL
  rw [List.flatMap_append, List.length_append]
  simp
set_option maxRecDepth 100000 in
set_option maxHeartbeats 40000000 in
theorem there_walk (s : ByteArray) (hs : s.size ≤ 1048576) (w : World) :
    Calls Try.prog 6 #[.string s] w fun e w' => e = .returned (.bool true) ∧ Below w.heap.size w w' := by
  have S1 : sOf (lOf s) = s := sOf_lOf s
  go_enter Try.func6, Try.ntmps6
  go_wp2_with fail
  go_loopw [3] (fun i wr => ∃ k : Nat, k ≤ 2 ∧ i = .int .i64 k ∧ Below w.heap.size w wr) (fun i _ => 2 - (intOf i).toNat)
  case atStart => exact ⟨0, by omega, rfl, Below.refl _ _⟩
  case round =>
    rename World => wo
    obtain ⟨k, hk, rfl, HB⟩ := hrel
    have : k = 0 ∨ k = 1 ∨ k = 2 := by omega
    rcases this with rfl | rfl | rfl
    · obtain ⟨t, ht⟩ : ∃ t, t = sOf (escL false (lOf s)) := ⟨_, rfl⟩
      have CE : ∀ w : World, Calls Try.prog 15 #[.string s, .bool false] w fun e w' => e = .returned (.string t) ∧ Below w.heap.size w w' := fun w => by rw [ht]; exact Escape_any s false w (by omega)
      have F1 := there_facts s false
      have F2 := there_clean s false
      have F3 : t.size = (escL false (lOf s)).length := by rw [ht, sOf_size]
      rw [← ht] at F1 F2
      have hlen := escL_len false (lOf s)
      rw [lOf_length] at hlen
      have hts : t.size ≤ 6291456 := by omega
      have F2 : Hid (∀ i, i < t.size → ¬ ch t i = 60 ∧ ¬ ch t i = 62 ∧ ¬ ch t i = 13 ∧ (false = true → ¬ ch t i = 34 ∧ ¬ ch t i = 9 ∧ ¬ ch t i = 10)) := F2
      have F3 : Hid (t.size = (escL false (lOf s)).length) := F3
      clear ht hlen
      go_wp2_with (first | (go_at_call 15; refine (CE _).mono ?_; rintro e w1 ⟨rfl, hb1⟩) | (go_at_call 14; refine (Unescape_any _ _ (by omega)).mono ?_; rintro e w2 ⟨rfl, hb2⟩) | (go_at_call 9; go_in))
      have B2 : Below w.heap.size w w2 := HB.trans (Below.trans (hb1.mono HB.size) (hb2.mono (Nat.le_trans HB.size hb1.size)))
      clear F1 CE hb1 hb2
      go_loop [8, 9] (fun n i => ∃ j m : Nat, j ≤ s.size ∧ i = .int .i64 j ∧ n = .int .i64 (m : Int) ∧ m = (escL false ((lOf s).take j)).length) (fun _ i => s.size - (intOf i).toNat)
      case atStart => exact ⟨0, 0, Nat.zero_le _, rfl, rfl, rfl⟩
      case round =>
        obtain ⟨j, m, hj, rfl, rfl, hm⟩ := hrel
        have hml : m ≤ 6291456 := by
          have := escL_len false ((lOf s).take j)
          rw [List.length_take, lOf_length] at this
          omega
        by_cases hlt : j < s.size
        · have ix : ∀ w : World, (Instr.index 9 (.string s) (.int .i64 (j : Int))).run Try.prog w = .ok (.int .u8 (ch s j : Int)) w := fun w => idx (w := w) s j hlt .i64
          have hst := esc_take false s j hlt
          rw [← hm] at hst
          have cs := escC_cases false (ch s j)
          clear hm
          rcases cs with h | h | h | h | ⟨h, _⟩ | ⟨h, _⟩ | ⟨h, _⟩ | ⟨h1, h2⟩
          · have el : (escC false (ch s j)).length = 5 := by rw [h]; rfl
            have q38 : ((ch s j : Int) == 38) = true := by simp; omega
            have q13 : ((ch s j : Int) == 13) = false := by simp; omega
            have q60 : ((ch s j : Int) == 60) = false := by simp; omega
            have q62 : ((ch s j : Int) == 62) = false := by simp; omega
            rw [el] at hst
            have h' : Hid (ch s j = 38) := h
            clear h el
            go_wp2_with fail
            go_round
            case rel => exact ⟨j + 1, m + 5, by omega, by go_num, by go_num, hst.symm⟩
            case measure => simp [intOf]; omega
          · have el : (escC false (ch s j)).length = 4 := by rw [h]; rfl
            have q38 : ((ch s j : Int) == 38) = false := by simp; omega
            have q13 : ((ch s j : Int) == 13) = false := by simp; omega
            have q60 : ((ch s j : Int) == 60) = true := by simp; omega
            have q62 : ((ch s j : Int) == 62) = false := by simp; omega
            rw [el] at hst
            have h' : Hid (ch s j = 60) := h
            clear h el
            go_wp2_with fail
            go_round
            case rel => exact ⟨j + 1, m + 4, by omega, by go_num, by go_num, hst.symm⟩
            case measure => simp [intOf]; omega
          · have el : (escC false (ch s j)).length = 4 := by rw [h]; rfl
            have q38 : ((ch s j : Int) == 38) = false := by simp; omega
            have q13 : ((ch s j : Int) == 13) = false := by simp; omega
            have q60 : ((ch s j : Int) == 60) = false := by simp; omega
            have q62 : ((ch s j : Int) == 62) = true := by simp; omega
            rw [el] at hst
            have h' : Hid (ch s j = 62) := h
            clear h el
            go_wp2_with fail
            go_round
            case rel => exact ⟨j + 1, m + 4, by omega, by go_num, by go_num, hst.symm⟩
            case measure => simp [intOf]; omega
          · have el : (escC false (ch s j)).length = 5 := by rw [h]; rfl
            have q38 : ((ch s j : Int) == 38) = false := by simp; omega
            have q13 : ((ch s j : Int) == 13) = true := by simp; omega
            have q60 : ((ch s j : Int) == 60) = false := by simp; omega
            have q62 : ((ch s j : Int) == 62) = false := by simp; omega
            rw [el] at hst
            have h' : Hid (ch s j = 13) := h
            clear h el
            go_wp2_with fail
            go_round
            case rel => exact ⟨j + 1, m + 5, by omega, by go_num, by go_num, hst.symm⟩
            case measure => simp [intOf]; omega
          · cases h
          · cases h
          · cases h
          · have el : (escC false (ch s j)).length = 1 := by rw [escC_else false _ h1 h2]; rfl
            have q38 : ((ch s j : Int) == 38) = false := by simp; omega
            have q13 : ((ch s j : Int) == 13) = false := by simp; omega
            have q60 : ((ch s j : Int) == 60) = false := by simp; omega
            have q62 : ((ch s j : Int) == 62) = false := by simp; omega
            rw [el] at hst
            clear el h1 h2
            go_wp2_with fail
            go_round
            case rel => exact ⟨j + 1, m + 1, by omega, by go_num, by go_num, hst.symm⟩
            case measure => simp [intOf]; omega
        · obtain rfl : j = s.size := by omega
          rw [take_all] at hm
          have F3' : Hid (t.size = m) := F3.out.trans hm.symm
          clear F3 hm hlt hj
          go_wp2_with fail
          go_loop [11] (fun i => ∃ j : Nat, j ≤ t.size ∧ i = .int .i64 j) (fun i => t.size - (intOf i).toNat)
          case atStart => exact ⟨0, Nat.zero_le _, rfl⟩
          case round =>
            obtain ⟨j, hj, rfl⟩ := hrel
            by_cases hlt : j < t.size
            · have ix : ∀ w : World, (Instr.index 9 (.string t) (.int .i64 (j : Int))).run Try.prog w = .ok (.int .u8 (ch t j : Int)) w := fun w => idx (w := w) t j hlt .i64
              have hc := F2.out j hlt
              have q60 : ((ch t j : Int) == 60) = false := by simp; omega
              have q62 : ((ch t j : Int) == 62) = false := by simp; omega
              have q13 : ((ch t j : Int) == 13) = false := by simp; omega
              clear hc
              go_wp2_with fail
              go_round
              case rel => exact ⟨j + 1, by omega, by go_num⟩
              case measure => simp [intOf]; omega
            · obtain rfl : j = t.size := by omega
              have hF : (t.size : Int) = (m : Int) := by have := F3'.out; omega
              go_wp2_with fail
              go_roundw
              case rel => exact ⟨1, by omega, by go_num, B2⟩
              case measure => simp [intOf]
    · obtain ⟨t, ht⟩ : ∃ t, t = sOf (escL true (lOf s)) := ⟨_, rfl⟩
      have CE : ∀ w : World, Calls Try.prog 15 #[.string s, .bool true] w fun e w' => e = .returned (.string t) ∧ Below w.heap.size w w' := fun w => by rw [ht]; exact Escape_any s true w (by omega)
      have F1 := there_facts s true
      have F2 := there_clean s true
      have F3 : t.size = (escL true (lOf s)).length := by rw [ht, sOf_size]
      rw [← ht] at F1 F2
      have hlen := escL_len true (lOf s)
      rw [lOf_length] at hlen
      have hts : t.size ≤ 6291456 := by omega
      have F2 : Hid (∀ i, i < t.size → ¬ ch t i = 60 ∧ ¬ ch t i = 62 ∧ ¬ ch t i = 13 ∧ (true = true → ¬ ch t i = 34 ∧ ¬ ch t i = 9 ∧ ¬ ch t i = 10)) := F2
      have F3 : Hid (t.size = (escL true (lOf s)).length) := F3
      clear ht hlen
      go_wp2_with (first | (go_at_call 15; refine (CE _).mono ?_; rintro e w1 ⟨rfl, hb1⟩) | (go_at_call 14; refine (Unescape_any _ _ (by omega)).mono ?_; rintro e w2 ⟨rfl, hb2⟩) | (go_at_call 9; go_in))
      have B2 : Below w.heap.size w w2 := HB.trans (Below.trans (hb1.mono HB.size) (hb2.mono (Nat.le_trans HB.size hb1.size)))
      clear F1 CE hb1 hb2
      go_loop [8, 9] (fun n i => ∃ j m : Nat, j ≤ s.size ∧ i = .int .i64 j ∧ n = .int .i64 (m : Int) ∧ m = (escL true ((lOf s).take j)).length) (fun _ i => s.size - (intOf i).toNat)
      case atStart => exact ⟨0, 0, Nat.zero_le _, rfl, rfl, rfl⟩
      case round =>
        obtain ⟨j, m, hj, rfl, rfl, hm⟩ := hrel
        have hml : m ≤ 6291456 := by
          have := escL_len true ((lOf s).take j)
          rw [List.length_take, lOf_length] at this
          omega
        by_cases hlt : j < s.size
        · have ix : ∀ w : World, (Instr.index 9 (.string s) (.int .i64 (j : Int))).run Try.prog w = .ok (.int .u8 (ch s j : Int)) w := fun w => idx (w := w) s j hlt .i64
          have hst := esc_take true s j hlt
          rw [← hm] at hst
          have cs := escC_cases true (ch s j)
          clear hm
          rcases cs with h | h | h | h | ⟨_, h⟩ | ⟨_, h⟩ | ⟨_, h⟩ | ⟨h1, h2⟩
          · have el : (escC true (ch s j)).length = 5 := by rw [h]; rfl
            have q38 : ((ch s j : Int) == 38) = true := by simp; omega
            have q13 : ((ch s j : Int) == 13) = false := by simp; omega
            have q60 : ((ch s j : Int) == 60) = false := by simp; omega
            have q62 : ((ch s j : Int) == 62) = false := by simp; omega
            have q34 : ((ch s j : Int) == 34) = false := by simp; omega
            have q9 : ((ch s j : Int) == 9) = false := by simp; omega
            have q10 : ((ch s j : Int) == 10) = false := by simp; omega
            rw [el] at hst
            have h' : Hid (ch s j = 38) := h
            clear h el
            go_wp2_with fail
            go_round
            case rel => exact ⟨j + 1, m + 5, by omega, by go_num, by go_num, hst.symm⟩
            case measure => simp [intOf]; omega
          · have el : (escC true (ch s j)).length = 4 := by rw [h]; rfl
            have q38 : ((ch s j : Int) == 38) = false := by simp; omega
            have q13 : ((ch s j : Int) == 13) = false := by simp; omega
            have q60 : ((ch s j : Int) == 60) = true := by simp; omega
            have q62 : ((ch s j : Int) == 62) = false := by simp; omega
            have q34 : ((ch s j : Int) == 34) = false := by simp; omega
            have q9 : ((ch s j : Int) == 9) = false := by simp; omega
            have q10 : ((ch s j : Int) == 10) = false := by simp; omega
            rw [el] at hst
            have h' : Hid (ch s j = 60) := h
            clear h el
            go_wp2_with fail
            go_round
            case rel => exact ⟨j + 1, m + 4, by omega, by go_num, by go_num, hst.symm⟩
            case measure => simp [intOf]; omega
          · have el : (escC true (ch s j)).length = 4 := by rw [h]; rfl
            have q38 : ((ch s j : Int) == 38) = false := by simp; omega
            have q13 : ((ch s j : Int) == 13) = false := by simp; omega
            have q60 : ((ch s j : Int) == 60) = false := by simp; omega
            have q62 : ((ch s j : Int) == 62) = true := by simp; omega
            have q34 : ((ch s j : Int) == 34) = false := by simp; omega
            have q9 : ((ch s j : Int) == 9) = false := by simp; omega
            have q10 : ((ch s j : Int) == 10) = false := by simp; omega
            rw [el] at hst
            have h' : Hid (ch s j = 62) := h
            clear h el
            go_wp2_with fail
            go_round
            case rel => exact ⟨j + 1, m + 4, by omega, by go_num, by go_num, hst.symm⟩
            case measure => simp [intOf]; omega
          · have el : (escC true (ch s j)).length = 5 := by rw [h]; rfl
            have q38 : ((ch s j : Int) == 38) = false := by simp; omega
            have q13 : ((ch s j : Int) == 13) = true := by simp; omega
            have q60 : ((ch s j : Int) == 60) = false := by simp; omega
            have q62 : ((ch s j : Int) == 62) = false := by simp; omega
            have q34 : ((ch s j : Int) == 34) = false := by simp; omega
            have q9 : ((ch s j : Int) == 9) = false := by simp; omega
            have q10 : ((ch s j : Int) == 10) = false := by simp; omega
            rw [el] at hst
            have h' : Hid (ch s j = 13) := h
            clear h el
            go_wp2_with fail
            go_round
            case rel => exact ⟨j + 1, m + 5, by omega, by go_num, by go_num, hst.symm⟩
            case measure => simp [intOf]; omega
          · have el : (escC true (ch s j)).length = 6 := by rw [h]; rfl
            have q38 : ((ch s j : Int) == 38) = false := by simp; omega
            have q13 : ((ch s j : Int) == 13) = false := by simp; omega
            have q60 : ((ch s j : Int) == 60) = false := by simp; omega
            have q62 : ((ch s j : Int) == 62) = false := by simp; omega
            have q34 : ((ch s j : Int) == 34) = true := by simp; omega
            have q9 : ((ch s j : Int) == 9) = false := by simp; omega
            have q10 : ((ch s j : Int) == 10) = false := by simp; omega
            rw [el] at hst
            have h' : Hid (ch s j = 34) := h
            clear h el
            go_wp2_with fail
            go_round
            case rel => exact ⟨j + 1, m + 6, by omega, by go_num, by go_num, hst.symm⟩
            case measure => simp [intOf]; omega
          · have el : (escC true (ch s j)).length = 4 := by rw [h]; rfl
            have q38 : ((ch s j : Int) == 38) = false := by simp; omega
            have q13 : ((ch s j : Int) == 13) = false := by simp; omega
            have q60 : ((ch s j : Int) == 60) = false := by simp; omega
            have q62 : ((ch s j : Int) == 62) = false := by simp; omega
            have q34 : ((ch s j : Int) == 34) = false := by simp; omega
            have q9 : ((ch s j : Int) == 9) = true := by simp; omega
            have q10 : ((ch s j : Int) == 10) = false := by simp; omega
            rw [el] at hst
            have h' : Hid (ch s j = 9) := h
            clear h el
            go_wp2_with fail
            go_round
            case rel => exact ⟨j + 1, m + 4, by omega, by go_num, by go_num, hst.symm⟩
            case measure => simp [intOf]; omega
          · have el : (escC true (ch s j)).length = 5 := by rw [h]; rfl
            have q38 : ((ch s j : Int) == 38) = false := by simp; omega
            have q13 : ((ch s j : Int) == 13) = false := by simp; omega
            have q60 : ((ch s j : Int) == 60) = false := by simp; omega
            have q62 : ((ch s j : Int) == 62) = false := by simp; omega
            have q34 : ((ch s j : Int) == 34) = false := by simp; omega
            have q9 : ((ch s j : Int) == 9) = false := by simp; omega
            have q10 : ((ch s j : Int) == 10) = true := by simp; omega
            rw [el] at hst
            have h' : Hid (ch s j = 10) := h
            clear h el
            go_wp2_with fail
            go_round
            case rel => exact ⟨j + 1, m + 5, by omega, by go_num, by go_num, hst.symm⟩
            case measure => simp [intOf]; omega
          · have el : (escC true (ch s j)).length = 1 := by rw [escC_else true _ h1 h2]; rfl
            have h3 := h2 rfl
            have q38 : ((ch s j : Int) == 38) = false := by simp; omega
            have q13 : ((ch s j : Int) == 13) = false := by simp; omega
            have q60 : ((ch s j : Int) == 60) = false := by simp; omega
            have q62 : ((ch s j : Int) == 62) = false := by simp; omega
            have q34 : ((ch s j : Int) == 34) = false := by simp; omega
            have q9 : ((ch s j : Int) == 9) = false := by simp; omega
            have q10 : ((ch s j : Int) == 10) = false := by simp; omega
            rw [el] at hst
            clear el h1 h2
            go_wp2_with fail
            go_round
            case rel => exact ⟨j + 1, m + 1, by omega, by go_num, by go_num, hst.symm⟩
            case measure => simp [intOf]; omega
        · obtain rfl : j = s.size := by omega
          rw [take_all] at hm
          have F3' : Hid (t.size = m) := F3.out.trans hm.symm
          clear F3 hm hlt hj
          go_wp2_with fail
          go_loop [11] (fun i => ∃ j : Nat, j ≤ t.size ∧ i = .int .i64 j) (fun i => t.size - (intOf i).toNat)
          case atStart => exact ⟨0, Nat.zero_le _, rfl⟩
          case round =>
            obtain ⟨j, hj, rfl⟩ := hrel
            by_cases hlt : j < t.size
            · have ix : ∀ w : World, (Instr.index 9 (.string t) (.int .i64 (j : Int))).run Try.prog w = .ok (.int .u8 (ch t j : Int)) w := fun w => idx (w := w) t j hlt .i64
              have hc := F2.out j hlt
              have q60 : ((ch t j : Int) == 60) = false := by simp; omega
              have q62 : ((ch t j : Int) == 62) = false := by simp; omega
              have q13 : ((ch t j : Int) == 13) = false := by simp; omega
              have hc3 := hc.2.2.2 (by simp)
              have q34 : ((ch t j : Int) == 34) = false := by simp; omega
              have q9 : ((ch t j : Int) == 9) = false := by simp; omega
              have q10 : ((ch t j : Int) == 10) = false := by simp; omega
              clear hc
              go_wp2_with fail
              go_round
              case rel => exact ⟨j + 1, by omega, by go_num⟩
              case measure => simp [intOf]; omega
            · obtain rfl : j = t.size := by omega
              have hF : (t.size : Int) = (m : Int) := by have := F3'.out; omega
              go_wp2_with fail
              go_roundw
              case rel => exact ⟨2, by omega, by go_num, B2⟩
              case measure => simp [intOf]
    · go_wp2_with fail
      go_ret
      exact ⟨rfl, HB⟩
end Go.Proofs.Ythiilkmnbjgoaaa
