/- The walk of TextQuoted. -/
import Derived.Test.YthiilkmnbjgoaaaQMath
import Derived.Deep.DeepCutAuto
namespace Go.Proofs.Ythiilkmnbjgoaaa
open Go.ChangeShapes Go.WideShapes Go.ChangeAt Go.RowKit

theorem str_ne (s : ByteArray) (h : 0 < s.size) : (s.toList == []) = false := by
  rw [ByteArray.toList_eq]
  have : s.data.toList.length = s.size := tl_len s
  cases hh : s.data.toList with
  | nil => rw [hh] at this; simp at this; omega
  | cons a b => rfl
theorem empty_toList : ({ data := #[] } : ByteArray).toList = [] := by rw [ByteArray.toList_eq]
theorem sOf_nil : sOf [] = ⟨#[]⟩ := rfl
set_option maxRecDepth 100000 in
set_option maxHeartbeats 40000000 in
theorem quoted_walk (s b : ByteArray) (cut : Int) (hs : s.size ≤ 1048576) (hb : b.size ≤ 1048576) (w : World) :
    Calls Try.prog 4 #[.string s, .string b, .int .i64 cut] w fun e w' => e = .returned (.bool true) ∧ Below w.heap.size w w' := by
  obtain ⟨q, hq⟩ : ∃ q, q = sOf (quoteL (lOf s)) := ⟨_, rfl⟩
  have CQ : ∀ w : World, Calls Try.prog 10 #[.string s] w fun e w' => e = .returned (.string q) ∧ Below w.heap.size w w' := fun w => by rw [hq]; exact Quote_any s w (by omega)
  have Q1 := quote_facts s b
  have Q2 := quote_cut s
  have Q3 := quote_print s
  have Q4 := quote_size s
  rw [← hq] at Q1 Q2 Q3 Q4
  obtain ⟨h, hh⟩ : ∃ h, h = sOf (hexL (lOf s)) := ⟨_, rfl⟩
  have CH : ∀ w : World, Calls Try.prog 12 #[.string s] w fun e w' => e = .returned (.string h) ∧ Below w.heap.size w w' := fun w => by rw [hh]; exact Hex_any s w (by omega)
  have H1 := unh_hexL s
  have H2 := unh_up s
  have H3 := unh_less s
  have H4 : h.size = 2 * s.size := by rw [hh, sOf_size, hexL_length, lOf_length]
  have H5 : lOf h = hexL (lOf s) := by rw [hh, lOf_sOf _ (fun b hb => (hexL_lt _ (lOf_lt s) b hb).1)]
  rw [← hh] at H1 H3
  rw [← H5] at H2
  have S1 : sOf (lOf s) = s := sOf_lOf s
  have S2 := sOf_nil
  clear hq hh H5
  have Q2h : Hid (∀ k, k < q.size → unqN (q.extract 0 k) = ([], k, 23)) := Q2
  have Q3h : Hid (∀ i, i < q.size → 32 ≤ ch q i ∧ ch q i ≤ 126) := Q3
  have H3h : Hid (0 < s.size → unhN (h.extract 1 (2 * s.size)) = ([], 1, 2 * s.size - 1)) := H3
  clear Q2 Q3 H3
  have qb : (q ++ b).size = q.size + b.size := ByteArray.size_append
  have d1 : decide ((q.size : Int) < (s.size : Int) + 2) = false := by simp; omega
  go_enter Try.func4, Try.ntmps4
  go_wp2_with (first | (go_at_call 10; refine (CQ _).mono ?_; rintro e w1 ⟨rfl, hb1⟩) | (go_at_call 11; refine (Unquote_any _ _ (by rw [qb]; omega)).mono ?_; rintro e w2 ⟨rfl, hb2⟩) | (go_at_call 9; go_in))
  clear Q1 qb d1
  have B2 : Below w.heap.size w w2 := hb1.trans (hb2.mono hb1.size)
  go_loop [11] (fun i => ∃ k : Nat, k ≤ q.size ∧ i = .int .i64 k) (fun i => q.size - (intOf i).toNat)
  case atStart => exact ⟨0, Nat.zero_le _, rfl⟩
  case round =>
    obtain ⟨k, hk, rfl⟩ := hrel
    by_cases hlt : k < q.size
    · have ix : ∀ w : World, (Instr.index 9 (.string q) (.int .i64 (k : Int))).run Try.prog w = .ok (.int .u8 (ch q k : Int)) w := fun w => idx (w := w) q k hlt .i64
      have hr := Q3h.out k hlt
      have e1 : decide ((ch q k : Int) < 32) = false := by simp; omega
      have e2 : decide (126 < (ch q k : Int)) = false := by simp; omega
      clear hr
      go_wp2_with fail
      go_round
      case rel => exact ⟨k + 1, by omega, by go_num⟩
      case measure => simp [intOf]; omega
    · obtain rfl : k = q.size := by omega
      clear Q3h
      go_upto_region 10 with fail
      go_cut [84] (fun v wx => v = .bool (decide (0 ≤ cut) && decide (cut < (q.size : Int))) ∧ wx = w2)
      case first =>
        cases g1 : decide (0 ≤ cut)
        · go_wp2_with fail
          go_meet
          case rel => exact ⟨by rw [g1]; simp, rfl⟩
        · go_wp2_with fail
          go_meet
          case rel => exact ⟨by rw [g1]; simp, rfl⟩
      case rest =>
      obtain ⟨rfl, rfl⟩ := hcut
      go_upto_if 84 with fail
      go_cut [12, 13, 14, 15] (fun _ _ _ _ wx => Below w.heap.size w wx)
      case first =>
        cases g : (decide (0 ≤ cut) && decide (cut < (q.size : Int)))
        · go_wp2_with fail
          go_meet
          case rel => exact B2
        · simp only [Bool.and_eq_true, decide_eq_true_eq] at g
          obtain ⟨n, rfl⟩ : ∃ n : Nat, cut = (n : Int) := ⟨cut.toNat, by omega⟩
          have hn : n < q.size := by omega
          have F := Q2h.out n hn
          have ez : (q.extract 0 n).size = n := by rw [size_ext q 0 n (by omega)]; omega
          have hsl : ∀ w : World, (Instr.slice 9 (.string q) none (some (.int .i64 (n : Int))) none).run Try.prog w = .ok (.string (q.extract 0 n)) w := fun w => by
            rw [run_slice_string_to_if w 9 q .i64 _ Try.underlying9, if_pos ⟨by omega, by omega⟩, Int.toNat_natCast]
          clear g
          go_wp2_with (first | (go_at_call 11; refine (Unquote_any _ _ (by rw [ez]; omega)).mono ?_; rintro e w4 ⟨rfl, hb4⟩) | (go_at_call 9; go_in))
          go_meet
          case rel => exact B2.trans (hb4.mono B2.size)
      case rest =>
      clear Q2h
      have B4 : Below w.heap.size w wc := hcut
      clear hcut
      go_wp2_with (go_at_call 12; refine (CH _).mono ?_; rintro e w6 ⟨rfl, hb6⟩)
      have B6 : Below w.heap.size w w6 := B4.trans (hb6.mono B4.size)
      go_loopw [17, 18] (fun v i wr => ∃ k : Nat, k ≤ h.size ∧ i = .int .i64 k ∧ Buf wr w.heap.size v (((lOf h).take k).map upN) ∧ Below w.heap.size w wr) (fun _ i _ => h.size - (intOf i).toNat)
      case atStart => exact ⟨0, Nat.zero_le _, rfl, Buf.nil _ _, B6⟩
      case round =>
        clear hb1 hb2 B2 B4 hb6 B6 CQ CH hk hlt
        obtain ⟨k, hk, rfl, hB, HB⟩ := hrel
        by_cases hlt : k < h.size
        · have ix : ∀ w : World, (Instr.index 9 (.string h) (.int .i64 (k : Int))).run Try.prog w = .ok (.int .u8 (ch h k : Int)) w := fun w => idx (w := w) h k hlt .i64
          obtain ⟨v3, w3, hrun3, hb3, hbel3⟩ := hB.lit [upN (ch h k)] 1 1 rfl (by rw [List.length_map, List.length_take, lOf_length]; simp; omega) HB.size
          have hrun3 : ∀ ty, (Builtin.append_ #[22, 22] ty #[u17, .slice (some ⟨wr.heap.size, 0, none⟩) 1 1]).run Try.prog (wr.alloc (.cells #[.int .u8 ((upN (ch h k) : Nat) : Int)] 5)) = .ok v3 w3 := hrun3
          have hRel : Buf w3 w.heap.size v3 (((lOf h).take (k + 1)).map upN) := by
            rw [take_succ_ch h k hlt, List.map_append]; exact hb3
          have hc := ch_lt h k
          clear hb3
          by_cases g1 : 97 ≤ ch h k
          · by_cases g2 : ch h k ≤ 102
            · have d1 : decide (97 ≤ (ch h k : Int)) = true := by simp; omega
              have d2 : decide ((ch h k : Int) ≤ 102) = true := by simp; omega
              have hrun : ∀ ty, (Builtin.append_ #[22, 22] ty #[u17, .slice (some ⟨wr.heap.size, 0, none⟩) 1 1]).run Try.prog (wr.alloc (.cells #[.int .u8 ((ch h k : Int) - 32)] 5)) = .ok v3 w3 := by
                have e : ((ch h k : Int) - 32 : Int) = ((upN (ch h k) : Nat) : Int) := by unfold upN; split <;> omega
                rw [e]; exact hrun3
              go_wp2_with (at_builtin; refine (wpList_append_ex (by rfl) _ _ _ _ (by rfl) _ _ (by rfl) (by rfl) (fun a b => a = v3 ∧ b = w3) ⟨v3, w3, hrun, rfl, rfl⟩ ?_); rintro _ _ ⟨rfl, rfl⟩)
              go_roundw
              case rel => exact ⟨k + 1, by omega, by go_num, hRel, HB.trans hbel3⟩
              case measure => simp [intOf]; omega
            · have d1 : decide (97 ≤ (ch h k : Int)) = true := by simp; omega
              have d2 : decide ((ch h k : Int) ≤ 102) = false := by simp; omega
              have hrun : ∀ ty, (Builtin.append_ #[22, 22] ty #[u17, .slice (some ⟨wr.heap.size, 0, none⟩) 1 1]).run Try.prog (wr.alloc (.cells #[.int .u8 ((ch h k : Int))] 5)) = .ok v3 w3 := by
                have e : ((ch h k : Int) : Int) = ((upN (ch h k) : Nat) : Int) := by unfold upN; split <;> omega
                rw [e]; exact hrun3
              go_wp2_with (at_builtin; refine (wpList_append_ex (by rfl) _ _ _ _ (by rfl) _ _ (by rfl) (by rfl) (fun a b => a = v3 ∧ b = w3) ⟨v3, w3, hrun, rfl, rfl⟩ ?_); rintro _ _ ⟨rfl, rfl⟩)
              go_roundw
              case rel => exact ⟨k + 1, by omega, by go_num, hRel, HB.trans hbel3⟩
              case measure => simp [intOf]; omega
          · have d1 : decide (97 ≤ (ch h k : Int)) = false := by simp; omega
            have hrun : ∀ ty, (Builtin.append_ #[22, 22] ty #[u17, .slice (some ⟨wr.heap.size, 0, none⟩) 1 1]).run Try.prog (wr.alloc (.cells #[.int .u8 ((ch h k : Int))] 5)) = .ok v3 w3 := by
              have e : ((ch h k : Int) : Int) = ((upN (ch h k) : Nat) : Int) := by unfold upN; split <;> omega
              rw [e]; exact hrun3
            go_wp2_with (at_builtin; refine (wpList_append_ex (by rfl) _ _ _ _ (by rfl) _ _ (by rfl) (by rfl) (fun a b => a = v3 ∧ b = w3) ⟨v3, w3, hrun, rfl, rfl⟩ ?_); rintro _ _ ⟨rfl, rfl⟩)
            go_roundw
            case rel => exact ⟨k + 1, by omega, by go_num, hRel, HB.trans hbel3⟩
            case measure => simp [intOf]; omega
        · obtain rfl : k = h.size := by omega
          rw [take_all] at hB
          have hcv := hB.conv
          have zz : (sOf ((lOf h).map upN)).size = h.size := by rw [sOf_size, List.length_map, lOf_length]
          have e0 := empty_toList
          by_cases hz : s.size = 0
          · obtain rfl : s = ByteArray.empty := by
              apply ba_ext
              have : s.data.toList.length = 0 := by rw [tl_len]; exact hz
              rw [List.length_eq_zero_iff.1 this]; rfl
            have e1 : ByteArray.empty.toList = [] := empty_toList
            go_wp2_with (first | (go_at_call 13; refine (Unhex_any _ _ (by first | (rw [zz]; omega) | omega)).mono ?_; rintro e w5 ⟨rfl, hb5⟩; (try have hcv5 := (hB.below hb5).conv); have HB := HB.trans (hb5.mono HB.size)) | (go_at_call 9; go_in))
            go_ret
            exact ⟨rfl, HB⟩
          · have e1 := str_ne s (by omega)
            have F := H3h.out (by omega)
            have hc1 : ((2 * s.size - 1 : Nat) : Int) = 2 * (s.size : Int) - 1 := by omega
            have ez : (h.extract 1 (2 * s.size)).size = 2 * s.size - 1 := size_ext h 1 _ (by omega)
            have hsl : ∀ w : World, (Instr.slice 9 (.string h) (some (.int .i64 1)) none none).run Try.prog w = .ok (.string (h.extract 1 (2 * s.size))) w := fun w => by
              have := slice_from h 1 (by omega) w
              rw [H4] at this
              exact this
            go_wp2_with (first | (go_at_call 13; refine (Unhex_any _ _ (by first | (rw [zz]; omega) | (rw [ez]; omega) | omega)).mono ?_; rintro e w5 ⟨rfl, hb5⟩; (try have hcv5 := (hB.below hb5).conv); have HB := HB.trans (hb5.mono HB.size)) | (go_at_call 9; go_in))
            go_ret
            exact ⟨rfl, HB⟩
end Go.Proofs.Ythiilkmnbjgoaaa
