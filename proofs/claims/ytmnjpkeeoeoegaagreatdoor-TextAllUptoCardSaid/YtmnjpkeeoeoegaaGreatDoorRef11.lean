/- The document's answer: Quote. -/
import Derived.Test.YtmnjpkeeoeoegaaGreatDoorRef10
import Derived.Test.YtmnjpkeeoeoegaaGreatDoorQuo6
namespace Go.Proofs.YtmnjpkeeoeoegaaGreatDoor
open Go.ChangeShapes Go.WideShapes Go.ChangeAt Go.RowKit

abbrev meansS : ByteArray := ⟨#[92, 34, 10, 13, 9]⟩
/-- The last place below j at which the byte stands among the means; -1: at none. -/
def kOf (c : Nat) : Nat → Int
  | 0 => -1
  | j + 1 => if ch meansS j = c then (j : Int) else kOf c j
theorem means_vals : ch meansS 0 = 92 ∧ ch meansS 1 = 34 ∧ ch meansS 2 = 10 ∧ ch meansS 3 = 13 ∧ ch meansS 4 = 9 := by decide
theorem kOf_none (c : Nat) (h1 : ¬ c = 92) (h2 : ¬ c = 34) (h3 : ¬ c = 10) (h4 : ¬ c = 13) (h5 : ¬ c = 9) : kOf c 5 = -1 := by
  obtain ⟨m0, m1, m2, m3, m4⟩ := means_vals
  simp only [kOf, m0, m1, m2, m3, m4]
  rw [if_neg (by omega), if_neg (by omega), if_neg (by omega), if_neg (by omega), if_neg (by omega)]
theorem le_of4 {n k m : Nat} (h : n + 4 ≤ m) (hk : k ≤ 4) : n + k ≤ m := by omega
theorem buf_one (w : World) (c : Nat) : Buf (w.alloc (.cells #[.int .u8 (c : Int)] 5)) w.heap.size (.slice (some ⟨w.heap.size, 0, none⟩) 1 1) [c] :=
  ⟨by simp, .inr ⟨w.heap.size, 1, #[.int .u8 (c : Int)], rfl, Nat.le_refl _, heap_alloc_new w _, Nat.le_refl _, by decide, rfl, rfl⟩⟩
set_option maxRecDepth 100000 in
set_option maxHeartbeats 4000000 in
theorem rQuote (s : ByteArray) (w : World) (hs : s.size ≤ 17592186044416) : Calls Tryz.prog 27 #[.string s] w fun e w' => e = .returned (.string (sOf (quoteL (lOf s)))) ∧ Below w.heap.size w w' := by
  go_enter Tryz.func27, Tryz.ntmps27
  go_wp2_with fail
  go_loopw [3, 4] (fun v i wr => ∃ k : Nat, k ≤ s.size ∧ i = .int .i64 k ∧ Buf wr w.heap.size v ([34] ++ itemsL ((lOf s).take k)) ∧ Below w.heap.size w wr) (fun _ i _ => s.size - (intOf i).toNat)
  case atStart => exact ⟨0, Nat.zero_le _, rfl, buf_one w 34, rbel _ _⟩
  case round =>
    obtain ⟨i, hi, rfl, hB, HB⟩ := hrel
    by_cases hlt : i < s.size
    · obtain ⟨c, hcx⟩ : ∃ c, Hid (c = ch s i) := ⟨_, rfl⟩
      have ix : ∀ w : World, (Instr.index 9 (.string s) (.int .i64 (i : Int))).run Tryz.prog w = .ok (.int .u8 (c : Int)) w := fun w => by rw [hcx.out]; exact idx (w := w) s i hlt .i64
      have hc : c < 256 := by rw [hcx.out]; exact ch_lt s i
      have hlen : ([34] ++ itemsL ((lOf s).take i)).length + 4 ≤ 140737488355328 := by
        have := itemsL_len ((lOf s).take i)
        rw [List.length_take, lOf_length] at this
        rw [List.length_append]
        simp
        omega
      have fin : ∀ (v' : Value) (w' : World), Buf w' w.heap.size v' ([34] ++ itemsL ((lOf s).take i) ++ itemL c) → Buf w' w.heap.size v' ([34] ++ itemsL ((lOf s).take (i + 1))) := fun v' w' h => by
        rw [take_succ_ch s i hlt, ← hcx.out]
        unfold itemsL at h ⊢
        rw [List.flatMap_append, ← List.append_assoc]
        simpa using h
      have d0 : decide ((i : Int) < (s.size : Int)) = true := by simp; omega
      go_wp2_with fail
      go_loopw [5, 6] (fun kk jj w2 => ∃ j : Nat, j ≤ 5 ∧ jj = .int .i64 (j : Int) ∧ kk = .int .i64 (kOf c j) ∧ Buf w2 w.heap.size u3 ([34] ++ itemsL ((lOf s).take i)) ∧ Below w.heap.size w w2) (fun _ jj _ => 5 - (intOf jj).toNat)
      case atStart => exact ⟨0, by omega, rfl, rfl, hB, HB⟩
      case round =>
        clear hB HB
        rename World => w2
        obtain ⟨j, hj, rfl, rfl, hB, HB⟩ := hrel
        by_cases hj5 : j < 5
        · have d1 : decide ((j : Int) < 5) = true := by simp; omega
          have im : ∀ w : World, (Instr.index 9 (.string meansS) (.int .i64 (j : Int))).run Tryz.prog w = .ok (.int .u8 (ch meansS j : Int)) w := fun w => idx (w := w) meansS j hj5 .i64
          by_cases hm : ch meansS j = c
          · have ec : ((ch meansS j : Int) == (c : Int)) = true := by simp; omega
            have hv : Hid (kOf c (j + 1) = (j : Int)) := by show _ = _; rw [kOf, if_pos hm]
            clear hm
            go_wp2_with fail
            go_quiet (fail)
            go_wp2_with fail
            go_round
            case rel => exact ⟨j + 1, by omega, by go_num, by rw [hv.out], hB.below (bdN (Below.refl _ _) _), bdN HB _⟩
            case measure => simp [intOf]; omega
          · have ec : ((ch meansS j : Int) == (c : Int)) = false := by simp; omega
            have hv : Hid (kOf c (j + 1) = kOf c j) := by show _ = _; rw [kOf, if_neg hm]
            clear hm
            go_wp2_with fail
            go_quiet (fail)
            go_wp2_with fail
            go_round
            case rel => exact ⟨j + 1, by omega, by go_num, by rw [hv.out], hB.below (bdN (Below.refl _ _) _), bdN HB _⟩
            case measure => simp [intOf]; omega
        · obtain rfl : j = 5 := by omega
          have d1 : decide ((5 : Int) < 5) = false := by decide
          have : c = 92 ∨ c = 34 ∨ c = 10 ∨ c = 13 ∨ c = 9 ∨ (¬ c = 92 ∧ ¬ c = 34 ∧ ¬ c = 10 ∧ ¬ c = 13 ∧ ¬ c = 9) := by omega
          rcases this with rfl | rfl | rfl | rfl | rfl | ⟨h1, h2, h3, h4, h5⟩
          · have hk : kOf 92 5 = 0 := by decide
            obtain ⟨v3, w3, hrun, hb3, hbel3⟩ := hB.lit [92, 92] 2 2 rfl (le_of4 hlen (by decide)) HB.size
            have hrun : ∀ ty, (Builtin.append_ #[45, 45] ty #[u3, .slice (some ⟨w2.heap.size, 0, none⟩) 2 2]).run Tryz.prog (w2.alloc (.cells #[.int .u8 92, .int .u8 92] 5)) = .ok v3 w3 := hrun
            have hb4 := fin _ _ (show Buf w3 w.heap.size v3 ([34] ++ itemsL ((lOf s).take i) ++ itemL 92) from hb3)
            clear hb3 fin hB
            go_wp2_with (first | (at_builtin; refine (wpList_append_ex (by rfl) _ _ _ _ (by rfl) _ _ (by rfl) (by rfl) (fun a b => a = v3 ∧ b = w3) ⟨v3, w3, hrun, rfl, rfl⟩ ?_); rintro _ _ ⟨rfl, rfl⟩))
            go_roundw
            case rel => exact ⟨i + 1, by omega, by go_num, hb4, HB.trans hbel3⟩
            case measure => simp [intOf]; omega
          · have hk : kOf 34 5 = 1 := by decide
            obtain ⟨v3, w3, hrun, hb3, hbel3⟩ := hB.lit [92, 34] 2 2 rfl (le_of4 hlen (by decide)) HB.size
            have hrun : ∀ ty, (Builtin.append_ #[45, 45] ty #[u3, .slice (some ⟨w2.heap.size, 0, none⟩) 2 2]).run Tryz.prog (w2.alloc (.cells #[.int .u8 92, .int .u8 34] 5)) = .ok v3 w3 := hrun
            have hb4 := fin _ _ (show Buf w3 w.heap.size v3 ([34] ++ itemsL ((lOf s).take i) ++ itemL 34) from hb3)
            clear hb3 fin hB
            go_wp2_with (first | (at_builtin; refine (wpList_append_ex (by rfl) _ _ _ _ (by rfl) _ _ (by rfl) (by rfl) (fun a b => a = v3 ∧ b = w3) ⟨v3, w3, hrun, rfl, rfl⟩ ?_); rintro _ _ ⟨rfl, rfl⟩))
            go_roundw
            case rel => exact ⟨i + 1, by omega, by go_num, hb4, HB.trans hbel3⟩
            case measure => simp [intOf]; omega
          · have hk : kOf 10 5 = 2 := by decide
            obtain ⟨v3, w3, hrun, hb3, hbel3⟩ := hB.lit [92, 110] 2 2 rfl (le_of4 hlen (by decide)) HB.size
            have hrun : ∀ ty, (Builtin.append_ #[45, 45] ty #[u3, .slice (some ⟨w2.heap.size, 0, none⟩) 2 2]).run Tryz.prog (w2.alloc (.cells #[.int .u8 92, .int .u8 110] 5)) = .ok v3 w3 := hrun
            have hb4 := fin _ _ (show Buf w3 w.heap.size v3 ([34] ++ itemsL ((lOf s).take i) ++ itemL 10) from hb3)
            clear hb3 fin hB
            go_wp2_with (first | (at_builtin; refine (wpList_append_ex (by rfl) _ _ _ _ (by rfl) _ _ (by rfl) (by rfl) (fun a b => a = v3 ∧ b = w3) ⟨v3, w3, hrun, rfl, rfl⟩ ?_); rintro _ _ ⟨rfl, rfl⟩))
            go_roundw
            case rel => exact ⟨i + 1, by omega, by go_num, hb4, HB.trans hbel3⟩
            case measure => simp [intOf]; omega
          · have hk : kOf 13 5 = 3 := by decide
            obtain ⟨v3, w3, hrun, hb3, hbel3⟩ := hB.lit [92, 114] 2 2 rfl (le_of4 hlen (by decide)) HB.size
            have hrun : ∀ ty, (Builtin.append_ #[45, 45] ty #[u3, .slice (some ⟨w2.heap.size, 0, none⟩) 2 2]).run Tryz.prog (w2.alloc (.cells #[.int .u8 92, .int .u8 114] 5)) = .ok v3 w3 := hrun
            have hb4 := fin _ _ (show Buf w3 w.heap.size v3 ([34] ++ itemsL ((lOf s).take i) ++ itemL 13) from hb3)
            clear hb3 fin hB
            go_wp2_with (first | (at_builtin; refine (wpList_append_ex (by rfl) _ _ _ _ (by rfl) _ _ (by rfl) (by rfl) (fun a b => a = v3 ∧ b = w3) ⟨v3, w3, hrun, rfl, rfl⟩ ?_); rintro _ _ ⟨rfl, rfl⟩))
            go_roundw
            case rel => exact ⟨i + 1, by omega, by go_num, hb4, HB.trans hbel3⟩
            case measure => simp [intOf]; omega
          · have hk : kOf 9 5 = 4 := by decide
            obtain ⟨v3, w3, hrun, hb3, hbel3⟩ := hB.lit [92, 116] 2 2 rfl (le_of4 hlen (by decide)) HB.size
            have hrun : ∀ ty, (Builtin.append_ #[45, 45] ty #[u3, .slice (some ⟨w2.heap.size, 0, none⟩) 2 2]).run Tryz.prog (w2.alloc (.cells #[.int .u8 92, .int .u8 116] 5)) = .ok v3 w3 := hrun
            have hb4 := fin _ _ (show Buf w3 w.heap.size v3 ([34] ++ itemsL ((lOf s).take i) ++ itemL 9) from hb3)
            clear hb3 fin hB
            go_wp2_with (first | (at_builtin; refine (wpList_append_ex (by rfl) _ _ _ _ (by rfl) _ _ (by rfl) (by rfl) (fun a b => a = v3 ∧ b = w3) ⟨v3, w3, hrun, rfl, rfl⟩ ?_); rintro _ _ ⟨rfl, rfl⟩))
            go_roundw
            case rel => exact ⟨i + 1, by omega, by go_num, hb4, HB.trans hbel3⟩
            case measure => simp [intOf]; omega
          · have hk : kOf c 5 = -1 := kOf_none c h1 h2 h3 h4 h5
            by_cases hp : 32 ≤ c ∧ c ≤ 126
            · have q1 : decide (32 ≤ (c : Int)) = true := by simp; omega
              have q2 : decide ((c : Int) ≤ 126) = true := by simp; omega
              have hitem : Hid (itemL c = [c]) := by show _ = _; unfold itemL; rw [if_neg h1, if_neg h2, if_neg h3, if_neg h4, if_neg h5, if_pos hp]
              obtain ⟨v3, w3, hrun, hb3, hbel3⟩ := hB.lit [c] 1 1 rfl (le_of4 hlen (by simp)) HB.size
              have hrun : ∀ ty, (Builtin.append_ #[45, 45] ty #[u3, .slice (some ⟨w2.heap.size, 0, none⟩) 1 1]).run Tryz.prog (w2.alloc (.cells #[.int .u8 (c : Int)] 5)) = .ok v3 w3 := hrun
              rw [← hitem.out] at hb3
              have hb4 := fin _ _ hb3
              clear hb3 fin hB h1 h2 h3 h4 h5 hp
              go_wp2_with (first | (at_builtin; refine (wpList_append_ex (by rfl) _ _ _ _ (by rfl) _ _ (by rfl) (by rfl) (fun a b => a = v3 ∧ b = w3) ⟨v3, w3, hrun, rfl, rfl⟩ ?_); rintro _ _ ⟨rfl, rfl⟩))
              go_roundw
              case rel => exact ⟨i + 1, by omega, by go_num, hb4, HB.trans hbel3⟩
              case measure => simp [intOf]; omega
            · have hitem : Hid (itemL c = [92, 120, hexc (c / 16), hexc (c % 16)]) := by show _ = _; unfold itemL; rw [if_neg h1, if_neg h2, if_neg h3, if_neg h4, if_neg h5, if_neg hp]
              have s1 : ∀ w, Calls Tryz.prog 54 #[.int .u8 (IntKind.u8.wrap ((c : Int) / 16))] w fun e w' => ∃ v, e = .returned v ∧ (v = .int .u8 (hexc (c / 16) : Nat) ∧ w' = w) := fun w => by
                have := rsmall (c / 16) (by omega) w
                rw [show ((c / 16 : Nat) : Int) = IntKind.u8.wrap ((c : Int) / 16) by rw [IntKind.wrap_u8']; omega] at this
                exact this.mono fun e w' ⟨h1, h2⟩ => ⟨_, h1, rfl, h2⟩
              have s2 : ∀ w, Calls Tryz.prog 54 #[.int .u8 ((c : Int).tmod 16)] w fun e w' => ∃ v, e = .returned v ∧ (v = .int .u8 (hexc (c % 16) : Nat) ∧ w' = w) := fun w => by
                have := rsmall (c % 16) (by omega) w
                rw [show ((c % 16 : Nat) : Int) = (c : Int).tmod 16 by rw [Int.tmod_eq_emod_of_nonneg (by omega)]; omega] at this
                exact this.mono fun e w' ⟨h1, h2⟩ => ⟨_, h1, rfl, h2⟩
              obtain ⟨v', w', hrun, hbuf, hbel⟩ := Buf.append (w := (w2.alloc (.cells #[.int .u8 92, .int .u8 120, .int .u8 (hexc (c / 16) : Nat), .int .u8 (hexc (c % 16) : Nat)] 5)).drew) (B := w.heap.size) (v := u3) (L := [34] ++ itemsL ((lOf s).take i)) (tx := 45) (M := [92, 120, hexc (c / 16), hexc (c % 16)])
                (hB.below (bel1 w2 _).drew) (src_lit _ w2.heap.size 4 4 _ rfl (heap_alloc_new w2 _)) hlen (by have := HB.size; simp; omega)
              have HB2 : Hid (Below w.heap.size w w') := HB.trans ((((Below.refl _ w2).alloc HB.size _).drew).trans hbel)
              rw [← hitem.out] at hbuf
              have hb4 := fin _ _ hbuf
              have q0 : Hid (c < 32 ∨ 126 < c) := by show _ ∨ _; omega
              clear hbuf hB hbel hlen fin h1 h2 h3 h4 h5 hp
              by_cases q : 32 ≤ c
              · have q1 : decide (32 ≤ (c : Int)) = true := by simp; omega
                have q2 : decide ((c : Int) ≤ 126) = false := by have := q0.out; simp; omega
                go_wp2_with fail
                go_region_law (first
                  | (refine step_append_ex ?_ (.tmp 25) (.tmp 36) _ _ ?_ _ _ ?_ ?_ (fun a b => a = v' ∧ b = w') ⟨v', w', hrun, rfl, rfl⟩ ?_; rfl; rfl; rfl; rfl; rintro _ _ ⟨rfl, rfl⟩)
                  | (refine step_call1 ?_ _ (.tmp 29) #[5] ?_ ent_small _ ?_ _ (s1 _) ?_; rfl; rfl; rfl; rintro _ _ ⟨rfl, rfl⟩)
                  | (refine step_call1 ?_ _ (.tmp 34) #[5] ?_ ent_small _ ?_ _ (s2 _) ?_; rfl; rfl; rfl; rintro _ _ ⟨rfl, rfl⟩))
                all_goals
                  go_wp2_with fail
                  go_roundw
                  case rel => exact ⟨i + 1, by omega, by go_num, hb4, HB2.out⟩
                  case measure => simp [intOf]; omega
              · have q1 : decide (32 ≤ (c : Int)) = false := by simp; omega
                go_wp2_with fail
                go_region_law (first
                  | (refine step_append_ex ?_ (.tmp 25) (.tmp 36) _ _ ?_ _ _ ?_ ?_ (fun a b => a = v' ∧ b = w') ⟨v', w', hrun, rfl, rfl⟩ ?_; rfl; rfl; rfl; rfl; rintro _ _ ⟨rfl, rfl⟩)
                  | (refine step_call1 ?_ _ (.tmp 29) #[5] ?_ ent_small _ ?_ _ (s1 _) ?_; rfl; rfl; rfl; rintro _ _ ⟨rfl, rfl⟩)
                  | (refine step_call1 ?_ _ (.tmp 34) #[5] ?_ ent_small _ ?_ _ (s2 _) ?_; rfl; rfl; rfl; rintro _ _ ⟨rfl, rfl⟩))
                all_goals
                  go_wp2_with fail
                  go_roundw
                  case rel => exact ⟨i + 1, by omega, by go_num, hb4, HB2.out⟩
                  case measure => simp [intOf]; omega
    · obtain rfl : i = s.size := by omega
      rw [take_all] at hB
      have d0 : decide ((s.size : Int) < (s.size : Int)) = false := by simp
      have hlen := itemsL_len (lOf s)
      rw [lOf_length] at hlen
      obtain ⟨v3, w3, hrun, hb3, hbel3⟩ := hB.lit [34] 1 1 rfl (by simp; omega) HB.size
      have hrun : ∀ ty, (Builtin.append_ #[45, 45] ty #[u3, .slice (some ⟨wr.heap.size, 0, none⟩) 1 1]).run Tryz.prog (wr.alloc (.cells #[.int .u8 34] 5)) = .ok v3 w3 := hrun
      have hcv := hb3.conv
      clear hb3 hB hlen
      go_wp2_with (first | (at_builtin; refine (wpList_append_ex (by rfl) _ _ _ _ (by rfl) _ _ (by rfl) (by rfl) (fun a b => a = v3 ∧ b = w3) ⟨v3, w3, hrun, rfl, rfl⟩ ?_); rintro _ _ ⟨rfl, rfl⟩))
      go_ret
      exact ⟨rfl, HB.trans hbel3⟩
end Go.Proofs.YtmnjpkeeoeoegaaGreatDoor
