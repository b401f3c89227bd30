/- The document's answer: Trim, Blank. -/
import Derived.Test.YtmnjpkeeoeoegaaGreatDoorRef3
namespace Go.Proofs.YtmnjpkeeoeoegaaGreatDoor
open Go.ChangeShapes Go.WideShapes Go.ChangeAt Go.RowKit

section
variable {α : Type} (p : α → Bool)
theorem dw_app_all (a b : List α) (h : a.all p = true) : (a ++ b).dropWhile p = b.dropWhile p := by
  induction a with
  | nil => rfl
  | cons x a ih =>
    rw [List.all_cons, Bool.and_eq_true] at h
    rw [List.cons_append, List.dropWhile_cons, if_pos h.1, ih h.2]
theorem trim_unique (a m b : List α) (ha : a.all p = true) (hb : b.all p = true) (h1 : ∀ x t, m = x :: t → p x = false) (h2 : ∀ x t, m = t ++ [x] → p x = false) :
    (((a ++ m ++ b).reverse.dropWhile p).reverse).dropWhile p = m := by
  rw [List.reverse_append, dw_app_all p _ _ (by rw [List.all_reverse]; exact hb)]
  rcases List.eq_nil_or_concat m with rfl | ⟨t, x, rfl⟩
  · have := dw_app_all p a.reverse [] (by rw [List.all_reverse]; exact ha)
    rw [List.append_nil] at this
    rw [List.append_nil, this]; rfl
  · have hx := h2 x t (by simp)
    simp only [List.concat_eq_append] at *
    rw [List.reverse_append, List.reverse_append]
    simp only [List.reverse_cons, List.reverse_nil, List.nil_append, List.cons_append]
    rw [List.dropWhile_cons, hx]
    simp only [Bool.false_eq_true, if_false]
    rw [List.reverse_cons, List.reverse_append, List.reverse_reverse, List.reverse_reverse, List.append_assoc, dw_app_all p _ _ ha]
    cases ht : t ++ [x] with
    | nil => simp at ht
    | cons y r => rw [List.dropWhile_cons, h1 y r ht]; rfl
end
theorem BLs_ch (s : ByteArray) (i : Nat) (h : i < s.data.toList.length) : BLs.contains s.data.toList[i] = blC (ch s i) := by
  have e : ch s i = s.data.toList[i].toNat := by simp [ch, List.getD, List.getElem?_eq_getElem h]
  have := (one_facts (ch s i) (ch_lt s i)).2.2.2.2
  rw [← this, e]
  congr 1
  exact (UInt8.ofNat_toNat).symm
theorem all_of_ch (s : ByteArray) (a b : Nat) (hb : b ≤ s.size) (h : ∀ j, a ≤ j → j < b → blC (ch s j) = true) : (((s.data.toList).drop a).take (b - a)).all (BLs.contains ·) = true := by
  rw [List.all_eq_true]
  intro x hx
  obtain ⟨i, hi, rfl⟩ := List.getElem_of_mem hx
  have hi' := hi
  rw [List.length_take, List.length_drop, tl_len] at hi'
  rw [List.getElem_take, List.getElem_drop]
  rw [BLs_ch s (a + i) (by rw [tl_len]; omega)]
  exact h (a + i) (by omega) (by omega)
theorem trim_is (s : ByteArray) (a b : Nat) (hab : a ≤ b) (hb : b ≤ s.size) (h1 : ∀ j, j < a → blC (ch s j) = true) (h2 : ∀ j, b ≤ j → j < s.size → blC (ch s j) = true)
    (h3 : a < b → blC (ch s a) = false) (h4 : a < b → blC (ch s (b - 1)) = false) : trimN s = s.extract a b := by
  apply ba_ext
  rw [trimN_list, list_ext]
  have hl : s.data.toList = s.data.toList.take a ++ (s.data.toList.drop a).take (b - a) ++ s.data.toList.drop b := by
    rw [← List.take_add, show a + (b - a) = b by omega, List.take_append_drop]
  have A : (s.data.toList.take a).all (BLs.contains ·) = true := by
    have := all_of_ch s 0 a (by omega) (fun j _ hj => h1 j hj)
    simpa using this
  have B : (s.data.toList.drop b).all (BLs.contains ·) = true := by
    have := all_of_ch s b s.size (Nat.le_refl _) (fun j hj hj2 => h2 j hj hj2)
    rwa [List.take_of_length_le (by rw [List.length_drop, tl_len]; exact Nat.le_refl _)] at this
  have len : ((s.data.toList.drop a).take (b - a)).length = b - a := by rw [List.length_take, List.length_drop, tl_len]; omega
  have := trim_unique (BLs.contains ·) (s.data.toList.take a) ((s.data.toList.drop a).take (b - a)) (s.data.toList.drop b) A B
    (fun x t e => by
      have hlt : a < b := by
        have := congrArg List.length e
        rw [len] at this
        simp at this
        omega
      have hx : ((s.data.toList.drop a).take (b - a))[0]'(by rw [len]; omega) = x := by simp only [e, List.getElem_cons_zero]
      rw [List.getElem_take, List.getElem_drop] at hx
      have := BLs_ch s (a + 0) (by rw [tl_len]; omega)
      rw [hx] at this
      rw [this]
      exact h3 hlt)
    (fun x t e => by
      have hln := congrArg List.length e
      rw [len, List.length_append] at hln
      simp at hln
      have hlt : a < b := by omega
      have hx : ((s.data.toList.drop a).take (b - a))[b - a - 1]'(by rw [len]; omega) = x := by
        have : b - a - 1 = t.length := by omega
        simp only [e, this]
        simp
      rw [List.getElem_take, List.getElem_drop] at hx
      have := BLs_ch s (a + (b - a - 1)) (by rw [tl_len]; omega)
      rw [hx] at this
      rw [this, show a + (b - a - 1) = b - 1 by omega]
      exact h4 hlt)
  rw [← hl] at this
  exact this
theorem ext_ext (s : ByteArray) (a b c d : Nat) (_ : b ≤ s.size) (hd : a + d ≤ b) : (s.extract a b).extract c d = s.extract (a + c) (a + d) := by
  apply ba_ext
  rw [list_ext, list_ext, list_ext, List.drop_take, List.drop_drop, List.take_take]
  congr 1
  omega
theorem rsret4 {a b : ByteArray} (h : a = b) : Ending.returned (.string a) = .returned (.string b) := by rw [h]
theorem ext_all (s : ByteArray) : s.extract 0 s.size = s := by
  apply ba_ext
  rw [list_ext, List.drop_zero, Nat.sub_zero, ← tl_len s, List.take_length]
set_option maxHeartbeats 4000000 in
theorem rTrim (s : ByteArray) (hs : s.size ≤ 9223372036854775806) (w : World) : Calls Tryz.prog 19 #[.string s] w fun e w' => e = .returned (.string (trimN s)) ∧ w' = w := by
  go_enter Tryz.func19, Tryz.ntmps19
  go_wp2_with fail
  go_loop [0] (fun v => ∃ (a : Nat) (X : ByteArray), v = .string X ∧ Hid (X = s.extract a s.size ∧ a ≤ s.size ∧ ∀ j, j < a → blC (ch s j) = true)) (fun v => match v with | .string X => X.size | _ => 0)
  case atStart => exact ⟨0, s, rfl, (ext_all s).symm, Nat.zero_le _, fun j hj => absurd hj (Nat.not_lt_zero j)⟩
  case round =>
    obtain ⟨a, X, rfl, hX⟩ := hrel
    have hz : Hid (X.size = s.size - a) := by show _ = _; rw [hX.out.1, size_ext s a s.size (Nat.le_refl _)]
    by_cases hlt : a < s.size
    · have e0 : (X.toList == []) = false := by rw [nempty]; exact decide_eq_false (by have := hz.out; omega)
      obtain ⟨d, hd⟩ : ∃ d, Hid (d = ch s a) := ⟨_, rfl⟩
      have ix : ∀ w : World, (Instr.index 9 (.string X) (.int .i64 0)).run Tryz.prog w = .ok (.int .u8 (d : Int)) w := fun w => by
        have h1 := nidx (w := w) X 0 (by have := hz.out; omega) .i64
        have h2 : ch X 0 = d := by rw [hd.out, hX.out.1, ch_ext s a s.size 0 (by omega), Nat.add_zero]
        rw [h2] at h1
        exact h1
      cases hb0 : blC d
      · have hstop : Hid (blC (ch s a) = false) := by show _ = _; rw [← hd.out]; exact hb0
        go_wp2_with (go_at_call 43; refine (rblank _ _).mono ?_; rintro e w1 ⟨rfl, hw1⟩; subst w1)
        go_loop [0] (fun v => ∃ (b : Nat) (Y : ByteArray), v = .string Y ∧ Hid (Y = s.extract a b ∧ a ≤ b ∧ b ≤ s.size ∧ ∀ j, b ≤ j → j < s.size → blC (ch s j) = true)) (fun v => match v with | .string X => X.size | _ => 0)
        case atStart => exact ⟨s.size, X, rfl, hX.out.1, hX.out.2.1, Nat.le_refl _, fun j h1 h2 => absurd h2 (by omega)⟩
        case round =>
          obtain ⟨b, Y, rfl, hY⟩ := hrel
          have hy : Hid (Y.size = b - a) := by show _ = _; rw [hY.out.1, size_ext s a b hY.out.2.2.1]
          have hyl : Y.size ≤ 9223372036854775806 := by have := hy.out; have := hY.out.2.2.1; omega
          by_cases hab : a < b
          · have hpos : 0 < Y.size := by have := hy.out; omega
            have e1 : (Y.toList == []) = false := by rw [nempty]; exact decide_eq_false (by omega)
            have hwr : wrap64 ((Y.size : Int) - 1) = (Y.size : Int) - 1 := by unfold wrap64; omega
            obtain ⟨c, hc⟩ : ∃ c, Hid (c = ch s (b - 1)) := ⟨_, rfl⟩
            have ix : ∀ w : World, (Instr.index 9 (.string Y) (.int .i64 ((Y.size : Int) - 1))).run Tryz.prog w = .ok (.int .u8 (c : Int)) w := fun w => by
              have := nidx (w := w) Y (Y.size - 1) (by omega) .i64
              have h2 : ch Y (Y.size - 1) = c := by
                rw [hc.out, hy.out, hY.out.1, ch_ext s a b (b - a - 1) (by omega), show a + (b - a - 1) = b - 1 by omega]
              rw [h2, show ((Y.size - 1 : Nat) : Int) = (Y.size : Int) - 1 by omega] at this
              exact this
            cases hb : blC c
            · have hg : Hid (s.extract a b = trimN s) := (trim_is s a b (by omega) hY.out.2.2.1 hX.out.2.2 hY.out.2.2.2 (fun _ => hstop.out) (fun _ => by rw [← hc.out]; exact hb)).symm
              have hY1 : Hid (Y = s.extract a b) := hY.out.1
              go_wp2_with (go_at_call 43; refine (rblank _ _).mono ?_; rintro e w1 ⟨rfl, hw1⟩; subst w1)
              go_ret
              exact ⟨rsret4 (hY1.out.trans hg.out), rfl⟩
            · have sl : ∀ w : World, (Instr.slice 9 (.string Y) none (some (.int .i64 ((Y.size : Int) - 1))) none).run Tryz.prog w = .ok (.string (Y.extract 0 (Y.size - 1))) w := fun w => by
                rw [run_slice_string_h w 9 Y Tryz.underlying9 .i64 ((Y.size : Int) - 1) (by omega) (by omega), show ((Y.size : Int) - 1).toNat = Y.size - 1 by omega]
              have hsz : (Y.extract 0 (Y.size - 1)).size = Y.size - 1 := size_ext Y 0 (Y.size - 1) (by omega)
              have hsz : Hid ((Y.extract 0 (Y.size - 1)).size = Y.size - 1) := hsz
              go_wp2_with (go_at_call 43; refine (rblank _ _).mono ?_; rintro e w1 ⟨rfl, hw1⟩; subst w1)
              go_round
              case rel => exact ⟨b - 1, Y.extract 0 (Y.size - 1), rfl, by
                refine ⟨?_, by omega, by have := hY.out.2.2.1; omega, fun j hj1 hj2 => ?_⟩
                · have := hy.out
                  rw [this, hY.out.1, ext_ext s a b 0 (b - a - 1) hY.out.2.2.1 (by omega), Nat.add_zero, show a + (b - a - 1) = b - 1 by omega]
                · by_cases h : j = b - 1
                  · rw [h, ← hc.out]; exact hb
                  · exact hY.out.2.2.2 j (by omega) hj2⟩
              case measure => simp only [hsz.out]; omega
          · have e1 : (Y.toList == []) = true := by rw [nempty]; exact decide_eq_true (by have := hy.out; omega)
            have hg : Hid (s.extract a b = trimN s) := (trim_is s a b (hY.out.2.1) hY.out.2.2.1 hX.out.2.2 hY.out.2.2.2 (fun h => absurd h hab) (fun h => absurd h hab)).symm
            have hY1 : Hid (Y = s.extract a b) := hY.out.1
            go_wp2_with fail
            go_ret
            exact ⟨rsret4 (hY1.out.trans hg.out), rfl⟩
      · have hp : 0 < X.size := by have := hz.out; omega
        have sl : ∀ w : World, (Instr.slice 9 (.string X) (some (.int .i64 1)) none none).run Tryz.prog w = .ok (.string (X.extract 1 X.size)) w := fun w => run_slice_string_l w 9 X Tryz.underlying9 .i64 1 (by omega) (by omega)
        have hsz : Hid ((X.extract 1 X.size).size = X.size - 1) := size_ext X 1 X.size (Nat.le_refl _)
        go_wp2_with (go_at_call 43; refine (rblank _ _).mono ?_; rintro e w1 ⟨rfl, hw1⟩; subst w1)
        go_round
        case rel => exact ⟨a + 1, X.extract 1 X.size, rfl, by
          refine ⟨?_, by omega, fun j hj => ?_⟩
          · rw [hX.out.1, size_ext s a s.size (Nat.le_refl _), ext_ext s a s.size 1 (s.size - a) (Nat.le_refl _) (by omega), show a + (s.size - a) = s.size by omega]
          · by_cases h : j = a
            · rw [h, ← hd.out]; exact hb0
            · exact hX.out.2.2 j (by omega)⟩
        case measure => simp only [hsz.out]; omega
    · have e0 : (X.toList == []) = true := by rw [nempty]; exact decide_eq_true (by have := hz.out; omega)
      go_wp2_with (go_at_call 43; refine (rblank _ _).mono ?_; rintro e w1 ⟨rfl, hw1⟩; subst w1)
      go_loop [0] (fun v => ∃ (b : Nat) (Y : ByteArray), v = .string Y ∧ Hid (Y = s.extract a b ∧ a ≤ b ∧ b ≤ s.size ∧ ∀ j, b ≤ j → j < s.size → blC (ch s j) = true)) (fun v => match v with | .string X => X.size | _ => 0)
      case atStart => exact ⟨s.size, X, rfl, hX.out.1, hX.out.2.1, Nat.le_refl _, fun j h1 h2 => absurd h2 (by omega)⟩
      case round =>
        obtain ⟨b, Y, rfl, hY⟩ := hrel
        have hy : Hid (Y.size = b - a) := by show _ = _; rw [hY.out.1, size_ext s a b hY.out.2.2.1]
        have hyl : Y.size ≤ 9223372036854775806 := by have := hy.out; have := hY.out.2.2.1; omega
        by_cases hab : a < b
        · have hpos : 0 < Y.size := by have := hy.out; omega
          have e1 : (Y.toList == []) = false := by rw [nempty]; exact decide_eq_false (by omega)
          have hwr : wrap64 ((Y.size : Int) - 1) = (Y.size : Int) - 1 := by unfold wrap64; omega
          obtain ⟨c, hc⟩ : ∃ c, Hid (c = ch s (b - 1)) := ⟨_, rfl⟩
          have ix : ∀ w : World, (Instr.index 9 (.string Y) (.int .i64 ((Y.size : Int) - 1))).run Tryz.prog w = .ok (.int .u8 (c : Int)) w := fun w => by
            have := nidx (w := w) Y (Y.size - 1) (by omega) .i64
            have h2 : ch Y (Y.size - 1) = c := by
              rw [hc.out, hy.out, hY.out.1, ch_ext s a b (b - a - 1) (by omega), show a + (b - a - 1) = b - 1 by omega]
            rw [h2, show ((Y.size - 1 : Nat) : Int) = (Y.size : Int) - 1 by omega] at this
            exact this
          cases hb : blC c
          · have hg : Hid (s.extract a b = trimN s) := (trim_is s a b (by omega) hY.out.2.2.1 hX.out.2.2 hY.out.2.2.2 (fun _ => absurd hab (by have := hY.out.2.2.1; omega)) (fun _ => by rw [← hc.out]; exact hb)).symm
            have hY1 : Hid (Y = s.extract a b) := hY.out.1
            go_wp2_with (go_at_call 43; refine (rblank _ _).mono ?_; rintro e w1 ⟨rfl, hw1⟩; subst w1)
            go_ret
            exact ⟨rsret4 (hY1.out.trans hg.out), rfl⟩
          · have sl : ∀ w : World, (Instr.slice 9 (.string Y) none (some (.int .i64 ((Y.size : Int) - 1))) none).run Tryz.prog w = .ok (.string (Y.extract 0 (Y.size - 1))) w := fun w => by
              rw [run_slice_string_h w 9 Y Tryz.underlying9 .i64 ((Y.size : Int) - 1) (by omega) (by omega), show ((Y.size : Int) - 1).toNat = Y.size - 1 by omega]
            have hsz : (Y.extract 0 (Y.size - 1)).size = Y.size - 1 := size_ext Y 0 (Y.size - 1) (by omega)
            have hsz : Hid ((Y.extract 0 (Y.size - 1)).size = Y.size - 1) := hsz
            go_wp2_with (go_at_call 43; refine (rblank _ _).mono ?_; rintro e w1 ⟨rfl, hw1⟩; subst w1)
            go_round
            case rel => exact ⟨b - 1, Y.extract 0 (Y.size - 1), rfl, by
              refine ⟨?_, by omega, by have := hY.out.2.2.1; omega, fun j hj1 hj2 => ?_⟩
              · have := hy.out
                rw [this, hY.out.1, ext_ext s a b 0 (b - a - 1) hY.out.2.2.1 (by omega), Nat.add_zero, show a + (b - a - 1) = b - 1 by omega]
              · by_cases h : j = b - 1
                · rw [h, ← hc.out]; exact hb
                · exact hY.out.2.2.2 j (by omega) hj2⟩
            case measure => simp only [hsz.out]; omega
        · have e1 : (Y.toList == []) = true := by rw [nempty]; exact decide_eq_true (by have := hy.out; omega)
          have hg : Hid (s.extract a b = trimN s) := (trim_is s a b (hY.out.2.1) hY.out.2.2.1 hX.out.2.2 hY.out.2.2.2 (fun h => absurd h hab) (fun h => absurd h hab)).symm
          have hY1 : Hid (Y = s.extract a b) := hY.out.1
          go_wp2_with fail
          go_ret
          exact ⟨rsret4 (hY1.out.trans hg.out), rfl⟩
theorem rBlank (s : ByteArray) (hs : s.size ≤ 9223372036854775806) (w : World) : Calls Tryz.prog 17 #[.string s] w fun e w' => e = .returned (.bool (blankB s)) ∧ w' = w := by
  have hT := fun w => rTrim s hs w
  have g := nempty (trimN s)
  unfold blankB
  rw [← g]
  clear g
  generalize trimN s = r at hT ⊢
  go_enter Tryz.func17, Tryz.ntmps17
  go_wp2_with (go_at_call 19; refine (hT _).mono ?_; rintro e w' ⟨rfl, hw⟩; subst w')
  go_ret
  exact ⟨nret (by cases r.toList <;> rfl), rfl⟩
end Go.Proofs.YtmnjpkeeoeoegaaGreatDoor
