/- The document's answer: item: the walk. -/
import Derived.Test.YtmnjpkeeoeoegaaGreatDoorRef12
namespace Go.Proofs.YtmnjpkeeoeoegaaGreatDoor
open Go.ChangeShapes Go.WideShapes Go.ChangeAt Go.RowKit

theorem rit {a b : Int} {c d : Int} {e f : Bool} (h1 : a = b) (h2 : c = d) (h3 : e = f) : Ending.returned (.tuple #[.int .u8 a, .int .i64 c, .bool e]) = .returned (.tuple #[.int .u8 b, .int .i64 d, .bool f]) := by rw [h1, h2, h3]
abbrev itE (s : ByteArray) (a : Nat) : Ending := .returned (.tuple #[.int .u8 ((itI s a).1 : Nat), .int .i64 ((itI s a).2.1 : Nat), .bool (itI s a).2.2])
theorem it_of (s : ByteArray) (a : Nat) {x y : Int} {b : Bool} {t : Nat × Nat × Bool} (h : itI s a = t) (hx : x = (t.1 : Int)) (hy : y = (t.2.1 : Int)) (hb : b = t.2.2) : Ending.returned (.tuple #[.int .u8 x, .int .i64 y, .bool b]) = itE s a := by
  unfold itE
  rw [h, hx, hy, hb]
set_option maxRecDepth 100000 in
set_option maxHeartbeats 4000000 in
theorem ritem (s : ByteArray) (a : Nat) (ha : a < s.size) (hs : s.size ≤ 70368744177664) (w : World) : Calls Tryz.prog 52 #[.string s, .int .i64 (a : Int)] w fun e w' => e = itE s a ∧ Below w.heap.size w w' := by
  obtain ⟨c, hc⟩ : ∃ c, Hid (c = ch s a) := ⟨_, rfl⟩
  have ix : ∀ w : World, (Instr.index 9 (.string s) (.int .i64 (a : Int))).run Tryz.prog w = .ok (.int .u8 (c : Int)) w := fun w => by rw [hc.out]; exact nidx (w := w) s a ha .i64
  by_cases h92 : c = 92
  · subst h92
    by_cases hz : a + 1 = s.size
    · have hg : Hid (itI s a = (0, s.size, false)) := by show _ = _; unfold itI; rw [← hc.out, if_neg (by simp), if_pos hz]
      have e1 : ((a : Int) + 1 == (s.size : Int)) = true := by simp; omega
      clear hz
      go_enter Tryz.func52, Tryz.ntmps52
      go_wp2_with fail
      go_ret3
      exact ⟨it_of s a hg.out rfl rfl rfl, Below.refl _ _⟩
    · have hlt : a + 1 < s.size := by omega
      have e1 : ((a : Int) + 1 == (s.size : Int)) = false := by simp; omega
      obtain ⟨c2, hc2⟩ : ∃ c2, Hid (c2 = ch s (a + 1)) := ⟨_, rfl⟩
      have ix2 : ∀ w : World, (Instr.index 9 (.string s) (.int .i64 ((a : Int) + 1))).run Tryz.prog w = .ok (.int .u8 (c2 : Int)) w := fun w => by
        have := nidx (w := w) s (a + 1) hlt .i64
        rw [hc2.out, show (a : Int) + 1 = ((a + 1 : Nat) : Int) by omega]
        exact this
      have ix3 : ∀ w : World, (Instr.index 9 (.string s) (.int .i64 (IntKind.i64.wrap ((a : Int) + 1)))).run Tryz.prog w = .ok (.int .u8 (c2 : Int)) w := fun w => by
        rw [show IntKind.i64.wrap ((a : Int) + 1) = (a : Int) + 1 by rw [IntKind.wrap_i64]; omega]
        exact ix2 w
      have hc92 : Hid (ch s a = 92) := hc.out.symm
      clear hc
      have hz : Hid (¬ a + 1 = s.size) := hz
      go_enter Tryz.func52, Tryz.ntmps52
      go_wp2_with fail
      go_loopw [7] (fun jj wr => ∃ j : Nat, j ≤ 5 ∧ jj = .int .i64 (j : Int) ∧ Hid (∀ m, m < j → ¬ ch signsS m = c2) ∧ Below w.heap.size w wr) (fun jj _ => 5 - (intOf jj).toNat)
      case atStart => exact ⟨0, by omega, rfl, fun m hm => absurd hm (Nat.not_lt_zero m), Below.refl _ _⟩
      case round =>
        obtain ⟨j, hj, rfl, hno, HB⟩ := hrel
        by_cases hj5 : j < 5
        · have d1 : decide ((j : Int) < 5) = true := by simp; omega
          have im : ∀ w : World, (Instr.index 9 (.string signsS) (.int .i64 (j : Int))).run Tryz.prog w = .ok (.int .u8 (ch signsS j : Int)) w := fun w => nidx (w := w) signsS j hj5 .i64
          have im2 : ∀ w : World, (Instr.index 9 (.string meansS) (.int .i64 (j : Int))).run Tryz.prog w = .ok (.int .u8 (ch meansS j : Int)) w := fun w => nidx (w := w) meansS j hj5 .i64
          by_cases hm : ch signsS j = c2
          · have ec : ((ch signsS j : Int) == (c2 : Int)) = true := by simp; omega
            have hg : Hid (itI s a = (ch meansS j, a + 2, true)) := by
              show _ = _
              unfold itI
              rw [hc92.out, if_neg (by simp), if_neg hz.out, ← hc2.out, ← hm, mark_sign j hj5]
            clear hm
            go_wp2_with fail
            go_quiet (fail)
            go_wp2_with fail
            go_ret3
            exact ⟨it_of s a hg.out rfl (by simp) rfl, bdN HB _⟩
          · have ec : ((ch signsS j : Int) == (c2 : Int)) = false := by simp; omega
            have hm : Hid (¬ ch signsS j = c2) := hm
            go_wp2_with fail
            go_quiet (fail)
            go_wp2_with fail
            go_round
            case rel => exact ⟨j + 1, by omega, by go_num, fun m h => by
              by_cases he : m = j
              · rw [he]; exact hm.out
              · exact hno.out m (by omega), bdN HB _⟩
            case measure => simp [intOf]; omega
        · obtain rfl : j = 5 := by omega
          have d1 : decide ((5 : Int) < 5) = false := by decide
          have hmk : Hid (markF c2 = none) := mark_none c2 hno.out
          by_cases hx : c2 = 120
          · subst hx
            have hg0 : Hid (itI s a = if (pairN s (a + 2)).2 < a + 4 then (0, (pairN s (a + 2)).2, false) else ((pairN s (a + 2)).1, a + 4, true)) := by
              show _ = _
              unfold itI
              rw [hc92.out, if_neg (by simp), if_neg hz.out, ← hc2.out, hmk.out]
              simp only [not_true, if_false]
            go_wp2_with fail
            go_loopw [8] (fun v wr => ∃ j : Nat, v = .int .i64 ((a : Int) + (j : Int)) ∧ Hid (j = 2 ∨ (j = 3 ∧ Hid (a + 2 < s.size ∧ worth (ch s (a + 2)) ≠ none)) ∨ (j = 4 ∧ Hid (a + 2 < s.size ∧ worth (ch s (a + 2)) ≠ none ∧ a + 3 < s.size ∧ worth (ch s (a + 3)) ≠ none))) ∧ Below w.heap.size w wr) (fun v _ => a + 4 - (intOf v).toNat)
            case atStart => exact ⟨2, by go_num, Or.inl rfl, HB⟩
            case round =>
              clear HB
              obtain ⟨j, rfl, hx, HB⟩ := hrel
              rcases hx.out with rfl | ⟨rfl, hok⟩ | ⟨rfl, hok⟩
              · rw [show ((2 : Nat) : Int) = 2 from rfl]
                have d2 : decide ((a : Int) + 2 < (a : Int) + 4) = true := by simp
                by_cases hge : s.size ≤ a + 2
                · have d3 : decide ((s.size : Int) ≤ (a : Int) + 2) = true := by simp; omega
                  have hq : (pairN s (a + 2)).2 = a + 2 := by unfold pairN; rw [if_pos hge]
                  have hg : Hid (itI s a = (0, a + 2, false)) := by show _ = _; rw [hg0.out, hq, if_pos (by omega)]
                  clear hq
                  go_wp2_with fail
                  go_ret3
                  exact ⟨it_of s a hg.out rfl (by simp) rfl, HB⟩
                · have d3 : decide ((s.size : Int) ≤ (a : Int) + 2) = false := by simp; omega
                  have hlt3 : a + 2 < s.size := by omega
                  obtain ⟨c3, hc3⟩ : ∃ c3, Hid (c3 = ch s (a + 2)) := ⟨_, rfl⟩
                  have i3 : ∀ w : World, (Instr.index 9 (.string s) (.int .i64 ((a : Int) + 2))).run Tryz.prog w = .ok (.int .u8 (c3 : Int)) w := fun w => by
                    have := nidx (w := w) s (a + 2) hlt3 .i64
                    rw [hc3.out, show (a : Int) + 2 = ((a + 2 : Nat) : Int) by omega]
                    exact this
                  have hW := fun w => rworth c3 (by rw [hc3.out]; exact ch_lt s _) w
                  cases hw : worth c3 with
                  | none =>
                    rw [wrI_none hw] at hW
                    have hq : (pairN s (a + 2)).2 = a + 2 := by unfold pairN; rw [if_neg (by omega), ← hc3.out, hw]
                    have hg : Hid (itI s a = (0, a + 2, false)) := by show _ = _; rw [hg0.out, hq, if_pos (by omega)]
                    clear hq hw
                    go_wp2_with (go_at_call 56; refine (hW _).mono ?_; rintro e w1 ⟨rfl, hw1⟩; subst w1)
                    go_ret3
                    exact ⟨it_of s a hg.out rfl (by simp) rfl, HB⟩
                  | some d =>
                    rw [wrI_some hw] at hW
                    have hw' : Hid (worth c3 = some d) := hw
                    have d0 : decide ((d : Int) < 0) = false := by simp
                    clear hw
                    go_wp2_with (go_at_call 56; refine (hW _).mono ?_; rintro e w1 ⟨rfl, hw1⟩; subst w1)
                    go_roundw
                    case rel => exact ⟨_, _, _, _, _, _, _, _, _, _, _, _, _, _, _, _, _, _, _, _, _, _, ⟨3, by go_num, Or.inr (Or.inl ⟨rfl, ⟨hlt3, by rw [← hc3.out, hw'.out]; simp⟩⟩), HB⟩, rfl⟩
                    case measure => simp [intOf]; omega
              · rw [show ((3 : Nat) : Int) = 3 from rfl]
                have d2 : decide ((a : Int) + 3 < (a : Int) + 4) = true := by simp
                by_cases hge : s.size ≤ a + 3
                · have d3 : decide ((s.size : Int) ≤ (a : Int) + 3) = true := by simp; omega
                  have hq : (pairN s (a + 2)).2 = a + 3 := by obtain ⟨d, hd⟩ := Option.ne_none_iff_exists'.1 hok.out.2; unfold pairN; rw [if_neg (by have := hok.out.1; omega), hd]; simp only; rw [if_pos (by omega)]
                  have hg : Hid (itI s a = (0, a + 3, false)) := by show _ = _; rw [hg0.out, hq, if_pos (by omega)]
                  clear hq
                  go_wp2_with fail
                  go_ret3
                  exact ⟨it_of s a hg.out rfl (by simp) rfl, HB⟩
                · have d3 : decide ((s.size : Int) ≤ (a : Int) + 3) = false := by simp; omega
                  have hlt3 : a + 3 < s.size := by omega
                  obtain ⟨c3, hc3⟩ : ∃ c3, Hid (c3 = ch s (a + 3)) := ⟨_, rfl⟩
                  have i3 : ∀ w : World, (Instr.index 9 (.string s) (.int .i64 ((a : Int) + 3))).run Tryz.prog w = .ok (.int .u8 (c3 : Int)) w := fun w => by
                    have := nidx (w := w) s (a + 3) hlt3 .i64
                    rw [hc3.out, show (a : Int) + 3 = ((a + 3 : Nat) : Int) by omega]
                    exact this
                  have hW := fun w => rworth c3 (by rw [hc3.out]; exact ch_lt s _) w
                  cases hw : worth c3 with
                  | none =>
                    rw [wrI_none hw] at hW
                    have hq : (pairN s (a + 2)).2 = a + 3 := by obtain ⟨d, hd⟩ := Option.ne_none_iff_exists'.1 hok.out.2; unfold pairN; rw [if_neg (by omega), hd]; simp only; rw [if_neg (by omega), show a + 2 + 1 = a + 3 by omega, ← hc3.out, hw]
                    have hg : Hid (itI s a = (0, a + 3, false)) := by show _ = _; rw [hg0.out, hq, if_pos (by omega)]
                    clear hq hw
                    go_wp2_with (go_at_call 56; refine (hW _).mono ?_; rintro e w1 ⟨rfl, hw1⟩; subst w1)
                    go_ret3
                    exact ⟨it_of s a hg.out rfl (by simp) rfl, HB⟩
                  | some d =>
                    rw [wrI_some hw] at hW
                    have hw' : Hid (worth c3 = some d) := hw
                    have d0 : decide ((d : Int) < 0) = false := by simp
                    clear hw
                    go_wp2_with (go_at_call 56; refine (hW _).mono ?_; rintro e w1 ⟨rfl, hw1⟩; subst w1)
                    go_roundw
                    case rel => exact ⟨_, _, _, _, _, _, _, _, _, _, _, _, _, _, _, _, _, _, _, _, _, _, ⟨4, by go_num, Or.inr (Or.inr ⟨rfl, ⟨hok.out.1, hok.out.2, hlt3, by rw [← hc3.out, hw'.out]; simp⟩⟩), HB⟩, rfl⟩
                    case measure => simp [intOf]; omega
              · rw [show ((4 : Nat) : Int) = 4 from rfl]
                have d2 : decide ((a : Int) + 4 < (a : Int) + 4) = false := by simp
                obtain ⟨o1, o2, o3, o4⟩ := hok.out
                obtain ⟨d, hd⟩ := Option.ne_none_iff_exists'.1 o2
                obtain ⟨e, he⟩ := Option.ne_none_iff_exists'.1 o4
                have hd16 := worth_lt hd
                have he16 := worth_lt he
                have hq : pairN s (a + 2) = (d * 16 + e, a + 2 + 2) := pair_both s (a + 2) d e (by omega) hd (by rw [show a + 2 + 1 = a + 3 by omega]; exact he)
                have hg : Hid (itI s a = (d * 16 + e, a + 4, true)) := by show _ = _; rw [hg0.out, hq, if_neg (by simp only; omega)]
                obtain ⟨c3, hc3⟩ : ∃ c3, Hid (c3 = ch s (a + 2)) := ⟨_, rfl⟩
                obtain ⟨c4, hc4⟩ : ∃ c4, Hid (c4 = ch s (a + 3)) := ⟨_, rfl⟩
                have i3 : ∀ w : World, (Instr.index 9 (.string s) (.int .i64 (IntKind.i64.wrap ((a : Int) + 2)))).run Tryz.prog w = .ok (.int .u8 (c3 : Int)) w := fun w => by
                  have := nidx (w := w) s (a + 2) (by omega) .i64
                  rw [hc3.out, show IntKind.i64.wrap ((a : Int) + 2) = ((a + 2 : Nat) : Int) by rw [IntKind.wrap_i64]; omega]
                  exact this
                have i4 : ∀ w : World, (Instr.index 9 (.string s) (.int .i64 (IntKind.i64.wrap ((a : Int) + 3)))).run Tryz.prog w = .ok (.int .u8 (c4 : Int)) w := fun w => by
                  have := nidx (w := w) s (a + 3) (by omega) .i64
                  rw [hc4.out, show IntKind.i64.wrap ((a : Int) + 3) = ((a + 3 : Nat) : Int) by rw [IntKind.wrap_i64]; omega]
                  exact this
                have s1 : ∀ w, Calls Tryz.prog 56 #[.int .u8 (c3 : Int), .bool true] w fun r w' => r = .returned (.int .i64 (d : Int)) ∧ w' = w := fun w => by
                  have := rworth c3 (by rw [hc3.out]; exact ch_lt s _) w
                  rw [wrI_some (by rw [hc3.out]; exact hd)] at this
                  exact this
                have s2 : ∀ w, Calls Tryz.prog 56 #[.int .u8 (c4 : Int), .bool true] w fun r w' => r = .returned (.int .i64 (e : Int)) ∧ w' = w := fun w => by
                  have := rworth c4 (by rw [hc4.out]; exact ch_lt s _) w
                  rw [wrI_some (by rw [hc4.out]; exact he)] at this
                  exact this
                clear hd he hq o1 o2 o3 o4 hg0 hok
                go_wp2_with fail
                go_quiet (first
                  | (go_at_call_of 56 (Value.int .u8 (c3 : Int)); exact Calls.quiet_of_same (s1 _))
                  | (go_at_call_of 56 (Value.int .u8 (c4 : Int)); exact Calls.quiet_of_same (s2 _)))
                go_wp2_with fail
                go_ret3
                exact ⟨it_of s a hg.out (by simp only [IntKind.wrap_u8', IntKind.wrap_i64]; omega) (by simp only [IntKind.wrap_i64]; omega) rfl, bdN HB _⟩
          · have hx2 : ((c2 : Int) != 120) = true := by simp; omega
            have hg : Hid (itI s a = (0, a + 1, false)) := by
              show _ = _
              unfold itI
              rw [hc92.out, if_neg (by simp), if_neg hz.out, ← hc2.out, hmk.out]
              simp only [hx, not_false_eq_true, if_true]
            clear hx
            go_wp2_with fail
            go_ret3
            exact ⟨it_of s a hg.out rfl (by simp) rfl, HB⟩
  · have hg : Hid (itI s a = (c, a + 1, decide (32 ≤ c))) := by show _ = _; unfold itI; rw [← hc.out, if_pos h92]
    have e92 : ((c : Int) != 92) = true := by simp; omega
    clear h92
    go_enter Tryz.func52, Tryz.ntmps52
    go_wp2_with fail
    go_quiet (fail)
    go_wp2_with fail
    go_ret3
    exact ⟨it_of s a hg.out rfl (by simp) (by simp; omega), bdN (Below.refl _ _) _⟩
end Go.Proofs.YtmnjpkeeoeoegaaGreatDoor
