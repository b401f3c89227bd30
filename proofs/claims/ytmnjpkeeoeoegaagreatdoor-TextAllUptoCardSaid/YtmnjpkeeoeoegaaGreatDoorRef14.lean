/- The document's answer: Unquote. -/
import Derived.Test.YtmnjpkeeoeoegaaGreatDoorRef13
namespace Go.Proofs.YtmnjpkeeoeoegaaGreatDoor
open Go.ChangeShapes Go.WideShapes Go.ChangeAt Go.RowKit

theorem unq_end (s : ByteArray) (acc : List Nat) : unqF s (s.size + 1) s.size acc = ([], s.size, 23) := by rw [unqF, if_pos (Nat.le_refl _)]
theorem rq3 {a : ByteArray} {c e : Int} {t : List Nat × Nat × Nat} {s : ByteArray} (h : unqN s = t) (h1 : a = sOf t.1) (h2 : c = (t.2.1 : Int)) (h3 : e = (t.2.2 : Int)) : Ending.returned (.tuple #[.string a, .int .i64 c, .int .i64 e]) = .returned (.tuple #[.string (sOf (unqN s).1), .int .i64 ((unqN s).2.1 : Nat), .int .i64 ((unqN s).2.2 : Nat)]) := by rw [h, h1, h2, h3]
set_option maxRecDepth 100000 in
set_option maxHeartbeats 4000000 in
theorem rUnquote (s : ByteArray) (w : World) (hs : s.size ≤ 35184372088832) : Calls Tryz.prog 25 #[.string s] w fun e w' => e = .returned (.tuple #[.string (sOf (unqN s).1), .int .i64 ((unqN s).2.1 : Nat), .int .i64 ((unqN s).2.2 : Nat)]) ∧ Below w.heap.size w w' := by
  by_cases h0 : s.size = 0
  · have e0 : (s.toList == []) = true := by rw [nempty]; exact decide_eq_true h0
    have hg : Hid (unqN s = ([], 0, 23)) := by show _ = _; unfold unqN; rw [if_pos (Or.inl h0)]
    have h0 : Hid (s.size = 0) := h0
    go_enter Tryz.func25, Tryz.ntmps25
    go_wp2_with fail
    go_ret3
    exact ⟨rq3 hg.out rfl rfl rfl, Below.refl _ _⟩
  · have e0 : (s.toList == []) = false := by rw [nempty]; exact decide_eq_false h0
    obtain ⟨c0, hc0⟩ : ∃ c0, Hid (c0 = ch s 0) := ⟨_, rfl⟩
    have i0 : ∀ w : World, (Instr.index 9 (.string s) (.int .i64 0)).run Tryz.prog w = .ok (.int .u8 (c0 : Int)) w := fun w => by rw [hc0.out]; exact nidx (w := w) s 0 (by omega) .i64
    by_cases h34 : c0 = 34
    · have q0 : ((c0 : Int) != 34) = false := by simp; omega
      have hN : Hid (unqF s (s.size + 1) 1 [] = unqN s) := by show _ = _; unfold unqN; rw [if_neg (by rw [← hc0.out]; omega)]
      clear h34
      go_enter Tryz.func25, Tryz.ntmps25
      go_wp2_with fail
      go_loopw [5, 6] (fun v i wr => ∃ (a : Nat) (L : List Nat), a ≤ s.size ∧ i = .int .i64 (a : Int) ∧ Hid (unqF s (s.size + 1) a L = unqN s) ∧ L.length ≤ a ∧ Buf wr w.heap.size v L ∧ Below w.heap.size w wr) (fun _ i _ => s.size - (intOf i).toNat)
      case atStart => exact ⟨1, [], by omega, rfl, hN.out, by simp, Buf.nil _ _, Below.refl _ _⟩
      case round =>
        obtain ⟨a, L, ha, rfl, hu, hL, hB, HB⟩ := hrel
        by_cases hlt : a < s.size
        · have d0 : decide ((a : Int) < (s.size : Int)) = true := by simp; omega
          obtain ⟨c, hc⟩ : ∃ c, Hid (c = ch s a) := ⟨_, rfl⟩
          have ix : ∀ w : World, (Instr.index 9 (.string s) (.int .i64 (a : Int))).run Tryz.prog w = .ok (.int .u8 (c : Int)) w := fun w => by rw [hc.out]; exact nidx (w := w) s a hlt .i64
          by_cases hq : c = 34
          · have q1 : ((c : Int) != 34) = false := by simp; omega
            have hg : Hid (unqN s = (L, a + 1, 0)) := by show _ = _; rw [← hu.out, unq_step s a L hlt, if_pos (by rw [← hc.out]; exact hq)]
            have d1 : decide ((s.size : Int) ≤ (a : Int)) = false := by simp; omega
            have hcv := hB.conv
            clear hq
            go_wp2_with fail
            go_ret3
            exact ⟨rq3 hg.out rfl (by simp) rfl, HB⟩
          · have q1 : ((c : Int) != 34) = true := by simp; omega
            have hst : Hid (unqF s (s.size + 1) a L = if (itI s a).2.2 = true then unqF s (s.size + 1) (itI s a).2.1 (L ++ [(itI s a).1]) else ([], if ¬ ch s a = 92 then a else (itI s a).2.1, 23)) := unq_item s a L hlt (by rw [← hc.out]; exact hq)
            have hI := fun w => ritem s a hlt (by omega) w
            have hbd : Hid ((itI s a).2.2 = true → a < (itI s a).2.1 ∧ (itI s a).2.1 ≤ s.size) := it_bd s a hlt
            clear hq
            unfold itE at hI
            generalize itI s a = T at hst hI hbd
            obtain ⟨x, y, b⟩ := T
            simp only at hI
            cases b
            · by_cases h92 : c = 92
              · have q2 : ((c : Int) != 92) = false := by simp; omega
                have hg : Hid (unqN s = ([], y, 23)) := by show _ = _; rw [← hu.out, hst.out]; simp only [Bool.false_eq_true, if_false]; rw [if_neg (by rw [← hc.out]; omega)]
                clear h92
                go_wp2_with (go_at_call 52; refine (hI _).mono ?_; rintro e w1 ⟨rfl, hb1⟩; have HB := bdt HB hb1; clear hb1)
                go_ret3
                exact ⟨rq3 hg.out rfl rfl rfl, HB⟩
              · have q2 : ((c : Int) != 92) = true := by simp; omega
                have hg : Hid (unqN s = ([], a, 23)) := by show _ = _; rw [← hu.out, hst.out]; simp only [Bool.false_eq_true, if_false]; rw [if_pos (by rw [← hc.out]; omega)]
                clear h92
                go_wp2_with (go_at_call 52; refine (hI _).mono ?_; rintro e w1 ⟨rfl, hb1⟩; have HB := bdt HB hb1; clear hb1)
                go_ret3
                exact ⟨rq3 hg.out rfl rfl rfl, HB⟩
            · have hbd2 := hbd.out rfl
              simp only at hbd2
              have hg : Hid (unqF s (s.size + 1) y (L ++ [x]) = unqN s) := by show _ = _; rw [← hu.out, hst.out]; rfl
              clear hbd hst hu
              go_wp2_with (first
                | (go_at_call 52; refine (hI _).mono ?_; rintro e w1 ⟨rfl, hb1⟩; have hB := hB.below hb1; have HB := bdt HB hb1; clear hb1; obtain ⟨v3, w3, hrun, hb3, hbel3⟩ := hB.lit [x] 1 1 rfl (by simp; omega) HB.size)
                | (at_builtin; refine (wpList_append_ex (by rfl) _ _ _ _ (by rfl) _ _ (by rfl) (by rfl) (fun a b => a = v3 ∧ b = w3) ⟨v3, w3, hrun, rfl, rfl⟩ ?_); rintro _ _ ⟨rfl, rfl⟩))
              go_roundw
              case rel => exact ⟨y, L ++ [x], by omega, by go_num, hg.out, by simp; omega, hb3, HB.trans hbel3⟩
              case measure => simp [intOf]; omega
        · obtain rfl : a = s.size := by omega
          have d0 : decide ((s.size : Int) < (s.size : Int)) = false := by simp
          have hg : Hid (unqN s = ([], s.size, 23)) := by show _ = _; rw [← hu.out, unq_end]
          go_wp2_with fail
          go_ret3
          exact ⟨rq3 hg.out rfl rfl rfl, HB⟩
    · have q0 : ((c0 : Int) != 34) = true := by simp; omega
      have hg : Hid (unqN s = ([], 0, 23)) := by show _ = _; unfold unqN; rw [if_pos (Or.inr (by rw [← hc0.out]; exact h34))]
      clear h34
      go_enter Tryz.func25, Tryz.ntmps25
      go_wp2_with fail
      go_ret3
      exact ⟨rq3 hg.out rfl rfl rfl, Below.refl _ _⟩
end Go.Proofs.YtmnjpkeeoeoegaaGreatDoor
