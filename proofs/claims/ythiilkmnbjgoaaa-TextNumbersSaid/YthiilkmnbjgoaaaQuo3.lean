/- The contracts of marked, hex and item. -/
import Derived.Test.YthiilkmnbjgoaaaQuo2
namespace Go.Proofs.Ythiilkmnbjgoaaa
open Go.ChangeShapes Go.WideShapes Go.ChangeAt Go.RowKit

def markF (c : Nat) : Option Nat := if c = 92 then some 92 else if c = 34 then some 34 else if c = 110 then some 10 else if c = 114 then some 13 else if c = 116 then some 9 else none
theorem qmarked_end (g : Nat) (s : ByteArray) (a : Nat) (v : Value) (L : List Nat) (x : Option Value) (w : World) (h : Rd w g s a v L x) (ha : a + 1 = s.size) (hs : s.size ≤ 140737488355328) :
    Calls Try.prog 31 #[.pointer (some ⟨g, 0, none⟩)] w fun r w' => r = .returned (.bool false) ∧ Rd w' g s (a + 1) v L x ∧ Below g w w' := by
  have R1 : Rd (w.setCell ⟨g, 1, none⟩ (.int .i64 ((a : Int) + 1))) g s (a + 1) v L x := by
    have := h.move (a + 1)
    rwa [Int.natCast_add] at this
  have c1 := h.h1
  have f1 := h.fz 1
  have c0 := R1.h0
  have e1 : ((a : Int) + 1 == (s.size : Int)) = true := by simp; omega
  have HB : Hid (Below g w (w.setCell ⟨g, 1, none⟩ (.int .i64 ((a : Int) + 1)))) := below_set (Nat.le_refl g) w _
  have R2 : Hid (Rd (w.setCell ⟨g, 1, none⟩ (.int .i64 ((a : Int) + 1))) g s (a + 1) v L x) := R1
  have c11 := R1.h1
  clear R1 h
  go_enter Try.func31, Try.ntmps31
  go_wp2
  go_quiet (fail)
  go_wp2
  go_ret
  exact ⟨rfl, R2.out.drewN _, bdN HB.out _⟩
set_option maxHeartbeats 1000000 in
theorem qmarked_e92 (g : Nat) (s : ByteArray) (a : Nat) (v : Value) (L : List Nat) (x : Option Value) (w : World) (h : Rd w g s a v L x) (ha : a + 1 < s.size) (hs : s.size ≤ 140737488355328) (hl : L.length + 1 ≤ 140737488355328) (hc : ch s (a + 1) = 92) :
    Calls Try.prog 31 #[.pointer (some ⟨g, 0, none⟩)] w fun r w' => r = .returned (.bool true) ∧ (∃ v', Rd w' g s (a + 2) v' (L ++ [92]) x) ∧ Below g w w' := by
  have R1 : Rd (w.setCell ⟨g, 1, none⟩ (.int .i64 ((a : Int) + 1))) g s (a + 1) v L x := by
    have := h.move (a + 1)
    rwa [Int.natCast_add] at this
  have c1 := h.h1
  have f1 := h.fz 1
  have c0 := R1.h0
  have c11 := R1.h1
  have e1 : ((a : Int) + 1 == (s.size : Int)) = false := by simp; omega
  have ix : ∀ w : World, (Instr.index 9 (.string s) (.int .i64 ((a : Int) + 1))).run Try.prog w = .ok (.int .u8 (ch s (a + 1) : Int)) w := fun w => idx (w := w) s (a + 1) ha .i64
  have HB : Hid (Below g w (w.setCell ⟨g, 1, none⟩ (.int .i64 ((a : Int) + 1)))) := below_set (Nat.le_refl g) w _
  have R2 : Hid (Rd (w.setCell ⟨g, 1, none⟩ (.int .i64 ((a : Int) + 1))) g s (a + 1) v L x) := R1
  have q92 : ((ch s (a + 1) : Int) == 92) = true := by simp; omega
  have q34 : ((ch s (a + 1) : Int) == 34) = false := by simp; omega
  have q110 : ((ch s (a + 1) : Int) == 110) = false := by simp; omega
  have q114 : ((ch s (a + 1) : Int) == 114) = false := by simp; omega
  have q116 : ((ch s (a + 1) : Int) == 116) = false := by simp; omega
  clear R1 h
  go_enter Try.func31, Try.ntmps31
  go_wp2
  go_quiet (fail)
  rename Nat => n1
  go_wp2
  go_quiet (fail)
  go_wp2_with (go_at_call 40; refine (take_byte g s (a + 1) 1 v L x 92 _ _ ((w.setCell ⟨g, 1, none⟩ (.int .i64 ((a : Int) + 1))).drewN (n1 + nq)) (by simp [World.setCell]) (R2.out.drewN _) hl (by omega)).mono ?_; rintro e w1 ⟨rfl, ⟨v', hR⟩, hb1⟩)
  go_ret
  exact ⟨rfl, ⟨v', hR⟩, (bdN HB.out _).trans hb1⟩
set_option maxHeartbeats 1000000 in
theorem qmarked_e34 (g : Nat) (s : ByteArray) (a : Nat) (v : Value) (L : List Nat) (x : Option Value) (w : World) (h : Rd w g s a v L x) (ha : a + 1 < s.size) (hs : s.size ≤ 140737488355328) (hl : L.length + 1 ≤ 140737488355328) (hc : ch s (a + 1) = 34) :
    Calls Try.prog 31 #[.pointer (some ⟨g, 0, none⟩)] w fun r w' => r = .returned (.bool true) ∧ (∃ v', Rd w' g s (a + 2) v' (L ++ [34]) x) ∧ Below g w w' := by
  have R1 : Rd (w.setCell ⟨g, 1, none⟩ (.int .i64 ((a : Int) + 1))) g s (a + 1) v L x := by
    have := h.move (a + 1)
    rwa [Int.natCast_add] at this
  have c1 := h.h1
  have f1 := h.fz 1
  have c0 := R1.h0
  have c11 := R1.h1
  have e1 : ((a : Int) + 1 == (s.size : Int)) = false := by simp; omega
  have ix : ∀ w : World, (Instr.index 9 (.string s) (.int .i64 ((a : Int) + 1))).run Try.prog w = .ok (.int .u8 (ch s (a + 1) : Int)) w := fun w => idx (w := w) s (a + 1) ha .i64
  have HB : Hid (Below g w (w.setCell ⟨g, 1, none⟩ (.int .i64 ((a : Int) + 1)))) := below_set (Nat.le_refl g) w _
  have R2 : Hid (Rd (w.setCell ⟨g, 1, none⟩ (.int .i64 ((a : Int) + 1))) g s (a + 1) v L x) := R1
  have q92 : ((ch s (a + 1) : Int) == 92) = false := by simp; omega
  have q34 : ((ch s (a + 1) : Int) == 34) = true := by simp; omega
  have q110 : ((ch s (a + 1) : Int) == 110) = false := by simp; omega
  have q114 : ((ch s (a + 1) : Int) == 114) = false := by simp; omega
  have q116 : ((ch s (a + 1) : Int) == 116) = false := by simp; omega
  clear R1 h
  go_enter Try.func31, Try.ntmps31
  go_wp2
  go_quiet (fail)
  rename Nat => n1
  go_wp2
  go_quiet (fail)
  go_wp2_with (go_at_call 40; refine (take_byte g s (a + 1) 1 v L x 34 _ _ ((w.setCell ⟨g, 1, none⟩ (.int .i64 ((a : Int) + 1))).drewN (n1 + nq)) (by simp [World.setCell]) (R2.out.drewN _) hl (by omega)).mono ?_; rintro e w1 ⟨rfl, ⟨v', hR⟩, hb1⟩)
  go_ret
  exact ⟨rfl, ⟨v', hR⟩, (bdN HB.out _).trans hb1⟩
set_option maxHeartbeats 1000000 in
theorem qmarked_n (g : Nat) (s : ByteArray) (a : Nat) (v : Value) (L : List Nat) (x : Option Value) (w : World) (h : Rd w g s a v L x) (ha : a + 1 < s.size) (hs : s.size ≤ 140737488355328) (hl : L.length + 1 ≤ 140737488355328) (hc : ch s (a + 1) = 110) :
    Calls Try.prog 31 #[.pointer (some ⟨g, 0, none⟩)] w fun r w' => r = .returned (.bool true) ∧ (∃ v', Rd w' g s (a + 2) v' (L ++ [10]) x) ∧ Below g w w' := by
  have R1 : Rd (w.setCell ⟨g, 1, none⟩ (.int .i64 ((a : Int) + 1))) g s (a + 1) v L x := by
    have := h.move (a + 1)
    rwa [Int.natCast_add] at this
  have c1 := h.h1
  have f1 := h.fz 1
  have c0 := R1.h0
  have c11 := R1.h1
  have e1 : ((a : Int) + 1 == (s.size : Int)) = false := by simp; omega
  have ix : ∀ w : World, (Instr.index 9 (.string s) (.int .i64 ((a : Int) + 1))).run Try.prog w = .ok (.int .u8 (ch s (a + 1) : Int)) w := fun w => idx (w := w) s (a + 1) ha .i64
  have HB : Hid (Below g w (w.setCell ⟨g, 1, none⟩ (.int .i64 ((a : Int) + 1)))) := below_set (Nat.le_refl g) w _
  have R2 : Hid (Rd (w.setCell ⟨g, 1, none⟩ (.int .i64 ((a : Int) + 1))) g s (a + 1) v L x) := R1
  have q92 : ((ch s (a + 1) : Int) == 92) = false := by simp; omega
  have q34 : ((ch s (a + 1) : Int) == 34) = false := by simp; omega
  have q110 : ((ch s (a + 1) : Int) == 110) = true := by simp; omega
  have q114 : ((ch s (a + 1) : Int) == 114) = false := by simp; omega
  have q116 : ((ch s (a + 1) : Int) == 116) = false := by simp; omega
  clear R1 h
  go_enter Try.func31, Try.ntmps31
  go_wp2
  go_quiet (fail)
  rename Nat => n1
  go_wp2
  go_quiet (fail)
  go_wp2_with (go_at_call 40; refine (take_byte g s (a + 1) 1 v L x 10 _ _ ((w.setCell ⟨g, 1, none⟩ (.int .i64 ((a : Int) + 1))).drewN (n1 + nq)) (by simp [World.setCell]) (R2.out.drewN _) hl (by omega)).mono ?_; rintro e w1 ⟨rfl, ⟨v', hR⟩, hb1⟩)
  go_ret
  exact ⟨rfl, ⟨v', hR⟩, (bdN HB.out _).trans hb1⟩
set_option maxHeartbeats 1000000 in
theorem qmarked_r (g : Nat) (s : ByteArray) (a : Nat) (v : Value) (L : List Nat) (x : Option Value) (w : World) (h : Rd w g s a v L x) (ha : a + 1 < s.size) (hs : s.size ≤ 140737488355328) (hl : L.length + 1 ≤ 140737488355328) (hc : ch s (a + 1) = 114) :
    Calls Try.prog 31 #[.pointer (some ⟨g, 0, none⟩)] w fun r w' => r = .returned (.bool true) ∧ (∃ v', Rd w' g s (a + 2) v' (L ++ [13]) x) ∧ Below g w w' := by
  have R1 : Rd (w.setCell ⟨g, 1, none⟩ (.int .i64 ((a : Int) + 1))) g s (a + 1) v L x := by
    have := h.move (a + 1)
    rwa [Int.natCast_add] at this
  have c1 := h.h1
  have f1 := h.fz 1
  have c0 := R1.h0
  have c11 := R1.h1
  have e1 : ((a : Int) + 1 == (s.size : Int)) = false := by simp; omega
  have ix : ∀ w : World, (Instr.index 9 (.string s) (.int .i64 ((a : Int) + 1))).run Try.prog w = .ok (.int .u8 (ch s (a + 1) : Int)) w := fun w => idx (w := w) s (a + 1) ha .i64
  have HB : Hid (Below g w (w.setCell ⟨g, 1, none⟩ (.int .i64 ((a : Int) + 1)))) := below_set (Nat.le_refl g) w _
  have R2 : Hid (Rd (w.setCell ⟨g, 1, none⟩ (.int .i64 ((a : Int) + 1))) g s (a + 1) v L x) := R1
  have q92 : ((ch s (a + 1) : Int) == 92) = false := by simp; omega
  have q34 : ((ch s (a + 1) : Int) == 34) = false := by simp; omega
  have q110 : ((ch s (a + 1) : Int) == 110) = false := by simp; omega
  have q114 : ((ch s (a + 1) : Int) == 114) = true := by simp; omega
  have q116 : ((ch s (a + 1) : Int) == 116) = false := by simp; omega
  clear R1 h
  go_enter Try.func31, Try.ntmps31
  go_wp2
  go_quiet (fail)
  rename Nat => n1
  go_wp2
  go_quiet (fail)
  go_wp2_with (go_at_call 40; refine (take_byte g s (a + 1) 1 v L x 13 _ _ ((w.setCell ⟨g, 1, none⟩ (.int .i64 ((a : Int) + 1))).drewN (n1 + nq)) (by simp [World.setCell]) (R2.out.drewN _) hl (by omega)).mono ?_; rintro e w1 ⟨rfl, ⟨v', hR⟩, hb1⟩)
  go_ret
  exact ⟨rfl, ⟨v', hR⟩, (bdN HB.out _).trans hb1⟩
set_option maxHeartbeats 1000000 in
theorem qmarked_t (g : Nat) (s : ByteArray) (a : Nat) (v : Value) (L : List Nat) (x : Option Value) (w : World) (h : Rd w g s a v L x) (ha : a + 1 < s.size) (hs : s.size ≤ 140737488355328) (hl : L.length + 1 ≤ 140737488355328) (hc : ch s (a + 1) = 116) :
    Calls Try.prog 31 #[.pointer (some ⟨g, 0, none⟩)] w fun r w' => r = .returned (.bool true) ∧ (∃ v', Rd w' g s (a + 2) v' (L ++ [9]) x) ∧ Below g w w' := by
  have R1 : Rd (w.setCell ⟨g, 1, none⟩ (.int .i64 ((a : Int) + 1))) g s (a + 1) v L x := by
    have := h.move (a + 1)
    rwa [Int.natCast_add] at this
  have c1 := h.h1
  have f1 := h.fz 1
  have c0 := R1.h0
  have c11 := R1.h1
  have e1 : ((a : Int) + 1 == (s.size : Int)) = false := by simp; omega
  have ix : ∀ w : World, (Instr.index 9 (.string s) (.int .i64 ((a : Int) + 1))).run Try.prog w = .ok (.int .u8 (ch s (a + 1) : Int)) w := fun w => idx (w := w) s (a + 1) ha .i64
  have HB : Hid (Below g w (w.setCell ⟨g, 1, none⟩ (.int .i64 ((a : Int) + 1)))) := below_set (Nat.le_refl g) w _
  have R2 : Hid (Rd (w.setCell ⟨g, 1, none⟩ (.int .i64 ((a : Int) + 1))) g s (a + 1) v L x) := R1
  have q92 : ((ch s (a + 1) : Int) == 92) = false := by simp; omega
  have q34 : ((ch s (a + 1) : Int) == 34) = false := by simp; omega
  have q110 : ((ch s (a + 1) : Int) == 110) = false := by simp; omega
  have q114 : ((ch s (a + 1) : Int) == 114) = false := by simp; omega
  have q116 : ((ch s (a + 1) : Int) == 116) = true := by simp; omega
  clear R1 h
  go_enter Try.func31, Try.ntmps31
  go_wp2
  go_quiet (fail)
  rename Nat => n1
  go_wp2
  go_quiet (fail)
  go_wp2_with (go_at_call 40; refine (take_byte g s (a + 1) 1 v L x 9 _ _ ((w.setCell ⟨g, 1, none⟩ (.int .i64 ((a : Int) + 1))).drewN (n1 + nq)) (by simp [World.setCell]) (R2.out.drewN _) hl (by omega)).mono ?_; rintro e w1 ⟨rfl, ⟨v', hR⟩, hb1⟩)
  go_ret
  exact ⟨rfl, ⟨v', hR⟩, (bdN HB.out _).trans hb1⟩
set_option maxHeartbeats 1000000 in
theorem qmarked_no (g : Nat) (s : ByteArray) (a : Nat) (v : Value) (L : List Nat) (x : Option Value) (w : World) (h : Rd w g s a v L x) (ha : a + 1 < s.size) (hs : s.size ≤ 140737488355328) (hc : markF (ch s (a + 1)) = none) :
    Calls Try.prog 31 #[.pointer (some ⟨g, 0, none⟩)] w fun r w' => r = .returned (.bool false) ∧ Rd w' g s (a + 1) v L x ∧ Below g w w' := by
  have hn : ¬ ch s (a + 1) = 92 ∧ ¬ ch s (a + 1) = 34 ∧ ¬ ch s (a + 1) = 110 ∧ ¬ ch s (a + 1) = 114 ∧ ¬ ch s (a + 1) = 116 := by
    unfold markF at hc
    refine ⟨fun e => ?_, fun e => ?_, fun e => ?_, fun e => ?_, fun e => ?_⟩ <;> simp [e] at hc
  have R1 : Rd (w.setCell ⟨g, 1, none⟩ (.int .i64 ((a : Int) + 1))) g s (a + 1) v L x := by
    have := h.move (a + 1)
    rwa [Int.natCast_add] at this
  have c1 := h.h1
  have f1 := h.fz 1
  have c0 := R1.h0
  have c11 := R1.h1
  have e1 : ((a : Int) + 1 == (s.size : Int)) = false := by simp; omega
  have ix : ∀ w : World, (Instr.index 9 (.string s) (.int .i64 ((a : Int) + 1))).run Try.prog w = .ok (.int .u8 (ch s (a + 1) : Int)) w := fun w => idx (w := w) s (a + 1) ha .i64
  have HB : Hid (Below g w (w.setCell ⟨g, 1, none⟩ (.int .i64 ((a : Int) + 1)))) := below_set (Nat.le_refl g) w _
  have R2 : Hid (Rd (w.setCell ⟨g, 1, none⟩ (.int .i64 ((a : Int) + 1))) g s (a + 1) v L x) := R1
  have q92 : ((ch s (a + 1) : Int) == 92) = false := by simp; omega
  have q34 : ((ch s (a + 1) : Int) == 34) = false := by simp; omega
  have q110 : ((ch s (a + 1) : Int) == 110) = false := by simp; omega
  have q114 : ((ch s (a + 1) : Int) == 114) = false := by simp; omega
  have q116 : ((ch s (a + 1) : Int) == 116) = false := by simp; omega
  clear R1 h hn
  go_enter Try.func31, Try.ntmps31
  go_wp2
  go_quiet (fail)
  rename Nat => n1
  go_wp2
  go_quiet (fail)
  go_wp2
  go_ret
  exact ⟨rfl, R2.out.drewN _, bdN HB.out _⟩
theorem qmarked_any (g : Nat) (s : ByteArray) (a : Nat) (v : Value) (L : List Nat) (x : Option Value) (w : World) (h : Rd w g s a v L x) (ha : a + 1 < s.size) (hs : s.size ≤ 140737488355328) (hl : L.length + 1 ≤ 140737488355328) (m : Nat) (hc : markF (ch s (a + 1)) = some m) :
    Calls Try.prog 31 #[.pointer (some ⟨g, 0, none⟩)] w fun r w' => r = .returned (.bool true) ∧ (∃ v', Rd w' g s (a + 2) v' (L ++ [m]) x) ∧ Below g w w' := by
  unfold markF at hc
  split at hc
  · cases hc; exact qmarked_e92 g s a v L x w h ha hs hl (by assumption)
  · split at hc
    · cases hc; exact qmarked_e34 g s a v L x w h ha hs hl (by assumption)
    · split at hc
      · cases hc; exact qmarked_n g s a v L x w h ha hs hl (by assumption)
      · split at hc
        · cases hc; exact qmarked_r g s a v L x w h ha hs hl (by assumption)
        · split at hc
          · cases hc; exact qmarked_t g s a v L x w h ha hs hl (by assumption)
          · cases hc
end Go.Proofs.Ythiilkmnbjgoaaa
