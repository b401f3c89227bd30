/- The document's reader of pieces: its parts. -/
import Derived.Test.YtchfphakhmifmaaGreatDoorXB4
namespace Go.Proofs.YtchfphakhmifmaaGreatDoor
open Go.ChangeShapes Go.WideShapes Go.ChangeAt Go.RowKit Go.Shelf Go.Lib

/-- May a byte stand in a name's row? -/
def nmB (c : Nat) : Bool := decide (c ≠ 60 ∧ c ≠ 62 ∧ c ≠ 47 ∧ c ≠ 61 ∧ c ≠ 34 ∧ c ≠ 39 ∧ c ≠ 38) && !bla c
set_option maxHeartbeats 2000000 in
theorem rnameByte (c : Nat) (w : World) : Calls Tryz.prog 137 #[.int .u8 (c : Int)] w fun e w' => e = .returned (.bool (nmB c)) ∧ w' = w := by
  have cB := fun w => rblank4 c w
  by_cases h : c = 60 ∨ c = 62 ∨ c = 47 ∨ c = 61 ∨ c = 34 ∨ c = 39 ∨ c = 38
  · have hz : nmB c = false := by
      unfold nmB
      rw [decide_eq_false (by omega), Bool.false_and]
    rw [hz]
    clear hz cB
    rcases h with rfl | rfl | rfl | rfl | rfl | rfl | rfl
    all_goals
      go_enter Tryz.func137, Tryz.ntmps137
      go_wp2_with fail
      go_ret
      exact ⟨rfl, rfl⟩
  · have hz : nmB c = !bla c := by
      unfold nmB
      rw [decide_eq_true (by omega), Bool.true_and]
    rw [hz]
    have k1 : ((c : Int) == 60) = false := beq_eq_false_iff_ne.2 (by omega)
    have k2 : ((c : Int) == 62) = false := beq_eq_false_iff_ne.2 (by omega)
    have k3 : ((c : Int) == 47) = false := beq_eq_false_iff_ne.2 (by omega)
    have k4 : ((c : Int) == 61) = false := beq_eq_false_iff_ne.2 (by omega)
    have k5 : ((c : Int) == 34) = false := beq_eq_false_iff_ne.2 (by omega)
    have k6 : ((c : Int) == 39) = false := beq_eq_false_iff_ne.2 (by omega)
    have k7 : ((c : Int) == 38) = false := beq_eq_false_iff_ne.2 (by omega)
    clear h hz
    generalize bla c = b at *
    go_enter Tryz.func137, Tryz.ntmps137
    go_wp2_with (go_at_call 114; refine (cB _).mono ?_; rintro e w1 ⟨rfl, rfl⟩)
    go_ret
    exact ⟨rfl, rfl⟩
/-- The end of the name's row at a place. -/
def rowN (s : ByteArray) (a : Nat) : Nat := a + ((lOf s).drop a).findIdx (fun c => !nmB c)
theorem rowN_yes {s : ByteArray} {a : Nat} (h : a < s.size) (e : nmB (ch s a) = true) : rowN s a = rowN s (a + 1) := by
  unfold rowN
  rw [lOf_drop s a h, List.findIdx_cons, e]
  simp
  omega
theorem rowN_no {s : ByteArray} {a : Nat} (h : a < s.size) (e : nmB (ch s a) = false) : rowN s a = a := by
  unfold rowN
  rw [lOf_drop s a h, List.findIdx_cons, e]
  simp
theorem rowN_end (s : ByteArray) : rowN s s.size = s.size := by
  unfold rowN
  rw [List.drop_eq_nil_of_le (by rw [lOf_length]; exact Nat.le_refl _)]
  rfl
theorem rowN_le (s : ByteArray) (a : Nat) (h : a ≤ s.size) : a ≤ rowN s a ∧ rowN s a ≤ s.size := by
  unfold rowN
  have : ((lOf s).drop a).findIdx (fun c => !nmB c) ≤ ((lOf s).drop a).length := List.findIdx_le_length
  rw [List.length_drop, lOf_length] at this
  omega
set_option maxRecDepth 100000 in
set_option maxHeartbeats 4000000 in
theorem rrow (R : Nat) (s : ByteArray) (a : Nat) (w : World) (h : RA w R s a) (ha : a ≤ s.size) (hs : s.size ≤ 9223372036854775800) :
    Calls Tryz.prog 116 #[.pointer (some ⟨R, 0, none⟩)] w fun e w' => e = .returned (.int .i64 (rowN s a : Int)) ∧ w' = w := by
  have c0 := h.h0
  have c1 := h.h1
  go_enter Tryz.func116, Tryz.ntmps116
  go_wp2_with fail
  go_loop [3] (fun i => ∃ b : Nat, a ≤ b ∧ b ≤ s.size ∧ i = .int .i64 (b : Int) ∧ Hid (rowN s b = rowN s a)) (fun i => s.size - (RowKit.intOf i).toNat)
  case atStart => exact ⟨a, Nat.le_refl _, ha, rfl, rfl⟩
  case round =>
    obtain ⟨b, hab, hbs, rfl, hN⟩ := hrel
    by_cases hlt : b < s.size
    · have hlt2 : (b : Int) < s.size := by omega
      have ix : ∀ w : World, (Instr.index 9 (.string s) (.int .i64 (b : Int))).run Tryz.prog w = .ok (.int .u8 (ch s b : Int)) w := fun w => idx (w := w) s b hlt .i64
      have cN := fun w => rnameByte (ch s b) w
      cases hb : nmB (ch s b)
      · rw [hb] at cN
        have hz : Hid (rowN s a = b) := hN.out.symm.trans (rowN_no hlt hb)
        clear hb
        go_wp2_with (go_at_call 137; refine (cN _).mono ?_; rintro e w1 ⟨rfl, rfl⟩)
        go_ret
        exact ⟨by rw [hz.out]; rfl, rfl⟩
      · rw [hb] at cN
        have hz : Hid (rowN s (b + 1) = rowN s a) := (rowN_yes hlt hb).symm.trans hN.out
        clear hb
        go_wp2_with (go_at_call 137; refine (cN _).mono ?_; rintro e w1 ⟨rfl, rfl⟩)
        go_round
        case rel => exact ⟨b + 1, by omega, by omega, by go_num, hz⟩
        case measure => simp [RowKit.intOf]; omega
    · obtain rfl : b = s.size := by omega
      have hlt2 : ¬ (s.size : Int) < s.size := by omega
      have hz : Hid (rowN s a = s.size) := hN.out.symm.trans (rowN_end s)
      go_wp2_with fail
      go_ret
      exact ⟨by rw [hz.out]; rfl, rfl⟩
end Go.Proofs.YtchfphakhmifmaaGreatDoor
