/- The states: content, comment, declaration, begin. -/
import Derived.Test.YtchfphakhmifmaaGreatDoorXSt2
import Derived.Test.YtchfphakhmifmaaGreatDoorMB
namespace Go.Proofs.YtchfphakhmifmaaGreatDoor
open Go.ChangeShapes Go.WideShapes Go.ChangeAt Go.RowKit Go.Shelf Go.Lib

theorem hasPrefix2 (s : ByteArray) (a c : Nat) (hc : c < 256) (ha : a < s.size) (h60 : ch s a = 60) : Lib.hasPrefix (s.extract a s.size).data.toList [60, UInt8.ofNat c] = decide (a + 1 < s.size ∧ ch s (a + 1) = c) := by
  rw [list_from]
  have h0 : s.data.toList.drop a = s.data.toList.getD a 0 :: s.data.toList.drop (a + 1) := by
    rw [List.drop_eq_getElem_cons (by rw [tl_len]; exact ha), List.getD_eq_getElem?_getD, List.getElem?_eq_getElem (by rw [tl_len]; exact ha)]; rfl
  have e0 : s.data.toList.getD a 0 = 60 := UInt8.toNat_inj.1 h60
  rw [h0, e0]
  by_cases h1 : a + 1 < s.size
  · have h2 : s.data.toList.drop (a + 1) = s.data.toList.getD (a + 1) 0 :: s.data.toList.drop (a + 2) := by
      rw [List.drop_eq_getElem_cons (by rw [tl_len]; exact h1), List.getD_eq_getElem?_getD, List.getElem?_eq_getElem (by rw [tl_len]; exact h1)]; rfl
    rw [h2]
    unfold Lib.hasPrefix
    simp only [List.isPrefixOf, beq_self_eq_true, Bool.true_and, Bool.and_true]
    by_cases h3 : ch s (a + 1) = c
    · have e3 : s.data.toList.getD (a + 1) 0 = UInt8.ofNat c := UInt8.toNat_inj.1 (by rw [show (s.data.toList.getD (a + 1) 0).toNat = c from h3]; simp; omega)
      rw [e3, decide_eq_true ⟨h1, h3⟩]
      simp
    · rw [decide_eq_false (fun h => h3 h.2), beq_eq_false_iff_ne]
      intro e
      apply h3
      show (s.data.toList.getD (a + 1) 0).toNat = c
      rw [← e]
      simp
      omega
  · rw [List.drop_eq_nil_of_le (by rw [tl_len]; omega), decide_eq_false (fun h => h1 h.1)]
    rfl
def contentZ (s : ByteArray) (a : Nat) : Sz :=
  if s.size ≤ a then .go none a none
  else if ch s a = 60 then
    if a + 1 < s.size ∧ ch s (a + 1) = 47 then .go (some 111) a none
    else if a + 1 < s.size ∧ ch s (a + 1) = 33 then .go (some 112) a none
    else if a + 1 < s.size ∧ ch s (a + 1) = 63 then .bad 44 a
    else .go (some 113) a none
  else .go (some 110) a none
set_option maxHeartbeats 4000000 in
theorem content_any (R : Nat) (s : ByteArray) (a : Nat) (v : Nat → Value) (w : World) (h : RC w R v) (v0 : v 0 = .string s) (v1 : v 1 = .int .i64 (a : Int)) (ha : a ≤ s.size) :
    Calls Tryz.prog 83 #[.pointer (some ⟨R, 0, none⟩)] w (StPost R w v (contentZ s a)) := by
  have hA := h.ra v0 v1
  have c0 : ∀ n, (w.drewN n).cell? ⟨R, 0, none⟩ = some (.string s) := fun n => hA.h0
  have c1 : ∀ n, (w.drewN n).cell? ⟨R, 1, none⟩ = some (.int .i64 (a : Int)) := fun n => hA.h1
  have sl : ∀ w : World, (Instr.slice 9 (.string s) (some (.int .i64 (a : Int))) none none).run Tryz.prog w = .ok (.string (s.extract a s.size)) w := fun w => slice_from s a ha w
  have hz := size_ext s a s.size (Nat.le_refl _)
  have hem := nempty (s.extract a s.size)
  have FIN : ∀ n, But R w (w.drewN n) ∧ RC (w.drewN n) R (fin v a none) := fun n => ⟨((Mv.refl R w).drewN n).but, by show RC _ R (upd v 1 _); rw [upd_same v 1 _ v1]; exact ⟨h.c, h.fz, h.lt⟩⟩
  have hmf := hmfA
  unfold contentZ
  by_cases h1 : s.size ≤ a
  · rw [if_pos h1]
    rw [decide_eq_true (by omega)] at hem
    have hemp : (s.extract a s.size).toList.isEmpty = true := by cases hl : (s.extract a s.size).toList with | nil => rfl | cons _ _ => rw [hl] at hem; exact absurd hem (by simp)
    generalize s.extract a s.size = u at *
    have HF : Hid (∀ n, But R w (w.drewN n) ∧ RC (w.drewN n) R (fin v a none)) := FIN
    clear FIN
    go_enter Tryz.func83, Tryz.ntmps83
    go_wp2_with fail
    go_quiet (fail)
    go_wp2_with fail
    go_ret
    exact ⟨rfl, (HF.out _).1, (HF.out _).2⟩
  rw [if_neg h1]
  rw [decide_eq_false (by omega)] at hem
  have hemp : (s.extract a s.size).toList.isEmpty = false := by cases hl : (s.extract a s.size).toList with | nil => rw [hl] at hem; exact absurd hem (by decide) | cons _ _ => rfl
  have ix : ∀ w : World, (Instr.index 9 (.string (s.extract a s.size)) (.int .i64 0)).run Tryz.prog w = .ok (.int .u8 (ch s a : Int)) w := fun w => by
    have := idx (w := w) (s.extract a s.size) 0 (by omega) .i64
    rw [ch_ext s a s.size 0 (by omega)] at this
    exact this
  by_cases h2 : ch s a = 60
  · rw [if_pos h2]
    rw [h2] at ix
    have p1 : ∀ w : World, Calls Tryz.prog 81 #[.string (s.extract a s.size), .string ⟨#[60, 47]⟩] w fun e w' => e = .returned (.bool (decide (a + 1 < s.size ∧ ch s (a + 1) = 47))) ∧ w' = w := fun w => by
      rw [← hasPrefix2 s a 47 (by decide) (by omega) h2]; exact strHasPrefix (s.extract a s.size) ⟨#[60, 47]⟩ w
    have p2 : ∀ w : World, Calls Tryz.prog 81 #[.string (s.extract a s.size), .string ⟨#[60, 33]⟩] w fun e w' => e = .returned (.bool (decide (a + 1 < s.size ∧ ch s (a + 1) = 33))) ∧ w' = w := fun w => by
      rw [← hasPrefix2 s a 33 (by decide) (by omega) h2]; exact strHasPrefix (s.extract a s.size) ⟨#[60, 33]⟩ w
    have p3 : ∀ w : World, Calls Tryz.prog 81 #[.string (s.extract a s.size), .string ⟨#[60, 63]⟩] w fun e w' => e = .returned (.bool (decide (a + 1 < s.size ∧ ch s (a + 1) = 63))) ∧ w' = w := fun w => by
      rw [← hasPrefix2 s a 63 (by decide) (by omega) h2]; exact strHasPrefix (s.extract a s.size) ⟨#[60, 63]⟩ w
    generalize s.extract a s.size = u at *
    have HF : Hid (∀ n, But R w (w.drewN n) ∧ RC (w.drewN n) R (fin v a none)) := FIN
    clear FIN h2
    by_cases k1 : a + 1 < s.size ∧ ch s (a + 1) = 47
    · rw [if_pos k1]
      rw [decide_eq_true k1] at p1
      clear p2 p3 k1
      go_enter Tryz.func83, Tryz.ntmps83
      go_wp2_with fail
      go_quiet (fail)
      go_wp2_with (go_at_call 81; refine (p1 _).mono ?_; clear p1; rintro e w2 ⟨rfl, rfl⟩)
      go_ret
      exact ⟨rfl, (HF.out _).1, (HF.out _).2⟩
    rw [if_neg k1]
    rw [decide_eq_false k1] at p1
    by_cases k2 : a + 1 < s.size ∧ ch s (a + 1) = 33
    · rw [if_pos k2]
      rw [decide_eq_true k2] at p2
      clear p3 k1 k2
      go_enter Tryz.func83, Tryz.ntmps83
      go_wp2_with fail
      go_quiet (fail)
      go_wp2_with (first | (go_at_call 81; go_fit (p1 _); clear p1; rintro e w2 ⟨rfl, rfl⟩) | (go_at_call 81; go_fit (p2 _); clear p2; rintro e w2 ⟨rfl, rfl⟩))
      go_ret
      exact ⟨rfl, (HF.out _).1, (HF.out _).2⟩
    rw [if_neg k2]
    rw [decide_eq_false k2] at p2
    by_cases k3 : a + 1 < s.size ∧ ch s (a + 1) = 63
    · rw [if_pos k3]
      rw [decide_eq_true k3] at p3
      clear k1 k2 k3
      go_enter Tryz.func83, Tryz.ntmps83
      go_wp2_with fail
      go_quiet (fail)
      go_wp2_with (first
        | (go_at_call 81; go_fit (p1 _); clear p1; rintro e w2 ⟨rfl, rfl⟩)
        | (go_at_call 81; go_fit (p2 _); clear p2; rintro e w2 ⟨rfl, rfl⟩)
        | (go_at_call 81; go_fit (p3 _); clear p3; rintro e w2 ⟨rfl, rfl⟩; have d1 := c1 nq)
        | (go_at_call 80; refine (giveUp_lit 44 44 a rfl _).mono ?_; rintro e w6 ⟨rfl, rfl⟩))
      exact ⟨rfl, rfl, (Mv.refl R w).drewN _⟩
    rw [if_neg k3]
    rw [decide_eq_false k3] at p3
    clear k1 k2 k3
    go_enter Tryz.func83, Tryz.ntmps83
    go_wp2_with fail
    go_quiet (fail)
    go_wp2_with (first
      | (go_at_call 81; go_fit (p1 _); clear p1; rintro e w2 ⟨rfl, rfl⟩)
      | (go_at_call 81; go_fit (p2 _); clear p2; rintro e w2 ⟨rfl, rfl⟩)
      | (go_at_call 81; go_fit (p3 _); clear p3; rintro e w2 ⟨rfl, rfl⟩))
    go_ret
    exact ⟨rfl, (HF.out _).1, (HF.out _).2⟩
  · rw [if_neg h2]
    have k1 : ((ch s a : Int) == 60) = false := beq_eq_false_iff_ne.2 (by omega)
    have k2 : ((ch s a : Int) != 60) = true := bne_iff_ne.2 (by omega)
    generalize s.extract a s.size = u at *
    generalize ch s a = c at *
    have HF : Hid (∀ n, But R w (w.drewN n) ∧ RC (w.drewN n) R (fin v a none)) := FIN
    clear FIN
    go_enter Tryz.func83, Tryz.ntmps83
    go_wp2_with fail
    go_quiet (fail)
    go_wp2_with fail
    go_ret
    exact ⟨rfl, (HF.out _).1, (HF.out _).2⟩
end Go.Proofs.YtchfphakhmifmaaGreatDoor
