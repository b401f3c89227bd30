/- The document's answer: the parts of the declaration's reader. -/
import Derived.Test.YtchfphakhmifmabGreatDoorXPr2
import Derived.Test.YtchfphakhmifmabGreatDoorXDecl2
namespace Go.Proofs.YtchfphakhmifmabGreatDoor
open Go.ChangeShapes Go.WideShapes Go.ChangeAt Go.RowKit Go.Shelf Go.Lib

def bla (c : Nat) : Bool := decide (c = 9 ∨ c = 10 ∨ c = 13 ∨ c = 32)
theorem rblank4 (c : Nat) (w : World) : Calls Tryz.prog 161 #[.int .u8 (c : Int)] w fun e w' => e = .returned (.bool (bla c)) ∧ w' = w := by
  unfold bla
  by_cases h1 : c = 9
  · subst h1
    go_enter Tryz.func161, Tryz.ntmps161
    go_wp2_with fail
    go_ret
    exact ⟨rfl, rfl⟩
  · have k1 : ((c : Int) == 9) = false := beq_eq_false_iff_ne.2 (by omega)
    by_cases h2 : c = 10
    · subst h2
      go_enter Tryz.func161, Tryz.ntmps161
      go_wp2_with fail
      go_ret
      exact ⟨rfl, rfl⟩
    · have k2 : ((c : Int) == 10) = false := beq_eq_false_iff_ne.2 (by omega)
      by_cases h3 : c = 13
      · subst h3
        go_enter Tryz.func161, Tryz.ntmps161
        go_wp2_with fail
        go_ret
        exact ⟨rfl, rfl⟩
      · have k3 : ((c : Int) == 13) = false := beq_eq_false_iff_ne.2 (by omega)
        by_cases h4 : c = 32
        · subst h4
          go_enter Tryz.func161, Tryz.ntmps161
          go_wp2_with fail
          go_ret
          exact ⟨rfl, rfl⟩
        · have k4 : ((c : Int) == 32) = false := beq_eq_false_iff_ne.2 (by omega)
          go_enter Tryz.func161, Tryz.ntmps161
          go_wp2_with fail
          go_ret
          exact ⟨ret_bool (by simp [h1, h2, h3, h4]), rfl⟩
theorem bla_contains (b : UInt8) : BLs.contains b = bla b.toNat := by
  unfold bla
  rw [Bool.eq_iff_iff]
  simp [BLs, ← UInt8.toNat_inj]
theorem ch_drop (s : ByteArray) (a : Nat) (h : a < s.size) : ∃ b r, s.data.toList.drop a = b :: r ∧ b.toNat = ch s a ∧ r = s.data.toList.drop (a + 1) := by
  have hl : a < s.data.toList.length := by rw [tl_len]; exact h
  refine ⟨s.data.toList[a], _, List.drop_eq_getElem_cons hl, ?_, rfl⟩
  unfold ch
  simp [List.getD]
  rw [Array.getElem?_eq_getElem h]
  rfl
theorem skN_yes {s : ByteArray} {a : Nat} (h : a < s.size) (hb : bla (ch s a) = true) : skN s a = skN s (a + 1) := by
  obtain ⟨b, r, e, hc, hr⟩ := ch_drop s a h
  unfold skN
  rw [e, List.findIdx_cons, bla_contains, hc, hb, ← hr]
  simp
  omega
theorem skN_no {s : ByteArray} {a : Nat} (h : a < s.size) (hb : bla (ch s a) = false) : skN s a = a := by
  obtain ⟨b, r, e, hc, hr⟩ := ch_drop s a h
  unfold skN
  rw [e, List.findIdx_cons, bla_contains, hc, hb]
  simp
theorem skN_end (s : ByteArray) : skN s s.size = s.size := by
  unfold skN
  rw [List.drop_eq_nil_of_le (by rw [tl_len]; exact Nat.le_refl _)]
  simp
set_option maxRecDepth 100000 in
set_option maxHeartbeats 4000000 in
theorem rblanks (R : Nat) (s : ByteArray) (a : Nat) (w : World) (h : RA w R s a) (ha : a ≤ s.size) (hs : s.size ≤ 9223372036854775800) :
    Calls Tryz.prog 129 #[.pointer (some ⟨R, 0, none⟩)] w fun e w' => e = .returned (.int .i64 ((skN s a - a : Nat) : Int)) ∧ Mv R w w' ∧ RA w' R s (skN s a) := by
  have hk := skN_le s a ha
  go_enter Tryz.func129, Tryz.ntmps129
  go_wp2_with fail
  go_loopw [3] (fun n wr => ∃ b : Nat, a ≤ b ∧ b ≤ s.size ∧ n = .int .i64 ((b - a : Nat) : Int) ∧ skN s b = skN s a ∧ Mv R w wr ∧ RA wr R s b) (fun n _ => s.size - (RowKit.intOf n).toNat)
  case atStart => exact ⟨a, Nat.le_refl _, ha, by rw [Nat.sub_self]; rfl, rfl, Mv.refl R w, h⟩
  case round =>
    obtain ⟨b, hab, hbs, rfl, hsk, hM, hA⟩ := hrel
    have c0 := hA.h0
    have c1 := hA.h1
    have hf := hA.fz 1
    by_cases hlt : b < s.size
    · have hlt2 : (b : Int) < s.size := by omega
      have ix : ∀ w : World, (Instr.index 9 (.string s) (.int .i64 (b : Int))).run Tryz.prog w = .ok (.int .u8 (ch s b : Int)) w := fun w => idx (w := w) s b hlt .i64
      have cB := fun w => rblank4 (ch s b) w
      cases hb : bla (ch s b)
      · rw [hb] at cB
        have hz : skN s a = b := by rw [← hsk]; exact skN_no hlt hb
        clear hb
        go_wp2_with fail
        go_quiet ((go_at_call 161; refine Calls.quiet_of_same (cB _)))
        go_wp2_with fail
        go_ret
        rw [hz]
        exact ⟨rfl, hM.drewN _, hA.drewN _⟩
      · rw [hb] at cB
        have hz : skN s (b + 1) = skN s a := by rw [← skN_yes hlt hb]; exact hsk
        clear hb
        go_wp2_with fail
        go_quiet ((go_at_call 161; refine Calls.quiet_of_same (cB _)))
        go_wp2_with fail
        refine ⟨⟨b + 1, by omega, hlt, ?_, hz, (hM.drewN nq).trans (Mv.set R _ _), (hA.drewN nq).put _ (by omega)⟩, ?_⟩
        · congr 1; omega
        · simp only [RowKit.intOf]; omega
    · obtain rfl : b = s.size := by omega
      have hz : skN s a = s.size := by rw [← hsk]; exact skN_end s
      go_wp2_with fail
      go_quiet ((go_at_call 161; refine Calls.quiet_of_same (cB _)))
      go_wp2_with fail
      go_ret
      rw [hz]
      exact ⟨rfl, hM.drewN _, hA.drewN _⟩
/-- Does the rest begin with a text? -/
def hasN (s : ByteArray) (a : Nat) (p : ByteArray) : Bool := decide (p.size ≤ s.size - a) && decide (s.extract a (a + p.size) = p)
set_option maxRecDepth 100000 in
theorem rhas (R : Nat) (s : ByteArray) (a : Nat) (p : ByteArray) (w : World) (h : RA w R s a) (ha : a ≤ s.size) (hs : s.size ≤ 4611686018427387904) (hp : p.size ≤ 4611686018427387904) :
    Calls Tryz.prog 98 #[.pointer (some ⟨R, 0, none⟩), .string p] w fun e w' => e = .returned (.bool (hasN s a p)) ∧ Mv R w w' ∧ RA w' R s a := by
  have c0 := h.h0
  have c1 := h.h1
  unfold hasN
  by_cases hle : p.size ≤ s.size - a
  · rw [decide_eq_true hle, Bool.true_and]
    have hq : (p.size : Int) ≤ (s.size : Int) - (a : Int) := by omega
    have hx := str_beq (s.extract a (a + p.size)) p
    generalize decide (s.extract a (a + p.size) = p) = x at hx ⊢
    go_enter Tryz.func98, Tryz.ntmps98
    go_wp2_with fail
    go_quiet (fail)
    go_wp2_with fail
    go_ret
    exact ⟨rfl, (Mv.refl R w).drewN _, h.drewN _⟩
  · rw [decide_eq_false hle, Bool.false_and]
    have hq : ¬ (p.size : Int) ≤ (s.size : Int) - (a : Int) := by omega
    have hq2 : decide ((p.size : Int) ≤ (s.size : Int) - (a : Int)) = false := decide_eq_false hq
    go_enter Tryz.func98, Tryz.ntmps98
    go_wp2_with fail
    go_quiet (fail)
    go_wp2_with fail
    go_ret
    exact ⟨rfl, (Mv.refl R w).drewN _, h.drewN _⟩
end Go.Proofs.YtchfphakhmifmabGreatDoor
