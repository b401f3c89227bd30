/- The document's answer: a setting of the declaration. -/
import Derived.Test.YtchfphakhmifmabGreatDoorXB1
namespace Go.Proofs.YtchfphakhmifmabGreatDoor
open Go.ChangeShapes Go.WideShapes Go.ChangeAt Go.RowKit Go.Shelf Go.Lib

/-- Where a byte stands, from a place on. -/
def endQ (s : ByteArray) (p q : Nat) : Nat := p + ((lOf s).drop p).findIdx (· == q)
theorem lOf_drop (s : ByteArray) (a : Nat) (h : a < s.size) : (lOf s).drop a = ch s a :: (lOf s).drop (a + 1) := by
  have hl : a < (lOf s).length := by rw [lOf_length]; exact h
  rw [List.drop_eq_getElem_cons hl]
  congr 1
  have e : (lOf s)[a] = (s.data.toList[a]'(by rw [tl_len]; exact h)).toNat := by
    show (List.map UInt8.toNat s.data.toList)[a]'(by simpa [lOf] using hl) = _
    rw [List.getElem_map]
  rw [e]
  unfold ch
  simp [List.getD]
  rw [Array.getElem?_eq_getElem h]
  rfl
theorem endQ_yes {s : ByteArray} {p q : Nat} (h : p < s.size) (e : ch s p = q) : endQ s p q = p := by
  unfold endQ
  rw [lOf_drop s p h, List.findIdx_cons, e]
  simp
theorem endQ_no {s : ByteArray} {p q : Nat} (h : p < s.size) (e : ch s p ≠ q) : endQ s p q = endQ s (p + 1) q := by
  unfold endQ
  rw [lOf_drop s p h, List.findIdx_cons, beq_eq_false_iff_ne.2 e]
  simp
  omega
theorem endQ_end (s : ByteArray) (q : Nat) : endQ s s.size q = s.size := by
  unfold endQ
  rw [List.drop_eq_nil_of_le (by rw [lOf_length]; exact Nat.le_refl _)]
  rfl
def sp2 (s : ByteArray) (a : Nat) (nm : ByteArray) : Nat := skN s (skN s a + nm.size)
def sp3 (s : ByteArray) (a : Nat) (nm : ByteArray) : Nat := skN s (sp2 s a nm + 1)
def spQ (s : ByteArray) (p : Nat) : Bool := hasN s p ⟨#[34]⟩ || hasN s p ⟨#[39]⟩
/-- A setting at a place: its value, whether it is there, the place behind it. -/
def saidZ (s : ByteArray) (a : Nat) (nm : ByteArray) : ByteArray × Bool × Nat :=
  if (decide (a < skN s a) && hasN s (skN s a) nm) = true then
    if hasN s (sp2 s a nm) ⟨#[61]⟩ = true then
      if spQ s (sp3 s a nm) = true then
        if endQ s (sp3 s a nm + 1) (ch s (sp3 s a nm)) < s.size then (s.extract (sp3 s a nm + 1) (endQ s (sp3 s a nm + 1) (ch s (sp3 s a nm))), true, endQ s (sp3 s a nm + 1) (ch s (sp3 s a nm)) + 1)
        else (E0, false, a)
      else (E0, false, a)
    else (E0, false, a)
  else (E0, false, a)
theorem has_le {s p : ByteArray} {a : Nat} (ha : a ≤ s.size) (h : hasN s a p = true) : a + p.size ≤ s.size := by
  unfold hasN at h
  simp only [Bool.and_eq_true, decide_eq_true_eq] at h
  omega
theorem Hid.mk' {p : Prop} (h : p) : Hid p := h
theorem Mv.back {R : Nat} {w w1 : World} (h : Mv R w w1) (u : Value) : Mv R w (w1.setCell ⟨R, 1, none⟩ u) := h.trans (Mv.set R w1 u)
set_option maxRecDepth 100000 in
set_option maxHeartbeats 4000000 in
theorem rsaid (R : Nat) (s : ByteArray) (a : Nat) (nm : ByteArray) (w : World) (h : RA w R s a) (ha : a ≤ s.size) (hs : s.size ≤ 4611686018427387904) (hn : nm.size ≤ 1000) :
    Calls Tryz.prog 131 #[.pointer (some ⟨R, 0, none⟩), .string nm] w fun e w' => e = .returned (.tuple #[.string (saidZ s a nm).1, .bool (saidZ s a nm).2.1]) ∧ Mv R w w' ∧ RA w' R s (saidZ s a nm).2.2 := by
  have F1 : Hid (1 = 1) := rfl
  have F2 : Hid (2 = 2) := rfl
  have F3 : Hid (3 = 3) := rfl
  have F4 : Hid (4 = 4) := rfl
  have F5 : Hid (5 = 5) := rfl
  have d1 := h.h1
  have B1 := rblanks R s a w h ha (by omega)
  obtain ⟨m1, m2⟩ := skN_le s a ha
  by_cases h1 : (decide (a < skN s a) && hasN s (skN s a) nm) = true
  · have h2 : a < skN s a := by
      simp only [Bool.and_eq_true, decide_eq_true_eq] at h1; exact h1.1
    have h3 : hasN s (skN s a) nm = true := by
      simp only [Bool.and_eq_true, decide_eq_true_eq] at h1; exact h1.2
    have hz : saidZ s a nm = if hasN s (sp2 s a nm) ⟨#[61]⟩ = true then
      if spQ s (sp3 s a nm) = true then
        if endQ s (sp3 s a nm + 1) (ch s (sp3 s a nm)) < s.size then (s.extract (sp3 s a nm + 1) (endQ s (sp3 s a nm + 1) (ch s (sp3 s a nm))), true, endQ s (sp3 s a nm + 1) (ch s (sp3 s a nm)) + 1)
        else (E0, false, a)
      else (E0, false, a)
    else (E0, false, a) := by unfold saidZ; rw [if_pos h1]
    have m3 := has_le m2 h3
    have H1 := fun w1 hA => rhas R s (skN s a) nm w1 hA m2 hs (by omega)
    have B2 := fun w1 hA => rblanks R s (skN s a + nm.size) w1 hA m3 (by omega)
    obtain ⟨m4, m5⟩ := skN_le s _ m3
    rw [show skN s (skN s a + nm.size) = sp2 s a nm from rfl] at B2 m4 m5
    have H2 := fun w1 hA => rhas R s (sp2 s a nm) ⟨#[61]⟩ w1 hA m5 hs (by decide)
    rw [h3] at H1
    have q : (0 : Int) < ((skN s a - a : Nat) : Int) := by omega
    rw [hz]
    clear h1 h3 hz
    have B3 := fun w1 hA hle => rblanks R s (sp2 s a nm + 1) w1 hA hle (by omega)
    have M6 := fun hle => skN_le s (sp2 s a nm + 1) hle
    rw [show skN s (sp2 s a nm + 1) = sp3 s a nm from rfl] at B3 M6
    generalize sp3 s a nm = p3 at *
    generalize sp2 s a nm = p2 at *
    generalize skN s a = p1 at *
    cases h4 : hasN s p2 ⟨#[61]⟩
    · rw [h4] at H2
      rw [if_neg (by decide)]
      clear h4 B3 M6
      go_enter Tryz.func131, Tryz.ntmps131
      go_wp2_with (first
        | (go_at_call 129; refine B1.mono ?_; clear F1 B1; rintro e w1 ⟨rfl, hM1, hA1⟩)
        | (go_at_call 98; refine (H1 _ hA1).mono ?_; clear F2 H1; rintro e w2 ⟨rfl, hM2, hA2⟩; have g1 := hA2.h1; have g2 := hA2.fz 1)
        | (go_at_call 129; refine (B2 _ (hA2.put ((p1 : Int) + (nm.size : Int)) (by omega))).mono ?_; clear F3 B2; rintro e w3 ⟨rfl, hM3, hA3⟩)
        | (go_at_call_of 98 (Value.string ⟨#[61]⟩); refine (H2 _ hA3).mono ?_; clear H2; rintro e w4 ⟨rfl, hM4, hA4⟩; have g3 := hA4.h1; have g4 := hA4.fz 1))
      exact bodyPost_ret (v := .tuple #[.string ⟨#[]⟩, .bool false]) (by simp [results, Tryz.results131, go_sem]) rfl ⟨rfl, ((((hM1.trans hM2).back _).trans (hM3.trans hM4))).back _, (hA4).put _ rfl⟩
    · have m6 : p2 + 1 ≤ s.size := has_le m5 h4
      obtain ⟨m7, m8⟩ := M6 m6
      replace B3 := fun w1 hA => B3 w1 hA m6
      have H3 := fun w1 hA => rhas R s p3 ⟨#[34]⟩ w1 hA m8 hs (by decide)
      have H4 := fun w1 hA => rhas R s p3 ⟨#[39]⟩ w1 hA m8 hs (by decide)
      rw [h4] at H2
      rw [if_pos rfl]
      clear h4 M6
      have L3 : hasN s p3 ⟨#[34]⟩ = true → p3 + 1 ≤ s.size := has_le m8
      have L4 : hasN s p3 ⟨#[39]⟩ = true → p3 + 1 ≤ s.size := has_le m8
      unfold spQ
      generalize hasN s p3 ⟨#[34]⟩ = x at *
      generalize hasN s p3 ⟨#[39]⟩ = y at *
      have key : (x = false ∧ y = false) ∨ ((x = true ∨ (x = false ∧ y = true)) ∧ p3 + 1 ≤ s.size) := by cases x <;> cases y <;> simp_all
      clear L3 L4
      rcases key with ⟨rfl, rfl⟩ | ⟨hx, m9⟩
      · rw [if_neg (by decide)]
        go_enter Tryz.func131, Tryz.ntmps131
        go_wp2_with (first
          | (go_at_call 129; refine B1.mono ?_; clear F1 B1; rintro e w1 ⟨rfl, hM1, hA1⟩)
          | (go_at_call 98; refine (H1 _ hA1).mono ?_; clear F2 H1; rintro e w2 ⟨rfl, hM2, hA2⟩; have g1 := hA2.h1; have g2 := hA2.fz 1)
          | (go_at_call 129; refine (B2 _ (hA2.put ((p1 : Int) + (nm.size : Int)) (by omega))).mono ?_; clear F3 B2; rintro e w3 ⟨rfl, hM3, hA3⟩)
          | (go_at_call_of 98 (Value.string ⟨#[61]⟩); refine (H2 _ hA3).mono ?_; clear H2; rintro e w4 ⟨rfl, hM4, hA4⟩; have g3 := hA4.h1; have g4 := hA4.fz 1)
          | (go_at_call 129; refine (B3 _ (hA4.put ((p2 : Int) + 1) (by omega))).mono ?_; clear B3; rintro e w5 ⟨rfl, hM5, hA5⟩)
          | (go_at_call_of 98 (Value.string ⟨#[34]⟩); refine (H3 _ hA5).mono ?_; clear H3; rintro e w6 ⟨rfl, hM6, hA6⟩; have g5 := hA6.h1; have g6 := hA6.fz 1; have g7 := hA6.h0; have HW := Hid.mk' ((((hM1.trans hM2).back _).trans (hM3.trans hM4)).back _ |>.trans (hM5.trans hM6)); have HA := Hid.mk' hA6)
          | (go_at_call_of 98 (Value.string ⟨#[39]⟩); refine (H4 _ hA6).mono ?_; clear H4 HW HA; rintro e w7 ⟨rfl, hM7, hA7⟩; have g5 := hA7.h1; have g6 := hA7.fz 1; have g7 := hA7.h0; have HW := Hid.mk' (((((hM1.trans hM2).back _).trans (hM3.trans hM4)).back _).trans (hM5.trans (hM6.trans hM7))); have HA := Hid.mk' hA7))
        exact bodyPost_ret (v := .tuple #[.string ⟨#[]⟩, .bool false]) (by simp [results, Tryz.results131, go_sem]) rfl ⟨rfl, (HW.out).back _, (HA.out).put _ rfl⟩
      · have hxy : (x || y) = true := by rcases hx with rfl | ⟨rfl, rfl⟩ <;> simp
        rw [if_pos hxy]
        clear hxy
        have ix : ∀ w : World, (Instr.index 9 (.string s) (.int .i64 (p3 : Int))).run Tryz.prog w = .ok (.int .u8 (ch s p3 : Int)) w := fun w => idx (w := w) s p3 m9 .i64
        have m10 : (p3 : Int) < s.size := by omega
        generalize ch s p3 = c at *
        obtain ⟨Z, hZ⟩ : ∃ Z, Hid (Z = if endQ s (p3 + 1) c < s.size then (s.extract (p3 + 1) (endQ s (p3 + 1) c), true, endQ s (p3 + 1) c + 1) else (E0, false, a)) := ⟨_, rfl⟩
        rw [← hZ.out]
        rcases hx with rfl | ⟨rfl, rfl⟩
        all_goals
          go_enter Tryz.func131, Tryz.ntmps131
          go_wp2_with (first
            | (go_at_call 129; refine B1.mono ?_; clear F1 B1; rintro e w1 ⟨rfl, hM1, hA1⟩)
            | (go_at_call 98; refine (H1 _ hA1).mono ?_; clear F2 H1; rintro e w2 ⟨rfl, hM2, hA2⟩; have g1 := hA2.h1; have g2 := hA2.fz 1)
            | (go_at_call 129; refine (B2 _ (hA2.put ((p1 : Int) + (nm.size : Int)) (by omega))).mono ?_; clear F3 B2; rintro e w3 ⟨rfl, hM3, hA3⟩)
            | (go_at_call_of 98 (Value.string ⟨#[61]⟩); refine (H2 _ hA3).mono ?_; clear H2; rintro e w4 ⟨rfl, hM4, hA4⟩; have g3 := hA4.h1; have g4 := hA4.fz 1)
            | (go_at_call 129; refine (B3 _ (hA4.put ((p2 : Int) + 1) (by omega))).mono ?_; clear B3; rintro e w5 ⟨rfl, hM5, hA5⟩)
            | (go_at_call_of 98 (Value.string ⟨#[34]⟩); refine (H3 _ hA5).mono ?_; clear H3; rintro e w6 ⟨rfl, hM6, hA6⟩; have g5 := hA6.h1; have g6 := hA6.fz 1; have g7 := hA6.h0; have HW := Hid.mk' ((((hM1.trans hM2).back _).trans (hM3.trans hM4)).back _ |>.trans (hM5.trans hM6)); have HA := Hid.mk' hA6)
            | (go_at_call_of 98 (Value.string ⟨#[39]⟩); refine (H4 _ hA6).mono ?_; clear H4 HW HA; rintro e w7 ⟨rfl, hM7, hA7⟩; have g5 := hA7.h1; have g6 := hA7.fz 1; have g7 := hA7.h0; have HW := Hid.mk' (((((hM1.trans hM2).back _).trans (hM3.trans hM4)).back _).trans (hM5.trans (hM6.trans hM7))); have HA := Hid.mk' hA7))
          go_quiet (fail)
          go_wp2_with fail
          go_loopw [8] (fun i wr => ∃ k : Nat, p3 + 1 ≤ k ∧ k ≤ s.size ∧ i = .int .i64 (k : Int) ∧ endQ s k c = endQ s (p3 + 1) c ∧ Mv R w wr ∧ RA wr R s p3) (fun i _ => s.size - (RowKit.intOf i).toNat)
          case atStart => exact ⟨p3 + 1, Nat.le_refl _, m9, by go_num, rfl, HW.out.drewN _, HA.out.drewN _⟩
          case round =>
            obtain ⟨k, hk1, hk2, rfl, hE, hM, hA⟩ := hrel
            have j0 := hA.h0
            have j1 := hA.h1
            have j2 := hA.fz 1
            by_cases hlt : k < s.size
            · have hlt2 : (k : Int) < s.size := by omega
              have iy : ∀ w : World, (Instr.index 9 (.string s) (.int .i64 (k : Int))).run Tryz.prog w = .ok (.int .u8 (ch s k : Int)) w := fun w => idx (w := w) s k hlt .i64
              by_cases hc : ch s k = c
              · have hz : endQ s (p3 + 1) c = k := by rw [← hE]; exact endQ_yes hlt hc
                obtain rfl : Z = (s.extract (p3 + 1) k, true, k + 1) := by rw [hZ.out, hz, if_pos hlt]
                rw [hc] at iy
                clear hE hz hc hZ
                have hk3 : (p3 : Int) + 1 ≤ (k : Int) := by omega
                go_wp2_with fail
                go_quiet (fail)
                go_wp2_with fail
                exact bodyPost_ret (v := .tuple #[.string (s.extract (p3 + 1) k), .bool true]) (by simp [results, Tryz.results131, go_sem]) rfl ⟨rfl, (hM.drewN _).back _, (hA.drewN _).put _ (by omega)⟩
              · have hE2 : endQ s (k + 1) c = endQ s (p3 + 1) c := by rw [← endQ_no hlt hc]; exact hE
                have hc2 : ((ch s k : Int) == (c : Int)) = false := beq_eq_false_iff_ne.2 (by omega)
                have hc3 : ¬ (ch s k : Int) = (c : Int) := by omega
                generalize ch s k = d at *
                clear hE hc
                go_wp2_with fail
                go_roundw
                case rel => exact ⟨k + 1, by omega, by omega, by go_num, hE2, hM, hA⟩
                case measure => simp [RowKit.intOf]; omega
            · obtain rfl : k = s.size := by omega
              have hz : endQ s (p3 + 1) c = s.size := by rw [← hE]; exact endQ_end s c
              obtain rfl : Z = (E0, false, a) := by rw [hZ.out, hz, if_neg (Nat.lt_irrefl _)]
              have hlt2 : ¬ (s.size : Int) < s.size := by omega
              clear hE hz hZ
              go_wp2_with fail
              exact bodyPost_ret (v := .tuple #[.string ⟨#[]⟩, .bool false]) (by simp [results, Tryz.results131, go_sem]) rfl ⟨rfl, hM.back _, hA.put _ rfl⟩
  · have hz : saidZ s a nm = (E0, false, a) := by unfold saidZ; rw [if_neg h1]
    rw [hz]
    have H1 := fun w1 hA => rhas R s (skN s a) nm w1 hA m2 hs (by omega)
    by_cases h2 : a < skN s a
    · have h3 : hasN s (skN s a) nm = false := by
        rw [decide_eq_true h2, Bool.true_and] at h1
        exact Bool.eq_false_iff.2 h1
      rw [h3] at H1
      have q : (0 : Int) < ((skN s a - a : Nat) : Int) := by omega
      clear h1 h3 hz
      generalize skN s a = p1 at *
      go_enter Tryz.func131, Tryz.ntmps131
      go_wp2_with (first
        | (go_at_call 129; refine B1.mono ?_; clear F1; rintro e w1 ⟨rfl, hM1, hA1⟩)
        | (go_at_call 98; refine (H1 _ hA1).mono ?_; clear F2; rintro e w2 ⟨rfl, hM2, hA2⟩; have g1 := hA2.h1; have g2 := hA2.fz 1))
      exact bodyPost_ret (v := .tuple #[.string ⟨#[]⟩, .bool false]) (by simp [results, Tryz.results131, go_sem]) rfl ⟨rfl, (hM1.trans hM2).back _, hA2.put _ rfl⟩
    · have q : ¬ (0 : Int) < ((skN s a - a : Nat) : Int) := by omega
      clear h1 hz H1
      generalize skN s a = p1 at *
      go_enter Tryz.func131, Tryz.ntmps131
      go_wp2_with (first
        | (go_at_call 129; refine B1.mono ?_; clear F1; rintro e w1 ⟨rfl, hM1, hA1⟩; have g1 := hA1.h1; have g2 := hA1.fz 1))
      exact bodyPost_ret (v := .tuple #[.string ⟨#[]⟩, .bool false]) (by simp [results, Tryz.results131, go_sem]) rfl ⟨rfl, hM1.back _, hA1.put _ rfl⟩
end Go.Proofs.YtchfphakhmifmabGreatDoor
