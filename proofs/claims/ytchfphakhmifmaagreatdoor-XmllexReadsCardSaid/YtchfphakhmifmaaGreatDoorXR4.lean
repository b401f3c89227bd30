/- The document's reader of pieces: an attribute's value. -/
import Derived.Test.YtchfphakhmifmaaGreatDoorXR2
import Derived.Test.YtchfphakhmifmaaGreatDoorRef18
import Derived.Test.YtchfphakhmifmaaGreatDoorXSt4
namespace Go.Proofs.YtchfphakhmifmaaGreatDoor
open Go.ChangeShapes Go.WideShapes Go.ChangeAt Go.RowKit Go.Shelf Go.Lib

/-- What a part that answers a text leaves. -/
def RzX (R : Nat) (s : ByteArray) (v : Value) (w : World) (z : Rz) (a : Nat) (e : Ending) (w' : World) : Prop :=
  But R w w' ∧ match z with
    | .bad er p => e = .returned (.tuple #[.string E0, .bool false]) ∧ RX w' R s a v er p
    | .val t b => e = .returned (.tuple #[.string t, .bool true]) ∧ RX w' R s b v 0 0
theorem RX.drewN {w : World} {R : Nat} {s : ByteArray} {a : Nat} {v : Value} {er fl : Nat} (h : RX w R s a v er fl) (n : Nat) : RX (w.drewN n) R s a v er fl := ⟨h.c0, h.c1, h.c2, h.c3, h.c4, h.fz⟩
theorem but_drewN {R : Nat} {w wr : World} (h : But R w wr) (n : Nat) : But R w (wr.drewN n) := ⟨h.os, h.tape, h.output, h.size, h.block⟩
theorem but_below {R : Nat} {w wr w' : World} (h : But R w wr) (hb : Below wr.heap.size wr w') : But R w w' := h.trans ⟨hb.os, hb.tape, hb.output, hb.size, fun k hk _ => hb.block k hk⟩
theorem up_end (E : List UInt8) (s : ByteArray) : upN E s s.size = s.size := by
  unfold upN
  rw [List.drop_eq_nil_of_le (by rw [tl_len]; exact Nat.le_refl _)]
  rfl
theorem up2_no {s : ByteArray} {b : Nat} {q : UInt8} (h : b < s.size) (hc : ch s b = 60 ∨ ch s b = q.toNat) : upN [60, q] s b = b := by
  obtain ⟨c, r, e, hcc, _⟩ := ch_drop s b h
  have : List.contains [60, q] c = true := by
    simp only [List.contains_cons, List.contains_nil, Bool.or_false, Bool.or_eq_true, beq_iff_eq]
    rw [← hcc] at hc
    rcases hc with hc | hc
    · left; exact UInt8.toNat_inj.1 hc
    · right; exact UInt8.toNat_inj.1 hc
  unfold upN
  rw [e, List.findIdx_cons, this]
  rfl
theorem up2_yes {s : ByteArray} {b : Nat} {q : UInt8} (h : b < s.size) (h1 : ¬ ch s b = 60) (h2 : ¬ ch s b = q.toNat) : upN [60, q] s b = upN [60, q] s (b + 1) := by
  obtain ⟨c, r, e, hcc, hr⟩ := ch_drop s b h
  have : List.contains [60, q] c = false := by
    simp only [List.contains_cons, List.contains_nil, Bool.or_false, Bool.or_eq_false_iff, beq_eq_false_iff_ne]
    rw [← hcc] at h1 h2
    exact ⟨fun hh => h1 (by rw [hh]; rfl), fun hh => h2 (by rw [hh])⟩
  unfold upN
  rw [e, List.findIdx_cons, this, ← hr]
  simp
  omega
set_option maxRecDepth 100000 in
set_option maxHeartbeats 4000000 in
theorem rvalue_q (R : Nat) (s : ByteArray) (a : Nat) (v : Value) (q : UInt8) (hq : q.toNat = 34 ∨ q.toNat = 39) (w : World) (h : RX w R s a v 0 0) (ha : a < s.size) (hc : ch s a = q.toNat) (hs : s.size ≤ 1048576) :
    Calls Tryz.prog 93 #[.pointer (some ⟨R, 0, none⟩)] w (RzX R s v w (valQ s a q) a) := by
  have d0 := h.c0
  have d1 := h.c1
  have k0 : ((a : Int) == (s.size : Int)) = false := beq_eq_false_iff_ne.2 (by omega)
  have k00 : ¬ (a : Int) = (s.size : Int) := by omega
  have ix : ∀ w : World, (Instr.index 9 (.string s) (.int .i64 (a : Int))).run Tryz.prog w = .ok (.int .u8 (q.toNat : Int)) w := fun w => by rw [← hc]; exact idx (w := w) s a (by omega) .i64
  have hlt0 : (a : Int) < (s.size : Int) := by omega
  have kq : ((q.toNat : Int) != 34 && (q.toNat : Int) != 39) = false := by
    rcases hq with h | h <;> rw [h] <;> rfl
  have hq60 : ¬ q.toNat = 60 := by omega
  have HX := Hid.mk' h
  have hz : ∀ u, upN [60, q] s (a + 1) = u → valQ s a q = (if s.size ≤ u then .bad 41 s.size else if ch s u = q.toNat then match plainZ (s.extract (a + 1) u) (a + 1) with | (none, t) => .val t (u + 1) | (some (er, p), _) => .bad er p else .bad 40 u) := by
    rintro u rfl; rfl
  have HZ := Hid.mk' hz
  clear hz h
  rcases hq with hq | hq
  · rw [hq] at ix kq hq60 hc
    go_enter Tryz.func93, Tryz.ntmps93
    go_wp2_with fail
    go_quiet (fail)
    go_wp2_with fail
    go_quiet (fail)
    go_wp2_with fail
    go_loopw [6] (fun i wr => ∃ b : Nat, a + 1 ≤ b ∧ b ≤ s.size ∧ i = .int .i64 (b : Int) ∧ Hid (upN [60, q] s (a + 1) = upN [60, q] s b) ∧ Hid (RX wr R s a v 0 0) ∧ Hid (But R w wr)) (fun i _ => s.size - (RowKit.intOf i).toNat)
    case atStart => exact ⟨a + 1, Nat.le_refl _, by omega, by go_num, rfl, HX.out.drewN _, but_drewN (But.refl R w) _⟩
    case round =>
      obtain ⟨b, hab, hbs, rfl, HN, HR, HB⟩ := hrel
      have e0 := HR.out.c0
      by_cases hlt : b < s.size
      · have hltI : (b : Int) < (s.size : Int) := by omega
        have ixb : ∀ w : World, (Instr.index 9 (.string s) (.int .i64 (b : Int))).run Tryz.prog w = .ok (.int .u8 (ch s b : Int)) w := fun w => idx (w := w) s b hlt .i64
        by_cases h60 : ch s b = 60
        · rw [h60] at ixb
          have cF := rfault R s a v 40 b wr HR.out
          have HZ2 := Hid.mk' (show valQ s a q = .bad 40 b by rw [HZ.out b (HN.out.trans (up2_no hlt (.inl h60))), if_neg (by omega), if_neg (by rw [h60, hq]; decide)])
          clear h60
          go_wp2_with (go_at_call 40; refine cF.mono ?_; rintro e w1 ⟨rfl, hb, hx⟩)
          exact bodyPost_ret (v := .tuple #[.string ⟨#[]⟩, .bool false]) (by simp [results, Tryz.results93, go_sem]) rfl (by unfold RzX; rw [HZ2.out]; exact ⟨HB.out.trans hb, rfl, hx⟩)
        · by_cases hqb : ch s b = q.toNat
          · have hu : upN [60, q] s (a + 1) = b := HN.out.trans (up2_no hlt (.inr hqb))
            have hzz := HZ.out b hu
            rw [if_neg (by omega), if_pos hqb] at hzz
            rw [hqb, hq] at ixb
            have j1 : (a : Int) + 1 ≤ (b : Int) := by omega
            have j2 : (b : Int) ≤ (s.size : Int) := by omega
            have hsl : ∀ w : World, (Instr.slice 9 (.string s) (some (.int .i64 ((a : Int) + 1))) (some (.int .i64 (b : Int))) none).run Tryz.prog w = .ok (.string (s.extract (a + 1) b)) w := fun w => by
              have := slice_fromto s (a + 1) b (by omega) (by omega) w
              rwa [show ((a + 1 : Nat) : Int) = (a : Int) + 1 by omega] at this
            have cU := rUnescape (s.extract (a + 1) b) wr (by have := ext_size_le s (a + 1) b; omega)
            have hpl := une_place (s.extract (a + 1) b)
            have hpz := ext_size_le s (a + 1) b
            unfold plainZ at hzz
            by_cases hz0 : (uneN (s.extract (a + 1) b)).2.1 = 0
            · rw [if_pos hz0] at hzz
              rw [hz0] at cU
              have HZ2 := Hid.mk' hzz
              generalize sOf (uneN (s.extract (a + 1) b)).1 = T at *
              generalize (uneN (s.extract (a + 1) b)).2.2 = P at *
              generalize s.extract (a + 1) b = U at *
              clear hz0 hzz hu h60 hqb
              go_wp2_with (go_at_call 90; refine cU.mono ?_; clear cU; rintro e w2 ⟨rfl, hb2⟩; have HY := Hid.mk' (HR.out.below hb2); have y1 := HY.out.c1; have y2 := HY.out.fz 1)
              exact bodyPost_ret (v := .tuple #[.string T, .bool true]) (by simp [results, Tryz.results93, go_sem]) rfl (by unfold RzX; rw [HZ2.out]; exact ⟨(but_below HB.out hb2).setX _ _, rfl, HY.out.mv (Mv.set R _ _) (HY.out.ra.put _ (by omega))⟩)
            · rw [if_neg hz0] at hzz
              have HZ2 := Hid.mk' hzz
              generalize sOf (uneN (s.extract (a + 1) b)).1 = T at *
              generalize (uneN (s.extract (a + 1) b)).2.2 = P at *
              generalize (uneN (s.extract (a + 1) b)).2.1 = E at *
              generalize s.extract (a + 1) b = U at *
              have z1 : ¬ (E : Int) = 0 := by omega
              have z2 : ((E : Int) == 0) = false := beq_eq_false_iff_ne.2 z1
              have cF := fun (W : World) (h : RX W R s a v 0 0) => rfault R s a v E (a + 1 + P) W h
              have hcast : ((a + 1 + P : Nat) : Int) = (a : Int) + 1 + (P : Int) := by omega
              rw [hcast] at cF
              have hP : (P : Int) ≤ 1048576 := by omega
              clear hz0 hzz hu h60 hqb
              go_wp2_with (first
                | (go_at_call 90; refine cU.mono ?_; clear cU; rintro e w2 ⟨rfl, hb2⟩; have HY := Hid.mk' (HR.out.below hb2))
                | (go_at_call 40; refine (cF _ HY.out).mono ?_; clear cF; rintro e w3 ⟨rfl, hb3, hx3⟩))
              exact bodyPost_ret (v := .tuple #[.string ⟨#[]⟩, .bool false]) (by simp [results, Tryz.results93, go_sem]) rfl (by unfold RzX; rw [HZ2.out]; exact ⟨(but_below HB.out hb2).trans hb3, rfl, hx3⟩)
          · have HN2 := Hid.mk' (HN.out.trans (up2_yes hlt h60 hqb))
            rw [hq] at hqb
            have k1 : ((ch s b : Int) == 60) = false := beq_eq_false_iff_ne.2 (by omega)
            have k2 : decide ((ch s b : Int) = 60) = false := decide_eq_false (by omega)
            have k3 : decide ((ch s b : Int) = 34) = false := decide_eq_false (by omega)
            have k4 : ((ch s b : Int) == 34) = false := beq_eq_false_iff_ne.2 (by omega)
            generalize ch s b = d at *
            clear h60 hqb
            go_wp2_with fail
            go_roundw
            case rel => exact ⟨b + 1, by omega, by omega, by go_num, HN2, HR, HB⟩
            case measure => simp [RowKit.intOf]; omega
      · obtain rfl : b = s.size := by omega
        have cF := rfault R s a v 41 s.size wr HR.out
        have HZ2 := Hid.mk' (show valQ s a q = .bad 41 s.size by rw [HZ.out s.size (HN.out.trans (up_end _ s)), if_pos (Nat.le_refl _)])
        go_wp2_with (go_at_call 40; refine cF.mono ?_; rintro e w1 ⟨rfl, hb, hx⟩)
        exact bodyPost_ret (v := .tuple #[.string ⟨#[]⟩, .bool false]) (by simp [results, Tryz.results93, go_sem]) rfl (by unfold RzX; rw [HZ2.out]; exact ⟨HB.out.trans hb, rfl, hx⟩)
  · rw [hq] at ix kq hq60 hc
    go_enter Tryz.func93, Tryz.ntmps93
    go_wp2_with fail
    go_quiet (fail)
    go_wp2_with fail
    go_quiet (fail)
    go_wp2_with fail
    go_loopw [6] (fun i wr => ∃ b : Nat, a + 1 ≤ b ∧ b ≤ s.size ∧ i = .int .i64 (b : Int) ∧ Hid (upN [60, q] s (a + 1) = upN [60, q] s b) ∧ Hid (RX wr R s a v 0 0) ∧ Hid (But R w wr)) (fun i _ => s.size - (RowKit.intOf i).toNat)
    case atStart => exact ⟨a + 1, Nat.le_refl _, by omega, by go_num, rfl, HX.out.drewN _, but_drewN (But.refl R w) _⟩
    case round =>
      obtain ⟨b, hab, hbs, rfl, HN, HR, HB⟩ := hrel
      have e0 := HR.out.c0
      by_cases hlt : b < s.size
      · have hltI : (b : Int) < (s.size : Int) := by omega
        have ixb : ∀ w : World, (Instr.index 9 (.string s) (.int .i64 (b : Int))).run Tryz.prog w = .ok (.int .u8 (ch s b : Int)) w := fun w => idx (w := w) s b hlt .i64
        by_cases h60 : ch s b = 60
        · rw [h60] at ixb
          have cF := rfault R s a v 40 b wr HR.out
          have HZ2 := Hid.mk' (show valQ s a q = .bad 40 b by rw [HZ.out b (HN.out.trans (up2_no hlt (.inl h60))), if_neg (by omega), if_neg (by rw [h60, hq]; decide)])
          clear h60
          go_wp2_with (go_at_call 40; refine cF.mono ?_; rintro e w1 ⟨rfl, hb, hx⟩)
          exact bodyPost_ret (v := .tuple #[.string ⟨#[]⟩, .bool false]) (by simp [results, Tryz.results93, go_sem]) rfl (by unfold RzX; rw [HZ2.out]; exact ⟨HB.out.trans hb, rfl, hx⟩)
        · by_cases hqb : ch s b = q.toNat
          · have hu : upN [60, q] s (a + 1) = b := HN.out.trans (up2_no hlt (.inr hqb))
            have hzz := HZ.out b hu
            rw [if_neg (by omega), if_pos hqb] at hzz
            rw [hqb, hq] at ixb
            have j1 : (a : Int) + 1 ≤ (b : Int) := by omega
            have j2 : (b : Int) ≤ (s.size : Int) := by omega
            have hsl : ∀ w : World, (Instr.slice 9 (.string s) (some (.int .i64 ((a : Int) + 1))) (some (.int .i64 (b : Int))) none).run Tryz.prog w = .ok (.string (s.extract (a + 1) b)) w := fun w => by
              have := slice_fromto s (a + 1) b (by omega) (by omega) w
              rwa [show ((a + 1 : Nat) : Int) = (a : Int) + 1 by omega] at this
            have cU := rUnescape (s.extract (a + 1) b) wr (by have := ext_size_le s (a + 1) b; omega)
            have hpl := une_place (s.extract (a + 1) b)
            have hpz := ext_size_le s (a + 1) b
            unfold plainZ at hzz
            by_cases hz0 : (uneN (s.extract (a + 1) b)).2.1 = 0
            · rw [if_pos hz0] at hzz
              rw [hz0] at cU
              have HZ2 := Hid.mk' hzz
              generalize sOf (uneN (s.extract (a + 1) b)).1 = T at *
              generalize (uneN (s.extract (a + 1) b)).2.2 = P at *
              generalize s.extract (a + 1) b = U at *
              clear hz0 hzz hu h60 hqb
              go_wp2_with (go_at_call 90; refine cU.mono ?_; clear cU; rintro e w2 ⟨rfl, hb2⟩; have HY := Hid.mk' (HR.out.below hb2); have y1 := HY.out.c1; have y2 := HY.out.fz 1)
              exact bodyPost_ret (v := .tuple #[.string T, .bool true]) (by simp [results, Tryz.results93, go_sem]) rfl (by unfold RzX; rw [HZ2.out]; exact ⟨(but_below HB.out hb2).setX _ _, rfl, HY.out.mv (Mv.set R _ _) (HY.out.ra.put _ (by omega))⟩)
            · rw [if_neg hz0] at hzz
              have HZ2 := Hid.mk' hzz
              generalize sOf (uneN (s.extract (a + 1) b)).1 = T at *
              generalize (uneN (s.extract (a + 1) b)).2.2 = P at *
              generalize (uneN (s.extract (a + 1) b)).2.1 = E at *
              generalize s.extract (a + 1) b = U at *
              have z1 : ¬ (E : Int) = 0 := by omega
              have z2 : ((E : Int) == 0) = false := beq_eq_false_iff_ne.2 z1
              have cF := fun (W : World) (h : RX W R s a v 0 0) => rfault R s a v E (a + 1 + P) W h
              have hcast : ((a + 1 + P : Nat) : Int) = (a : Int) + 1 + (P : Int) := by omega
              rw [hcast] at cF
              have hP : (P : Int) ≤ 1048576 := by omega
              clear hz0 hzz hu h60 hqb
              go_wp2_with (first
                | (go_at_call 90; refine cU.mono ?_; clear cU; rintro e w2 ⟨rfl, hb2⟩; have HY := Hid.mk' (HR.out.below hb2))
                | (go_at_call 40; refine (cF _ HY.out).mono ?_; clear cF; rintro e w3 ⟨rfl, hb3, hx3⟩))
              exact bodyPost_ret (v := .tuple #[.string ⟨#[]⟩, .bool false]) (by simp [results, Tryz.results93, go_sem]) rfl (by unfold RzX; rw [HZ2.out]; exact ⟨(but_below HB.out hb2).trans hb3, rfl, hx3⟩)
          · have HN2 := Hid.mk' (HN.out.trans (up2_yes hlt h60 hqb))
            rw [hq] at hqb
            have k1 : ((ch s b : Int) == 60) = false := beq_eq_false_iff_ne.2 (by omega)
            have k2 : decide ((ch s b : Int) = 60) = false := decide_eq_false (by omega)
            have k3 : decide ((ch s b : Int) = 39) = false := decide_eq_false (by omega)
            have k4 : ((ch s b : Int) == 39) = false := beq_eq_false_iff_ne.2 (by omega)
            generalize ch s b = d at *
            clear h60 hqb
            go_wp2_with fail
            go_roundw
            case rel => exact ⟨b + 1, by omega, by omega, by go_num, HN2, HR, HB⟩
            case measure => simp [RowKit.intOf]; omega
      · obtain rfl : b = s.size := by omega
        have cF := rfault R s a v 41 s.size wr HR.out
        have HZ2 := Hid.mk' (show valQ s a q = .bad 41 s.size by rw [HZ.out s.size (HN.out.trans (up_end _ s)), if_pos (Nat.le_refl _)])
        go_wp2_with (go_at_call 40; refine cF.mono ?_; rintro e w1 ⟨rfl, hb, hx⟩)
        exact bodyPost_ret (v := .tuple #[.string ⟨#[]⟩, .bool false]) (by simp [results, Tryz.results93, go_sem]) rfl (by unfold RzX; rw [HZ2.out]; exact ⟨HB.out.trans hb, rfl, hx⟩)
set_option maxRecDepth 100000 in
set_option maxHeartbeats 4000000 in
theorem rvalue (R : Nat) (s : ByteArray) (a : Nat) (v : Value) (w : World) (h : RX w R s a v 0 0) (ha : a ≤ s.size) (hs : s.size ≤ 1048576) :
    Calls Tryz.prog 93 #[.pointer (some ⟨R, 0, none⟩)] w (RzX R s v w (valueZ s a) a) := by
  have d0 := h.c0
  have d1 := h.c1
  unfold valueZ
  by_cases h0 : a = s.size
  · rw [if_pos (by omega)]
    have cF := fun n => rfault R s a v 41 a (w.drewN n) ⟨h.c0, h.c1, h.c2, h.c3, h.c4, h.fz⟩
    have k1 : ((a : Int) == (s.size : Int)) = true := beq_iff_eq.2 (by omega)
    have HZ := Hid.mk' h0
    clear h0
    go_enter Tryz.func93, Tryz.ntmps93
    go_wp2_with fail
    go_quiet (fail)
    go_wp2_with (go_at_call 40; refine (cF _).mono ?_; rintro e w1 ⟨rfl, hb, hx⟩)
    exact bodyPost_ret (v := .tuple #[.string ⟨#[]⟩, .bool false]) (by simp [results, Tryz.results93, go_sem]) rfl ⟨⟨hb.os, hb.tape, hb.output, hb.size, hb.block⟩, rfl, by rw [← HZ.out]; exact hx⟩
  · rw [if_neg (by omega)]
    by_cases h1 : ch s a = 34
    · rw [if_pos h1]
      exact rvalue_q R s a v 34 (.inl rfl) w h (by omega) h1 hs
    · rw [if_neg h1]
      by_cases h2 : ch s a = 39
      · rw [if_pos h2]
        exact rvalue_q R s a v 39 (.inr rfl) w h (by omega) h2 hs
      · rw [if_neg h2]
        have k0 : ((a : Int) == (s.size : Int)) = false := beq_eq_false_iff_ne.2 (by omega)
        have k00 : ¬ (a : Int) = (s.size : Int) := by omega
        have ix : ∀ w : World, (Instr.index 9 (.string s) (.int .i64 (a : Int))).run Tryz.prog w = .ok (.int .u8 (ch s a : Int)) w := fun w => idx (w := w) s a (by omega) .i64
        have hlt0 : (a : Int) < (s.size : Int) := by omega
        have k1 : ((ch s a : Int) == 34) = false := beq_eq_false_iff_ne.2 (by omega)
        have k2 : ((ch s a : Int) == 39) = false := beq_eq_false_iff_ne.2 (by omega)
        have k3 : decide ((ch s a : Int) = 34) = false := decide_eq_false (by omega)
        have k4 : decide ((ch s a : Int) = 39) = false := decide_eq_false (by omega)
        have k5 : ((ch s a : Int) != 34) = true := bne_iff_ne.2 (by omega)
        have k6 : ((ch s a : Int) != 39) = true := bne_iff_ne.2 (by omega)
        have HX := Hid.mk' h
        generalize ch s a = d at *
        clear h1 h2 h0 h
        go_enter Tryz.func93, Tryz.ntmps93
        go_wp2_with fail
        go_quiet (fail)
        go_wp2_with fail
        go_quiet (fail)
        have HY : Hid (∀ n, RX (w.drewN n) R s a v 0 0) := fun n => HX.out.drewN n
        go_wp2_with (go_at_call 40; refine (rfault R s a v 40 a _ (HY.out _)).mono ?_; rintro e w1 ⟨rfl, hb, hx⟩)
        exact bodyPost_ret (v := .tuple #[.string ⟨#[]⟩, .bool false]) (by simp [results, Tryz.results93, go_sem]) rfl ⟨⟨hb.os, hb.tape, hb.output, hb.size, hb.block⟩, rfl, hx⟩
end Go.Proofs.YtchfphakhmifmaaGreatDoor
