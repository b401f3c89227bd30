/- The document's reader of pieces: a row of text, a comment. -/
import Derived.Test.YtchfphakhmifmaaGreatDoorXR5
import Derived.Test.YtchfphakhmifmaaGreatDoorXPcs
namespace Go.Proofs.YtchfphakhmifmaaGreatDoor
open Go.ChangeShapes Go.WideShapes Go.ChangeAt Go.RowKit Go.Shelf Go.Lib

theorem RP.below {w w' : World} {R : Nat} {s : ByteArray} {a : Nat} {al : List IT} {er fl : Nat} (h : RP w R s a al er fl) (hb : Below w.heap.size w w') : RP w' R s a al er fl := by
  obtain ⟨v, hx, ho⟩ := h.x
  exact ⟨v, hx.below hb, ownI_below ho hb⟩
theorem RP.plc {w : World} {R : Nat} {s : ByteArray} {a : Nat} {al : List IT} {er fl : Nat} (h : RP w R s a al er fl) : plcR w R = a := by
  obtain ⟨v, hx, _⟩ := h.x
  unfold plcR
  rw [hx.c1]
  simp
theorem RP.c0 {w : World} {R : Nat} {s : ByteArray} {a : Nat} {al : List IT} {er fl : Nat} (h : RP w R s a al er fl) : w.cell? ⟨R, 0, none⟩ = some (.string s) := by obtain ⟨v, hx, _⟩ := h.x; exact hx.c0
theorem RP.c1 {w : World} {R : Nat} {s : ByteArray} {a : Nat} {al : List IT} {er fl : Nat} (h : RP w R s a al er fl) : w.cell? ⟨R, 1, none⟩ = some (.int .i64 (a : Int)) := by obtain ⟨v, hx, _⟩ := h.x; exact hx.c1
theorem RP.f1 {w : World} {R : Nat} {s : ByteArray} {a : Nat} {al : List IT} {er fl : Nat} (h : RP w R s a al er fl) : w.frozen? ⟨R, 1, none⟩ = false := by obtain ⟨v, hx, _⟩ := h.x; exact hx.fz 1
theorem up1_no {s : ByteArray} {b : Nat} (h : b < s.size) (hc : ch s b = 60) : upN [60] s b = b := by
  obtain ⟨c, r, e, hcc, _⟩ := ch_drop s b h
  have : List.contains [60] c = true := by
    simp only [List.contains_cons, List.contains_nil, Bool.or_false, beq_iff_eq]
    exact UInt8.toNat_inj.1 (hcc.trans hc)
  unfold upN
  rw [e, List.findIdx_cons, this]
  rfl
theorem up1_yes {s : ByteArray} {b : Nat} (h : b < s.size) (h1 : ¬ ch s b = 60) : upN [60] s b = upN [60] s (b + 1) := by
  obtain ⟨c, r, e, hcc, hr⟩ := ch_drop s b h
  have : List.contains [60] c = false := by
    simp only [List.contains_cons, List.contains_nil, Bool.or_false, beq_eq_false_iff_ne]
    exact fun hh => h1 (by rw [← hcc, hh]; rfl)
  unfold upN
  rw [e, List.findIdx_cons, this, ← hr]
  simp
  omega
theorem RP.drew {w : World} {R : Nat} {s : ByteArray} {a : Nat} {al : List IT} {er fl : Nat} (h : RP w R s a al er fl) : RP w.drew R s a al er fl := h.drewN 1
theorem bel_drewN {B : Nat} {w wr : World} (h : Below B w wr) (n : Nat) : Below B w (wr.drewN n) := bdN h n
set_option maxRecDepth 100000 in
set_option maxHeartbeats 4000000 in
theorem rtext (R : Nat) (s : ByteArray) (a : Nat) (al : List IT) (w : World) (h : RP w R s a al 0 0) (ha : a ≤ s.size) (hl : al.length ≤ 1048576) (hs : s.size ≤ 1048576) :
    Calls Tryz.prog 65 #[.pointer (some ⟨R, 0, none⟩)] w (PZ R s al w (textZ s a)) := by
  have d1 := h.c1
  have HX := Hid.mk' h
  have hz : ∀ u, upN [60] s a = u → textZ s a = (match plainZ (s.extract a u) a with | (some (e, p), _) => .bad e p | (none, t) => .go (some 83) u (some ⟨5, E0, t, a⟩)) := by
    rintro u rfl; rfl
  have HZ := Hid.mk' hz
  clear hz h
  go_enter Tryz.func65, Tryz.ntmps65
  go_wp2_with fail
  go_loopw [] (fun wr => ∃ b : Nat, a ≤ b ∧ b ≤ s.size ∧ Hid (upN [60] s a = upN [60] s b) ∧ Hid (RP wr R s b al 0 0) ∧ Hid (Below R w wr)) (fun wr => s.size - plcR wr R)
  case atStart => exact ⟨a, Nat.le_refl _, ha, rfl, HX, Below.refl _ _⟩
  case round =>
    obtain ⟨b, hab, hbs, HN, HR, HB⟩ := hrel
    have c0 := HR.out.c0
    have c1 := HR.out.c1
    have f1 := HR.out.f1
    have hpl := HR.out.plc
    by_cases hlt : b < s.size
    · have hltI : (b : Int) < (s.size : Int) := by omega
      have ixb : ∀ w : World, (Instr.index 9 (.string s) (.int .i64 (b : Int))).run Tryz.prog w = .ok (.int .u8 (ch s b : Int)) w := fun w => idx (w := w) s b hlt .i64
      by_cases h60 : ch s b = 60
      · rw [h60] at ixb
        have hu : upN [60] s a = b := HN.out.trans (up1_no hlt h60)
        clear h60
        have hzz := HZ.out b hu
        have j1 : (a : Int) ≤ (b : Int) := by omega
        have j2 : (b : Int) ≤ (s.size : Int) := by omega
        have hsl : ∀ w : World, (Instr.slice 9 (.string s) (some (.int .i64 (a : Int))) (some (.int .i64 (b : Int))) none).run Tryz.prog w = .ok (.string (s.extract a b)) w := fun w => slice_fromto s a b hab hbs w
        have hxs := ext_size_le s a b
        have cU := fun (W : World) => rUnescape (s.extract a b) W (by omega)
        have hplc := une_place (s.extract a b)
        unfold plainZ at hzz
        by_cases hz0 : (uneN (s.extract a b)).2.1 = 0
        · rw [if_pos hz0] at hzz
          simp only [hz0] at cU
          have HZ2 := Hid.mk' hzz
          generalize sOf (uneN (s.extract a b)).1 = T at *
          generalize (uneN (s.extract a b)).2.2 = P at *
          generalize s.extract a b = U at *
          have cP := fun (W : World) (h : RP W R s b al 0 0) => rput R s b al 5 E0 T (a : Int) W h hl
          clear hz0 hzz hu
          go_wp2_with fail
          go_quiet (fail)
          go_wp2_with fail
          go_region_with (go_at_call 90; refine (cU _).mono ?_; rintro e w2 ⟨rfl, hb2⟩)
          all_goals
            have HY := Hid.mk' (RP.below (HR.out.drewN _).drew hb2)
            go_wp2_with (go_at_call 69; refine (cP _ HY.out).mono ?_; clear cP; rintro e w3 ⟨rfl, hb3, hx3⟩)
            go_ret
            unfold PZ
            rw [HZ2.out]
            exact ⟨HB.out.trans (((bel_drewN (Below.refl _ _) _).drew.trans (hb2.mono (Nat.le_of_lt HR.out.lt))).trans hb3), rfl, hx3⟩
        · rw [if_neg hz0] at hzz
          have HZ2 := Hid.mk' hzz
          generalize sOf (uneN (s.extract a b)).1 = T at *
          generalize (uneN (s.extract a b)).2.2 = P at *
          generalize (uneN (s.extract a b)).2.1 = E at *
          generalize s.extract a b = U at *
          have z1 : ¬ (E : Int) = 0 := by omega
          have z2 : ((E : Int) == 0) = false := beq_eq_false_iff_ne.2 z1
          have cF := fun (W : World) (h : RP W R s b al 0 0) => pfault (er := E) (p := a + P) h
          have hcast : ((a + P : Nat) : Int) = (a : Int) + (P : Int) := by omega
          rw [hcast] at cF
          have hP : (P : Int) ≤ 1048576 := by omega
          clear hz0 hzz hu
          go_wp2_with fail
          go_quiet (fail)
          go_wp2_with fail
          go_region_with (go_at_call 90; refine (cU _).mono ?_; rintro e w2 ⟨rfl, hb2⟩)
          all_goals
            have HY := Hid.mk' (RP.below (HR.out.drewN _).drew hb2)
            go_wp2_with (go_at_call 40; refine (cF _ HY.out).mono ?_; clear cF; rintro e w3 ⟨rfl, hb3, hx3⟩)
            go_ret
            unfold PZ
            rw [HZ2.out]
            exact ⟨HB.out.trans (((bel_drewN (Below.refl _ _) _).drew.trans (hb2.mono (Nat.le_of_lt HR.out.lt))).trans hb3.out), rfl, _, hx3.out⟩
      · have HN2 := Hid.mk' (HN.out.trans (up1_yes hlt h60))
        have k1 : ((ch s b : Int) == 60) = false := beq_eq_false_iff_ne.2 (by omega)
        have k2 : decide ((ch s b : Int) = 60) = false := decide_eq_false (by omega)
        have k3 : ((ch s b : Int) != 60) = true := bne_iff_ne.2 (by omega)
        generalize ch s b = d at *
        clear h60
        go_wp2_with fail
        go_quiet (fail)
        go_wp2_with fail
        have hrp := (HR.out.drewN nq).place ((b : Int) + 1) (b := b + 1) (by omega)
        refine ⟨⟨b + 1, by omega, hlt, HN2, hrp, (bel_drewN HB.out nq).setCell (Nat.le_refl _) _⟩, ?_⟩
        have hp2 := hrp.plc
        omega
    · have hu : upN [60] s a = b := by
        have : b = s.size := by omega
        rw [HN.out, this]; exact up_end _ s
      have k1 : decide ((b : Int) < (s.size : Int)) = false := decide_eq_false (by omega)
      have k2 : ¬ (b : Int) < (s.size : Int) := by omega
      have hzz := HZ.out b hu
      have j1 : (a : Int) ≤ (b : Int) := by omega
      have j2 : (b : Int) ≤ (s.size : Int) := by omega
      have hsl : ∀ w : World, (Instr.slice 9 (.string s) (some (.int .i64 (a : Int))) (some (.int .i64 (b : Int))) none).run Tryz.prog w = .ok (.string (s.extract a b)) w := fun w => slice_fromto s a b hab hbs w
      have hxs := ext_size_le s a b
      have cU := fun (W : World) => rUnescape (s.extract a b) W (by omega)
      have hplc := une_place (s.extract a b)
      unfold plainZ at hzz
      by_cases hz0 : (uneN (s.extract a b)).2.1 = 0
      · rw [if_pos hz0] at hzz
        simp only [hz0] at cU
        have HZ2 := Hid.mk' hzz
        generalize sOf (uneN (s.extract a b)).1 = T at *
        generalize (uneN (s.extract a b)).2.2 = P at *
        generalize s.extract a b = U at *
        have cP := fun (W : World) (h : RP W R s b al 0 0) => rput R s b al 5 E0 T (a : Int) W h hl
        clear hz0 hzz hu
        go_wp2_with fail
        go_quiet (fail)
        go_wp2_with fail
        go_region_with (go_at_call 90; refine (cU _).mono ?_; rintro e w2 ⟨rfl, hb2⟩)
        all_goals
          have HY := Hid.mk' (RP.below (HR.out.drewN _).drew hb2)
          go_wp2_with (go_at_call 69; refine (cP _ HY.out).mono ?_; clear cP; rintro e w3 ⟨rfl, hb3, hx3⟩)
          go_ret
          unfold PZ
          rw [HZ2.out]
          exact ⟨HB.out.trans (((bel_drewN (Below.refl _ _) _).drew.trans (hb2.mono (Nat.le_of_lt HR.out.lt))).trans hb3), rfl, hx3⟩
      · rw [if_neg hz0] at hzz
        have HZ2 := Hid.mk' hzz
        generalize sOf (uneN (s.extract a b)).1 = T at *
        generalize (uneN (s.extract a b)).2.2 = P at *
        generalize (uneN (s.extract a b)).2.1 = E at *
        generalize s.extract a b = U at *
        have z1 : ¬ (E : Int) = 0 := by omega
        have z2 : ((E : Int) == 0) = false := beq_eq_false_iff_ne.2 z1
        have cF := fun (W : World) (h : RP W R s b al 0 0) => pfault (er := E) (p := a + P) h
        have hcast : ((a + P : Nat) : Int) = (a : Int) + (P : Int) := by omega
        rw [hcast] at cF
        have hP : (P : Int) ≤ 1048576 := by omega
        clear hz0 hzz hu
        go_wp2_with fail
        go_quiet (fail)
        go_wp2_with fail
        go_region_with (go_at_call 90; refine (cU _).mono ?_; rintro e w2 ⟨rfl, hb2⟩)
        all_goals
          have HY := Hid.mk' (RP.below (HR.out.drewN _).drew hb2)
          go_wp2_with (go_at_call 40; refine (cF _ HY.out).mono ?_; clear cF; rintro e w3 ⟨rfl, hb3, hx3⟩)
          go_ret
          unfold PZ
          rw [HZ2.out]
          exact ⟨HB.out.trans (((bel_drewN (Below.refl _ _) _).drew.trans (hb2.mono (Nat.le_of_lt HR.out.lt))).trans hb3.out), rfl, _, hx3.out⟩
end Go.Proofs.YtchfphakhmifmaaGreatDoor
