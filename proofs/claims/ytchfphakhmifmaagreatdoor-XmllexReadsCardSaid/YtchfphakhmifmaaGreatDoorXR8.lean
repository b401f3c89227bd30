/- The document's reader of pieces: a start tag. -/
import Derived.Test.YtchfphakhmifmaaGreatDoorXR7
namespace Go.Proofs.YtchfphakhmifmaaGreatDoor
open Go.ChangeShapes Go.WideShapes Go.ChangeAt Go.RowKit Go.Shelf Go.Lib

abbrev sCo : Option Nat := some 83
abbrev sTa : Option Nat := some 135
def itT (t : Tok) : IT := ⟨t.k, t.nm, t.vl, t.p⟩
/-- What the next thing leaves: the pieces of it, and the place behind it; or the first fault. -/
def OnePost (R : Nat) (s : ByteArray) (al : List IT) (a : Nat) (w : World) (e : Ending) (w' : World) : Prop :=
  Below R w w' ∧ ((∃ (l : List Tok) (c : Nat), a + l.length ≤ c ∧ a < c ∧ c ≤ s.size ∧ toksZ s sCo a = (l ++ (toksZ s sCo c).1, (toksZ s sCo c).2) ∧ e = .returned (.bool true) ∧ RP w' R s c (al ++ l.map itT) 0 0) ∨
    (∃ (l : List Tok) (er p c : Nat), toksZ s sCo a = (l, some (er, p)) ∧ e = .returned (.bool false) ∧ RP w' R s c (al ++ l.map itT) er p))
theorem ok_co {s : ByteArray} {a : Nat} (hs : s.size ≤ 1048576) (ha : a ≤ s.size) : okO s a sCo := by
  show stOk s _ a
  unfold stOk
  exact Or.inr ⟨hs, by simp [ha]⟩
theorem ok_ta {s : ByteArray} {a : Nat} (hs : s.size ≤ 1048576) (ha : a ≤ s.size) : okO s a sTa := by
  show stOk s _ a
  unfold stOk
  exact Or.inr ⟨hs, by simp [ha]⟩
/-- The pieces so far, at a place inside a tag. -/
structure InT (s : ByteArray) (a b : Nat) (l : List Tok) : Prop where
  tz : toksZ s sCo a = (l ++ (toksZ s sTa b).1, (toksZ s sTa b).2)
  ln : a + l.length ≤ b
  le : b ≤ s.size
  lt : a < b
theorem con_bad {s : ByteArray} {a g e p : Nat} (h : contentZ s a = .go (some g) a none) (hg : stepZ s g a = .bad e p) : pieceZ s sCo a = .bad e p := by
  show runZ s 2 _ a = _
  simp only [runZ, stepZ_content, h, hg]
theorem con_told {s : ByteArray} {a g b : Nat} {nx : Option Nat} {t : Tok} (h : contentZ s a = .go (some g) a none) (hg : stepZ s g a = .go nx b (some t)) : pieceZ s sCo a = .told nx b t := by
  show runZ s 2 _ a = _
  simp only [runZ, stepZ_content, h, hg]
theorem InT.bad {s : ByteArray} {a b e p : Nat} {l : List Tok} (h : InT s a b l) (hp : inTagZ s b = .bad e p ∨ ∃ g c, inTagZ s b = .go (some g) c none ∧ rank g = 1 ∧ stepZ s g c = .bad e p) : toksZ s sCo a = (l, some (e, p)) := by
  have hq : pieceZ s sTa b = .bad e p := by
    show runZ s 2 _ b = _
    rcases hp with hp | ⟨g, c, hp, _, hg⟩
    · simp only [runZ, stepZ_inTag, hp]
    · simp only [runZ, stepZ_inTag, hp, hg]
  rw [h.tz, toksZ_bad hq, List.append_nil]
theorem InT.told {s : ByteArray} {a b c d : Nat} {l : List Tok} {g : Nat} {nx : Option Nat} {t : Tok} (hs : s.size ≤ 1048576) (h : InT s a b l) (hp : inTagZ s b = .go (some g) c none) (hg : stepZ s g c = .go nx d (some t)) : toksZ s sCo a = ((l ++ [t]) ++ (toksZ s nx d).1, (toksZ s nx d).2) ∧ b < d ∧ d ≤ s.size := by
  have hq : pieceZ s sTa b = .told nx d t := by
    show runZ s 2 _ b = _
    simp only [runZ, stepZ_inTag, hp, hg]
  have hb := piece_told (ok_ta hs h.le) hq
  rw [h.tz, toksZ_told (ok_ta hs h.le) hq, List.append_assoc]
  exact ⟨rfl, hb.1, hb.2.1⟩
theorem app_one (al : List IT) (l : List Tok) (t : Tok) : al ++ l.map itT ++ [⟨t.k, t.nm, t.vl, t.p⟩] = al ++ (l ++ [t]).map itT := by
  rw [List.map_append, List.append_assoc]; rfl
theorem len_one (al : List IT) (l : List Tok) : (al ++ l.map itT).length = al.length + l.length := by rw [List.length_append, List.length_map]
set_option maxRecDepth 100000 in
set_option maxHeartbeats 8000000 in
theorem rstart (R : Nat) (s : ByteArray) (a : Nat) (al : List IT) (w : World) (h : RP w R s a al 0 0) (ha : a < s.size) (h60 : contentZ s a = .go (some 113) a none) (hl : al.length ≤ a) (hs : s.size ≤ 1048576) :
    Calls Tryz.prog 70 #[.pointer (some ⟨R, 0, none⟩)] w (OnePost R s al a w) := by
  have hR := h.lt
  have d1 := h.c1
  have f1 := h.f1
  have H1 := Hid.mk' (h.place ((a : Int) + 1) (b := a + 1) (by omega))
  have HB := Hid.mk' (below_place w R (.int .i64 ((a : Int) + 1)))
  have cN := pname H1.out (by omega) hs
  unfold RzP at cN
  cases hn : nameZ s (a + 1) with
  | bad er p =>
    rw [hn] at cN
    dsimp only at cN
    have HZ := Hid.mk' (show toksZ s sCo a = ([], some (er, p)) from toksZ_bad (con_bad h60 (by rw [stepZ_startTag]; unfold startZ; rw [hn])))
    clear h hn h60
    go_enter Tryz.func70, Tryz.ntmps70
    go_wp2_with (go_at_call 91; refine cN.mono ?_; clear cN; rintro e w1 ⟨B1, rfl, H2⟩)
    go_ret
    exact ⟨HB.out.trans B1.out, .inr ⟨[], er, p, _, HZ.out, rfl, by rw [List.map_nil, List.append_nil]; exact H2.out⟩⟩
  | val nm b0 =>
    rw [hn] at cN
    dsimp only at cN
    have hb0 := nameZ_val hn
    have hq0 : pieceZ s sCo a = .told sTa b0 ⟨0, nm, E0, a⟩ := con_told h60 (by rw [stepZ_startTag]; unfold startZ; rw [hn])
    have hbd0 := piece_told (ok_co hs (Nat.le_of_lt ha)) hq0
    have HI0 : Hid (InT s a b0 [⟨0, nm, E0, a⟩]) := ⟨toksZ_told (ok_co hs (Nat.le_of_lt ha)) hq0, by show a + 1 ≤ b0; omega, hbd0.2.1, hbd0.1⟩
    have cP0 := fun (W : World) (h : RP W R s b0 al 0 0) => rput R s b0 al 0 nm E0 (a : Int) W h (by omega)
    have hb0s := hbd0.2.1
    clear h hn h60 hq0 hbd0 hb0
    go_enter Tryz.func70, Tryz.ntmps70
    go_wp2_with (first
      | (go_at_call 91; refine cN.mono ?_; clear cN; rintro e w1 ⟨B1, rfl, H2⟩)
      | (go_at_call 69; refine (cP0 _ H2.out).mono ?_; clear cP0; rintro e w2 ⟨rfl, B2, H3⟩; replace HB := Hid.mk' (HB.out.trans (B1.out.trans B2)); replace H3 := Hid.mk' H3; clear B1 B2 H2))
    go_loopw [] (fun wr => ∃ (b : Nat) (l : List Tok), Hid (InT s a b l) ∧ Hid (RP wr R s b (al ++ l.map itT) 0 0) ∧ Hid (Below R w wr)) (fun wr => s.size - plcR wr R)
    case atStart => exact ⟨b0, [⟨0, nm, E0, a⟩], HI0, H3, HB⟩
    case round =>
      clear HI0 H3 HB H1 d1 f1 hR hb0s
      obtain ⟨b, l, HI, HR, HB⟩ := hrel
      have hbs := HI.out.le
      have hbl := HI.out.ln
      have hlen : (al ++ l.map itT).length ≤ b := by rw [len_one]; omega
      have hpl := HR.out.plc
      have hk := skN_le s b hbs
      have cB := pblanks HR.out hbs hs
      have hin : inTagZ s b = (if s.size ≤ skN s b then .bad 41 s.size else if ch s (skN s b) = 62 then .go (some 151) (skN s b) none else if ch s (skN s b) = 47 then .go (some 152) (skN s b) none else if b < skN s b then .go (some 153) (skN s b) none else .bad 40 (skN s b)) := rfl
      generalize hcc : skN s b = c at *
      generalize hal : al ++ l.map itT = al' at *
      have HA := Hid.mk' hal
      clear hal hcc
      by_cases h0 : c = s.size
      · rw [if_pos (by omega)] at hin
        have HZ := Hid.mk' (HI.out.bad (.inl hin))
        have k1 : ((c : Int) == (s.size : Int)) = true := beq_iff_eq.2 (by omega)
        have HC := Hid.mk' h0
        clear h0 hin HI
        go_wp2_with (go_at_call 87; refine cB.mono ?_; clear cB; rintro e w3 ⟨rfl, B3, H4⟩; have g0 := H4.out.c0; have g1 := H4.out.c1)
        go_quiet (fail)
        go_wp2_with (go_at_call 40; refine (pfault (er := 41) (p := c) (H4.out.drewN _)).mono ?_; rintro e w4 ⟨rfl, B4, H5⟩)
        go_ret
        exact ⟨HB.out.trans ((bel_drewN B3.out _).trans B4.out), .inr ⟨l, 41, s.size, _, HZ.out, rfl, by rw [HA.out]; rw [HC.out] at H5; exact H5.out⟩⟩
      · rw [if_neg (by omega)] at hin
        have k0 : ((c : Int) == (s.size : Int)) = false := beq_eq_false_iff_ne.2 (by omega)
        have k00 : ¬ (c : Int) = (s.size : Int) := by omega
        have hlt : (c : Int) < (s.size : Int) := by omega
        have ix := ix_at s c (c : Int) rfl (by omega) _ rfl
        have hcs : c < s.size := by omega
        clear h0
        by_cases h62 : ch s c = 62
        · rw [if_pos h62] at hin
          rw [h62] at ix
          have ht := HI.out.told hs hin (by rw [stepZ_tagEnd]; rfl)
          have HT := Hid.mk' ht
          have cP := fun (W : World) (h : RP W R s c al' 0 0) => rput R s c al' 2 E0 E0 (c : Int) W h (by omega)
          clear h62 hin ht
          go_wp2_with (go_at_call 87; refine cB.mono ?_; clear cB; rintro e w3 ⟨rfl, B3, H4⟩; have g0 := H4.out.c0; have g1 := H4.out.c1)
          go_quiet (fail)
          go_wp2_with fail
          go_quiet (fail)
          go_wp2_with (go_at_call 69; refine (cP _ (H4.out.drewN _)).mono ?_; clear cP; rintro e w4 ⟨rfl, B4, H5⟩; have g2 := H5.c1; have g3 := H5.f1; replace H5 := Hid.mk' H5)
          go_ret
          have H6 := H5.out.place ((c : Int) + 1) (b := c + 1) (by omega)
          refine ⟨(HB.out.trans ((bel_drewN B3.out _).trans B4)).setCell (Nat.le_refl _) _, .inl ⟨l ++ [⟨2, E0, E0, c⟩], c + 1, ?_, ?_, by omega, HT.out.1, rfl, ?_⟩⟩
          · rw [List.length_append, List.length_singleton]; omega
          · have := HI.out.lt; omega
          · rw [← app_one, HA.out]; exact H6
        · rw [if_neg h62] at hin
          have k1 : ((ch s c : Int) == 62) = false := beq_eq_false_iff_ne.2 (by omega)
          have k2 : decide ((ch s c : Int) = 62) = false := decide_eq_false (by omega)
          have k1n : ¬ (ch s c : Int) = 62 := by omega
          clear h62
          by_cases h47 : ch s c = 47
          · rw [if_pos h47] at hin
            rw [h47] at ix
            clear h47 k1 k2 k1n
            have cE := fun (W : World) (h : RP W R s (c + 1) al' 0 0) => pbyte (c := 62) h (by omega) hs
            cases hx : expZ s (c + 1) 62 with
            | some ep =>
              obtain ⟨er, p⟩ := ep
              rw [hx] at cE
              dsimp only at cE
              have HZ := Hid.mk' (HI.out.bad (.inr ⟨_, _, hin, rfl, (by rw [stepZ_emptyEnd]; unfold emptyEndZ; rw [hx])⟩))
              clear hin hx
              go_wp2_with (go_at_call 87; refine cB.mono ?_; clear cB; rintro e w3 ⟨rfl, B3, H4⟩; have g0 := H4.out.c0; have g1 := H4.out.c1; have g3 := H4.out.f1)
              go_quiet (fail)
              go_wp2_with fail
              go_quiet (fail)
              go_wp2_with (go_at_call 92; refine (cE _ ((H4.out.drewN _).place ((c : Int) + 1) (by omega))).mono ?_; clear cE; rintro e w4 ⟨B4, rfl, H5⟩)
              go_ret
              exact ⟨HB.out.trans ((bel_drewN B3.out _).trans ((below_place _ R _).trans B4.out)), .inr ⟨l, er, p, _, HZ.out, rfl, by rw [HA.out]; exact H5.out⟩⟩
            | none =>
              rw [hx] at cE
              dsimp only at cE
              have hx2 := expZ_none hx
              have ht := HI.out.told hs hin (by rw [stepZ_emptyEnd]; unfold emptyEndZ; rw [hx])
              have HT := Hid.mk' ht
              have cP := fun (W : World) (h : RP W R s (c + 1 + 1) al' 0 0) => rput R s (c + 1 + 1) al' 3 E0 E0 (c : Int) W h (by omega)
              clear hin hx ht
              go_wp2_with (go_at_call 87; refine cB.mono ?_; clear cB; rintro e w3 ⟨rfl, B3, H4⟩; have g0 := H4.out.c0; have g1 := H4.out.c1; have g3 := H4.out.f1)
              go_quiet (fail)
              go_wp2_with fail
              go_quiet (fail)
              go_wp2_with (first
                | (go_at_call 92; refine (cE _ ((H4.out.drewN _).place ((c : Int) + 1) (by omega))).mono ?_; clear cE; rintro e w4 ⟨B4, rfl, H5⟩)
                | (go_at_call 69; refine (cP _ H5.out).mono ?_; clear cP; rintro e w5 ⟨rfl, B5, H6⟩))
              go_ret
              refine ⟨HB.out.trans ((bel_drewN B3.out _).trans ((below_place _ R _).trans (B4.out.trans B5))), .inl ⟨l ++ [⟨3, E0, E0, c⟩], c + 1 + 1, ?_, ?_, by omega, HT.out.1, rfl, ?_⟩⟩
              · rw [List.length_append, List.length_singleton]; omega
              · have := HI.out.lt; omega
              · rw [← app_one, HA.out]; exact H6
          · rw [if_neg h47] at hin
            have k3 : ((ch s c : Int) == 47) = false := beq_eq_false_iff_ne.2 (by omega)
            have k4 : decide ((ch s c : Int) = 47) = false := decide_eq_false (by omega)
            have k3n : ¬ (ch s c : Int) = 47 := by omega
            clear h47
            generalize ch s c = d at *
            by_cases hbc : b < c
            · rw [if_pos hbc] at hin
              have k5 : ((c - b : Nat) : Int) ≠ 0 := by omega
              have k6 : (((c - b : Nat) : Int) == 0) = false := beq_eq_false_iff_ne.2 k5
              generalize hmm : ((c - b : Nat) : Int) = m at *
              clear hmm
              have cN2 := fun (W : World) (h : RP W R s c al' 0 0) => pname h (by omega) hs
              unfold RzP at cN2
              cases hn2 : nameZ s c with
              | bad er p =>
                simp only [hn2] at cN2
                have HZ := Hid.mk' (HI.out.bad (.inr ⟨_, _, hin, rfl, (by rw [stepZ_attribute]; unfold attrZ; rw [hn2])⟩))
                clear hin hn2 hbc
                go_wp2_with (go_at_call 87; refine cB.mono ?_; clear cB; rintro e w3 ⟨rfl, B3, H4⟩; have g0 := H4.out.c0; have g1 := H4.out.c1)
                go_quiet (fail)
                go_wp2_with fail
                go_quiet (fail)
                go_wp2_with (first
                  | (go_at_call 91; refine (cN2 _ (H4.out.drewN _)).mono ?_; clear cN2; rintro e w4 ⟨B4, rfl, H5⟩))
                go_ret
                exact ⟨HB.out.trans ((bel_drewN B3.out _).trans B4.out), .inr ⟨l, er, p, _, HZ.out, rfl, by rw [HA.out]; exact H5.out⟩⟩
              | val nm2 b1 =>
                simp only [hn2] at cN2
                have hb1 := nameZ_val hn2
                have hk2 := skN_le s b1 hb1.2.2
                have cB2 := fun (W : World) (h : RP W R s b1 al' 0 0) => pblanks h hb1.2.2 hs
                have hat : attrZ s c = (match expZ s (skN s b1) 61 with | some (e, p) => .bad e p | none => match valueZ s (skN s (skN s b1 + 1)) with | .bad e p => .bad e p | .val vl c' => .go sTa c' (some ⟨1, nm2, vl, c⟩)) := by unfold attrZ; rw [hn2]; rfl
                generalize skN s b1 = c2 at *
                have cE2 := fun (W : World) (h : RP W R s c2 al' 0 0) => pbyte (c := 61) h hk2.2 hs
                clear hn2 hbc
                cases hx : expZ s c2 61 with
                | some ep =>
                  obtain ⟨er, p⟩ := ep
                  simp only [hx] at cE2 hat
                  have HZ := Hid.mk' (HI.out.bad (.inr ⟨_, _, hin, rfl, (by rw [stepZ_attribute]; exact hat)⟩))
                  clear hin hx hat
                  go_wp2_with (go_at_call 87; refine cB.mono ?_; clear cB; rintro e w3 ⟨rfl, B3, H4⟩; have g0 := H4.out.c0; have g1 := H4.out.c1)
                  go_quiet (fail)
                  go_wp2_with fail
                  go_quiet (fail)
                  go_wp2_with (first
                    | (go_at_call 91; refine (cN2 _ (H4.out.drewN _)).mono ?_; clear cN2; rintro e w4 ⟨B4, rfl, H5⟩)
                    | (go_at_call 87; refine (cB2 _ H5.out).mono ?_; clear cB2; rintro e w5 ⟨rfl, B5, H6⟩)
                    | (go_at_call 92; refine (cE2 _ H6.out).mono ?_; clear cE2; rintro e w6 ⟨B6, rfl, H7⟩))
                  go_ret
                  exact ⟨HB.out.trans ((bel_drewN B3.out _).trans (B4.out.trans (B5.out.trans B6.out))), .inr ⟨l, er, p, _, HZ.out, rfl, by rw [HA.out]; exact H7.out⟩⟩
                | none =>
                  have hx2 := expZ_none hx
                  simp only [hx] at cE2 hat
                  have hk3 := skN_le s (c2 + 1) (by omega)
                  have cB3 := fun (W : World) (h : RP W R s (c2 + 1) al' 0 0) => pblanks h (by omega) hs
                  generalize skN s (c2 + 1) = c3 at *
                  have cV := fun (W : World) (h : RP W R s c3 al' 0 0) => pvalue h hk3.2 hs
                  unfold RzP at cV
                  clear hx
                  cases hva : valueZ s c3 with
                  | bad er p =>
                    simp only [hva] at cV hat
                    have HZ := Hid.mk' (HI.out.bad (.inr ⟨_, _, hin, rfl, (by rw [stepZ_attribute]; exact hat)⟩))
                    clear hin hat hva
                    go_wp2_with (go_at_call 87; refine cB.mono ?_; clear cB; rintro e w3 ⟨rfl, B3, H4⟩; have g0 := H4.out.c0; have g1 := H4.out.c1)
                    go_quiet (fail)
                    go_wp2_with fail
                    go_quiet (fail)
                    go_wp2_with (first
                      | (go_at_call 91; refine (cN2 _ (H4.out.drewN _)).mono ?_; clear cN2; rintro e w4 ⟨B4, rfl, H5⟩)
                      | (go_at_call 87; refine (cB2 _ H5.out).mono ?_; clear cB2; rintro e w5 ⟨rfl, B5, H6⟩)
                      | (go_at_call 92; refine (cE2 _ H6.out).mono ?_; clear cE2; rintro e w6 ⟨B6, rfl, H7⟩)
                      | (go_at_call 87; refine (cB3 _ H7.out).mono ?_; clear cB3; rintro e w7 ⟨rfl, B7, H8⟩)
                      | (go_at_call 93; refine (cV _ H8.out).mono ?_; clear cV; rintro e w8 ⟨B8, rfl, H9⟩))
                    go_ret
                    exact ⟨HB.out.trans ((bel_drewN B3.out _).trans (B4.out.trans (B5.out.trans (B6.out.trans (B7.out.trans B8.out))))), .inr ⟨l, er, p, _, HZ.out, rfl, by rw [HA.out]; exact H9.out⟩⟩
                  | val vl f =>
                    simp only [hva] at cV hat
                    have ht := HI.out.told hs hin (by rw [stepZ_attribute]; exact hat)
                    have HT := Hid.mk' ht
                    have hf1 := ht.2.1
                    have hf2 := ht.2.2
                    have cP := fun (W : World) (h : RP W R s f al' 0 0) => rput R s f al' 1 nm2 vl (c : Int) W h (by omega)
                    clear hin hat hva ht
                    go_wp2_with (go_at_call 87; refine cB.mono ?_; clear cB; rintro e w3 ⟨rfl, B3, H4⟩; have g0 := H4.out.c0; have g1 := H4.out.c1)
                    go_quiet (fail)
                    go_wp2_with fail
                    go_quiet (fail)
                    go_wp2_with (first
                      | (go_at_call 91; refine (cN2 _ (H4.out.drewN _)).mono ?_; clear cN2; rintro e w4 ⟨B4, rfl, H5⟩)
                      | (go_at_call 87; refine (cB2 _ H5.out).mono ?_; clear cB2; rintro e w5 ⟨rfl, B5, H6⟩)
                      | (go_at_call 92; refine (cE2 _ H6.out).mono ?_; clear cE2; rintro e w6 ⟨B6, rfl, H7⟩)
                      | (go_at_call 87; refine (cB3 _ H7.out).mono ?_; clear cB3; rintro e w7 ⟨rfl, B7, H8⟩)
                      | (go_at_call 93; refine (cV _ H8.out).mono ?_; clear cV; rintro e w8 ⟨B8, rfl, H9⟩)
                      | (go_at_call 69; refine (cP _ H9.out).mono ?_; clear cP; rintro e w9 ⟨rfl, B9, H10⟩; replace H10 := Hid.mk' H10))
                    have H11 : RP w9 R s f (al ++ (l ++ [(⟨1, nm2, vl, c⟩ : Tok)]).map itT) 0 0 := by rw [← app_one, HA.out]; exact H10.out
                    refine ⟨⟨f, l ++ [(⟨1, nm2, vl, c⟩ : Tok)], ⟨HT.out.1, by rw [List.length_append, List.length_singleton]; omega, hf2, by have := HI.out.lt; omega⟩, Hid.mk' H11, HB.out.trans ((bel_drewN B3.out _).trans (B4.out.trans (B5.out.trans (B6.out.trans (B7.out.trans (B8.out.trans B9))))))⟩, ?_⟩
                    have hp2 := H11.plc
                    omega
            · rw [if_neg hbc] at hin
              have HZ := Hid.mk' (HI.out.bad (.inl hin))
              have hm : c - b = 0 := by omega
              rw [hm] at cB
              have cF := fun (W : World) (h : RP W R s c al' 0 0) => pfault (er := 40) (p := c) h
              clear hin hbc hm
              go_wp2_with (go_at_call 87; refine cB.mono ?_; clear cB; rintro e w3 ⟨rfl, B3, H4⟩; have g0 := H4.out.c0; have g1 := H4.out.c1)
              go_quiet (fail)
              go_wp2_with fail
              go_quiet (fail)
              go_wp2_with (go_at_call 40; refine (cF _ (H4.out.drewN _)).mono ?_; clear cF; rintro e w4 ⟨rfl, B4, H5⟩)
              go_ret
              exact ⟨HB.out.trans ((bel_drewN B3.out _).trans B4.out), .inr ⟨l, 40, c, _, HZ.out, rfl, by rw [HA.out]; exact H5.out⟩⟩
end Go.Proofs.YtchfphakhmifmaaGreatDoor
