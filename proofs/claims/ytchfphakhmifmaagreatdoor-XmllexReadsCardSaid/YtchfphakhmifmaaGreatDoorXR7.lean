/- The document's reader of pieces: a comment. -/
import Derived.Test.YtchfphakhmifmaaGreatDoorXR6
namespace Go.Proofs.YtchfphakhmifmaaGreatDoor
open Go.ChangeShapes Go.WideShapes Go.ChangeAt Go.RowKit Go.Shelf Go.Lib

/-- Where the first two hyphens stand from a place on. -/
theorem hh_here {s : ByteArray} {b : Nat} (h : b + 1 < s.size) (h0 : ch s b = 45) (h1 : ch s (b + 1) = 45) : Lib.index (s.data.toList.drop b) [45, 45] = 0 := by
  obtain ⟨c, r, e, hc, hr⟩ := ch_drop s b (by omega)
  obtain ⟨d, r2, e2, hd, _⟩ := ch_drop s (b + 1) h
  have ec : c = 45 := UInt8.toNat_inj.1 (hc.trans h0)
  have ed : d = 45 := UInt8.toNat_inj.1 (hd.trans h1)
  rw [e, hr, e2, ec, ed]
  simp [Lib.index]
theorem hh_next {s : ByteArray} {b : Nat} (h : b + 1 < s.size) (h0 : ¬ (ch s b = 45 ∧ ch s (b + 1) = 45)) : Lib.index (s.data.toList.drop b) [45, 45] = if Lib.index (s.data.toList.drop (b + 1)) [45, 45] == -1 then -1 else Lib.index (s.data.toList.drop (b + 1)) [45, 45] + 1 := by
  obtain ⟨c, r, e, hc, hr⟩ := ch_drop s b (by omega)
  obtain ⟨d, r2, e2, hd, _⟩ := ch_drop s (b + 1) h
  rw [e, Lib.index, ← hr]
  rw [if_neg]
  rw [Bool.not_eq_true, hr, e2]
  simp only [List.isPrefixOf, Bool.and_true, Bool.and_eq_false_iff, beq_eq_false_iff_ne]
  by_cases hc4 : ch s b = 45
  · right
    intro hh
    exact h0 ⟨hc4, by rw [← hd, ← hh]; rfl⟩
  · left
    intro hh
    exact hc4 (by rw [← hc, ← hh]; rfl)
theorem hh_end {s : ByteArray} {b : Nat} (h : ¬ b + 1 < s.size) : Lib.index (s.data.toList.drop b) [45, 45] = -1 := by
  have hl : (s.data.toList.drop b).length ≤ 1 := by rw [List.length_drop, tl_len]; omega
  cases e : s.data.toList.drop b with
  | nil => rfl
  | cons c l =>
    rw [e] at hl
    cases l with
    | nil => simp [Lib.index, List.isPrefixOf]
    | cons d l => simp at hl
/-- The comment's text, as far as its first two hyphens; -1: there are none. -/
def hhZ (s : ByteArray) (a b : Nat) (k : Int) : Sz :=
  if k = -1 then .bad 41 s.size
  else if s.size ≤ b + k.toNat + 2 then .bad 41 s.size
  else if ch s (b + k.toNat + 2) = 62 then .go (some 83) (b + k.toNat + 2 + 1) (some ⟨6, E0, s.extract b (b + k.toNat), a⟩)
  else .bad 43 (b + k.toNat)
theorem comment_hh {s : ByteArray} {a : Nat} (h1 : expZ s (a + 2) 45 = none) (h2 : expZ s (a + 2 + 1) 45 = none) : commentZ s a = hhZ s a (a + 4) (Lib.index (s.data.toList.drop (a + 4)) [45, 45]) := by
  have hx := expZ_none h2
  unfold commentZ
  rw [h1]
  dsimp only
  rw [h2]
  dsimp only
  unfold hhZ
  rw [show a + 2 + 1 + 1 = a + 4 by omega]
  have hge := Lib.index_ge (s.data.toList.drop (a + 4)) [45, 45]
  have hle := Lib.index_le (s.data.toList.drop (a + 4)) [45, 45]
  rw [List.length_drop, tl_len] at hle
  by_cases hk : Lib.index (s.data.toList.drop (a + 4)) [45, 45] = -1
  · have hc : comL s (a + 4) = (s.data.toList.drop (a + 4), [], false) := by
      show Lib.cut (s.data.toList.drop (a + 4)) [45, 45] = _
      unfold Lib.cut
      rw [if_neg (by omega)]
    rw [hc, if_pos hk, if_neg (by simp)]
  · have hc : comL s (a + 4) = (List.take (Lib.index (s.data.toList.drop (a + 4)) [45, 45]).toNat (s.data.toList.drop (a + 4)), List.drop ((Lib.index (s.data.toList.drop (a + 4)) [45, 45]).toNat + 2) (s.data.toList.drop (a + 4)), true) := by
      show Lib.cut (s.data.toList.drop (a + 4)) [45, 45] = _
      unfold Lib.cut
      rw [if_pos (by omega)]
      rfl
    rw [hc, if_neg hk, if_pos rfl]
    have hl : (List.take (Lib.index (s.data.toList.drop (a + 4)) [45, 45]).toNat (s.data.toList.drop (a + 4))).length = (Lib.index (s.data.toList.drop (a + 4)) [45, 45]).toNat := by
      rw [List.length_take, List.length_drop, tl_len]
      omega
    dsimp only
    rw [hl]
    have e : bs (List.take (Lib.index (s.data.toList.drop (a + 4)) [45, 45]).toNat (s.data.toList.drop (a + 4))) = s.extract (a + 4) (a + 4 + (Lib.index (s.data.toList.drop (a + 4)) [45, 45]).toNat) := by
      apply ba_ext
      rw [bs_list, list_ext, Nat.add_sub_cancel_left]
    rw [e]
/-- How the first two hyphens stand to a place behind. -/
def FromTo (i j : Int) (d : Nat) : Prop := (j = -1 → i = -1) ∧ (j ≠ -1 → i = j + d)
theorem FromTo.next {s : ByteArray} {f b : Nat} (hfb : f ≤ b) (h : FromTo (Lib.index (s.data.toList.drop f) [45, 45]) (Lib.index (s.data.toList.drop b) [45, 45]) (b - f)) (hb : b + 1 < s.size) (h0 : ¬ (ch s b = 45 ∧ ch s (b + 1) = 45)) : FromTo (Lib.index (s.data.toList.drop f) [45, 45]) (Lib.index (s.data.toList.drop (b + 1)) [45, 45]) (b + 1 - f) := by
  have e := hh_next hb h0
  have hge := Lib.index_ge (s.data.toList.drop (b + 1)) [45, 45]
  unfold FromTo at h ⊢
  rw [e] at h
  by_cases hj : Lib.index (s.data.toList.drop (b + 1)) [45, 45] = -1
  · rw [hj] at h ⊢
    exact ⟨fun _ => h.1 rfl, fun hh => absurd rfl hh⟩
  · have hb2 : (Lib.index (s.data.toList.drop (b + 1)) [45, 45] == -1) = false := beq_eq_false_iff_ne.2 hj
    rw [hb2] at h
    simp only [Bool.false_eq_true, if_false] at h
    refine ⟨fun hh => absurd hh hj, fun _ => ?_⟩
    have := h.2 (by omega)
    omega
theorem ix_at (s : ByteArray) (c : Nat) (z : Int) (hz : z = (c : Int)) (hc : c < s.size) (d : Nat) (hd : ch s c = d) (w : World) : (Instr.index 9 (.string s) (.int .i64 z)).run Tryz.prog w = .ok (.int .u8 (d : Int)) w := by
  rw [hz, ← hd]
  exact idx (w := w) s c hc .i64
set_option maxRecDepth 100000 in
set_option maxHeartbeats 4000000 in
theorem rcomment (R : Nat) (s : ByteArray) (a : Nat) (al : List IT) (w : World) (h : RP w R s a al 0 0) (ha : a + 2 ≤ s.size) (hl : al.length ≤ 1048576) (hs : s.size ≤ 1048576) :
    Calls Tryz.prog 67 #[.pointer (some ⟨R, 0, none⟩)] w (PZ R s al w (commentZ s a)) := by
  have d1 := h.c1
  have f1 := h.f1
  have hR := h.lt
  have H1 := Hid.mk' (h.place ((a : Int) + 2) (b := a + 2) (by omega))
  have HB := Hid.mk' (below_place w R (.int .i64 ((a : Int) + 2)))
  have cE := pbyte (c := 45) H1.out ha hs
  cases hx : expZ s (a + 2) 45 with
  | some ep =>
    obtain ⟨er, p⟩ := ep
    rw [hx] at cE
    dsimp only at cE
    have HZ := Hid.mk' (show commentZ s a = .bad er p by unfold commentZ; rw [hx])
    clear hx h
    go_enter Tryz.func67, Tryz.ntmps67
    go_wp2_with (go_at_call 92; refine cE.mono ?_; clear cE; rintro e w1 ⟨B1, rfl, H2⟩)
    go_ret
    unfold PZ
    rw [HZ.out]
    exact ⟨HB.out.trans B1.out, rfl, _, H2.out⟩
  | none =>
    rw [hx] at cE
    dsimp only at cE
    have hx2 := expZ_none hx
    have cE2 := fun (W : World) (h : RP W R s (a + 2 + 1) al 0 0) => pbyte (c := 45) h (by omega) hs
    cases hy : expZ s (a + 2 + 1) 45 with
    | some ep =>
      obtain ⟨er, p⟩ := ep
      rw [hy] at cE2
      dsimp only at cE2
      have HZ := Hid.mk' (show commentZ s a = .bad er p by unfold commentZ; rw [hx]; dsimp only; rw [hy])
      clear hx hy h hx2
      have F1 : Hid (1 = 1) := rfl
      go_enter Tryz.func67, Tryz.ntmps67
      go_wp2_with (first
        | (go_at_call 92; clear F1; refine cE.mono ?_; clear cE; rintro e w1 ⟨B1, rfl, H2⟩)
        | (go_at_call 92; refine (cE2 _ H2.out).mono ?_; clear cE2; rintro e w2 ⟨B2, rfl, H3⟩))
      go_ret
      unfold PZ
      rw [HZ.out]
      exact ⟨HB.out.trans (B1.out.trans B2.out), rfl, _, H3.out⟩
    | none =>
      rw [hy] at cE2
      dsimp only at cE2
      have hy2 := expZ_none hy
      have HZ := Hid.mk' (comment_hh hx hy)
      clear hx hy h hx2
      have F1 : Hid (1 = 1) := rfl
      go_enter Tryz.func67, Tryz.ntmps67
      go_wp2_with (first
        | (go_at_call 92; clear F1; refine cE.mono ?_; clear cE; rintro e w1 ⟨B1, rfl, H2⟩)
        | (go_at_call 92; refine (cE2 _ H2.out).mono ?_; clear cE2; rintro e w2 ⟨B2, rfl, H3⟩; replace HB := Hid.mk' (HB.out.trans (B1.out.trans B2.out)); clear B1 B2 H2; replace H3 := Hid.mk' (show RP w2 R s (a + 4) al 0 0 from H3.out); have g1 := H3.out.c1))
      go_loopw [5] (fun i wr => ∃ b : Nat, a + 4 ≤ b ∧ b ≤ s.size ∧ i = .int .i64 (b : Int) ∧ Hid (FromTo (Lib.index (s.data.toList.drop (a + 4)) [45, 45]) (Lib.index (s.data.toList.drop b) [45, 45]) (b - (a + 4))) ∧ Hid (RP wr R s (a + 4) al 0 0) ∧ Hid (Below R w wr)) (fun i _ => s.size - (RowKit.intOf i).toNat)
      case atStart => exact ⟨a + 4, Nat.le_refl _, by omega, by go_num, ⟨fun h => h, fun _ => by omega⟩, H3, HB⟩
      case round =>
        obtain ⟨b, hab, hbs, rfl, HN, HR, HBr⟩ := hrel
        have c0 := HR.out.c0
        have c1 := HR.out.c1
        have ff := HR.out.f1
        have cF := fun (er p : Nat) => pfault (er := er) (p := p) HR.out
        by_cases hlt : b + 1 < s.size
        · have hltI : (b : Int) + 1 < (s.size : Int) := by omega
          have ix0 := ix_at s b (b : Int) rfl (by omega) _ rfl
          have ix1 := ix_at s (b + 1) ((b : Int) + 1) (by omega) (by omega) _ rfl
          by_cases h0 : ch s b = 45
          · rw [h0] at ix0
            by_cases h1 : ch s (b + 1) = 45
            · rw [h1] at ix1
              have hk : Lib.index (s.data.toList.drop (a + 4)) [45, 45] = ((b - (a + 4) : Nat) : Int) := by
                have := hh_here hlt h0 h1
                have h2 := HN.out.2
                rw [this] at h2
                have := h2 (by decide)
                omega
              have hz := HZ.out
              rw [hk] at hz
              unfold hhZ at hz
              rw [if_neg (by omega), Int.toNat_natCast, show a + 4 + (b - (a + 4)) = b by omega] at hz
              clear h0 h1 hk
              by_cases he : b + 2 = s.size
              · rw [if_pos (by omega)] at hz
                have HZ2 := Hid.mk' hz
                have k1 : ((b : Int) + 2 == (s.size : Int)) = true := beq_iff_eq.2 (by omega)
                have k2 : (b : Int) + 2 = (s.size : Int) := by omega
                have cF2 := cF 41 s.size
                clear he hz cF
                go_wp2_with (go_at_call 40; refine cF2.mono ?_; clear cF2; rintro e w3 ⟨rfl, B3, H4⟩)
                go_ret
                unfold PZ
                rw [HZ2.out]
                exact ⟨HBr.out.trans B3.out, rfl, _, H4.out⟩
              · rw [if_neg (by omega)] at hz
                have k1 : ((b : Int) + 2 == (s.size : Int)) = false := beq_eq_false_iff_ne.2 (by omega)
                have k2 : ¬ (b : Int) + 2 = (s.size : Int) := by omega
                have ix2 := ix_at s (b + 2) ((b : Int) + 2) (by omega) (by omega) _ rfl
                have hlt2 : (b : Int) + 2 < (s.size : Int) := by omega
                by_cases h62 : ch s (b + 2) = 62
                · rw [if_pos h62] at hz
                  rw [h62] at ix2
                  have HZ2 := Hid.mk' hz
                  have hsl : ∀ w : World, (Instr.slice 9 (.string s) (some (.int .i64 ((a : Int) + 4))) (some (.int .i64 (b : Int))) none).run Tryz.prog w = .ok (.string (s.extract (a + 4) b)) w := fun w => by
                    have := slice_fromto s (a + 4) b hab hbs w
                    rwa [show ((a + 4 : Nat) : Int) = (a : Int) + 4 by omega] at this
                  have j1 : (a : Int) + 4 ≤ (b : Int) := by omega
                  generalize s.extract (a + 4) b = U at *
                  have cP := rput R s (a + 4) al 6 E0 U (a : Int) wr HR.out hl
                  clear h62 hz he cF
                  go_wp2_with (go_at_call 69; refine cP.mono ?_; clear cP; rintro e w3 ⟨rfl, B3, H4⟩; have g1 := H4.c1; have g2 := H4.f1; replace H4 := Hid.mk' H4)
                  go_ret
                  unfold PZ
                  rw [HZ2.out]
                  exact ⟨(HBr.out.trans B3).setCell (Nat.le_refl _) _, rfl, H4.out.place _ (by omega)⟩
                · rw [if_neg h62] at hz
                  have HZ2 := Hid.mk' hz
                  have k3 : ((ch s (b + 2) : Int) == 62) = false := beq_eq_false_iff_ne.2 (by omega)
                  have k4 : decide ((ch s (b + 2) : Int) = 62) = false := decide_eq_false (by omega)
                  have k5 : ((ch s (b + 2) : Int) != 62) = true := bne_iff_ne.2 (by omega)
                  generalize ch s (b + 2) = d at *
                  have cF2 := cF 43 b
                  clear h62 hz he cF
                  go_wp2_with (go_at_call 40; refine cF2.mono ?_; clear cF2; rintro e w3 ⟨rfl, B3, H4⟩)
                  go_ret
                  unfold PZ
                  rw [HZ2.out]
                  exact ⟨HBr.out.trans B3.out, rfl, _, H4.out⟩
            · have HN2 := Hid.mk' (HN.out.next hab hlt (fun hh => h1 hh.2))
              have k3 : ((ch s (b + 1) : Int) == 45) = false := beq_eq_false_iff_ne.2 (by omega)
              have k4 : decide ((ch s (b + 1) : Int) = 45) = false := decide_eq_false (by omega)
              have k5 : ((ch s (b + 1) : Int) != 45) = true := bne_iff_ne.2 (by omega)
              generalize ch s (b + 1) = d at *
              clear h0 h1 cF
              go_wp2_with fail
              go_roundw
              case rel => exact ⟨b + 1, by omega, by omega, by go_num, HN2, HR, HBr⟩
              case measure => simp [RowKit.intOf]; omega
          · have HN2 := Hid.mk' (HN.out.next hab hlt (fun hh => h0 hh.1))
            have k3 : ((ch s b : Int) == 45) = false := beq_eq_false_iff_ne.2 (by omega)
            have k4 : decide ((ch s b : Int) = 45) = false := decide_eq_false (by omega)
            have k5 : ((ch s b : Int) != 45) = true := bne_iff_ne.2 (by omega)
            generalize ch s b = d at *
            clear h0 cF
            go_wp2_with fail
            go_roundw
            case rel => exact ⟨b + 1, by omega, by omega, by go_num, HN2, HR, HBr⟩
            case measure => simp [RowKit.intOf]; omega
        · have hk : Lib.index (s.data.toList.drop (a + 4)) [45, 45] = -1 := HN.out.1 (hh_end hlt)
          have hz := HZ.out
          rw [hk] at hz
          unfold hhZ at hz
          rw [if_pos rfl] at hz
          have HZ2 := Hid.mk' hz
          have k1 : ¬ (b : Int) + 1 < (s.size : Int) := by omega
          have k2 : decide ((b : Int) + 1 < (s.size : Int)) = false := decide_eq_false k1
          have cF2 := cF 41 s.size
          clear hz hk cF
          go_wp2_with (go_at_call 40; refine cF2.mono ?_; clear cF2; rintro e w3 ⟨rfl, B3, H4⟩)
          go_ret
          unfold PZ
          rw [HZ2.out]
          exact ⟨HBr.out.trans B3.out, rfl, _, H4.out⟩
end Go.Proofs.YtchfphakhmifmaaGreatDoor
