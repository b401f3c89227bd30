/- XR9, XR10, XR11, XR12, XR13. -/
import Derived.Test.YtchfphakhmifmaaGreatDoorXB5
import Derived.Test.YtchfphakhmifmaaGreatDoorXR8
import Derived.Test.YtchfphakhmifmaaGreatDoorXScan
import Derived.Deep.RegionLaw
import Derived.Deep.RegionHeld
namespace Go.Proofs.YtchfphakhmifmaaGreatDoor
open Go.ChangeShapes Go.WideShapes Go.ChangeAt Go.RowKit Go.Shelf Go.Lib

def dg (x : Int) : Nat := if x = -1 then 0 else x.toNat + 2
theorem dg_no {b1 x1 b2 x2 b3 x3 x4 h : Bool} {p : Nat} (hh : (b1 && x1 && (!b2 || x2) && (!b3 || x3 || x4) && h) = false) : dg (dclF b1 x1 b2 x2 b3 x3 x4 h p) = 0 := by
  unfold dclF dg
  rw [hh]
  rfl
theorem dg_yes {b1 x1 b2 x2 b3 x3 x4 h : Bool} {p : Nat} (hh : (b1 && x1 && (!b2 || x2) && (!b3 || x3 || x4) && h) = true) : dg (dclF b1 x1 b2 x2 b3 x3 x4 h p) = p + 2 := by
  unfold dclF dg
  rw [hh, if_pos rfl, if_neg (by omega), Int.toNat_natCast]
theorem dcl_at {t : ByteArray} (hp : Lib.hasPrefix t.data.toList bXML.data.toList = true) : declN t = dg (dclZ t 5) := by
  have h5 : 5 ≤ t.size := by
    obtain ⟨r, hr⟩ := List.isPrefixOf_iff_prefix.1 hp
    have := congrArg List.length hr
    rw [List.length_append, tl_len, tl_len] at this
    have e : bXML.size = 5 := rfl
    omega
  have hcp : cpB t bXML = (suf t 5, true) := by
    unfold cpB
    rw [if_pos hp]
    rfl
  unfold declN dr4 dr3 dr2 dr1
  rw [hcp]
  have l1 : (z1 t 5).2.2 ≤ t.size := saidZ_le _ _ _ h5
  have l2 : (z2 t 5).2.2 ≤ t.size := saidZ_le _ _ _ l1
  have l3 : (z3 t 5).2.2 ≤ t.size := saidZ_le _ _ _ l2
  rw [set_suf t 5 h5, show saidZ t 5 ⟨#[118, 101, 114, 115, 105, 111, 110]⟩ = z1 t 5 from rfl]
  unfold dclZ
  rw [enc_eq]
  have fin : ∀ P : Nat, P ≤ t.size → dg (dclF true true false true false true true (hasN t (skN t P) ⟨#[63, 62]⟩) (skN t P)) = (if (cpB (suf t (skN t P)) bSHUT).2 = true then t.size - (cpB (suf t (skN t P)) bSHUT).1.size else 0) := by
    intro P hP
    have m := (skN_le t P hP).2
    rw [cp_suf]
    cases hh : hasN t (skN t P) ⟨#[63, 62]⟩
    · rw [dg_no (by simp)]; simp
    · have m2 : skN t P + 2 ≤ t.size := has_le m hh
      rw [dg_yes (by simp), if_pos rfl]
      rw [suf_size, show (⟨#[63, 62]⟩ : ByteArray).size = 2 from rfl]
      simp only [if_true]
      omega
  have st3 : ∀ P : Nat, P ≤ t.size → dg (dclF true true false true (saidZ t P nSTA).2.1 (decide ((saidZ t P nSTA).1 = ⟨#[121, 101, 115]⟩)) (decide ((saidZ t P nSTA).1 = ⟨#[110, 111]⟩)) (hasN t (skN t (saidZ t P nSTA).2.2) ⟨#[63, 62]⟩) (skN t (saidZ t P nSTA).2.2)) =
      (if (cpB (tlB (setB staB nSTA (suf t P)).1) bSHUT).2 = true then t.size - (cpB (tlB (setB staB nSTA (suf t P)).1) bSHUT).1.size else 0) := by
    intro P hP
    cases b : (saidZ t P nSTA).2.1
    · have e : setB staB nSTA (suf t P) = (suf t P, false) := by rw [set_suf t P hP, b, if_neg (by simp)]
      rw [e, said_false b, tl_suf, ← fin P hP]
      unfold dclF
      simp
    · cases c : staB (saidZ t P nSTA).1
      · have e : setB staB nSTA (suf t P) = (suf t P, false) := by rw [set_suf t P hP, b, c, if_neg (by simp)]
        rw [e, tl_suf, cp_suf, has_not (said_true b) (by decide) (by decide) (by decide)]
        unfold staB at c
        rw [Bool.or_eq_false_iff] at c
        rw [dg_no (by rw [c.1, c.2]; simp)]
        simp
      · have e : setB staB nSTA (suf t P) = (suf t (saidZ t P nSTA).2.2, true) := by rw [set_suf t P hP, b, c, if_pos ⟨rfl, rfl⟩]
        rw [e, tl_suf, ← fin _ (saidZ_le t P nSTA hP)]
        unfold staB at c
        unfold dclF
        rw [Bool.not_true, Bool.false_or, c]
        simp
  by_cases h1 : (z1 t 5).2.1 = true ∧ verB (z1 t 5).1 = true
  · rw [if_pos h1]
    have h1b : decide ((z1 t 5).1 = ⟨#[49, 46, 48]⟩) = true := h1.2
    rw [h1.1, h1b]
    simp only [Bool.true_and]
    have se := set_suf t _ l1 encB nENC
    rw [show saidZ t (z1 t 5).2.2 nENC = z2 t 5 from rfl] at se
    cases b : (z2 t 5).2.1
    · have e : (z2 t 5).2.2 = (z1 t 5).2.2 := said_false b
      rw [b, if_neg (by simp)] at se
      rw [se, ← st3 _ l1]
      unfold z3
      rw [e]
      unfold dclF
      simp
    · cases c : encB (z2 t 5).1
      · have hh : hasN t (skN t (z1 t 5).2.2) nENC = true := said_true b
        rw [b, c, if_neg (by simp)] at se
        rw [se, ← st3 _ l1]
        have n3 := said_not (b := nSTA) hh (by decide) (by decide) (by decide)
        rw [n3, said_false n3, has_not hh (by decide) (by decide) (by decide)]
        rw [dg_no (by simp), dg_no (by simp)]
      · rw [b, c, if_pos ⟨rfl, rfl⟩] at se
        rw [se, ← st3 _ l2]
        unfold z3 dclF
        simp
  · rw [if_neg h1]
    have h2 : ((z1 t 5).2.1 && decide ((z1 t 5).1 = ⟨#[49, 46, 48]⟩)) = false := by
      rw [Bool.eq_false_iff]
      intro h
      rw [Bool.and_eq_true] at h
      exact h1 h
    rw [dg_no (by rw [h2]; rfl)]
    simp
end Go.Proofs.YtchfphakhmifmaaGreatDoor
namespace Go.Proofs.YtchfphakhmifmaaGreatDoor
open Go.ChangeShapes Go.WideShapes Go.ChangeAt Go.RowKit Go.Shelf Go.Lib

/-- The state in which the next thing is read. -/
def stA (s : ByteArray) (a : Nat) : Option Nat := if a = 0 ∧ Lib.hasPrefix s.data.toList bXML.data.toList = true then some 82 else sCo
def OneP (R : Nat) (s : ByteArray) (al : List IT) (a : Nat) (w : World) (e : Ending) (w' : World) : Prop :=
  Below R w w' ∧ ((∃ (l : List Tok) (c : Nat), a + l.length ≤ c ∧ a < c ∧ c ≤ s.size ∧ toksZ s (stA s a) a = (l ++ (toksZ s sCo c).1, (toksZ s sCo c).2) ∧ e = .returned (.bool true) ∧ RP w' R s c (al ++ l.map itT) 0 0) ∨
    (∃ (l : List Tok) (er p c : Nat), toksZ s (stA s a) a = (l, some (er, p)) ∧ e = .returned (.bool false) ∧ RP w' R s c (al ++ l.map itT) er p))
theorem pre_ch {s : ByteArray} (h : Lib.hasPrefix s.data.toList bXML.data.toList = true) : 5 ≤ s.size ∧ ch s 0 = 60 ∧ ch s 1 = 63 := by
  obtain ⟨r, hr⟩ := List.isPrefixOf_iff_prefix.1 h
  have hl := congrArg List.length hr
  rw [List.length_append, tl_len, tl_len] at hl
  have e5 : bXML.size = 5 := rfl
  refine ⟨by omega, ?_, ?_⟩
  · unfold ch; rw [← hr]; rfl
  · unfold ch; rw [← hr]; rfl
theorem stA_co {s : ByteArray} {a : Nat} (h : ¬ ch s a = 60 ∨ ¬ (a + 1 < s.size ∧ ch s (a + 1) = 63)) : stA s a = sCo := by
  unfold stA
  rw [if_neg]
  rintro ⟨rfl, hp⟩
  have := pre_ch hp
  rcases h with h | h
  · exact h this.2.1
  · exact h ⟨by omega, this.2.2⟩
theorem one_of {R : Nat} {s : ByteArray} {al : List IT} {a g : Nat} {w W w' : World} {e : Ending} (hs : s.size ≤ 1048576) (ha : a < s.size) (hst : stA s a = sCo) (hc : contentZ s a = .go (some g) a none) (hnx : ∀ nx b t, stepZ s g a = .go nx b (some t) → nx = sCo) (hW : Below R w W) (h : PZ R s al W (stepZ s g a) e w') : OneP R s al a w e w' := by
  obtain ⟨hb, hz⟩ := h
  refine ⟨hW.trans hb, ?_⟩
  rw [hst]
  cases hq : stepZ s g a with
  | bad er p =>
    rw [hq] at hz
    obtain ⟨rfl, c, hr⟩ := hz
    exact .inr ⟨[], er, p, c, toksZ_bad (con_bad hc hq), rfl, by rw [List.map_nil, List.append_nil]; exact hr⟩
  | go nx b t =>
    rw [hq] at hz
    cases t with
    | none => exact absurd hz id
    | some t =>
      obtain ⟨rfl, hr⟩ := hz
      have e1 := hnx nx b t hq
      subst e1
      have hp := con_told hc hq
      have hbd := piece_told (ok_co hs (Nat.le_of_lt ha)) hp
      exact .inl ⟨[t], b, by show a + 1 ≤ b; omega, hbd.1, hbd.2.1, toksZ_told (ok_co hs (Nat.le_of_lt ha)) hp, rfl, hr⟩
theorem nx_text {s : ByteArray} {a : Nat} : ∀ nx b t, stepZ s 110 a = .go nx b (some t) → nx = sCo := by
  intro nx b t h
  rw [stepZ_text] at h
  unfold textZ at h
  cases hp : plainZ (s.extract a (upN [60] s a)) a with
  | mk o v =>
    rw [hp] at h
    cases o with
    | none => injection h with h; exact h.symm
    | some ep => cases h
theorem nx_close {s : ByteArray} {a : Nat} : ∀ nx b t, stepZ s 111 a = .go nx b (some t) → nx = sCo := by
  intro nx b t h
  rw [stepZ_endTag] at h
  unfold endZ at h
  cases hn : nameZ s (a + 2) with
  | bad e p => rw [hn] at h; cases h
  | val nm c =>
    rw [hn] at h
    dsimp only at h
    cases hx : expZ s (skN s c) 62 with
    | some ep => rw [hx] at h; cases h
    | none => rw [hx] at h; injection h with h; exact h.symm
theorem nx_comment {s : ByteArray} {a : Nat} : ∀ nx b t, stepZ s 112 a = .go nx b (some t) → nx = sCo := by
  intro nx b t h
  rw [stepZ_comment] at h
  unfold commentZ at h
  cases hx : expZ s (a + 2) 45 with
  | some ep => rw [hx] at h; cases h
  | none =>
    rw [hx] at h
    dsimp only at h
    cases hy : expZ s (a + 2 + 1) 45 with
    | some ep => rw [hy] at h; cases h
    | none =>
      rw [hy] at h
      dsimp only at h
      split at h
      · split at h
        · cases h
        · split at h
          · injection h with h; exact h.symm
          · cases h
      · cases h
theorem phas {R : Nat} {s p : ByteArray} {a : Nat} {al : List IT} {w : World} (h : RP w R s a al 0 0) (ha : a ≤ s.size) (hs : s.size ≤ 1048576) (hp : p.size ≤ 1048576) :
    Calls Tryz.prog 68 #[.pointer (some ⟨R, 0, none⟩), .string p] w fun e w' => e = .returned (.bool (hasN s a p)) ∧ Hid (Below R w w') ∧ Hid (RP w' R s a al 0 0) := by
  obtain ⟨v, hx, ho⟩ := h.x
  refine (rhas R s a p w hx.ra ha (by omega) (by omega)).mono ?_
  rintro e w' ⟨rfl, hm, hr⟩
  exact ⟨rfl, hm.but.belowR (Nat.le_of_lt hx.lt), ⟨v, hx.mv hm hr, own_but ho hm.but⟩⟩
theorem decl_bad {s : ByteArray} (hp : Lib.hasPrefix s.data.toList bXML.data.toList = true) (hd : dclZ s 5 = -1) : toksZ s (stA s 0) 0 = ([], some (44, 0)) := by
  have hz : declZ s = .bad 44 0 := by unfold declZ; rw [dcl_at hp, hd]; rfl
  unfold stA
  rw [if_pos ⟨rfl, hp⟩]
  refine toksZ_bad ?_
  show runZ s 1 _ 0 = _
  simp only [runZ, stepZ_declaration, hz]
theorem dclF_cases (b1 x1 b2 x2 b3 x3 x4 h : Bool) (p : Nat) : dclF b1 x1 b2 x2 b3 x3 x4 h p = -1 ∨ dclF b1 x1 b2 x2 b3 x3 x4 h p = (p : Int) := by
  unfold dclF
  split
  · exact .inr rfl
  · exact .inl rfl
theorem decl_told {s : ByteArray} (hs : s.size ≤ 1048576) (hp : Lib.hasPrefix s.data.toList bXML.data.toList = true) {d : Nat} (hd : dclZ s 5 = (d : Int)) : declN s = d + 2 ∧ 5 ≤ d ∧ d + 2 ≤ s.size ∧ toksZ s (stA s 0) 0 = ([(⟨7, E0, s.extract 5 d, 0⟩ : Tok)] ++ (toksZ s sCo (d + 2)).1, (toksZ s sCo (d + 2)).2) := by
  have hD : declN s = d + 2 := by rw [dcl_at hp, hd]; unfold dg; rw [if_neg (by omega), Int.toNat_natCast]
  have hpos := declN_pos (s := s) (by omega)
  have hz : declZ s = .go sCo (d + 2) (some ⟨7, E0, s.extract 5 d, 0⟩) := by
    unfold declZ
    rw [if_neg (by omega), hD]
    rfl
  refine ⟨hD, by omega, by omega, ?_⟩
  unfold stA
  rw [if_pos ⟨rfl, hp⟩]
  have hok : okO s 0 (some 82) := Or.inr ⟨hs, Or.inl ⟨rfl, rfl⟩⟩
  refine toksZ_told hok ?_
  show runZ s 1 _ 0 = _
  simp only [runZ, stepZ_declaration, hz]
theorem has_zero {s : ByteArray} : hasN s 0 bXML = Lib.hasPrefix s.data.toList bXML.data.toList := by rw [← has_pre, List.drop_zero]
theorem pz_bool {R : Nat} {s : ByteArray} {al : List IT} {w w' : World} {z : Sz} {e : Ending} (h : PZ R s al w z e w') : ∃ b, e = .returned (.bool b) := by
  obtain ⟨_, hz⟩ := h
  cases z with
  | bad er p => exact ⟨_, hz.1⟩
  | go nx b t =>
    cases t with
    | none => exact absurd hz id
    | some t => exact ⟨_, hz.1⟩
theorem op_bool {R : Nat} {s : ByteArray} {al : List IT} {a : Nat} {w w' : World} {e : Ending} (h : OnePost R s al a w e w') : ∃ b, e = .returned (.bool b) := by
  rcases h.2 with ⟨l, c, _, _, _, _, h, _⟩ | ⟨l, er, p, c, _, h, _⟩ <;> exact ⟨_, h⟩
set_option maxRecDepth 100000 in
set_option maxHeartbeats 8000000 in
theorem rone (R : Nat) (s : ByteArray) (a : Nat) (al : List IT) (w : World) (h : RP w R s a al 0 0) (ha : a < s.size) (hl : al.length ≤ a) (hs : s.size ≤ 1048576) :
    Calls Tryz.prog 42 #[.pointer (some ⟨R, 0, none⟩)] w (OneP R s al a w) := by
  have c0 := h.c0
  have c1 := h.c1
  have hltI : (a : Int) < (s.size : Int) := by omega
  have ix := ix_at s a (a : Int) rfl ha _ rfl
  have HR := Hid.mk' h
  clear h
  by_cases h60 : ch s a = 60
  · by_cases he : a + 1 = s.size
    · have hst := stA_co (s := s) (a := a) (.inr (fun hh => by omega))
      have hc : contentZ s a = .go (some 113) a none := by
        unfold contentZ
        rw [if_neg (by omega), if_pos h60, if_neg (by omega), if_neg (by omega), if_neg (by omega)]
      have hz : startZ s a = .bad 41 s.size := by
        unfold startZ nameZ
        rw [if_pos (by omega)]
      have HZ := Hid.mk' (show toksZ s (stA s a) a = ([], some (41, a + 1)) by rw [hst, he]; exact toksZ_bad (con_bad hc (by rw [stepZ_startTag]; exact hz)))
      rw [h60] at ix
      have k1 : ((a : Int) + 1 == (s.size : Int)) = true := beq_iff_eq.2 (by omega)
      have cF := fun (W : World) (h : RP W R s a al 0 0) => pfault (er := 41) (p := a + 1) h
      have hcast : ((a + 1 : Nat) : Int) = (a : Int) + 1 := by omega
      rw [hcast] at cF
      clear h60 he hst hc hz
      go_enter Tryz.func42, Tryz.ntmps42
      go_wp2_with fail
      go_quiet (fail)
      go_wp2_with fail
      go_quiet (fail)
      go_wp2_with (go_at_call 40; refine (cF _ (HR.out.drewN _)).mono ?_; clear cF; rintro e w1 ⟨rfl, B1, H1⟩)
      go_ret
      exact ⟨bel_drewN (Below.refl _ _) _ |>.trans B1.out, .inr ⟨[], 41, a + 1, _, HZ.out, rfl, by rw [List.map_nil, List.append_nil]; exact H1.out⟩⟩
    · have k1 : ((a : Int) + 1 == (s.size : Int)) = false := beq_eq_false_iff_ne.2 (by omega)
      have k1n : ¬ (a : Int) + 1 = (s.size : Int) := by omega
      have hlt2 : (a : Int) + 1 < (s.size : Int) := by omega
      have ha1 : a + 1 < s.size := by omega
      have ix1 := ix_at s (a + 1) ((a : Int) + 1) (by omega) ha1 _ rfl
      clear he
      by_cases h47 : ch s (a + 1) = 47
      · have hst := stA_co (s := s) (a := a) (.inr (fun hh => by omega))
        have hc : contentZ s a = .go (some 111) a none := by
          unfold contentZ
          rw [if_neg (by omega), if_pos h60, if_pos ⟨ha1, h47⟩]
        have HC : Hid (stA s a = sCo ∧ contentZ s a = .go (some 111) a none) := ⟨hst, hc⟩
        have cK := fun (W : World) (h : RP W R s a al 0 0) => rclose R s a al W h (by omega) (by omega) hs
        rw [← stepZ_endTag s a] at cK
        rw [h60] at ix
        rw [h47] at ix1
        clear h60 h47 hst hc
        go_enter Tryz.func42, Tryz.ntmps42
        go_wp2_with fail
        go_quiet (fail)
        go_wp2_with fail
        go_quiet (fail)
        go_wp2_with fail
        go_quiet (fail)
        go_wp2_with (go_at_call 66; refine (cK _ (HR.out.drewN _)).mono ?_; clear cK; intro e w1 hq; have he := hq.1; obtain ⟨b, rfl⟩ := pz_bool hq; replace hq := Hid.mk' hq)
        go_ret
        exact one_of hs ha HC.out.1 HC.out.2 nx_close (bel_drewN (Below.refl _ _) _) hq.out
      · have k2 : ((ch s (a + 1) : Int) == 47) = false := beq_eq_false_iff_ne.2 (by omega)
        have k3 : decide ((ch s (a + 1) : Int) = 47) = false := decide_eq_false (by omega)
        by_cases h33 : ch s (a + 1) = 33
        · have hst := stA_co (s := s) (a := a) (.inr (fun hh => by omega))
          have hc : contentZ s a = .go (some 112) a none := by
            unfold contentZ
            rw [if_neg (by omega), if_pos h60, if_neg (by omega), if_pos ⟨ha1, h33⟩]
          have HC : Hid (stA s a = sCo ∧ contentZ s a = .go (some 112) a none) := ⟨hst, hc⟩
          have cK := fun (W : World) (h : RP W R s a al 0 0) => rcomment R s a al W h (by omega) (by omega) hs
          rw [← stepZ_comment s a] at cK
          rw [h60] at ix
          rw [h33] at ix1
          clear h60 h33 hst hc h47 k2 k3
          go_enter Tryz.func42, Tryz.ntmps42
          go_wp2_with fail
          go_quiet (fail)
          go_wp2_with fail
          go_quiet (fail)
          go_wp2_with fail
          go_quiet (fail)
          go_wp2_with fail
          go_quiet (fail)
          go_wp2_with (go_at_call 67; refine (cK _ (HR.out.drewN _)).mono ?_; clear cK; intro e w1 hq; have he := hq.1; obtain ⟨b, rfl⟩ := pz_bool hq; replace hq := Hid.mk' hq)
          go_ret
          exact one_of hs ha HC.out.1 HC.out.2 nx_comment (bel_drewN (Below.refl _ _) _) hq.out
        · have k4 : ((ch s (a + 1) : Int) == 33) = false := beq_eq_false_iff_ne.2 (by omega)
          have k5 : decide ((ch s (a + 1) : Int) = 33) = false := decide_eq_false (by omega)
          by_cases h63 : ch s (a + 1) = 63
          · rw [h63] at ix1
            clear k2 k3 k4 k5 h47 h33
            have hbad : ¬ (a = 0 ∧ Lib.hasPrefix s.data.toList bXML.data.toList = true) → toksZ s (stA s a) a = ([], some (44, a)) := by
              intro hn
              have hst : stA s a = sCo := by unfold stA; rw [if_neg hn]
              have hz : contentZ s a = .bad 44 a := by
                unfold contentZ
                rw [if_neg (by omega), if_pos h60, if_neg (by omega), if_neg (by omega), if_pos ⟨ha1, h63⟩]
              rw [hst]
              refine toksZ_bad ?_
              show runZ s 2 _ a = _
              simp only [runZ, stepZ_content, hz]
            rw [h60] at ix
            clear h60 h63
            by_cases h0 : a = 0
            · have HA := Hid.mk' h0
              have k0 : ((a : Int) == 0) = true := beq_iff_eq.2 (by omega)
              have k0d : decide ((a : Int) = 0) = true := decide_eq_true (by omega)
              have cH := fun (W : World) (h : RP W R s a al 0 0) => phas (p := bXML) h (by omega) hs (by decide)
              rw [show hasN s a bXML = Lib.hasPrefix s.data.toList bXML.data.toList by rw [h0]; exact has_zero] at cH
              cases hp : Lib.hasPrefix s.data.toList bXML.data.toList
              · rw [hp] at cH
                have HZ := Hid.mk' (hbad (fun hh => by rw [hp] at hh; exact absurd hh.2 (by decide)))
                clear hbad hp h0
                go_enter Tryz.func42, Tryz.ntmps42
                go_wp2_with fail
                go_quiet (fail)
                go_wp2_with fail
                go_quiet (fail)
                go_wp2_with fail
                go_quiet (fail)
                go_wp2_with fail
                go_quiet (fail)
                go_wp2_with fail
                go_quiet (fail)
                go_wp2_with (first
                  | (go_at_call 68; refine (cH _ (HR.out.drewN _)).mono ?_; clear cH; rintro e w1 ⟨rfl, B1, H1⟩; have g0 := H1.out.c0; have g1 := H1.out.c1)
                  | (go_at_call 40; refine (pfault (er := 44) (p := a) H1.out).mono ?_; rintro e w2 ⟨rfl, B2, H2⟩))
                go_ret
                exact ⟨bel_drewN (Below.refl _ _) _ |>.trans (B1.out.trans B2.out), .inr ⟨[], 44, a, _, HZ.out, rfl, by rw [List.map_nil, List.append_nil]; exact H2.out⟩⟩
              · rw [hp] at cH
                have cD := fun (W : World) => rDeclared s 5 W (pre_ch hp).1 (by omega)
                have hdc : dclZ s 5 = -1 ∨ ∃ d : Nat, dclZ s 5 = (d : Int) := by
                  rcases dclF_cases (z1 s 5).2.1 (decide ((z1 s 5).1 = ⟨#[49, 46, 48]⟩)) (z2 s 5).2.1 (decide (lowB (z2 s 5).1 = ⟨#[117, 116, 102, 45, 56]⟩)) (z3 s 5).2.1 (decide ((z3 s 5).1 = ⟨#[121, 101, 115]⟩)) (decide ((z3 s 5).1 = ⟨#[110, 111]⟩)) (hasN s (skN s (z3 s 5).2.2) ⟨#[63, 62]⟩) (skN s (z3 s 5).2.2) with h | h
                  · exact .inl h
                  · exact .inr ⟨_, h⟩
                rcases hdc with hd | ⟨d, hd⟩
                · have HZ := Hid.mk' (show toksZ s (stA s a) a = ([], some (44, a)) by rw [h0]; exact decl_bad hp hd)
                  rw [hd] at cD
                  clear hbad hp hd h0
                  go_enter Tryz.func42, Tryz.ntmps42
                  go_wp2_with fail
                  go_quiet (fail)
                  go_wp2_with fail
                  go_quiet (fail)
                  go_wp2_with fail
                  go_quiet (fail)
                  go_wp2_with fail
                  go_quiet (fail)
                  go_wp2_with fail
                  go_quiet (fail)
                  go_wp2_with (first
                    | (go_at_call 68; refine (cH _ (HR.out.drewN _)).mono ?_; clear cH; rintro e w1 ⟨rfl, B1, H1⟩; have g0 := H1.out.c0; have g1 := H1.out.c1)
                    | (go_at_call 62; refine (cD _).mono ?_; clear cD; rintro e w2 ⟨rfl, B2⟩; have H2 := Hid.mk' (H1.out.below B2); have g2 := H2.out.c0; have g3 := H2.out.c1; have g4 := H1.out.lt)
                    | (go_at_call 40; refine (pfault (er := 44) (p := a) H2.out).mono ?_; rintro e w3 ⟨rfl, B3, H3⟩))
                  go_ret
                  exact ⟨bel_drewN (Below.refl _ _) _ |>.trans (B1.out.trans ((B2.mono (Nat.le_of_lt g4)).trans B3.out)), .inr ⟨[], 44, a, _, HZ.out, rfl, by rw [List.map_nil, List.append_nil]; exact H3.out⟩⟩
                · have ht := decl_told hs hp hd
                  have HT := Hid.mk' (show toksZ s (stA s a) a = ([(⟨7, E0, s.extract 5 d, 0⟩ : Tok)] ++ (toksZ s sCo (d + 2)).1, (toksZ s sCo (d + 2)).2) by rw [h0]; exact ht.2.2.2)
                  rw [hd] at cD
                  have hd5 := ht.2.1
                  have hds := ht.2.2.1
                  clear hbad hp hd ht h0
                  have hsl : ∀ w : World, (Instr.slice 9 (.string s) (some (.int .i64 5)) (some (.int .i64 (d : Int))) none).run Tryz.prog w = .ok (.string (s.extract 5 d)) w := fun w => slice_fromto s 5 d hd5 (by omega) w
                  have j1 : (5 : Int) ≤ (d : Int) := by omega
                  have j2 : (d : Int) ≤ (s.size : Int) := by omega
                  have j3 : decide ((0 : Int) ≤ (d : Int)) = true := decide_eq_true (by omega)
                  have cP := fun (W : World) (h : RP W R s a al 0 0) => rput R s a al 7 E0 (s.extract 5 d) 0 W h (by omega)
                  generalize hU : s.extract 5 d = U at *
                  clear hU
                  go_enter Tryz.func42, Tryz.ntmps42
                  go_wp2_with fail
                  go_quiet (fail)
                  go_wp2_with fail
                  go_quiet (fail)
                  go_wp2_with fail
                  go_quiet (fail)
                  go_wp2_with fail
                  go_quiet (fail)
                  go_wp2_with fail
                  go_quiet (fail)
                  go_wp2_with (first
                    | (go_at_call 68; refine (cH _ (HR.out.drewN _)).mono ?_; clear cH; rintro e w1 ⟨rfl, B1, H1⟩; have g0 := H1.out.c0; have g1 := H1.out.c1)
                    | (go_at_call 62; refine (cD _).mono ?_; clear cD; rintro e w2 ⟨rfl, B2⟩; have H2 := Hid.mk' (H1.out.below B2); have g2 := H2.out.c0; have g3 := H2.out.c1; have g4 := H1.out.lt)
                    | (go_at_call 69; refine (cP _ H2.out).mono ?_; clear cP; rintro e w3 ⟨rfl, B3, H3⟩; have g5 := H3.c1; have g6 := H3.f1; replace H3 := Hid.mk' H3))
                  go_ret
                  have H4 := H3.out.place ((d : Int) + 2) (b := d + 2) (by omega)
                  refine ⟨(bel_drewN (Below.refl _ _) _ |>.trans (B1.out.trans ((B2.mono (Nat.le_of_lt g4)).trans B3))).setCell (Nat.le_refl _) _, .inl ⟨[⟨7, E0, U, 0⟩], d + 2, by show a + 1 ≤ _; have := HA.out; omega, by have := HA.out; omega, hds, HT.out, rfl, H4⟩⟩
            · have k0 : ((a : Int) == 0) = false := beq_eq_false_iff_ne.2 (by omega)
              have k0n : ¬ (a : Int) = 0 := by omega
              have HZ := Hid.mk' (hbad (fun hh => h0 hh.1))
              clear hbad h0
              go_enter Tryz.func42, Tryz.ntmps42
              go_wp2_with fail
              go_quiet (fail)
              go_wp2_with fail
              go_quiet (fail)
              go_wp2_with fail
              go_quiet (fail)
              go_wp2_with fail
              go_quiet (fail)
              go_wp2_with fail
              go_quiet (fail)
              go_wp2_with (go_at_call 40; refine (pfault (er := 44) (p := a) (HR.out.drewN _)).mono ?_; rintro e w1 ⟨rfl, B1, H1⟩)
              go_ret
              exact ⟨bel_drewN (Below.refl _ _) _ |>.trans B1.out, .inr ⟨[], 44, a, _, HZ.out, rfl, by rw [List.map_nil, List.append_nil]; exact H1.out⟩⟩
          · have hst := stA_co (s := s) (a := a) (.inr (fun hh => h63 hh.2))
            have hc : contentZ s a = .go (some 113) a none := by
              unfold contentZ
              rw [if_neg (by omega), if_pos h60, if_neg (by omega), if_neg (by omega), if_neg (by omega)]
            have HC := Hid.mk' hst
            have cK := fun (W : World) (h : RP W R s a al 0 0) => rstart R s a al W h ha hc hl hs
            have k6 : ((ch s (a + 1) : Int) == 63) = false := beq_eq_false_iff_ne.2 (by omega)
            have k7 : decide ((ch s (a + 1) : Int) = 63) = false := decide_eq_false (by omega)
            have n1 : ¬ (ch s (a + 1) : Int) = 47 := by omega
            have n2 : ¬ (ch s (a + 1) : Int) = 33 := by omega
            have n3 : ¬ (ch s (a + 1) : Int) = 63 := by omega
            rw [h60] at ix
            clear h60 h63 hst hc h47 h33
            generalize ch s (a + 1) = d at *
            go_enter Tryz.func42, Tryz.ntmps42
            go_wp2_with fail
            go_quiet (fail)
            go_wp2_with fail
            go_quiet (fail)
            go_wp2_with fail
            go_quiet (fail)
            go_wp2_with fail
            go_quiet (fail)
            go_wp2_with fail
            go_quiet (fail)
            go_wp2_with (go_at_call 70; refine (cK _ (HR.out.drewN _)).mono ?_; clear cK; intro e w1 hq; obtain ⟨b, rfl⟩ := op_bool hq; replace hq := Hid.mk' hq)
            go_ret
            have hq2 := hq.out
            unfold OnePost at hq2
            unfold OneP
            rw [HC.out]
            exact ⟨bel_drewN (Below.refl _ _) _ |>.trans hq2.1, hq2.2⟩
  · have hst := stA_co (s := s) (a := a) (.inl h60)
    have hc : contentZ s a = .go (some 110) a none := by
      unfold contentZ
      rw [if_neg (by omega), if_neg h60]
    have HC : Hid (stA s a = sCo ∧ contentZ s a = .go (some 110) a none) := ⟨hst, hc⟩
    have cK := fun (W : World) (h : RP W R s a al 0 0) => rtext R s a al W h (by omega) (by omega) hs
    rw [← stepZ_text s a] at cK
    have k1 : ((ch s a : Int) == 60) = false := beq_eq_false_iff_ne.2 (by omega)
    have k2 : decide ((ch s a : Int) = 60) = false := decide_eq_false (by omega)
    have k3 : ((ch s a : Int) != 60) = true := bne_iff_ne.2 (by omega)
    have n1 : ¬ (ch s a : Int) = 60 := by omega
    clear h60 hst hc
    generalize ch s a = d at *
    go_enter Tryz.func42, Tryz.ntmps42
    go_wp2_with fail
    go_quiet (fail)
    go_wp2_with (go_at_call 65; refine (cK _ (HR.out.drewN _)).mono ?_; clear cK; intro e w1 hq; obtain ⟨b, rfl⟩ := pz_bool hq; replace hq := Hid.mk' hq)
    go_ret
    exact one_of hs ha HC.out.1 HC.out.2 nx_text (bel_drewN (Below.refl _ _) _) hq.out
end Go.Proofs.YtchfphakhmifmaaGreatDoor
namespace Go.Proofs.YtchfphakhmifmaaGreatDoor
open Go.ChangeShapes Go.WideShapes Go.ChangeAt Go.RowKit Go.Shelf Go.Lib

theorem rp_new (w : World) (s : ByteArray) : RP (w.alloc (rdP s 0)) w.heap.size s 0 [] 0 0 := by
  have hh : (w.alloc (rdP s 0)).heap[w.heap.size]? = some (rdP s 0) := by
    show (w.heap.push _)[w.heap.size]? = _
    rw [Array.getElem?_push, if_pos rfl]
  refine ⟨.slice none 0 0, ⟨?_, ?_, ?_, ?_, ?_, fun o => ?_⟩, World.ownsRow_nil _ _ _ 4⟩
  · simp only [World.cell?, hh]; rfl
  · simp only [World.cell?, hh]; rfl
  · simp only [World.cell?, hh]; rfl
  · simp only [World.cell?, hh]; rfl
  · simp only [World.cell?, hh]; rfl
  · simp only [World.frozen?, hh]; simp
theorem toks_begin {s : ByteArray} (hs : s.size ≤ 1048576) (hv : (faultN xmlB s).1 = 0) : toksN s = toksZ s (stA s 0) 0 := by
  have key : ∀ g, (g = 82 ∨ g = 83) → beginZ s = .go (some g) 0 none → pieceZ s (some 58) 0 = pieceZ s (some g) 0 := by
    intro g hg hz
    rcases hg with rfl | rfl
    · show runZ s 3 _ 0 = runZ s 1 _ 0
      simp only [runZ, stepZ_begin, hz, stepZ_declaration]
      cases hq : declZ s with
      | bad e p => rfl
      | go nx b t =>
        cases t with
        | some t => rfl
        | none =>
          unfold declZ at hq
          split at hq <;> cases hq
    · show runZ s 3 _ 0 = runZ s 2 _ 0
      rw [runZ, stepZ_begin, hz]
  have same : ∀ g, pieceZ s (some 58) 0 = pieceZ s (some g) 0 → toksN s = toksZ s (some g) 0 := by
    intro g h
    unfold toksN toksZ
    simp only [toksF, h]
  unfold stA
  cases hp : Lib.hasPrefix s.data.toList bXML.data.toList
  · rw [if_neg (by simp)]
    exact same _ (key _ (.inr rfl) (by unfold beginZ; rw [if_neg (by omega), if_pos hv, if_neg (by rw [hp]; decide)]))
  · rw [if_pos ⟨rfl, rfl⟩]
    exact same _ (key _ (.inl rfl) (by unfold beginZ; rw [if_neg (by omega), if_pos hv, if_pos hp]))
theorem toks_begin_bad {s : ByteArray} {e p : Nat} (h : beginZ s = .bad e p) : toksN s = ([], some (e, p)) := by
  refine toksZ_bad ?_
  show runZ s 3 _ 0 = _
  rw [runZ, stepZ_begin, h]
theorem stA_pos {s : ByteArray} {a : Nat} (h : 0 < a) : stA s a = sCo := by unfold stA; rw [if_neg (fun hh => by omega)]
theorem toks_end {s : ByteArray} {a : Nat} (h : a = s.size) : toksZ s (stA s a) a = ([], none) := by
  have hst : stA s a = sCo := stA_co (.inr (fun hh => by omega))
  rw [hst]
  have hz : contentZ s a = .go none a none := by unfold contentZ; rw [if_pos (by omega)]
  refine toksZ_end (b := a) ?_
  show runZ s 2 _ a = _
  simp only [runZ, stepZ_content, hz]
def erO : Option (Nat × Nat) → Nat × Nat
  | none => (0, 0)
  | some x => x
set_option maxRecDepth 100000 in
set_option maxHeartbeats 8000000 in
theorem rRead (s : ByteArray) (w : World) (hsz : s.size ≤ 9223372036854775807) :
    Calls Tryz.prog 24 #[.string s] w fun e w' => e = .returned (.pointer (some ⟨w.heap.size, 0, none⟩)) ∧ Below w.heap.size w w' ∧ ∃ a, RP w' w.heap.size s a ((toksN s).1.map itT) (erO (toksN s).2).1 (erO (toksN s).2).2 := by
  have H0 := Hid.mk' (rp_new w s)
  have HB0 := Hid.mk' (bel1 w (rdP s 0))
  have hwz : (w.alloc (rdP s 0)).heap.size = w.heap.size + 1 := World.size_alloc _ _
  by_cases hs : 1048576 < s.size
  · have HZ := Hid.mk' (toks_begin_bad (s := s) (e := 45) (p := 1048576) (by unfold beginZ; rw [if_pos hs]))
    have hsI : (1048576 : Int) < (s.size : Int) := by omega
    have cF := pfault (er := 45) (p := 1048576) H0.out
    clear hs
    go_enter Tryz.func24, Tryz.ntmps24
    go_wp2_with (go_at_call 40; refine cF.mono ?_; clear cF; rintro e w1 ⟨rfl, B1, H1⟩)
    go_ret
    exact ⟨rfl, HB0.out.trans B1.out, _, by rw [HZ.out]; exact H1.out⟩
  · have hsI : ¬ (1048576 : Int) < (s.size : Int) := by omega
    have cC := rChars s (w.alloc (rdP s 0)) (by omega)
    by_cases hv : (faultN xmlB s).1 = 0
    · have hs2 : s.size ≤ 1048576 := by omega
      have HT0 := Hid.mk' (toks_begin hs2 hv)
      rw [hv] at cC
      clear hs hv
      go_enter Tryz.func24, Tryz.ntmps24
      go_wp2_with (go_at_call 41; refine cC.mono ?_; clear cC; rintro e w1 ⟨rfl, B1⟩; have H1 := Hid.mk' (H0.out.below B1); have HB1 : Hid (Below w.heap.size w w1) := HB0.out.trans (B1.mono (by omega)))
      go_loopw [] (fun wr => ∃ (a : Nat) (l : List Tok), Hid (l.length ≤ a ∧ a ≤ s.size ∧ toksN s = (l ++ (toksZ s (stA s a) a).1, (toksZ s (stA s a) a).2)) ∧ Hid (RP wr w.heap.size s a (l.map itT) 0 0) ∧ Hid (Below w.heap.size w wr)) (fun wr => s.size - plcR wr w.heap.size)
      case atStart => exact ⟨0, [], ⟨Nat.le_refl _, Nat.zero_le _, by rw [HT0.out]; rfl⟩, H1, HB1⟩
      case round =>
        clear HT0 H1 HB1 H0 HB0 hwz hsI
        obtain ⟨a, l, HL, HR, HB⟩ := hrel
        have g0 := HR.out.c1
        have hpl := HR.out.plc
        have hle := HL.out.2.1
        by_cases hlt : a < s.size
        · have hltI : (a : Int) < (s.size : Int) := by omega
          have hltd : decide ((a : Int) < (s.size : Int)) = true := decide_eq_true hltI
          have cO := rone w.heap.size s a (l.map itT) wr HR.out hlt (by rw [List.length_map]; exact HL.out.1) hs2
          go_wp2_with fail
          refine cO.mono ?_
          clear cO
          intro e w2 hq
          rcases hq with ⟨B2, ⟨l2, c, h1, h2, h3, h4, rfl, H2⟩ | ⟨l2, er, p, c, h4, rfl, H2⟩⟩
          · have HX : Hid (toksN s = ((l ++ l2) ++ (toksZ s (stA s c) c).1, (toksZ s (stA s c) c).2)) := by
              rw [HL.out.2.2, h4, stA_pos (by omega), List.append_assoc]
              exact rfl
            have HP : Hid (RP w2 w.heap.size s c ((l ++ l2).map itT) 0 0) := by rw [List.map_append]; exact H2
            have hl2 : (l ++ l2).length ≤ c := by rw [List.length_append]; have := HL.out.1; omega
            clear h4 H2
            go_wp2_with fail
            refine ⟨⟨c, l ++ l2, ⟨hl2, h3, HX.out⟩, HP, HB.out.trans B2⟩, ?_⟩
            have hp2 := HP.out.plc
            omega
          · have HX : Hid (toksN s = (l ++ l2, some (er, p))) := by rw [HL.out.2.2, h4]; exact rfl
            have HP : Hid (RP w2 w.heap.size s c ((l ++ l2).map itT) er p) := by rw [List.map_append]; exact H2
            clear h4 H2
            go_wp2_with fail
            go_ret
            exact ⟨rfl, HB.out.trans B2, c, by rw [HX.out]; exact HP.out⟩
        · have hea : a = s.size := by omega
          have hltI : ¬ (a : Int) < (s.size : Int) := by omega
          have hltd : decide ((a : Int) < (s.size : Int)) = false := decide_eq_false hltI
          have HZ := Hid.mk' (show toksN s = (l, none) by rw [HL.out.2.2, toks_end hea, List.append_nil])
          clear hea
          go_wp2_with fail
          go_ret
          exact ⟨rfl, HB.out, a, by rw [HZ.out]; exact HR.out⟩
    · have HZ := Hid.mk' (toks_begin_bad (s := s) (e := (faultN xmlB s).1) (p := (faultN xmlB s).2) (by unfold beginZ; rw [if_neg hs, if_neg hv]))
      generalize (faultN xmlB s).1 = E at *
      generalize (faultN xmlB s).2 = P at *
      have z1 : ¬ (E : Int) = 0 := by omega
      have z2 : ((E : Int) == 0) = false := beq_eq_false_iff_ne.2 z1
      have cF := fun (W : World) (h : RP W w.heap.size s 0 [] 0 0) => pfault (er := E) (p := P) h
      clear hs hv
      go_enter Tryz.func24, Tryz.ntmps24
      go_wp2_with (first
        | (go_at_call 41; refine cC.mono ?_; clear cC; rintro e w1 ⟨rfl, B1⟩; have H1 := Hid.mk' (H0.out.below B1))
        | (go_at_call 40; refine (cF _ H1.out).mono ?_; clear cF; rintro e w2 ⟨rfl, B2, H2⟩))
      go_ret
      exact ⟨rfl, HB0.out.trans ((B1.mono (by omega)).trans B2.out), _, by rw [HZ.out]; exact H2.out⟩
end Go.Proofs.YtchfphakhmifmaaGreatDoor
namespace Go.Proofs.YtchfphakhmifmaaGreatDoor
open Go.ChangeShapes Go.WideShapes Go.ChangeAt Go.RowKit Go.Shelf Go.Lib

theorem itT_it (l : List Tok) : l.map itT = l.map Tok.it := rfl
theorem RP.irow {w : World} {R : Nat} {s : ByteArray} {a : Nat} {al : List IT} {er fl : Nat} (h : RP w R s a al er fl) : ∃ pp cp, w.cell? ⟨R, 2, none⟩ = some (.slice pp al.length cp) ∧ IRow w pp w.heap.size al := by
  obtain ⟨v, hx, ho⟩ := h.x
  rcases ho.2 with ⟨rfl, h0⟩ | ⟨g, cap, cur, rfl, hb, hg, hn, hm, hs, hxx⟩
  · refine ⟨none, 0, by rw [hx.c2, h0], ⟨fun i t ht => ?_⟩⟩
    have : al = [] := List.eq_nil_of_length_eq_zero h0
    subst this
    cases ht
  · refine ⟨_, cap, hx.c2, ?_⟩
    have := IRow.of_own (w := w) (base := R + 1) (g := g) (cap := cap) (H := w.heap.size) (al := al) (bl := []) (n := al.length) (by rw [List.append_nil]; exact ho) (Array.getElem?_eq_some_iff.1 hg).1
    exact this
/-- What Tokens hands out. -/
def LL (s : ByteArray) : List Tok := match (toksN s).2 with
  | none => (toksN s).1
  | some _ => []
def er1 (s : ByteArray) : Nat := (erO (toksN s).2).1
def er2 (s : ByteArray) : Nat := (erO (toksN s).2).2
def TokU (s : ByteArray) (w : World) (e : Ending) (w' : World) : Prop :=
  ∃ p c, e = .returned (.tuple #[.slice p (LL s).length c, .int .i64 (er1 s : Int), .int .i64 (er2 s : Int)]) ∧ Below w.heap.size w w' ∧ IRow w' p w'.heap.size ((LL s).map Tok.it)
theorem tokU (s : ByteArray) (w : World) (hE : Env w) (h7 : 7 ≤ w.heap.size) (hs : s.size ≤ 9223372036854775807) : Calls Tryz.prog 19 #[.string s] w (TokU s w) := by
  refine (Tokens_any s w hE h7 hs).mono ?_
  rintro e w' ⟨hb, hq⟩
  unfold TokU LL er1 er2
  cases hz : (toksN s).2 with
  | none =>
    rw [hz] at hq
    obtain ⟨v, rfl, hr⟩ := hq
    obtain ⟨pp, cp, rfl, hi⟩ := hr.irow (Nat.le_refl _)
    exact ⟨pp, cp, rfl, hb, hi⟩
  | some x =>
    obtain ⟨er, p⟩ := x
    rw [hz] at hq
    exact ⟨none, 0, hq, hb, ⟨fun i t ht => by cases ht⟩⟩
set_option maxHeartbeats 4000000 in
theorem rtokU (s : ByteArray) (w : World) (hs : s.size ≤ 9223372036854775807) : Calls Tryz.prog 23 #[.string s] w (TokU s w) := by
  have cR := rRead s w hs
  have HU : Hid (∀ e w', TokU s w e w' → TokU s w e w') := fun _ _ h => h
  unfold TokU LL er1 er2 at HU ⊢
  cases hz : (toksN s).2 with
  | none =>
    rw [hz] at cR HU
    dsimp only [erO] at cR HU ⊢
    generalize (toksN s).1 = L at *
    clear HU hz
    go_enter Tryz.func23, Tryz.ntmps23
    go_wp2_with (go_at_call 24; refine cR.mono ?_; clear cR; rintro e w1 ⟨rfl, B1, a, H1⟩; obtain ⟨v, hx, ho⟩ := H1.x; have d3 := hx.c3; obtain ⟨pp, cp, d2, hi⟩ := H1.irow; replace hi := Hid.mk' hi; replace H1 := Hid.mk' H1; clear ho)
    exact bodyPost_ret (v := .tuple #[.slice pp (L.map itT).length cp, .int .i64 0, .int .i64 0]) (by simp [results, Tryz.results23, go_sem]) rfl ⟨pp, cp, by rw [List.length_map]; rfl, B1, hi.out⟩
  | some x =>
    obtain ⟨er, p⟩ := x
    have hne : er ≠ 0 := toksF_ne hz
    rw [hz] at cR HU
    dsimp only [erO] at cR HU ⊢
    generalize (toksN s).1 = L at *
    have z1 : ¬ (er : Int) = 0 := by omega
    have z2 : ((er : Int) == 0) = false := beq_eq_false_iff_ne.2 z1
    clear HU hz hne
    go_enter Tryz.func23, Tryz.ntmps23
    go_wp2_with (go_at_call 24; refine cR.mono ?_; clear cR; rintro e w1 ⟨rfl, B1, a, H1⟩; obtain ⟨v, hx, ho⟩ := H1.x; have d3 := hx.c3; have d4 := hx.c4; clear ho H1)
    go_quiet (fail)
    go_wp2_with fail
    exact bodyPost_ret (v := .tuple #[.slice none 0 0, .int .i64 (er : Int), .int .i64 (p : Int)]) (by simp [results, Tryz.results23, go_sem]) rfl ⟨none, 0, rfl, bdN B1 _, ⟨fun i t ht => by cases ht⟩⟩
end Go.Proofs.YtchfphakhmifmaaGreatDoor
namespace Go.Proofs.YtchfphakhmifmaaGreatDoor
open Go.ChangeShapes Go.WideShapes Go.ChangeAt Go.RowKit Go.Shelf Go.Lib
attribute [local go_sem] Oper.semAt_some

abbrev SR (s : ByteArray) (G : Nat) (p1 p2 : Option Addr) (c1 c2 n E1 E2 : Nat) (v11 v29 : Value) (u : Nat → Value) : Array Value := #[.string s, u 1, u 2, .slice p1 n c1, .int .i64 (E1 : Int), .int .i64 (E2 : Int), .slice p2 n c2, .int .i64 (E1 : Int), .int .i64 (E2 : Int), .pointer (some ⟨G, 0, none⟩), u 10, v11, u 12, u 13, u 14, u 15, u 16, u 17, u 18, u 19, u 20, u 21, u 22, u 23, u 24, u 25, u 26, u 27, u 28, v29, u 30, u 31, u 32, u 33, u 34, u 35, u 36, u 37, u 38, u 39, u 40, u 41, u 42, u 43, u 44, u 45, u 46, u 47, u 48, u 49, u 50, u 51, u 52, u 53, u 54, u 55, u 56, u 57, u 58]
theorem step_callW {P : Program} {w : World} {ops : Array Oper} {o : Oper} {a : Act} {K : Act → World → Prop} {Q : Exit → Act → World → Prop} {E : Prop} (hw : Region.wanted o (yielded ops a.tmps) = true) (f : FuncId) (x : Array Operand) (tx : Array TypeId)
    (ho : o.op = .call { callee := .value (.func f), args := x, argTypes := tx }) (hen : ∀ ag w, (callFunc f ag).run P w = .ok (.enter f ag) w) (xv : Array Value) (hx : x.map a.eval = xv) (Post : Value → World → Prop)
    (hc : Calls P f xv w fun e w' => ∃ v, e = .returned v ∧ Post v w') (h : ∀ v w', Post v w' → K (a.put o.dst v) w') : if Region.wanted o (yielded ops a.tmps) = true then Oper.wp P o a w K Q else E := by
  rw [if_pos hw]
  unfold Oper.wp execOp
  have hf : a.eval (.func f) = .func (.func f) #[] #[] := rfl
  simp only [ho, resolve, invoke, Sem.run_bind, hx, hf]
  simp [Deferred.ofValue, hen, Oper.upon_enter]
  refine hc.mono ?_
  rintro e w' ⟨v, rfl, hp⟩
  exact h v w' hp
theorem step_callW0 {P : Program} {w : World} {ops : Array Oper} {o : Oper} {a : Act} {K : Act → World → Prop} {Q : Exit → Act → World → Prop} {E : Prop} (hw : Region.wanted o (yielded ops a.tmps) = true) (f : FuncId) (tx : Array TypeId)
    (ho : o.op = .call { callee := .value (.func f), args := #[], argTypes := tx }) (hen : ∀ ag w, (callFunc f ag).run P w = .ok (.enter f ag) w) (Post : Value → World → Prop)
    (hc : Calls P f #[] w fun e w' => ∃ v, e = .returned v ∧ Post v w') (h : ∀ v w', Post v w' → K (a.put o.dst v) w') : if Region.wanted o (yielded ops a.tmps) = true then Oper.wp P o a w K Q else E :=
  step_callW hw f #[] tx ho hen #[] (by simp) Post hc h
theorem step_callW1 {P : Program} {w : World} {ops : Array Oper} {o : Oper} {a : Act} {K : Act → World → Prop} {Q : Exit → Act → World → Prop} {E : Prop} (hw : Region.wanted o (yielded ops a.tmps) = true) (f : FuncId) (x : Operand) (tx : Array TypeId)
    (ho : o.op = .call { callee := .value (.func f), args := #[x], argTypes := tx }) (hen : ∀ ag w, (callFunc f ag).run P w = .ok (.enter f ag) w) (xv : Value) (hx : a.eval x = xv) (Post : Value → World → Prop)
    (hc : Calls P f #[xv] w fun e w' => ∃ v, e = .returned v ∧ Post v w') (h : ∀ v w', Post v w' → K (a.put o.dst v) w') : if Region.wanted o (yielded ops a.tmps) = true then Oper.wp P o a w K Q else E :=
  step_callW hw f #[x] tx ho hen #[xv] (by simp [hx]) Post hc h
theorem step_callW3 {P : Program} {w : World} {ops : Array Oper} {o : Oper} {a : Act} {K : Act → World → Prop} {Q : Exit → Act → World → Prop} {E : Prop} (hw : Region.wanted o (yielded ops a.tmps) = true) (f : FuncId) (x y z : Operand) (tx : Array TypeId)
    (ho : o.op = .call { callee := .value (.func f), args := #[x, y, z], argTypes := tx }) (hen : ∀ ag w, (callFunc f ag).run P w = .ok (.enter f ag) w) (xv yv zv : Value) (hx : a.eval x = xv) (hy : a.eval y = yv) (hz : a.eval z = zv) (Post : Value → World → Prop)
    (hc : Calls P f #[xv, yv, zv] w fun e w' => ∃ v, e = .returned v ∧ Post v w') (h : ∀ v w', Post v w' → K (a.put o.dst v) w') : if Region.wanted o (yielded ops a.tmps) = true then Oper.wp P o a w K Q else E :=
  step_callW hw f #[x, y, z] tx ho hen #[xv, yv, zv] (by simp [hx, hy, hz]) Post hc h
theorem wpAnyH_mono {P : Program} {md : Region.Mode} {ops : Array Oper} {Q : Exit → Act → World → Prop} {S S' : World → Prop} (hSS : ∀ w, S' w → S w) : ∀ (fuel : Nat) (listed : Array Bool) (a : Act) (w : World), wpAnyH P md ops Q S' fuel listed a w → wpAnyH P md ops Q S fuel listed a w
  | 0, _, _, _, h => h
  | fuel + 1, _, _, _, h => ⟨h.1, fun i hi => wpOp_mono (fun a' w' h' => ⟨hSS _ h'.1, wpAnyH_mono hSS fuel _ a' w' h'.2⟩) (h.2 i hi)⟩
theorem ent_reads : ∀ ag w, (callFunc 17 ag).run Tryz.prog w = .ok (.enter 17 ag) w := enters_of Tryz.func17 (by kernel_rfl) rfl
theorem ent_same : ∀ ag w, (callFunc 20 ag).run Tryz.prog w = .ok (.enter 20 ag) w := enters_of Tryz.func20 (by kernel_rfl) rfl
theorem ent_Read : ∀ ag w, (callFunc 24 ag).run Tryz.prog w = .ok (.enter 24 ag) w := enters_of Tryz.func24 (by kernel_rfl) rfl
set_option maxRecDepth 100000 in
set_option maxHeartbeats 8000000 in
theorem Reads_in (s : ByteArray) (w : World) (hE : Env w) (hS : ShpTab w) (h7 : 7 ≤ w.heap.size) (hs : s.size ≤ 9223372036854775807) :
    CallsIn Fence.wide 9 Tryz.prog 7 #[.string s] w fun e w' => e = .returned (.bool true) ∧ Below w.heap.size w w' := by
  have cT := tokU s w hE h7 (by omega)
  have cR := fun (W : World) => rtokU s W hs
  refine callsIn_of_wp_marks Tryz.func7 rfl trivial ?_ rfl
  simp only [Tryz.ntmps7, List.size_toArray, List.length_cons, List.length_nil, Nat.reduceAdd, Nat.reduceSub, Array.replicate_succ, Array.replicate_zero, List.push_toArray, List.append_toArray, List.nil_append, List.cons_append]
  refine wpIn_wide.2 ?_
  unfold TokU at cT cR
  have hLlen : (LL s).length ≤ 1048576 := by
    have hl := toksN_len s (by omega)
    unfold LL
    split
    · exact hl
    · exact Nat.zero_le _
  generalize hE1 : er1 s = E1 at *
  generalize hE2 : er2 s = E2 at *
  generalize hLL : LL s = L at *
  go_upto_region 5 with (first
    | (go_at_call 19; refine cT.mono ?_; clear cT; rintro e w1 ⟨p1, c1, rfl, B1, I1⟩; replace I1 := Hid.mk' I1; replace B1 := Hid.mk' B1)
    | (go_at_call 23; refine (cR _).mono ?_; clear cR; rintro e w2 ⟨p2, c2, rfl, B2, I2⟩; replace I2 := Hid.mk' I2; replace B2 := Hid.mk' B2)
    | (go_at_call 21; refine (Scan_any _ _).mono ?_; rintro e w3 ⟨rfl, rfl⟩))
  have hnil := fun w => sq_nil (.func 37) #[] #[.pointer (some ⟨w2.heap.size + 1, 0, none⟩)] w
  go_wp2_with fail
  have hz12 := B1.out.size
  have hz22 := B2.out.size
  have hX1 : w2.heap.size ≠ 0 := by omega
  generalize hW0 : (w2.alloc (.cells #[.slice none 0 0] 31)).alloc (.cells #[.string s] 9) = W0
  have hz0 : W0.heap.size = w2.heap.size + 2 := by rw [← hW0]; simp
  have hBw0 : Below w2.heap.size w2 W0 := by rw [← hW0]; exact ((Below.refl _ w2).alloc (Nat.le_refl _) _).alloc (by simp) _
  have e2 : W0.heap[w2.heap.size]? = some (.cells #[.slice none 0 0] 31) := by
    rw [← hW0]
    exact ((bel1 _ _).block _ (by simp)).trans (hn2 w2 _)
  have e0 : W0.heap[w2.heap.size + 1]? = some (.cells #[.string s] 9) := by
    rw [← hW0]
    have := hn2 (w2.alloc (.cells #[.slice none 0 0] 31)) (.cells #[.string s] 9)
    rwa [World.size_alloc] at this
  have hBW : Below w.heap.size w W0 := B1.out.trans ((B2.out.mono hz12).trans (hBw0.mono (by omega)))
  have hE0 : Env W0 := hE.below hBW h7
  have hS0 : ShpTab W0 := hS.below hBW h7
  clear hW0 hnil
  have hlen := toksN_len s (by omega)
  generalize ha0 : (Act.mk _ _) = a0
  have hstart : a0 = { tmps := SR s w2.heap.size p1 p2 c1 c2 L.length E1 E2 (a0.tmps.getD 11 undef) (a0.tmps.getD 29 undef) (fun k => a0.tmps.getD k undef), defers := [] } := by rw [← ha0]; rfl
  have hu28 : a0.tmps.getD 28 undef = .func (.func 37) #[] #[.pointer (some ⟨w2.heap.size + 1, 0, none⟩)] := by rw [← ha0]; rfl
  obtain ⟨v11, v29, u, hu, q28⟩ : ∃ v11 v29 u, a0 = { tmps := SR s w2.heap.size p1 p2 c1 c2 L.length E1 E2 v11 v29 u, defers := [] } ∧ u 28 = .func (.func 37) #[] #[.pointer (some ⟨w2.heap.size + 1, 0, none⟩)] := ⟨_, _, _, hstart, hu28⟩
  clear hstart ha0 hu28
  subst hu
  refine (wpIn_wide (n := 9)).1 ?_
  refine rangeR (gf := 37) (first := #[]) (lb := #[.pointer (some ⟨w2.heap.size + 1, 0, none⟩)]) (R := W0.heap.size + 2) (toks := (toksN s).1) (Fl := fun _ => True) (show u 28 = _ from q28) ent_scan (by omega) (by omega) (by omega) rfl
    (fun fn tmps => scan_seq2 8 s (w2.heap.size + 1) W0 _ _ (by simp only [World.cell?, e0]; rfl) hE0 (by omega) (by omega))
    (fun pre W => ∃ v, W.heap[w2.heap.size]? = some (.cells #[v] 31) ∧ TRow W (W0.heap.size + 3) v pre ∧ Below w2.heap.size W0 W)
    (fun _ _ _ => False) ?hI ?hIp (fun _ _ _ _ _ _ h => h.elim) (fun _ _ _ _ h _ _ _ => h) ⟨_, e2, World.ownsRow_nil _ _ _ 4, Below.refl _ _⟩
    (fun x b => { tmps := SR s w2.heap.size p1 p2 c1 c2 L.length E1 E2 (.pointer (some ⟨b, 0, none⟩)) x.v u, defers := [] }) ?assign ?body ?done ?stop
  case hI =>
    rintro pre W W' ⟨v, hv, hr, hb⟩ hbut
    have hl : w2.heap.size < W.heap.size := (Array.getElem?_eq_some_iff.1 hv).1
    exact ⟨v, (hbut.block _ hl (by omega)).trans hv, hr.but hbut (by omega), hb.trans (hbut.belowS (by omega) (by omega))⟩
  case hIp =>
    rintro pre W l o o' ⟨v, hv, hr, hb⟩ hle hl ho
    exact ⟨v, (World.putObj_heap_other (by omega)).trans hv, hr.put hl ho, hb.trans ⟨rfl, rfl, rfl, by simp [World.putObj], fun k hk => World.putObj_heap_other (by omega)⟩⟩
  case assign =>
    intro m l x W K hK
    clear q28 I1 I2 B1 B2
    simp only [Tok.v] at hK ⊢
    gi_wp2
    exact hK
  case body =>
    rintro m l pre x b W hle hlr hpx ⟨v, hv, hr, hb⟩ htk hbl hRb
    obtain ⟨i0, hi, hz0', hz1', hz2⟩ := info_parts infoT
    have hlT : w2.heap.size < W.heap.size := (Array.getElem?_eq_some_iff.1 hv).1
    have hcv : W.cell? ⟨w2.heap.size, 0, none⟩ = some v := by simp only [World.cell?, hv]; rfl
    have hfv : W.frozen? ⟨w2.heap.size, 0, none⟩ = false := by simp only [World.frozen?, hv]; simp
    have hTK := TK.of htk
    have q0 := hTK.c0
    have q1 := hTK.c1
    have q2 := hTK.c2
    have q3' := hTK.c3
    have hbW := hTK.lt
    have hpl : pre.length + 1 ≤ 1048576 := by have := hpx.length_le; rw [List.length_append] at this; simp at this; omega
    have hr1 := hr.below (bel1 W (tokO x))
    have hnews := TK.of (heap_new W (tokO x))
    have hcells : ∀ j u, (tokC x)[j]? = some u → (W.alloc (tokO x)).cell? ((⟨W.heap.size, 0, none⟩ : Addr).add j) = some u := by
      intro j u hu
      match j, hu with
      | 0, hu => cases hu; exact hnews.c0
      | 1, hu => cases hu; exact hnews.c1
      | 2, hu => cases hu; exact hnews.c2
      | 3, hu => cases hu; exact hnews.c3
      | j + 4, hu => cases hu
    have hone : ∀ u ∈ tokC x, u.oneCell' = true := by
      intro u hu
      simp only [tokC, List.mem_cons, List.not_mem_nil, or_false] at hu
      rcases hu with rfl | rfl | rfl | rfl <;> rfl
    have hrow : ∀ v, TRow W (W0.heap.size + 3) v pre → ∀ k, v.ownBlock = some k → W0.heap.size + 3 ≤ k := by
      intro v h k hk
      rcases h.2 with ⟨rfl, _⟩ | ⟨g, cap, cur, rfl, hb, _⟩
      · cases hk
      · cases hk; exact hb
    clear I1 I2 B1 B2 q28
    simp only [Tok.v]
    gi_wp2_with (gi_at_builtin; refine wpListIn_append_own _ rfl _ _ 31 rfl (W0.heap.size + 3) 39 i0 zTok 4 48 Tryz.underlying31 hi hz0' hz1' hz2 rfl (by decide) v pre.length (tokCells pre) rfl hr1 ⟨W.heap.size, 0, none⟩ 1 1 (tokC x) rfl rfl hcells hone (by simp only [maxLen]; omega) (by omega) (by rw [World.size_alloc]; omega) ?_; intro v' wq hown' hgrow _; obtain ⟨g', cap', rfl⟩ := ownsRow_succ hown'; have hbe : Below (W0.heap.size + 3) W wq := ((Below.refl _ W).alloc (by omega) (tokO x)).grown hgrow (by rw [World.size_alloc]; omega) (hrow v hr); have hv2 : wq.heap[w2.heap.size]? = some (.cells #[v] 31) := (hbe.block _ (by omega)).trans hv; have hc2 : wq.cell? ⟨w2.heap.size, 0, none⟩ = some v := (by simp only [World.cell?, hv2]; rfl); have hf2 : wq.frozen? ⟨w2.heap.size, 0, none⟩ = false := (by simp only [World.frozen?, hv2]; simp))
    have hcl : ∀ (j : Nat) (o : Obj), v.ownBlock = some j → (W.alloc (tokO x)).heap[j]? = some o → o.isCells = true := by
      intro j o hj ho
      rcases hr1.2 with ⟨rfl, _⟩ | ⟨g, cap, cur, rfl, _, hg, _⟩
      · cases hj
      · cases hj; rw [hg] at ho; cases ho; rfl
    have hbe3 := (hbe.mono (show w2.heap.size ≤ W0.heap.size + 3 by omega)).setCell (p := ⟨w2.heap.size, 0, none⟩) (Nat.le_refl _) (.slice (some ⟨g', 0, none⟩) (pre.length + 1) cap')
    have hbR : (wq.setCell ⟨w2.heap.size, 0, none⟩ (.slice (some ⟨g', 0, none⟩) (pre.length + 1) cap')).heap[W0.heap.size + 2]? = W.heap[W0.heap.size + 2]? := (Below.heap_setCell wq _ _ _ (show W0.heap.size + 2 ≠ w2.heap.size by omega)).trans (hbe.block _ (show W0.heap.size + 2 < W0.heap.size + 3 by omega))
    refine ⟨(((KeepsOthers.alloc W (tokO x)).trans (KeepsOthers.of_grownBy hgrow hcl)).trans (KeepsOthers.setCell _ _ _)).from _, ⟨hbR, hbe3.mono (by omega)⟩, _, set_box hv2 _, ?_, hb.trans (hbe3.mono (by omega))⟩
    have hown2 : TRow wq (W0.heap.size + 3) (.slice (some ⟨g', 0, none⟩) (pre.length + 1) cap') (pre ++ [x]) := by
      unfold TRow tokCells
      rw [List.flatMap_append, List.length_append]
      simpa [tokCells] using hown'
    exact hown2.kept fun g cur hg hc => (Below.heap_setCell wq _ _ _ (show g ≠ w2.heap.size by omega)).trans hc
  case stop =>
    rintro D c pre W _ _ h _
    exact h.elim
  case done =>
    rintro D W hD ⟨v, hv, hr, hb⟩ _ hK
    obtain ⟨pp, cp, rfl, hi⟩ := hr.irow (Nat.le_refl _)
    have hzW := hb.size
    have hcG : W.cell? ⟨w2.heap.size, 0, none⟩ = some (.slice pp (toksN s).1.length cp) := by simp only [World.cell?, hv]; rfl
    have hlG : w2.heap.size < W.heap.size := (Array.getElem?_eq_some_iff.1 hv).1
    have HB : Hid (Below w.heap.size w W) := hBW.trans (hb.mono (by omega))
    have HEW : Hid (Env W) := hE0.below hb (by omega)
    have HSW : Hid (ShpTab W) := hS0.below hb (by omega)
    have h2W : Below w2.heap.size w2 W := hBw0.trans hb
    have J2 : Hid (IRow W p2 W.heap.size (L.map Tok.it)) := I2.out.up h2W
    have J1 : Hid (IRow W p1 W.heap.size (L.map Tok.it)) := (I1.out.up B2.out).up h2W
    have J3 : Hid (IRow W pp W.heap.size ((toksN s).1.map Tok.it)) := hi
    have hMk : Hid (MarksOk w.heap.size [{ target := .collected D, args := #[] }] W) := ⟨D, rfl, by omega, hK, (fun _ h => by cases h), trivial⟩
    clear hv hr hb hi hK hBW hE0 hS0 h2W I1 I2 B1 B2 e0 e2 hBw0 hE hS
    have hR := fun (W : World) => rRead s W hs
    generalize (toksN s).1 = toks at *
    have h7W : 7 ≤ W.heap.size := by omega
    have cRd0 := reads_any W.drew (HEW.out.below (Below.refl _ _).drew h7W) (HSW.out.below (Below.refl _ _).drew h7W) h7W
    have cS := fun (W : World) (h1 : IRow W p1 W.heap.size (L.map Tok.it)) (h2 : IRow W p2 W.heap.size (L.map Tok.it)) => same_self p1 p2 c1 c2 L W h1 h2 (by omega)
    have cS2 := fun (W : World) (pq : Option Addr) (cq : Nat) (h1 : IRow W pp W.heap.size (toks.map Tok.it)) (h2 : IRow W pq W.heap.size (toks.map Tok.it)) => same_self pp pq cp cq toks W h1 h2 (by omega)
    have b1 : ((E1 : Int) == (E1 : Int)) = true := by simp
    have b2 : ((E2 : Int) == (E2 : Int)) = true := by simp
    have cRd : Calls Tryz.prog 17 #[] W.drew fun e w' => ∃ v, e = .returned v ∧ (v = .bool true ∧ Below W.heap.size W w') := cRd0.mono fun e w' h => ⟨_, h.1, rfl, ⟨h.2.os, h.2.tape, h.2.output, h.2.size, h.2.block⟩⟩
    have cSa := fun (W' : World) (b : Below W.heap.size W W') => (cS W' (J1.out.up b) (J2.out.up b)).mono (R' := fun e w' => ∃ v, e = .returned v ∧ (v = .bool true ∧ Below W.heap.size W w')) fun e w' h => ⟨_, h.1, rfl, b.trans (h.2.mono b.size)⟩
    have cRa := fun (W' : World) (b : Below W.heap.size W W') => (hR W').mono (R' := fun e w' => ∃ v, e = .returned v ∧ (v = .pointer (some ⟨W'.heap.size, 0, none⟩) ∧ Below W.heap.size W w' ∧ ∃ pq cq, w'.cell? ⟨W'.heap.size, 2, none⟩ = some (.slice pq toks.length cq) ∧ IRow w' pq w'.heap.size (toks.map Tok.it))) fun e w' h => by
      obtain ⟨h1, h2, a6, H6⟩ := h
      obtain ⟨pq, cq, d6, K6⟩ := H6.irow
      rw [List.length_map] at d6
      exact ⟨_, h1, rfl, b.trans (h2.mono b.size), pq, cq, d6, K6⟩
    have cSb := fun (W' : World) (b : Below W.heap.size W W') (pq : Option Addr) (cq : Nat) (k : IRow W' pq W'.heap.size (toks.map Tok.it)) (R : Nat) (x : Value) (hx : W'.cell? ⟨R, 2, none⟩ = some x) => (cS2 W' pq cq (J3.out.up b) k).mono (R' := fun e w' => ∃ v, e = .returned v ∧ (v = .bool true ∧ Below W.heap.size W w' ∧ w'.cell? ⟨R, 2, none⟩ = some x)) fun e w' h => ⟨_, h.1, rfl, b.trans (h.2.mono b.size), (h.2.cell (p := ⟨R, 2, none⟩) (World.block_lt_of_cell? W' ⟨R, 2, none⟩ hx)).trans hx⟩
    have hcell := fun (W' : World) (b : Below W.heap.size W W') => (b.cell (p := ⟨w2.heap.size, 0, none⟩) hlG).trans hcG
    clear cRd0 cS cS2 hR
    go_upto_region 10 with fail
    rename_i KK hKK
    clear hE1 hE2 hLL hLlen hz12 hz22 hX1 hz0 q28 hD hzW h7W HEW HSW hlen h7 hs J1 J2 J3
    refine Code.wp_mono (Q := Exit.then KK (fun _ _ _ => False)) ?mono ?_
    case mono =>
      intro ex ax wx hx
      cases ex <;> first | exact hx | exact absurd hx id
    have HC := Hid.mk' hcell
    have HA := Hid.mk' cSa
    have HRd := Hid.mk' cRa
    have HSb := Hid.mk' cSb
    clear hcell cSa cRa cSb
    refine wp_region_held_drew (S := fun w' => w'.cell? ⟨w2.heap.size, 0, none⟩ = some (.slice pp toks.length cp)) (by kernel_rfl) hcG (fun hHeld => ?_)
    refine wpAnyH_ready (rs := [0]) (by kernel_rfl) (by simp) (AllReadyH.cons (o := { dst := some 34, op := Op.call { callee := Callee.value (Operand.func 17), args := #[], argTypes := #[] }, type := 4, pos := "law.go:42", after := #[], guard := none }) rfl (fun K hK => ?_) AllReadyH.nil)
    refine step_callW0 ?_ 17 #[] ?_ ent_reads _ cRd ?_
    · rfl
    · rfl
    rintro _ w4 ⟨rfl, B4⟩
    clear cRd
    have hc4 := HC.out _ B4
    replace B4 := Hid.mk' B4
    refine hK.out _ _ hc4 (fun hHeld => ?_)
    clear hK K
    try simp only [Act.put, List.setIfInBounds_toArray, List.set_cons_zero, List.set_cons_succ]
    refine wpAnyH_take (i := 1) (oi := { dst := some 35, op := Op.move (Operand.tmp 34), type := 4, pos := "law.go:42", after := #[{ on := 0, ground := Ground.data }, { on := 0, ground := Ground.chain }], guard := none }) (v := ?v1) rfl (by kernel_rfl) (by kernel_rfl) (by kernel_rfl) (fun _ _ _ h => h) (Or.inl ⟨by rfl, ?hy1⟩) (by assumption) ?rest1
    case hy1 => (intro w hSw; (try dsimp only at hSw); go_simp <;> with_reducible rfl)
    try simp only [Act.put, List.setIfInBounds_toArray, List.set_cons_zero, List.set_cons_succ]
    refine wpAnyH_take (i := 2) (oi := { dst := some 36, op := Op.move (Operand.tmp 4), type := 23, pos := "law.go:42", after := #[{ on := 1, ground := Ground.guard }], guard := some (1, true) }) (v := ?v2) rfl (by kernel_rfl) (by kernel_rfl) (by kernel_rfl) (fun _ _ _ h => h) (Or.inl ⟨by rfl, ?hy2⟩) (by assumption) ?rest2
    case hy2 => (intro w hSw; (try dsimp only at hSw); go_simp <;> with_reducible rfl)
    try simp only [Act.put, List.setIfInBounds_toArray, List.set_cons_zero, List.set_cons_succ]
    refine wpAnyH_take (i := 3) (oi := { dst := some 37, op := Op.move (Operand.tmp 7), type := 23, pos := "law.go:42", after := #[{ on := 1, ground := Ground.guard }], guard := some (1, true) }) (v := ?v3) rfl (by kernel_rfl) (by kernel_rfl) (by kernel_rfl) (fun _ _ _ h => h) (Or.inl ⟨by rfl, ?hy3⟩) (by assumption) ?rest3
    case hy3 => (intro w hSw; (try dsimp only at hSw); go_simp <;> with_reducible rfl)
    try simp only [Act.put, List.setIfInBounds_toArray, List.set_cons_zero, List.set_cons_succ]
    refine wpAnyH_take (i := 4) (oi := { dst := some 38, op := Op.binOp BinOp.eql 23 (Operand.tmp 36) (Operand.tmp 37) 23, type := 4, pos := "law.go:42", after := #[{ on := 2, ground := Ground.data }, { on := 3, ground := Ground.data }, { on := 1, ground := Ground.guard }], guard := some (1, true) }) (v := ?v4) rfl (by kernel_rfl) (by kernel_rfl) (by kernel_rfl) (fun _ _ _ h => h) (Or.inl ⟨by rfl, ?hy4⟩) (by assumption) ?rest4
    case hy4 => (intro w hSw; (try dsimp only at hSw); go_simp <;> with_reducible rfl)
    try simp only [Act.put, List.setIfInBounds_toArray, List.set_cons_zero, List.set_cons_succ]
    refine wpAnyH_take (i := 5) (oi := { dst := some 39, op := Op.pick (Operand.tmp 35) (Operand.tmp 38) (Operand.const (Value.bool false)), type := 4, pos := "law.go:42", after := #[{ on := 1, ground := Ground.data }, { on := 4, ground := Ground.data }], guard := none }) (v := ?v5) rfl (by kernel_rfl) (by kernel_rfl) (by kernel_rfl) (fun _ _ _ h => h) (Or.inl ⟨by rfl, ?hy5⟩) (by assumption) ?rest5
    case hy5 => (intro w hSw; (try dsimp only at hSw); go_simp <;> with_reducible rfl)
    try simp only [Act.put, List.setIfInBounds_toArray, List.set_cons_zero, List.set_cons_succ]
    refine wpAnyH_take (i := 6) (oi := { dst := some 40, op := Op.move (Operand.tmp 39), type := 4, pos := "law.go:42", after := #[{ on := 5, ground := Ground.data }, { on := 1, ground := Ground.chain }], guard := none }) (v := ?v6) rfl (by kernel_rfl) (by kernel_rfl) (by kernel_rfl) (fun _ _ _ h => h) (Or.inl ⟨by rfl, ?hy6⟩) (by assumption) ?rest6
    case hy6 => (intro w hSw; (try dsimp only at hSw); go_simp <;> with_reducible rfl)
    try simp only [Act.put, List.setIfInBounds_toArray, List.set_cons_zero, List.set_cons_succ]
    refine wpAnyH_take (i := 7) (oi := { dst := some 41, op := Op.move (Operand.tmp 5), type := 3, pos := "law.go:42", after := #[{ on := 6, ground := Ground.guard }], guard := some (6, true) }) (v := ?v7) rfl (by kernel_rfl) (by kernel_rfl) (by kernel_rfl) (fun _ _ _ h => h) (Or.inl ⟨by rfl, ?hy7⟩) (by assumption) ?rest7
    case hy7 => (intro w hSw; (try dsimp only at hSw); go_simp <;> with_reducible rfl)
    try simp only [Act.put, List.setIfInBounds_toArray, List.set_cons_zero, List.set_cons_succ]
    refine wpAnyH_take (i := 8) (oi := { dst := some 42, op := Op.move (Operand.tmp 8), type := 3, pos := "law.go:42", after := #[{ on := 6, ground := Ground.guard }], guard := some (6, true) }) (v := ?v8) rfl (by kernel_rfl) (by kernel_rfl) (by kernel_rfl) (fun _ _ _ h => h) (Or.inl ⟨by rfl, ?hy8⟩) (by assumption) ?rest8
    case hy8 => (intro w hSw; (try dsimp only at hSw); go_simp <;> with_reducible rfl)
    try simp only [Act.put, List.setIfInBounds_toArray, List.set_cons_zero, List.set_cons_succ]
    refine wpAnyH_take (i := 9) (oi := { dst := some 43, op := Op.binOp BinOp.eql 3 (Operand.tmp 41) (Operand.tmp 42) 3, type := 4, pos := "law.go:42", after := #[{ on := 7, ground := Ground.data }, { on := 8, ground := Ground.data }, { on := 6, ground := Ground.guard }], guard := some (6, true) }) (v := ?v9) rfl (by kernel_rfl) (by kernel_rfl) (by kernel_rfl) (fun _ _ _ h => h) (Or.inl ⟨by rfl, ?hy9⟩) (by assumption) ?rest9
    case hy9 => (intro w hSw; (try dsimp only at hSw); go_simp <;> with_reducible rfl)
    try simp only [Act.put, List.setIfInBounds_toArray, List.set_cons_zero, List.set_cons_succ]
    refine wpAnyH_take (i := 10) (oi := { dst := some 44, op := Op.pick (Operand.tmp 40) (Operand.tmp 43) (Operand.const (Value.bool false)), type := 4, pos := "law.go:42", after := #[{ on := 6, ground := Ground.data }, { on := 9, ground := Ground.data }], guard := none }) (v := ?v10) rfl (by kernel_rfl) (by kernel_rfl) (by kernel_rfl) (fun _ _ _ h => h) (Or.inl ⟨by rfl, ?hy10⟩) (by assumption) ?rest10
    case hy10 => (intro w hSw; (try dsimp only at hSw); go_simp <;> with_reducible rfl)
    try simp only [Act.put, List.setIfInBounds_toArray, List.set_cons_zero, List.set_cons_succ]
    refine wpAnyH_take (i := 11) (oi := { dst := some 45, op := Op.move (Operand.tmp 44), type := 4, pos := "law.go:42", after := #[{ on := 10, ground := Ground.data }, { on := 6, ground := Ground.chain }], guard := none }) (v := ?v11) rfl (by kernel_rfl) (by kernel_rfl) (by kernel_rfl) (fun _ _ _ h => h) (Or.inl ⟨by rfl, ?hy11⟩) (by assumption) ?rest11
    case hy11 => (intro w hSw; (try dsimp only at hSw); go_simp <;> with_reducible rfl)
    try simp only [Act.put, List.setIfInBounds_toArray, List.set_cons_zero, List.set_cons_succ]
    refine wpAnyH_take (i := 12) (oi := { dst := some 46, op := Op.move (Operand.tmp 3), type := 31, pos := "law.go:42", after := #[{ on := 11, ground := Ground.guard }], guard := some (11, true) }) (v := ?v12) rfl (by kernel_rfl) (by kernel_rfl) (by kernel_rfl) (fun _ _ _ h => h) (Or.inl ⟨by rfl, ?hy12⟩) (by assumption) ?rest12
    case hy12 => (intro w hSw; (try dsimp only at hSw); go_simp <;> with_reducible rfl)
    try simp only [Act.put, List.setIfInBounds_toArray, List.set_cons_zero, List.set_cons_succ]
    refine wpAnyH_take (i := 13) (oi := { dst := some 47, op := Op.move (Operand.tmp 6), type := 31, pos := "law.go:42", after := #[{ on := 11, ground := Ground.guard }], guard := some (11, true) }) (v := ?v13) rfl (by kernel_rfl) (by kernel_rfl) (by kernel_rfl) (fun _ _ _ h => h) (Or.inl ⟨by rfl, ?hy13⟩) (by assumption) ?rest13
    case hy13 => (intro w hSw; (try dsimp only at hSw); go_simp <;> with_reducible rfl)
    try simp only [Act.put, List.setIfInBounds_toArray, List.set_cons_zero, List.set_cons_succ]
    refine wpAnyH_ready (rs := [14]) (by kernel_rfl) (by simp) (AllReadyH.cons (o := { dst := some 48, op := Op.call { callee := Callee.value (Operand.func 20), args := #[Operand.tmp 46, Operand.tmp 47, Operand.const (Value.bool true)], argTypes := #[31, 31, 4] }, type := 4, pos := "law.go:42", after := #[{ on := 12, ground := Ground.data }, { on := 13, ground := Ground.data }, { on := 11, ground := Ground.chain }, { on := 11, ground := Ground.guard }], guard := some (11, true) }) rfl (fun K hK => ?_) AllReadyH.nil)
    refine step_callW3 ?_ 20 (.tmp 46) (.tmp 47) (.const (.bool true)) #[31, 31, 4] ?_ ent_same (.slice p1 L.length c1) (.slice p2 L.length c2) (.bool true) ?_ ?_ ?_ _ (HA.out _ B4.out) ?_
    · rfl
    · rfl
    · rfl
    · rfl
    · rfl
    rintro _ w5 ⟨rfl, B5⟩
    have hc5 := HC.out _ B5
    replace B5 := Hid.mk' B5
    refine hK.out _ _ hc5 (fun hHeld => ?_)
    clear hK K
    try simp only [Act.put, List.setIfInBounds_toArray, List.set_cons_zero, List.set_cons_succ]
    refine wpAnyH_take (i := 15) (oi := { dst := some 49, op := Op.pick (Operand.tmp 45) (Operand.tmp 48) (Operand.const (Value.bool false)), type := 4, pos := "law.go:42", after := #[{ on := 11, ground := Ground.data }, { on := 14, ground := Ground.data }], guard := none }) (v := ?v15) rfl (by kernel_rfl) (by kernel_rfl) (by kernel_rfl) (fun _ _ _ h => h) (Or.inl ⟨by rfl, ?hy15⟩) (by assumption) ?rest15
    case hy15 => (intro w hSw; (try dsimp only at hSw); go_simp <;> with_reducible rfl)
    try simp only [Act.put, List.setIfInBounds_toArray, List.set_cons_zero, List.set_cons_succ]
    refine wpAnyH_take (i := 16) (oi := { dst := some 50, op := Op.move (Operand.tmp 49), type := 4, pos := "law.go:42", after := #[{ on := 15, ground := Ground.data }, { on := 14, ground := Ground.chain }], guard := none }) (v := ?v16) rfl (by kernel_rfl) (by kernel_rfl) (by kernel_rfl) (fun _ _ _ h => h) (Or.inl ⟨by rfl, ?hy16⟩) (by assumption) ?rest16
    case hy16 => (intro w hSw; (try dsimp only at hSw); go_simp <;> with_reducible rfl)
    try simp only [Act.put, List.setIfInBounds_toArray, List.set_cons_zero, List.set_cons_succ]
    refine wpAnyH_take (i := 17) (oi := { dst := some 51, op := Op.load 31 (Operand.tmp 9), type := 31, pos := "law.go:42", after := #[{ on := 16, ground := Ground.guard }], guard := some (16, true) }) (v := ?v17) rfl (by kernel_rfl) (by kernel_rfl) (by kernel_rfl) (fun _ _ _ h => h) (Or.inl ⟨by rfl, ?hy17⟩) (by assumption) ?rest17
    case hy17 => (intro w hSw; (try dsimp only at hSw); go_simp <;> with_reducible rfl)
    try simp only [Act.put, List.setIfInBounds_toArray, List.set_cons_zero, List.set_cons_succ]
    refine wpAnyH_take (i := 18) (oi := { dst := some 52, op := Op.move (Operand.tmp 0), type := 9, pos := "law.go:42", after := #[{ on := 16, ground := Ground.guard }], guard := some (16, true) }) (v := ?v18) rfl (by kernel_rfl) (by kernel_rfl) (by kernel_rfl) (fun _ _ _ h => h) (Or.inl ⟨by rfl, ?hy18⟩) (by assumption) ?rest18
    case hy18 => (intro w hSw; (try dsimp only at hSw); go_simp <;> with_reducible rfl)
    try simp only [Act.put, List.setIfInBounds_toArray, List.set_cons_zero, List.set_cons_succ]
    refine wpAnyH_ready (rs := [19]) (by kernel_rfl) (by simp) (AllReadyH.cons (o := { dst := some 53, op := Op.call { callee := Callee.value (Operand.func 24), args := #[Operand.tmp 52], argTypes := #[9] }, type := 48, pos := "law.go:42", after := #[{ on := 18, ground := Ground.data }, { on := 16, ground := Ground.chain }, { on := 16, ground := Ground.guard }], guard := some (16, true) }) rfl (fun K hK => ?_) AllReadyH.nil)
    refine step_callW1 ?_ 24 (.tmp 52) #[9] ?_ ent_Read (.string s) ?_ _ (HRd.out _ B5.out) ?_
    · rfl
    · rfl
    · rfl
    rintro _ w6 ⟨rfl, B6, pq, cq, d6, K6⟩
    have hc6 := HC.out _ B6
    replace B6 := Hid.mk' B6
    replace K6 := Hid.mk' K6
    refine hK.out _ _ hc6 (fun _ => wpAnyH_mono (S' := fun w' => w'.cell? ⟨w2.heap.size, 0, none⟩ = some (.slice pp toks.length cp) ∧ w'.cell? ⟨w5.heap.size, 2, none⟩ = some (.slice pq toks.length cq)) (fun _ h => h.1) _ _ _ _ ?_)
    have hHeld2 : (fun w' => w'.cell? ⟨w2.heap.size, 0, none⟩ = some (.slice pp toks.length cp) ∧ w'.cell? ⟨w5.heap.size, 2, none⟩ = some (.slice pq toks.length cq)) w6 := ⟨hc6, d6⟩
    clear hK K
    try simp only [Act.put, List.setIfInBounds_toArray, List.set_cons_zero, List.set_cons_succ]
    refine wpAnyH_take (i := 20) (oi := { dst := some 54, op := Op.nilCheck (Operand.tmp 53), type := 0, pos := "law.go:42", after := #[{ on := 19, ground := Ground.data }, { on := 16, ground := Ground.guard }], guard := some (16, true) }) (v := ?v20) rfl (by kernel_rfl) (by kernel_rfl) (by kernel_rfl) (fun _ _ _ h => h) (Or.inl ⟨by rfl, ?hy20⟩) (by assumption) ?rest20
    case hy20 => (intro w hSw; (try dsimp only at hSw); go_simp <;> with_reducible rfl)
    try simp only [Act.put, List.setIfInBounds_toArray, List.set_cons_zero, List.set_cons_succ]
    refine wpAnyH_take (i := 21) (oi := { dst := some 55, op := Op.fieldAddr 47 (Operand.tmp 54) 2, type := 0, pos := "law.go:42", after := #[{ on := 20, ground := Ground.data }, { on := 16, ground := Ground.guard }], guard := some (16, true) }) (v := ?v21) rfl (by kernel_rfl) (by kernel_rfl) (by kernel_rfl) (fun _ _ _ h => h) (Or.inl ⟨by rfl, ?hy21⟩) (by assumption) ?rest21
    case hy21 => (intro w hSw; (try dsimp only at hSw); go_simp <;> with_reducible rfl)
    try simp only [Act.put, List.setIfInBounds_toArray, List.set_cons_zero, List.set_cons_succ]
    refine wpAnyH_take (i := 22) (oi := { dst := some 56, op := Op.load 31 (Operand.tmp 55), type := 31, pos := "law.go:42", after := #[{ on := 21, ground := Ground.data }, { on := 16, ground := Ground.guard }], guard := some (16, true) }) (v := ?v22) rfl (by kernel_rfl) (by kernel_rfl) (by kernel_rfl) (fun _ _ _ h => h) (Or.inl ⟨by rfl, ?hy22⟩) (by assumption) ?rest22
    case hy22 => (intro w hSw; (try dsimp only at hSw); go_simp <;> with_reducible rfl)
    try simp only [Act.put, List.setIfInBounds_toArray, List.set_cons_zero, List.set_cons_succ]
    refine wpAnyH_ready (rs := [23]) (by kernel_rfl) (by simp) (AllReadyH.cons (o := { dst := some 57, op := Op.call { callee := Callee.value (Operand.func 20), args := #[Operand.tmp 51, Operand.tmp 56, Operand.const (Value.bool true)], argTypes := #[31, 31, 4] }, type := 4, pos := "law.go:42", after := #[{ on := 17, ground := Ground.data }, { on := 22, ground := Ground.data }, { on := 19, ground := Ground.chain }, { on := 16, ground := Ground.guard }], guard := some (16, true) }) rfl (fun K hK => ?_) AllReadyH.nil)
    refine step_callW3 ?_ 20 (.tmp 51) (.tmp 56) (.const (.bool true)) #[31, 31, 4] ?_ ent_same (.slice pp toks.length cp) (.slice pq toks.length cq) (.bool true) ?_ ?_ ?_ _ ((HSb.out _ B6.out _ _ K6.out) w5.heap.size _ d6) ?_
    · rfl
    · rfl
    · rfl
    · rfl
    · rfl
    rintro _ w7 ⟨rfl, B7, H7⟩
    have hc7 := HC.out _ B7
    replace B7 := Hid.mk' B7
    refine hK.out _ _ ⟨hc7, H7⟩ (fun hHeld => ?_)
    clear hK K
    try simp only [Act.put, List.setIfInBounds_toArray, List.set_cons_zero, List.set_cons_succ]
    refine wpAnyH_take (i := 24) (oi := { dst := some 58, op := Op.pick (Operand.tmp 50) (Operand.tmp 57) (Operand.const (Value.bool false)), type := 4, pos := "law.go:42", after := #[{ on := 16, ground := Ground.data }, { on := 23, ground := Ground.data }], guard := none }) (v := ?v24) rfl (by kernel_rfl) (by kernel_rfl) (by kernel_rfl) (fun _ _ _ h => h) (Or.inl ⟨by rfl, ?hy24⟩) (by assumption) ?rest24
    case hy24 => (intro w hSw; (try dsimp only at hSw); go_simp <;> with_reducible rfl)
    try simp only [Act.put, List.setIfInBounds_toArray, List.set_cons_zero, List.set_cons_succ]
    refine wpAnyH_take (i := 25) (oi := { dst := some 2, op := Op.assign (Operand.tmp 58), type := 4, pos := "law.go:42", after := #[{ on := 24, ground := Ground.data }, { on := 23, ground := Ground.chain }, { on := 0, ground := Ground.phase }, { on := 1, ground := Ground.phase }, { on := 2, ground := Ground.phase }, { on := 3, ground := Ground.phase }, { on := 4, ground := Ground.phase }, { on := 5, ground := Ground.phase }, { on := 6, ground := Ground.phase }, { on := 7, ground := Ground.phase }, { on := 8, ground := Ground.phase }, { on := 9, ground := Ground.phase }, { on := 10, ground := Ground.phase }, { on := 11, ground := Ground.phase }, { on := 12, ground := Ground.phase }, { on := 13, ground := Ground.phase }, { on := 14, ground := Ground.phase }, { on := 15, ground := Ground.phase }, { on := 16, ground := Ground.phase }, { on := 17, ground := Ground.phase }, { on := 18, ground := Ground.phase }, { on := 19, ground := Ground.phase }, { on := 20, ground := Ground.phase }, { on := 21, ground := Ground.phase }, { on := 22, ground := Ground.phase }, { on := 23, ground := Ground.phase }, { on := 24, ground := Ground.phase }], guard := none }) (v := ?v25) rfl (by kernel_rfl) (by kernel_rfl) (by kernel_rfl) (fun _ _ _ h => h) (Or.inl ⟨by rfl, ?hy25⟩) (by assumption) ?rest25
    case hy25 => (intro w hSw; (try dsimp only at hSw); go_simp <;> with_reducible rfl)
    try simp only [Act.put, List.setIfInBounds_toArray, List.set_cons_zero, List.set_cons_succ]
    refine wpAnyH_done (by kernel_rfl) ?_ _
    all_goals
      go_wp2_with fail
      have hM7 := hMk.out.below B7.out
      refine leaves_marks (n₀ := w.heap.size) _ _ hM7 fun W' hb' => ?_
      refine ⟨.bool true, ?_, rfl, HB.out.trans ((B7.out.mono HB.out.size).trans hb')⟩
      simp [results, Tryz.results7, go_sem]

end Go.Proofs.YtchfphakhmifmaaGreatDoor
