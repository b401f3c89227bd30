/- The states: tagEnd, emptyEnd, startTag, endTag, inTag, attribute, text. -/
import Derived.Test.YtchfphakhmifmaaGreatDoorXSt
namespace Go.Proofs.YtchfphakhmifmaaGreatDoor
open Go.ChangeShapes Go.WideShapes Go.ChangeAt Go.RowKit Go.Shelf Go.Lib

theorem hmfA : ∀ (fn : Fn) (first cap : Array Value) (w : World), (Instr.makeFunc fn first cap).run Tryz.prog w = .ok (.func fn first cap) w := fun _ _ _ _ => rfl
def endZ (s : ByteArray) (a : Nat) : Sz :=
  match nameZ s (a + 2) with
  | .bad e p => .bad e p
  | .val nm b =>
    match expZ s (skN s b) 62 with
    | some (e, p) => .bad e p
    | none => .go (some 83) (skN s b + 1) (some ⟨4, nm, E0, a⟩)
set_option maxHeartbeats 2000000 in
theorem endTag_any (R : Nat) (s : ByteArray) (a : Nat) (v : Nat → Value) (w : World) (h : RC w R v) (v0 : v 0 = .string s) (v1 : v 1 = .int .i64 (a : Int)) (ha : a + 2 ≤ s.size) (hs : s.size < 4294967281) :
    Calls Tryz.prog 111 #[.pointer (some ⟨R, 0, none⟩)] w (StPost R w v (endZ s a)) := by
  have hA := h.ra v0 v1
  have c1 := hA.h1
  have f1 := hA.fz 1
  have hm := Mv.set R w (.int .i64 ((a : Int) + 2))
  have hA2 : RA (w.setCell ⟨R, 1, none⟩ (.int .i64 ((a : Int) + 2))) R s (a + 2) := hA.put _ (by omega)
  unfold endZ
  cases hz : nameZ s (a + 2) with
  | bad er p =>
    have cN := name_bad (R := R) hz (by omega) hs
    go_enter Tryz.func111, Tryz.ntmps111
    go_wp2_with (go_at_call 130; refine (cN _ hA2).mono ?_; rintro e w2 ⟨m2, rfl⟩)
    exact ⟨rfl, rfl, hm.trans m2⟩
  | val nm b =>
    have hb := nameZ_val hz
    have cN := name_good (R := R) hz (by omega) hs
    have cS := fun w h => skipBlanks_any R s b w h hb.2.2 (by omega)
    have hk := skN_le s b hb.2.2
    dsimp only
    cases hx : expZ s (skN s b) 62 with
    | some q =>
      obtain ⟨er, p⟩ := q
      have cE := expect_bad (R := R) hx hk.2 hs
      generalize skN s b = k at *
      go_enter Tryz.func111, Tryz.ntmps111
      go_wp2_with (first
        | (go_at_call 130; refine (cN _ hA2).mono ?_; clear cN; rintro e w2 ⟨m2, rfl, hA3⟩)
        | (go_at_call 131; refine (cS _ hA3).mono ?_; clear cS; rintro e w3 ⟨rfl, m3, hA4⟩)
        | (go_at_call 132; refine (cE _ hA4).mono ?_; clear cE; rintro e w4 ⟨m4, rfl⟩))
      exact ⟨rfl, rfl, ((hm.trans m2).trans m3).trans m4⟩
    | none =>
      have hlt := expZ_none hx
      have cE := expect_good (R := R) hx hk.2 hs
      have cT := tell_tok R 4 nm E0 a
      generalize skN s b = k at *
      go_enter Tryz.func111, Tryz.ntmps111
      go_wp2_with (first
        | (go_at_call 130; refine (cN _ hA2).mono ?_; clear cN; rintro e w2 ⟨m2, rfl, hA3⟩)
        | (go_at_call 131; refine (cS _ hA3).mono ?_; clear cS; rintro e w3 ⟨rfl, m3, hA4⟩)
        | (go_at_call 132; refine (cE _ hA4).mono ?_; clear cE; rintro e w4 ⟨m4, rfl, hA5⟩)
        | (go_at_call 108; refine (cT _ _ (h.mv (((hm.trans m2).trans m3).trans m4) hA5)).mono ?_; clear cT; rintro e w5 ⟨rfl, hb5, hr5⟩))
      go_ret
      exact ⟨rfl, (((hm.trans m2).trans m3).trans m4).but.trans hb5, hr5⟩
def startZ (s : ByteArray) (a : Nat) : Sz :=
  match nameZ s (a + 1) with
  | .bad e p => .bad e p
  | .val nm b => .go (some 135) b (some ⟨0, nm, E0, a⟩)
set_option maxHeartbeats 2000000 in
theorem startTag_any (R : Nat) (s : ByteArray) (a : Nat) (v : Nat → Value) (w : World) (h : RC w R v) (v0 : v 0 = .string s) (v1 : v 1 = .int .i64 (a : Int)) (ha : a + 1 ≤ s.size) (hs : s.size < 4294967281) :
    Calls Tryz.prog 113 #[.pointer (some ⟨R, 0, none⟩)] w (StPost R w v (startZ s a)) := by
  have hA := h.ra v0 v1
  have c1 := hA.h1
  have f1 := hA.fz 1
  have hm := Mv.set R w (.int .i64 ((a : Int) + 1))
  have hA2 : RA (w.setCell ⟨R, 1, none⟩ (.int .i64 ((a : Int) + 1))) R s (a + 1) := hA.put _ (by omega)
  unfold startZ
  cases hz : nameZ s (a + 1) with
  | bad er p =>
    have cN := name_bad (R := R) hz (by omega) hs
    go_enter Tryz.func113, Tryz.ntmps113
    go_wp2_with (go_at_call 130; refine (cN _ hA2).mono ?_; rintro e w2 ⟨m2, rfl⟩)
    exact ⟨rfl, rfl, hm.trans m2⟩
  | val nm b =>
    have cN := name_good (R := R) hz (by omega) hs
    have cT := tell_tok R 0 nm E0 a
    go_enter Tryz.func113, Tryz.ntmps113
    go_wp2_with (first
      | (go_at_call 130; refine (cN _ hA2).mono ?_; clear cN; rintro e w2 ⟨m2, rfl, hA3⟩)
      | (go_at_call 108; refine (cT _ _ (h.mv (hm.trans m2) hA3)).mono ?_; clear cT; rintro e w5 ⟨rfl, hb5, hr5⟩))
    go_ret
    exact ⟨rfl, (hm.trans m2).but.trans hb5, hr5⟩
def tagEndZ (a : Nat) : Sz := .go (some 83) (a + 1) (some ⟨2, E0, E0, a⟩)
set_option maxHeartbeats 2000000 in
theorem tagEnd_any (R : Nat) (s : ByteArray) (a : Nat) (v : Nat → Value) (w : World) (h : RC w R v) (v0 : v 0 = .string s) (v1 : v 1 = .int .i64 (a : Int)) (ha : a < 4294967281) :
    Calls Tryz.prog 151 #[.pointer (some ⟨R, 0, none⟩)] w (StPost R w v (tagEndZ a)) := by
  have hA := h.ra v0 v1
  have c1 := hA.h1
  have cT := tell_tok R 2 E0 E0 a
  go_enter Tryz.func151, Tryz.ntmps151
  go_wp2_with (go_at_call 108; refine (cT _ _ h).mono ?_; clear cT; rintro e w5 ⟨rfl, hb5, hr5⟩; have d1 : w5.cell? ⟨R, 1, none⟩ = some (.int .i64 (a : Int)) := (hr5.c 1 (by decide)).trans (by rw [← v1]; rfl); have e1 := hr5.fz 1)
  go_ret
  refine ⟨rfl, hb5.trans (But.set R 1 _ _), ?_⟩
  have := hr5.set 1 (by decide) (.int .i64 ((a : Int) + 1))
  rw [told_upd] at this
  exact this
def emptyEndZ (s : ByteArray) (a : Nat) : Sz :=
  match expZ s (a + 1) 62 with
  | some (e, p) => .bad e p
  | none => .go (some 83) (a + 1 + 1) (some ⟨3, E0, E0, a⟩)
set_option maxHeartbeats 2000000 in
theorem emptyEnd_any (R : Nat) (s : ByteArray) (a : Nat) (v : Nat → Value) (w : World) (h : RC w R v) (v0 : v 0 = .string s) (v1 : v 1 = .int .i64 (a : Int)) (ha : a + 1 ≤ s.size) (hs : s.size < 4294967281) :
    Calls Tryz.prog 152 #[.pointer (some ⟨R, 0, none⟩)] w (StPost R w v (emptyEndZ s a)) := by
  have hA := h.ra v0 v1
  have c1 := hA.h1
  have f1 := hA.fz 1
  have hm := Mv.set R w (.int .i64 ((a : Int) + 1))
  have hA2 : RA (w.setCell ⟨R, 1, none⟩ (.int .i64 ((a : Int) + 1))) R s (a + 1) := hA.put _ (by omega)
  unfold emptyEndZ
  cases hx : expZ s (a + 1) 62 with
  | some q =>
    obtain ⟨er, p⟩ := q
    have cE := expect_bad (R := R) hx (by omega) hs
    go_enter Tryz.func152, Tryz.ntmps152
    go_wp2_with (go_at_call 132; refine (cE _ hA2).mono ?_; clear cE; rintro e w4 ⟨m4, rfl⟩)
    exact ⟨rfl, rfl, hm.trans m4⟩
  | none =>
    have cE := expect_good (R := R) hx (by omega) hs
    have cT := tell_tok R 3 E0 E0 a
    go_enter Tryz.func152, Tryz.ntmps152
    go_wp2_with (first
      | (go_at_call 132; refine (cE _ hA2).mono ?_; clear cE; rintro e w4 ⟨m4, rfl, hA5⟩)
      | (go_at_call 108; refine (cT _ _ (h.mv (hm.trans m4) hA5)).mono ?_; clear cT; rintro e w5 ⟨rfl, hb5, hr5⟩))
    go_ret
    exact ⟨rfl, (hm.trans m4).but.trans hb5, hr5⟩
def inTagZ (s : ByteArray) (a : Nat) : Sz :=
  if s.size ≤ skN s a then .bad 41 s.size
  else if ch s (skN s a) = 62 then .go (some 151) (skN s a) none
  else if ch s (skN s a) = 47 then .go (some 152) (skN s a) none
  else if a < skN s a then .go (some 153) (skN s a) none
  else .bad 40 (skN s a)
set_option maxHeartbeats 2000000 in
theorem inTag_any (R : Nat) (s : ByteArray) (a : Nat) (v : Nat → Value) (w : World) (h : RC w R v) (v0 : v 0 = .string s) (v1 : v 1 = .int .i64 (a : Int)) (ha : a ≤ s.size) (hs : s.size < 4294967281) :
    Calls Tryz.prog 135 #[.pointer (some ⟨R, 0, none⟩)] w (StPost R w v (inTagZ s a)) := by
  have hA := h.ra v0 v1
  have cS := fun w h => skipBlanks_any R s a w h ha (by omega)
  have hk := skN_le s a ha
  unfold inTagZ
  generalize skN s a = k at *
  by_cases h1 : s.size ≤ k
  · rw [if_pos h1]
    obtain rfl : k = s.size := by omega
    have cP := peek_end R s
    go_enter Tryz.func135, Tryz.ntmps135
    go_wp2_with (first
      | (go_at_call 131; refine (cS _ hA).mono ?_; clear cS; rintro e w3 ⟨rfl, m3, hA4⟩)
      | (go_at_call 134; refine (cP _ hA4).mono ?_; clear cP; rintro e w4 ⟨rfl, m4⟩))
    exact ⟨rfl, rfl, m3.trans m4⟩
  rw [if_neg h1]
  have cP := fun w h => peek_ok R s k w h (by omega)
  by_cases h2 : ch s k = 62
  · rw [if_pos h2]
    rw [h2] at cP
    go_enter Tryz.func135, Tryz.ntmps135
    go_wp2_with (first
      | (go_at_call 131; refine (cS _ hA).mono ?_; clear cS; rintro e w3 ⟨rfl, m3, hA4⟩)
      | (go_at_call 134; refine (cP _ hA4).mono ?_; clear cP; rintro e w4 ⟨rfl, m4, hA5⟩))
    go_ret
    exact ⟨rfl, (m3.trans m4).but, h.mv (m3.trans m4) hA5⟩
  rw [if_neg h2]
  by_cases h3 : ch s k = 47
  · rw [if_pos h3]
    rw [h3] at cP
    go_enter Tryz.func135, Tryz.ntmps135
    go_wp2_with (first
      | (go_at_call 131; refine (cS _ hA).mono ?_; clear cS; rintro e w3 ⟨rfl, m3, hA4⟩)
      | (go_at_call 134; refine (cP _ hA4).mono ?_; clear cP; rintro e w4 ⟨rfl, m4, hA5⟩))
    go_ret
    exact ⟨rfl, (m3.trans m4).but, h.mv (m3.trans m4) hA5⟩
  rw [if_neg h3]
  generalize ch s k = c at *
  have k1 : ((c : Int) == 62) = false := beq_eq_false_iff_ne.2 (by omega)
  have k2 : ((c : Int) == 47) = false := beq_eq_false_iff_ne.2 (by omega)
  by_cases h4 : a < k
  · rw [if_pos h4]
    rw [decide_eq_true h4] at cS
    go_enter Tryz.func135, Tryz.ntmps135
    go_wp2_with (first
      | (go_at_call 131; refine (cS _ hA).mono ?_; clear cS; rintro e w3 ⟨rfl, m3, hA4⟩)
      | (go_at_call 134; refine (cP _ hA4).mono ?_; clear cP; rintro e w4 ⟨rfl, m4, hA5⟩))
    go_ret
    exact ⟨rfl, (m3.trans m4).but, h.mv (m3.trans m4) hA5⟩
  · rw [if_neg h4]
    rw [decide_eq_false h4] at cS
    go_enter Tryz.func135, Tryz.ntmps135
    go_wp2_with (first
      | (go_at_call 131; refine (cS _ hA).mono ?_; clear cS; rintro e w3 ⟨rfl, m3, hA4⟩)
      | (go_at_call 134; refine (cP _ hA4).mono ?_; clear cP; rintro e w4 ⟨rfl, m4, hA5⟩; have c1 := hA5.h1)
      | (go_at_call 80; refine (giveUp_lit 40 40 k rfl _).mono ?_; rintro e w6 ⟨rfl, rfl⟩))
    exact ⟨rfl, rfl, m3.trans m4⟩
def attrZ (s : ByteArray) (a : Nat) : Sz :=
  match nameZ s a with
  | .bad e p => .bad e p
  | .val nm b =>
    match expZ s (skN s b) 61 with
    | some (e, p) => .bad e p
    | none =>
      match valueZ s (skN s (skN s b + 1)) with
      | .bad e p => .bad e p
      | .val vl c => .go (some 135) c (some ⟨1, nm, vl, a⟩)
set_option maxHeartbeats 4000000 in
theorem attribute_any (R : Nat) (s : ByteArray) (a : Nat) (v : Nat → Value) (w : World) (h : RC w R v) (v0 : v 0 = .string s) (v1 : v 1 = .int .i64 (a : Int)) (ha : a ≤ s.size) (hs : s.size < 4294967281) :
    Calls Tryz.prog 153 #[.pointer (some ⟨R, 0, none⟩)] w (StPost R w v (attrZ s a)) := by
  have hA := h.ra v0 v1
  have c1 := hA.h1
  unfold attrZ
  cases hz : nameZ s a with
  | bad er p =>
    have cN := name_bad (R := R) hz (by omega) hs
    go_enter Tryz.func153, Tryz.ntmps153
    go_wp2_with (go_at_call 130; refine (cN _ hA).mono ?_; rintro e w2 ⟨m2, rfl⟩)
    exact ⟨rfl, rfl, m2⟩
  | val nm b =>
    have hb := nameZ_val hz
    have cN := name_good (R := R) hz (by omega) hs
    have cS := fun w h => skipBlanks_any R s b w h hb.2.2 (by omega)
    have hk := skN_le s b hb.2.2
    dsimp only
    cases hx : expZ s (skN s b) 61 with
    | some q =>
      obtain ⟨er, p⟩ := q
      have cE := expect_bad (R := R) hx hk.2 hs
      generalize skN s b = k at *
      go_enter Tryz.func153, Tryz.ntmps153
      go_wp2_with (first
        | (go_at_call 130; refine (cN _ hA).mono ?_; clear cN; rintro e w2 ⟨m2, rfl, hA3⟩)
        | (go_at_call 131; refine (cS _ hA3).mono ?_; clear cS; rintro e w3 ⟨rfl, m3, hA4⟩)
        | (go_at_call 132; refine (cE _ hA4).mono ?_; clear cE; rintro e w4 ⟨m4, rfl⟩))
      exact ⟨rfl, rfl, (m2.trans m3).trans m4⟩
    | none =>
      have hlt := expZ_none hx
      have cE := expect_good (R := R) hx hk.2 hs
      have cS2 := fun w h => skipBlanks_any R s (skN s b + 1) w h (by omega) (by omega)
      have hk2 := skN_le s (skN s b + 1) (by omega)
      dsimp only
      cases hy : valueZ s (skN s (skN s b + 1)) with
      | bad er p =>
        have cV := value_bad (R := R) hy hk2.2 hs
        generalize skN s (skN s b + 1) = k2 at *
        generalize skN s b = k at *
        go_enter Tryz.func153, Tryz.ntmps153
        go_wp2_with (first
          | (go_at_call 130; refine (cN _ hA).mono ?_; clear cN; rintro e w2 ⟨m2, rfl, hA3⟩)
          | (go_at_call 132; refine (cE _ hA4).mono ?_; clear cE; rintro e w4 ⟨m4, rfl, hA5⟩; replace cS := cS2)
          | (go_at_call 167; refine (cV _ hA6).mono ?_; clear cV; rintro e w6 ⟨m6, rfl⟩)
          | (go_at_call 131; refine (cS _ hA3).mono ?_; clear cS; rintro e w3 ⟨rfl, m3, hA4⟩)
          | (go_at_call 131; refine (cS _ hA5).mono ?_; clear cS; rintro e w5 ⟨rfl, m5, hA6⟩))
        exact ⟨rfl, rfl, (((m2.trans m3).trans m4).trans m5).trans m6⟩
      | val vl c =>
        have cV := value_good (R := R) hy hk2.2 hs
        have cT := tell_tok R 1 nm vl a
        generalize skN s (skN s b + 1) = k2 at *
        generalize skN s b = k at *
        go_enter Tryz.func153, Tryz.ntmps153
        go_wp2_with (first
          | (go_at_call 130; refine (cN _ hA).mono ?_; clear cN; rintro e w2 ⟨m2, rfl, hA3⟩)
          | (go_at_call 132; refine (cE _ hA4).mono ?_; clear cE; rintro e w4 ⟨m4, rfl, hA5⟩; replace cS := cS2)
          | (go_at_call 167; refine (cV _ hA6).mono ?_; clear cV; rintro e w6 ⟨m6, rfl, hA7⟩)
          | (go_at_call 108; refine (cT _ _ (h.mv ((((m2.trans m3).trans m4).trans m5).trans m6) hA7)).mono ?_; clear cT; rintro e w7 ⟨rfl, hb7, hr7⟩)
          | (go_at_call 131; refine (cS _ hA3).mono ?_; clear cS; rintro e w3 ⟨rfl, m3, hA4⟩)
          | (go_at_call 131; refine (cS _ hA5).mono ?_; clear cS; rintro e w5 ⟨rfl, m5, hA6⟩))
        go_ret
        exact ⟨rfl, ((((m2.trans m3).trans m4).trans m5).trans m6).but.trans hb7, hr7⟩
def textZ (s : ByteArray) (a : Nat) : Sz :=
  match plainZ (s.extract a (upN [60] s a)) a with
  | (some (e, p), _) => .bad e p
  | (none, t) => .go (some 83) (upN [60] s a) (some ⟨5, E0, t, a⟩)
set_option maxHeartbeats 2000000 in
theorem text_any (R : Nat) (s : ByteArray) (a : Nat) (v : Nat → Value) (w : World) (h : RC w R v) (v0 : v 0 = .string s) (v1 : v 1 = .int .i64 (a : Int)) (ha : a ≤ s.size) (hs : s.size < 4294967281) :
    Calls Tryz.prog 110 #[.pointer (some ⟨R, 0, none⟩)] w (StPost R w v (textZ s a)) := by
  have hA := h.ra v0 v1
  have c1 := hA.h1
  have cU : ∀ (w : World) (h : RA w R s a), Calls Tryz.prog 128 #[.pointer (some ⟨R, 0, none⟩), .string ⟨#[60]⟩] w fun e w' => e = .returned (.string (s.extract a (upN [60] s a))) ∧ Mv R w w' ∧ RA w' R s (upN [60] s a) :=
    fun w h => upTo_any R s ⟨#[60]⟩ a w h ha hs (by decide) (by decide) (by decide)
  have hu := upN_le [60] s a ha
  have hz := size_ext s a (upN [60] s a) hu.2
  unfold textZ
  generalize s.extract a (upN [60] s a) = r at *
  generalize upN [60] s a = b at *
  rcases hx : plainZ r a with ⟨_ | ⟨er, p⟩, t⟩
  · have cP := fun w => plain_good hx w (by omega) (by omega)
    have cT := tell_tok R 5 E0 t a
    go_enter Tryz.func110, Tryz.ntmps110
    go_wp2_with (first
      | (go_at_call 128; refine (cU _ hA).mono ?_; clear cU; rintro e w2 ⟨rfl, m2, hA2⟩)
      | (go_at_call 129; refine (cP _).mono ?_; clear cP; rintro e w3 ⟨hb3, rfl⟩)
      | (go_at_call 108; refine (cT _ _ (h.mv (m2.trans (Mv.of hb3 hA2.lt)) (hA2.below hb3))).mono ?_; clear cT; rintro e w5 ⟨rfl, hb5, hr5⟩))
    go_ret
    exact ⟨rfl, (m2.trans (Mv.of hb3 hA2.lt)).but.trans hb5, hr5⟩
  · have cP := fun w => plain_bad hx w (by omega) (by omega)
    go_enter Tryz.func110, Tryz.ntmps110
    go_wp2_with (first
      | (go_at_call 128; refine (cU _ hA).mono ?_; clear cU; rintro e w2 ⟨rfl, m2, hA2⟩)
      | (go_at_call 129; refine (cP _).mono ?_; clear cP; rintro e w3 ⟨hb3, rfl⟩))
    exact ⟨rfl, rfl, m2.trans (Mv.of hb3 hA2.lt)⟩
end Go.Proofs.YtchfphakhmifmaaGreatDoor
