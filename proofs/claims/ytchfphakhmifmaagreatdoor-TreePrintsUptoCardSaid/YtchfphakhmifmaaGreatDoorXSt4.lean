/- The states: comment, declaration, begin. -/
import Derived.Test.YtchfphakhmifmaaGreatDoorXSt3
namespace Go.Proofs.YtchfphakhmifmaaGreatDoor
open Go.ChangeShapes Go.WideShapes Go.ChangeAt Go.RowKit Go.Shelf Go.Lib

/-- What the package-level variables hold that the reader comes to. -/
structure Env (w : World) : Prop where
  ml : ∃ m, w.cell? ⟨1, 0, none⟩ = some (.int .i64 m)
  ft : FoldTab w
theorem Env.below {w w' : World} {B : Nat} (h : Env w) (hb : Below B w w') (hB : 7 ≤ B) : Env w' :=
  ⟨let ⟨m, hm⟩ := h.ml; ⟨m, (hb.cell (p := ⟨1, 0, none⟩) (Nat.lt_of_lt_of_le (by decide) hB)).trans hm⟩, h.ft.below hb (Nat.lt_of_lt_of_le (by decide) hB)⟩
theorem Env.but {w w' : World} {R : Nat} (h : Env w) (hb : But R w w') (hR : 7 ≤ R) (hl : R < w.heap.size) : Env w' := h.below (hb.below (Nat.le_refl R) hl) hR
abbrev bHH : ByteArray := ⟨#[45, 45]⟩
/-- The comment's text, from a place on; whether its end is there. -/
def comL (s : ByteArray) (b : Nat) : List UInt8 × List UInt8 × Bool := Lib.cut (s.data.toList.drop b) bHH.data.toList
theorem comL_cases (s : ByteArray) (b : Nat) (hb : b ≤ s.size) : (comL s b).2.2 = false ∨ ((comL s b).2.2 = true ∧ b + (comL s b).1.length + 2 ≤ s.size) := by
  unfold comL
  have e := list_from s b
  rcases Lib.indexB_cases (s.extract b s.size) bHH with hix | ⟨i, hix, hroom⟩
  · have := (Lib.cutB_miss (s.extract b s.size) bHH hix)
    rw [e] at this
    exact Or.inl this.2.2
  · have hix' : Lib.index (s.extract b s.size).data.toList bHH.data.toList = (i : Int) := hix
    rw [e] at hix'
    right
    unfold Lib.cut
    rw [hix', if_pos (by omega)]
    refine ⟨rfl, ?_⟩
    have hz := size_ext s b s.size (Nat.le_refl _)
    rw [hz] at hroom
    have h2 : bHH.size = 2 := rfl
    rw [h2] at hroom
    rw [List.length_take, drop_len, Int.toNat_natCast]
    omega
def commentZ (s : ByteArray) (a : Nat) : Sz :=
  match expZ s (a + 2) 45 with
  | some (e, p) => .bad e p
  | none =>
    match expZ s (a + 2 + 1) 45 with
    | some (e, p) => .bad e p
    | none =>
      if (comL s (a + 2 + 1 + 1)).2.2 = true then
        if s.size ≤ a + 2 + 1 + 1 + (comL s (a + 2 + 1 + 1)).1.length + 2 then .bad 41 s.size
        else if ch s (a + 2 + 1 + 1 + (comL s (a + 2 + 1 + 1)).1.length + 2) = 62 then .go (some 83) (a + 2 + 1 + 1 + (comL s (a + 2 + 1 + 1)).1.length + 2 + 1) (some ⟨6, E0, bs (comL s (a + 2 + 1 + 1)).1, a⟩)
        else .bad 43 (a + 2 + 1 + 1 + (comL s (a + 2 + 1 + 1)).1.length)
      else .bad 41 s.size
set_option maxHeartbeats 4000000 in
theorem comment_any (R : Nat) (s : ByteArray) (a : Nat) (v : Nat → Value) (w : World) (h : RC w R v) (v0 : v 0 = .string s) (v1 : v 1 = .int .i64 (a : Int)) (ha : a + 2 ≤ s.size) (hs : s.size < 4294967281) (hE : Env w) (hR : 7 ≤ R) :
    Calls Tryz.prog 112 #[.pointer (some ⟨R, 0, none⟩)] w (StPost R w v (commentZ s a)) := by
  have hA := h.ra v0 v1
  have c1 := hA.h1
  have f1 := hA.fz 1
  have hm := Mv.set R w (.int .i64 ((a : Int) + 2))
  have hA2 : RA (w.setCell ⟨R, 1, none⟩ (.int .i64 ((a : Int) + 2))) R s (a + 2) := hA.put _ (by omega)
  unfold commentZ
  cases hx : expZ s (a + 2) 45 with
  | some q =>
    obtain ⟨er, p⟩ := q
    have cE := expect_bad (R := R) hx (by omega) hs
    go_enter Tryz.func112, Tryz.ntmps112
    go_wp2_with (go_at_call 132; refine (cE _ hA2).mono ?_; clear cE; rintro e w4 ⟨m4, rfl⟩)
    exact ⟨rfl, rfl, hm.trans m4⟩
  | none =>
    have l1 := expZ_none hx
    have cE1 := expect_good (R := R) hx (by omega) hs
    dsimp only
    cases hy : expZ s (a + 2 + 1) 45 with
    | some q =>
      obtain ⟨er, p⟩ := q
      have cE2 := expect_bad (R := R) hy (by omega) hs
      go_enter Tryz.func112, Tryz.ntmps112
      go_wp2_with (first
        | (go_at_call 132; refine (cE1 _ hA2).mono ?_; clear cE1; rintro e w4 ⟨m4, rfl, hA4⟩)
        | (go_at_call 132; refine (cE2 _ hA4).mono ?_; clear cE2; rintro e w5 ⟨m5, rfl⟩))
      exact ⟨rfl, rfl, (hm.trans m4).trans m5⟩
    | none =>
      have l2 := expZ_none hy
      have cE2 := expect_good (R := R) hy (by omega) hs
      have sl : ∀ w : World, (Instr.slice 9 (.string s) (some (.int .i64 ((a + 2 + 1 + 1 : Nat) : Int))) none none).run Tryz.prog w = .ok (.string (s.extract (a + 2 + 1 + 1) s.size)) w := fun w => slice_from s (a + 2 + 1 + 1) (by omega) w
      have hz := size_ext s (a + 2 + 1 + 1) s.size (Nat.le_refl _)
      have cC : ∀ (m : Int) (w : World) (n : Nat), w.cell? ⟨1, 0, none⟩ = some (.int .i64 m) → Calls Tryz.prog 133 #[.string (s.extract (a + 2 + 1 + 1) s.size), .string bHH] (w.drewN n) fun e w' => e = .returned (.tuple #[.string (bs (comL s (a + 2 + 1 + 1)).1), .string (bs (comL s (a + 2 + 1 + 1)).2.1), .bool (comL s (a + 2 + 1 + 1)).2.2]) ∧ ∃ m, w' = w.drewN m := fun m w n hm => by
        have := strCut (s.extract (a + 2 + 1 + 1) s.size) bHH m (w.drewN n) (by omega) hm
        rw [list_from] at this
        exact this.mono fun _ _ ⟨h1, k, h2⟩ => ⟨h1, n + k, by rw [h2]; simp [World.drewN, Nat.add_assoc]⟩
      have hcases := comL_cases s (a + 2 + 1 + 1) (by omega)
      dsimp only
      have hbz := bs_size (comL s (a + 2 + 1 + 1)).1
      generalize comL s (a + 2 + 1 + 1) = C at *
      obtain ⟨L, L2, b⟩ := C
      dsimp only at *
      generalize bs L = B at *
      generalize bs L2 = B2 at *
      generalize s.extract (a + 2 + 1 + 1) s.size = u at *
      generalize hd : a + 2 + 1 + 1 = d at *
      rcases hcases with rfl | ⟨rfl, hroom⟩
      · rw [if_neg (by decide)]
        go_enter Tryz.func112, Tryz.ntmps112
        go_wp2_with (first
          | (go_at_call 132; refine (cE1 _ hA2).mono ?_; clear cE1; rintro e w4 ⟨m4, rfl, hA4⟩)
          | (go_at_call 132; refine (cE2 _ hA4).mono ?_; clear cE2; rintro e w5 ⟨m5, rfl, hA5⟩))
        have M5 := (hm.trans m4).trans m5
        obtain ⟨m, hml⟩ := (hE.but M5.but hR h.lt).ml
        have e0 : ∀ n, (w5.drewN n).cell? ⟨R, 0, none⟩ = some (.string s) := fun n => hA5.h0
        have e1 : ∀ n, (w5.drewN n).cell? ⟨R, 1, none⟩ = some (.int .i64 (d : Int)) := fun n => hA5.h1
        go_quiet ((go_at_call 133; refine cC m _ _ hml))
        have g0 := e0 nq
        go_wp2_with (go_at_call 80; refine (giveUp_lit 41 41 s.size rfl _).mono ?_; rintro e w6 ⟨rfl, rfl⟩)
        exact ⟨rfl, rfl, M5.drewN _⟩
      · rw [if_pos rfl]
        by_cases k1 : s.size ≤ d + L.length + 2
        · rw [if_pos k1]
          have cP : ∀ w, RA w R s (d + L.length + 2) → _ := fun w h => peek_end R s w (by rw [show d + L.length + 2 = s.size by omega] at h; exact h)
          go_enter Tryz.func112, Tryz.ntmps112
          go_wp2_with (first
            | (go_at_call 132; refine (cE1 _ hA2).mono ?_; clear cE1; rintro e w4 ⟨m4, rfl, hA4⟩)
            | (go_at_call 132; refine (cE2 _ hA4).mono ?_; clear cE2; rintro e w5 ⟨m5, rfl, hA5⟩))
          have M5 := (hm.trans m4).trans m5
          obtain ⟨m, hml⟩ := (hE.but M5.but hR h.lt).ml
          have e0 : ∀ n, (w5.drewN n).cell? ⟨R, 0, none⟩ = some (.string s) := fun n => hA5.h0
          have e1 : ∀ n, (w5.drewN n).cell? ⟨R, 1, none⟩ = some (.int .i64 (d : Int)) := fun n => hA5.h1
          go_quiet ((go_at_call 133; refine cC m _ _ hml))
          have g1 := e1 nq
          have hA6 := hA5.drewN nq
          have M6 := M5.drewN nq
          have f6 := hA6.fz 1
          have hA7 : RA ((w5.drewN nq).setCell ⟨R, 1, none⟩ (.int .i64 ((d : Int) + (L.length : Int) + 2))) R s (d + L.length + 2) := hA6.put _ (by omega)
          have M7 := M6.trans (Mv.set R (w5.drewN nq) (.int .i64 ((d : Int) + (L.length : Int) + 2)))
          go_wp2_with (go_at_call 134; refine (cP _ hA7).mono ?_; clear cP; rintro e w8 ⟨rfl, m8⟩)
          exact ⟨rfl, rfl, M7.trans m8⟩
        rw [if_neg k1]
        have cP := fun w h => peek_ok R s (d + L.length + 2) w h (by omega)
        by_cases k2 : ch s (d + L.length + 2) = 62
        · rw [if_pos k2]
          rw [k2] at cP
          have cL := fun w => strClone B w (by omega)
          have cT := tell_tok R 6 E0 B a
          go_enter Tryz.func112, Tryz.ntmps112
          go_wp2_with (first
            | (go_at_call 132; refine (cE1 _ hA2).mono ?_; clear cE1; rintro e w4 ⟨m4, rfl, hA4⟩)
            | (go_at_call 132; refine (cE2 _ hA4).mono ?_; clear cE2; rintro e w5 ⟨m5, rfl, hA5⟩))
          have M5 := (hm.trans m4).trans m5
          obtain ⟨m, hml⟩ := (hE.but M5.but hR h.lt).ml
          have e0 : ∀ n, (w5.drewN n).cell? ⟨R, 0, none⟩ = some (.string s) := fun n => hA5.h0
          have e1 : ∀ n, (w5.drewN n).cell? ⟨R, 1, none⟩ = some (.int .i64 (d : Int)) := fun n => hA5.h1
          go_quiet ((go_at_call 133; refine cC m _ _ hml))
          have g1 := e1 nq
          have hA6 := hA5.drewN nq
          have M6 := M5.drewN nq
          have f6 := hA6.fz 1
          have hA7 : RA ((w5.drewN nq).setCell ⟨R, 1, none⟩ (.int .i64 ((d : Int) + (L.length : Int) + 2))) R s (d + L.length + 2) := hA6.put _ (by omega)
          have M7 := M6.trans (Mv.set R (w5.drewN nq) (.int .i64 ((d : Int) + (L.length : Int) + 2)))
          go_wp2_with (first
            | (go_at_call 134; refine (cP _ hA7).mono ?_; clear cP; rintro e w8 ⟨rfl, m8, hA8⟩; have g8 := hA8.h1; have f8 := hA8.fz 1; have hA9 : RA (w8.setCell ⟨R, 1, none⟩ (.int .i64 (((d + L.length + 2 : Nat) : Int) + 1))) R s (d + L.length + 2 + 1) := hA8.put _ (by omega); have M9 := (M7.trans m8).trans (Mv.set R w8 (.int .i64 (((d + L.length + 2 : Nat) : Int) + 1))))
            | (go_at_call 109; refine (cL _).mono ?_; clear cL; rintro e w10 ⟨rfl, hb10⟩)
            | (go_at_call 108; refine (cT _ _ (h.mv (M9.trans (Mv.of hb10 hA9.lt)) (hA9.below hb10))).mono ?_; clear cT; rintro e w11 ⟨rfl, hb11, hr11⟩))
          go_ret
          exact ⟨rfl, (M9.trans (Mv.of hb10 hA9.lt)).but.trans hb11, hr11⟩
        rw [if_neg k2]
        generalize ch s (d + L.length + 2) = c at *
        have k3 : ((c : Int) == 62) = false := beq_eq_false_iff_ne.2 (by omega)
        have k4 : ((c : Int) != 62) = true := bne_iff_ne.2 (by omega)
        have cG := fun w => giveUp_lit 43 43 (d + L.length) rfl w
        rw [Int.natCast_add] at cG
        go_enter Tryz.func112, Tryz.ntmps112
        go_wp2_with (first
          | (go_at_call 132; refine (cE1 _ hA2).mono ?_; clear cE1; rintro e w4 ⟨m4, rfl, hA4⟩)
          | (go_at_call 132; refine (cE2 _ hA4).mono ?_; clear cE2; rintro e w5 ⟨m5, rfl, hA5⟩))
        have M5 := (hm.trans m4).trans m5
        obtain ⟨m, hml⟩ := (hE.but M5.but hR h.lt).ml
        have e0 : ∀ n, (w5.drewN n).cell? ⟨R, 0, none⟩ = some (.string s) := fun n => hA5.h0
        have e1 : ∀ n, (w5.drewN n).cell? ⟨R, 1, none⟩ = some (.int .i64 (d : Int)) := fun n => hA5.h1
        go_quiet ((go_at_call 133; refine cC m _ _ hml))
        have g1 := e1 nq
        have hA6 := hA5.drewN nq
        have M6 := M5.drewN nq
        have f6 := hA6.fz 1
        have hA7 : RA ((w5.drewN nq).setCell ⟨R, 1, none⟩ (.int .i64 ((d : Int) + (L.length : Int) + 2))) R s (d + L.length + 2) := hA6.put _ (by omega)
        have M7 := M6.trans (Mv.set R (w5.drewN nq) (.int .i64 ((d : Int) + (L.length : Int) + 2)))
        go_wp2_with (first
          | (go_at_call 134; refine (cP _ hA7).mono ?_; clear cP; rintro e w8 ⟨rfl, m8, hA8⟩)
          | (go_at_call 80; refine (cG _).mono ?_; rintro e w9 ⟨rfl, rfl⟩))
        exact ⟨rfl, rfl, M7.trans m8⟩
theorem cpB_true {s p : ByteArray} (h : (cpB s p).2 = true) : (cpB s p).1.size + p.size = s.size := by
  unfold cpB at h ⊢
  split at h
  · rename_i hp
    rw [if_pos hp]
    have := prefix_size hp
    show (s.extract p.size s.size).size + _ = _
    rw [size_ext s _ _ (Nat.le_refl _)]
    omega
  · cases h
theorem declN_pos {s : ByteArray} (h : ¬ declN s = 0) : 7 ≤ declN s ∧ declN s ≤ s.size := by
  unfold declN at h ⊢
  split at h
  · rename_i hc
    rw [if_pos hc]
    simp only [Bool.and_eq_true] at hc
    have h1 : (cpB s bXML).1.size + 5 = s.size := cpB_true hc.1
    have h2 : (dr4 s).1.size + 2 = (tlB (dr3 s).1).size := cpB_true hc.2.2
    have h3 := tlB_size (dr3 s).1
    have k1 : (dr1 s).1.size ≤ (cpB s bXML).1.size := setB_size _ _ _
    have k2 : (dr2 s).1.size ≤ (dr1 s).1.size := setB_size _ _ _
    have k3 : (dr3 s).1.size ≤ (dr2 s).1.size := setB_size _ _ _
    omega
  · exact absurd rfl h
theorem slice_fromto (s : ByteArray) (a b : Nat) (hab : a ≤ b) (hb : b ≤ s.size) (w : World) : (Instr.slice 9 (.string s) (some (.int .i64 (a : Int))) (some (.int .i64 (b : Int))) none).run Tryz.prog w = .ok (.string (s.extract a b)) w := by
  rw [run_slice_string w 9 s .i64 .i64 (a : Int) (b : Int) Tryz.underlying9 (by omega) (by omega) (by omega), Int.toNat_natCast, Int.toNat_natCast]
def declZ (s : ByteArray) : Sz :=
  if declN s = 0 then .bad 44 0 else .go (some 83) (declN s) (some ⟨7, E0, s.extract 5 (declN s - 2), 0⟩)
set_option maxHeartbeats 2000000 in
theorem declaration_any (R : Nat) (s : ByteArray) (v : Nat → Value) (w : World) (h : RC w R v) (v0 : v 0 = .string s) (v1 : v 1 = .int .i64 ((0 : Nat) : Int)) (hs : s.size < 4294967281) (hE : Env w) :
    Calls Tryz.prog 82 #[.pointer (some ⟨R, 0, none⟩)] w (StPost R w v (declZ s)) := by
  have hA := h.ra v0 v1
  have c0 := hA.h0
  have cD := declSize_any s w hs hE.ft
  unfold declZ
  by_cases h0 : declN s = 0
  · rw [if_pos h0]
    rw [h0] at cD
    go_enter Tryz.func82, Tryz.ntmps82
    go_wp2_with (first
      | (go_at_call 104; refine cD.mono ?_; clear cD; rintro e w2 ⟨rfl, hb2⟩)
      | (go_at_call 80; refine (giveUp_lit 44 44 0 rfl _).mono ?_; rintro e w6 ⟨rfl, rfl⟩))
    exact ⟨rfl, rfl, Mv.of hb2 h.lt⟩
  · rw [if_neg h0]
    have hp := declN_pos h0
    generalize declN s = n at *
    have k0 : ¬ (n : Int) = 0 := by omega
    have k1 : ((n : Int) == 0) = false := beq_eq_false_iff_ne.2 k0
    have e2 : ((n - 2 : Nat) : Int) = (n : Int) - 2 := by omega
    have sl : ∀ w : World, (Instr.slice 9 (.string s) (some (.int .i64 5)) (some (.int .i64 ((n : Int) - 2))) none).run Tryz.prog w = .ok (.string (s.extract 5 (n - 2))) w := fun w => by
      rw [← e2]
      exact slice_fromto s 5 (n - 2) (by omega) (by omega) w
    have hz := size_ext s 5 (n - 2) (by omega)
    have cC := fun w => strClone (s.extract 5 (n - 2)) w (by omega)
    have cT := tell_tok R 7 E0 (s.extract 5 (n - 2)) 0
    generalize s.extract 5 (n - 2) = u at *
    clear e2
    go_enter Tryz.func82, Tryz.ntmps82
    go_wp2_with (first
      | (go_at_call 104; refine cD.mono ?_; clear cD; rintro e w2 ⟨rfl, hb2⟩; have hA2 := hA.below hb2; have g0 : (w2.setCell ⟨R, 1, none⟩ (.int .i64 (n : Int))).cell? ⟨R, 0, none⟩ = some (.string s) := (hA2.put (n : Int) rfl).h0; have g1 := hA2.h1; have f1 := hA2.fz 1; have hA3 := hA2.put (b := n) (n : Int) rfl; have M3 := (Mv.of hb2 h.lt).trans (Mv.set R w2 (.int .i64 (n : Int))))
      | (go_at_call 109; refine (cC _).mono ?_; clear cC; rintro e w4 ⟨rfl, hb4⟩)
      | (go_at_call 108; refine (cT _ _ (h.mv (M3.trans (Mv.of hb4 hA3.lt)) (hA3.below hb4))).mono ?_; clear cT; rintro e w5 ⟨rfl, hb5, hr5⟩))
    go_ret
    exact ⟨rfl, (M3.trans (Mv.of hb4 hA3.lt)).but.trans hb5, hr5⟩
def beginZ (s : ByteArray) : Sz :=
  if 1048576 < s.size then .bad 45 1048576
  else if (faultN xmlB s).1 = 0 then
    if Lib.hasPrefix s.data.toList bXML.data.toList = true then .go (some 82) 0 none else .go (some 83) 0 none
  else .bad (faultN xmlB s).1 (faultN xmlB s).2
set_option maxHeartbeats 2000000 in
theorem begin_any (R : Nat) (s : ByteArray) (v : Nat → Value) (w : World) (h : RC w R v) (v0 : v 0 = .string s) (v1 : v 1 = .int .i64 ((0 : Nat) : Int)) (hs : s.size ≤ 9223372036854775807) :
    Calls Tryz.prog 58 #[.pointer (some ⟨R, 0, none⟩)] w (StPost R w v (beginZ s)) := by
  have hA := h.ra v0 v1
  have c0 := hA.h0
  have hmf := hmfA
  have FIN : ∀ w', Below w.heap.size w w' → But R w w' ∧ RC w' R (fin v 0 none) := fun w' hb => ⟨But.of hb, by show RC _ R (upd v 1 _); rw [upd_same v 1 _ v1]; exact h.below hb⟩
  unfold beginZ
  by_cases h1 : 1048576 < s.size
  · rw [if_pos h1]
    have k1 : (1048576 : Int) < (s.size : Int) := by omega
    go_enter Tryz.func58, Tryz.ntmps58
    go_wp2_with (go_at_call 80; refine (giveUp_lit 45 45 1048576 rfl _).mono ?_; rintro e w6 ⟨rfl, rfl⟩)
    exact ⟨rfl, rfl, Mv.refl R _⟩
  rw [if_neg h1]
  have k1 : ¬ (1048576 : Int) < (s.size : Int) := by omega
  have cC := Chars_all s w hs
  generalize (faultN xmlB s).1 = er at *
  generalize (faultN xmlB s).2 = p at *
  by_cases h2 : er = 0
  · subst h2
    rw [if_pos rfl]
    have cH := fun w => strHasPrefix s bXML w
    cases hx : Lib.hasPrefix s.data.toList bXML.data.toList
    · rw [hx] at cH
      rw [if_neg (by decide)]
      clear hx
      go_enter Tryz.func58, Tryz.ntmps58
      go_wp2_with (first
        | (go_at_call 75; refine cC.mono ?_; clear cC; rintro e w2 ⟨rfl, hb2⟩; have d0 := (hA.below hb2).h0)
        | (go_at_call 81; refine (cH _).mono ?_; clear cH; rintro e w3 ⟨rfl, rfl⟩))
      go_ret
      exact ⟨rfl, (FIN _ hb2).1, (FIN _ hb2).2⟩
    · rw [hx] at cH
      rw [if_pos rfl]
      clear hx
      go_enter Tryz.func58, Tryz.ntmps58
      go_wp2_with (first
        | (go_at_call 75; refine cC.mono ?_; clear cC; rintro e w2 ⟨rfl, hb2⟩; have d0 := (hA.below hb2).h0)
        | (go_at_call 81; refine (cH _).mono ?_; clear cH; rintro e w3 ⟨rfl, rfl⟩))
      go_ret
      exact ⟨rfl, (FIN _ hb2).1, (FIN _ hb2).2⟩
  · rw [if_neg h2]
    have k2 : ¬ (er : Int) = 0 := by omega
    have k3 : ((er : Int) == 0) = false := beq_eq_false_iff_ne.2 k2
    go_enter Tryz.func58, Tryz.ntmps58
    go_wp2_with (first
      | (go_at_call 75; refine cC.mono ?_; clear cC; rintro e w2 ⟨rfl, hb2⟩)
      | (go_at_call 80; refine (giveUp_any er p _).mono ?_; rintro e w6 ⟨rfl, rfl⟩))
    exact ⟨rfl, rfl, Mv.of hb2 h.lt⟩
end Go.Proofs.YtchfphakhmifmaaGreatDoor
