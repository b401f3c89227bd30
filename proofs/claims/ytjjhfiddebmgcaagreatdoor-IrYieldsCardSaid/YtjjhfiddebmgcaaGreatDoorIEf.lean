/- IEf. -/
import Derived.Test.YtjjhfiddebmgcaaGreatDoorG32
import Derived.Test.YtjjhfiddebmgcaaGreatDoorIDq
import Derived.Test.YtjjhfiddebmgcaaGreatDoorG40
import Derived.Test.YtjjhfiddebmgcaaGreatDoorG37
namespace Go.Proofs.YtjjhfiddebmgcaaGreatDoor
open Go.ChangeShapes Go.WideShapes Go.ChangeAt Go.RowKit Go.Shelf Go.Maps

theorem ok_first {f : Fm} {t : Tk} : okZ f ⟨[], []⟩ 0 t = true ↔ (t.op = 0 ∧ plainB t = true ∧ pairB f.toks 0 t = true ∧ symbolB t.name = true ∧ bet t.id 0 65535 = true ∧ (0 ≤ t.since ∧ t.since ≤ f.ver ∧ 0 ≤ t.blk ∧ t.blk ≤ t.full ∧ t.full ≤ 65535) ∧ telB f.hb t.full = true ∧ telB f.ht t.id = true) := by
  unfold okZ msgB blkB
  simp only [Bool.and_eq_true, decide_eq_true_eq]
  constructor
  · rintro ⟨⟨⟨⟨⟨_, h1⟩, h2⟩, h3⟩, h4⟩, ⟨⟨⟨h5, h6⟩, h7, h8⟩, h9⟩, h10⟩
    have h6 := betT h6
    have h7 := betT h7
    exact ⟨h1, h2, h4, h3, h5, ⟨h6.1, h6.2, h7.1, h7.2, h8⟩, h9, h10⟩
  · rintro ⟨h1, h2, h4, h3, h5, ⟨a, b, c, d, e⟩, h9, h10⟩
    exact ⟨⟨⟨⟨⟨trivial, h1⟩, h2⟩, h3⟩, h4⟩, ⟨⟨⟨h5, decide_eq_true ⟨a, b⟩⟩, decide_eq_true ⟨c, d⟩, e⟩, h9⟩, h10⟩
set_option maxRecDepth 20000 in
set_option maxHeartbeats 8000000 in
theorem refFirst_any (B go cap g o cp H : Nat) (f : Fm) (t : Tk) (vo vi : Value) (w : World) (h : D0 w ⟨B, go, cap, g, o, cp, H, 0⟩ f t vo vi) :
    Calls Tryz.prog 17 #[.pointer (some ⟨B, 0, none⟩)] w fun r w' => Ans r (okZ f ⟨[], []⟩ 0 t = true) ∧ Below w.heap.size w w' := by
  generalize hPd : (okZ f ⟨[], []⟩ 0 t = true) = P
  have hP : Hid (P ↔ (t.op = 0 ∧ plainB t = true ∧ pairB f.toks 0 t = true ∧ symbolB t.name = true ∧ bet t.id 0 65535 = true ∧ (0 ≤ t.since ∧ t.since ≤ f.ver ∧ 0 ≤ t.blk ∧ t.blk ≤ t.full ∧ t.full ≤ 65535) ∧ telB f.hb t.full = true ∧ telB f.ht t.id = true)) := ⟨hPd ▸ ok_first⟩
  clear hPd
  obtain ⟨pc, cc, hT, hU, hC, hO⟩ := h.tk
  simp only [Nat.zero_mul, Nat.add_zero] at hT
  have b12 : w.cell? ⟨B, 12, none⟩ = some (.slice (some ⟨g, o, none⟩) f.toks.length cp) := h.ds.c12
  have hil : (0 : Int) < f.toks.length := by have := h.il; show (0 : Int) < _; have : 0 < f.toks.length := this; omega
  have hil2 : 0 < f.toks.length := by omega
  have l1 := hT.load
  obtain ⟨W1, s1, hA, hb1, hz1⟩ := ld_new w t pc cc
  have h1 := h.below hb1
  have a0 : W1.cell? ⟨w.heap.size, 0, none⟩ = some (.int .i64 t.op) := hA.c0
  have lt1 := hA.load
  have hwl : w.heap.size < W1.heap.size := by omega
  have cPl := refPlain_any t pc cc W1 ((hU.below hb1).mono hb1.size) hO.cst
  have cPr : ∀ W, Below W1.heap.size W1 W → Calls Tryz.prog 29 #[.pointer (some ⟨B, 0, none⟩), .int .i64 0] W fun r w' => r = .returned (.bool (if bgO t.op then pairB f.toks 0 t else decide (t.pair = ((0 : Nat) : Int)))) ∧ Below W.heap.size W w' := fun W hW => refPaired_any ⟨B, go, cap, g, o, cp, H, 0⟩ f t vo vi W (h1.below hW)
  have cSy := fun W => rSymbol t.name (by have := hO.name; omega) W
  have cNm : ∀ W, Below W1.heap.size W1 W → Calls Tryz.prog 31 #[.pointer (some ⟨B, 0, none⟩), .int .i64 0] W fun r w' => r = .returned (.bool (bet t.id 0 65535)) ∧ Below W.heap.size W w' := fun W hW => (refNamed_0 ⟨B, go, cap, g, o, cp, H, 0⟩ f t vo vi W (h1.below hW) rfl).mono fun r w' hh => ⟨hh.1.same, hh.2⟩
  have hR : Hid (∀ W, Below W1.heap.size W1 W → TkC W w.heap.size 0 t pc cc ∧ FmC W B 0 f (some ⟨g, o, none⟩) cp) := ⟨fun W hW => ⟨hA.below hwl hW, (h1.below hW).ds.fm⟩⟩
  replace l1 : Hid _ := ⟨l1⟩
  replace lt1 : Hid _ := ⟨lt1⟩
  replace s1 : Hid _ := ⟨s1⟩
  replace h : Hid _ := ⟨h⟩
  replace h1 : Hid _ := ⟨h1⟩
  replace hb1 : Hid _ := ⟨hb1⟩
  replace hz1 : Hid _ := ⟨hz1⟩
  have hful := hO.full
  have hidk := hO.id
  replace hO : Hid _ := ⟨hO⟩
  clear hT hU hC hA
  by_cases k0 : t.op = 0
  case neg =>
    have d0 : (t.op != 0) = true := by simp [k0]
    have HX : Hid (¬ P) := ⟨by rw [hP.out]; simp [k0]⟩
    go_enter Tryz.func17, Tryz.ntmps17
    go_wp2_with (first
      | (guard_target =~ wpList _ _ _ (Oper.mk _ (Op.load 43 _) _ _ _ _ :: _) _ _; refine wpList_ld 43 _ rfl rfl _ _ rfl l1.out ?_; simp only [pts])
      | (guard_target =~ wpList _ _ _ (Oper.mk _ (Op.store 43 _ _) _ _ _ _ :: _) _ _; go_must (refine wpList_st 43 _ _ rfl rfl _ _ rfl rfl (s1.out _ rfl) ?_); simp only [pts]))
    go_ret
    exact ⟨Ans.no HX.out, hb1.out⟩
  have d0 : (t.op != 0) = false := by simp [k0]
  have hbg : bgO t.op = true := by rw [k0]; rfl
  rw [hbg, if_pos rfl] at cPr
  replace k0 : Hid _ := ⟨k0⟩
  clear hbg
  have hP2 : Hid (P ↔ (plainB t = true ∧ pairB f.toks 0 t = true ∧ symbolB t.name = true ∧ bet t.id 0 65535 = true ∧ (0 ≤ t.since ∧ t.since ≤ f.ver ∧ 0 ≤ t.blk ∧ t.blk ≤ t.full ∧ t.full ≤ 65535) ∧ telB f.hb t.full = true ∧ telB f.ht t.id = true)) := ⟨by rw [hP.out]; simp [k0.out]⟩
  clear hP
  have cU := fun W => refTells_any f.hb t.full W hful
  have cV := fun W => refTells_any f.ht t.id W hidk
  generalize telB f.hb t.full = q5 at *
  generalize telB f.ht t.id = q6 at *
  generalize plainB t = q1 at *
  generalize pairB f.toks 0 t = q2 at *
  generalize symbolB t.name = q3 at *
  generalize bet t.id 0 65535 = q4 at *
  by_cases eq1 : q1 = false
  · subst eq1
    have HX : Hid (¬ P) := ⟨by rw [hP2.out]; simp⟩
    go_enter Tryz.func17, Tryz.ntmps17
    go_wp2_with (first
      | (guard_target =~ wpList _ _ _ (Oper.mk _ (Op.load 43 _) _ _ _ _ :: _) _ _; go_must (first | refine wpList_ld 43 _ rfl rfl _ _ rfl l1.out ?_ | refine wpList_ld 43 _ rfl rfl _ _ rfl lt1.out ?_); simp only [pts])
      | (guard_target =~ wpList _ _ _ (Oper.mk _ (Op.store 43 _ _) _ _ _ _ :: _) _ _; go_must (refine wpList_st 43 _ _ rfl rfl _ _ rfl rfl (s1.out _ rfl) ?_); simp only [pts])
      | (go_at_call 28; refine cPl.mono ?_; rintro _ wa ⟨rfl, ea⟩)
      | (go_at_call 29; refine (cPr _ ea).mono ?_; rintro _ wb ⟨rfl, eb'⟩; have eb : Below W1.heap.size W1 wb := ea.trans (eb'.mono ea.size); have t1 := (hR.out _ eb).1.c1; simp only [Nat.zero_add] at t1)
      | (go_at_call 30; refine (cSy _).mono ?_; rintro _ wc ⟨rfl, ec'⟩; have ec : Below W1.heap.size W1 wc := eb.trans (ec'.mono eb.size))
      | (go_at_call 31; refine (cNm _ ec).mono ?_; rintro _ wd ⟨rfl, ed'⟩; have ed : Below W1.heap.size W1 wd := ec.trans (ed'.mono ec.size); obtain ⟨y1, y2⟩ := hR.out _ ed; have t5 := y1.c5; have t14 := y1.c14; have t15 := y1.c15; have v2 := y2.c2; simp only [Nat.zero_add] at t5 t14 t15 v2; replace y1 : Hid _ := ⟨y1⟩; replace y2 : Hid _ := ⟨y2⟩))
    go_ret
    exact ⟨Ans.no HX.out, hb1.out.trans (ea.mono hb1.out.size)⟩
  obtain rfl : q1 = true := by simpa using eq1
  by_cases eq2 : q2 = false
  · subst eq2
    have HX : Hid (¬ P) := ⟨by rw [hP2.out]; simp⟩
    go_enter Tryz.func17, Tryz.ntmps17
    go_wp2_with (first
      | (guard_target =~ wpList _ _ _ (Oper.mk _ (Op.load 43 _) _ _ _ _ :: _) _ _; go_must (first | refine wpList_ld 43 _ rfl rfl _ _ rfl l1.out ?_ | refine wpList_ld 43 _ rfl rfl _ _ rfl lt1.out ?_); simp only [pts])
      | (guard_target =~ wpList _ _ _ (Oper.mk _ (Op.store 43 _ _) _ _ _ _ :: _) _ _; go_must (refine wpList_st 43 _ _ rfl rfl _ _ rfl rfl (s1.out _ rfl) ?_); simp only [pts])
      | (go_at_call 28; refine cPl.mono ?_; rintro _ wa ⟨rfl, ea⟩)
      | (go_at_call 29; refine (cPr _ ea).mono ?_; rintro _ wb ⟨rfl, eb'⟩; have eb : Below W1.heap.size W1 wb := ea.trans (eb'.mono ea.size); have t1 := (hR.out _ eb).1.c1; simp only [Nat.zero_add] at t1)
      | (go_at_call 30; refine (cSy _).mono ?_; rintro _ wc ⟨rfl, ec'⟩; have ec : Below W1.heap.size W1 wc := eb.trans (ec'.mono eb.size))
      | (go_at_call 31; refine (cNm _ ec).mono ?_; rintro _ wd ⟨rfl, ed'⟩; have ed : Below W1.heap.size W1 wd := ec.trans (ed'.mono ec.size); obtain ⟨y1, y2⟩ := hR.out _ ed; have t5 := y1.c5; have t14 := y1.c14; have t15 := y1.c15; have v2 := y2.c2; simp only [Nat.zero_add] at t5 t14 t15 v2; replace y1 : Hid _ := ⟨y1⟩; replace y2 : Hid _ := ⟨y2⟩))
    go_ret
    exact ⟨Ans.no HX.out, hb1.out.trans (eb.mono hb1.out.size)⟩
  obtain rfl : q2 = true := by simpa using eq2
  by_cases eq3 : q3 = false
  · subst eq3
    have HX : Hid (¬ P) := ⟨by rw [hP2.out]; simp⟩
    go_enter Tryz.func17, Tryz.ntmps17
    go_wp2_with (first
      | (guard_target =~ wpList _ _ _ (Oper.mk _ (Op.load 43 _) _ _ _ _ :: _) _ _; go_must (first | refine wpList_ld 43 _ rfl rfl _ _ rfl l1.out ?_ | refine wpList_ld 43 _ rfl rfl _ _ rfl lt1.out ?_); simp only [pts])
      | (guard_target =~ wpList _ _ _ (Oper.mk _ (Op.store 43 _ _) _ _ _ _ :: _) _ _; go_must (refine wpList_st 43 _ _ rfl rfl _ _ rfl rfl (s1.out _ rfl) ?_); simp only [pts])
      | (go_at_call 28; refine cPl.mono ?_; rintro _ wa ⟨rfl, ea⟩)
      | (go_at_call 29; refine (cPr _ ea).mono ?_; rintro _ wb ⟨rfl, eb'⟩; have eb : Below W1.heap.size W1 wb := ea.trans (eb'.mono ea.size); have t1 := (hR.out _ eb).1.c1; simp only [Nat.zero_add] at t1)
      | (go_at_call 30; refine (cSy _).mono ?_; rintro _ wc ⟨rfl, ec'⟩; have ec : Below W1.heap.size W1 wc := eb.trans (ec'.mono eb.size))
      | (go_at_call 31; refine (cNm _ ec).mono ?_; rintro _ wd ⟨rfl, ed'⟩; have ed : Below W1.heap.size W1 wd := ec.trans (ed'.mono ec.size); obtain ⟨y1, y2⟩ := hR.out _ ed; have t5 := y1.c5; have t14 := y1.c14; have t15 := y1.c15; have v2 := y2.c2; simp only [Nat.zero_add] at t5 t14 t15 v2; replace y1 : Hid _ := ⟨y1⟩; replace y2 : Hid _ := ⟨y2⟩))
    go_ret
    exact ⟨Ans.no HX.out, hb1.out.trans (ec.mono hb1.out.size)⟩
  obtain rfl : q3 = true := by simpa using eq3
  by_cases eq4 : q4 = false
  · subst eq4
    have HX : Hid (¬ P) := ⟨by rw [hP2.out]; simp⟩
    go_enter Tryz.func17, Tryz.ntmps17
    go_wp2_with (first
      | (guard_target =~ wpList _ _ _ (Oper.mk _ (Op.load 43 _) _ _ _ _ :: _) _ _; go_must (first | refine wpList_ld 43 _ rfl rfl _ _ rfl l1.out ?_ | refine wpList_ld 43 _ rfl rfl _ _ rfl lt1.out ?_); simp only [pts])
      | (guard_target =~ wpList _ _ _ (Oper.mk _ (Op.store 43 _ _) _ _ _ _ :: _) _ _; go_must (refine wpList_st 43 _ _ rfl rfl _ _ rfl rfl (s1.out _ rfl) ?_); simp only [pts])
      | (go_at_call 28; refine cPl.mono ?_; rintro _ wa ⟨rfl, ea⟩)
      | (go_at_call 29; refine (cPr _ ea).mono ?_; rintro _ wb ⟨rfl, eb'⟩; have eb : Below W1.heap.size W1 wb := ea.trans (eb'.mono ea.size); have t1 := (hR.out _ eb).1.c1; simp only [Nat.zero_add] at t1)
      | (go_at_call 30; refine (cSy _).mono ?_; rintro _ wc ⟨rfl, ec'⟩; have ec : Below W1.heap.size W1 wc := eb.trans (ec'.mono eb.size))
      | (go_at_call 31; refine (cNm _ ec).mono ?_; rintro _ wd ⟨rfl, ed'⟩; have ed : Below W1.heap.size W1 wd := ec.trans (ed'.mono ec.size); obtain ⟨y1, y2⟩ := hR.out _ ed; have t5 := y1.c5; have t14 := y1.c14; have t15 := y1.c15; have v2 := y2.c2; simp only [Nat.zero_add] at t5 t14 t15 v2; replace y1 : Hid _ := ⟨y1⟩; replace y2 : Hid _ := ⟨y2⟩))
    go_ret
    exact ⟨Ans.no HX.out, hb1.out.trans (ed.mono hb1.out.size)⟩
  obtain rfl : q4 = true := by simpa using eq4
  have hP3 : Hid (P ↔ ((0 ≤ t.since ∧ t.since ≤ f.ver ∧ 0 ≤ t.blk ∧ t.blk ≤ t.full ∧ t.full ≤ 65535) ∧ q5 = true ∧ q6 = true)) := ⟨by rw [hP2.out]; simp⟩
  clear hP2
  go_enter Tryz.func17, Tryz.ntmps17
  go_wp2_with (first
    | (guard_target =~ wpList _ _ _ (Oper.mk _ (Op.load 43 _) _ _ _ _ :: _) _ _; go_must (first | refine wpList_ld 43 _ rfl rfl _ _ rfl l1.out ?_ | refine wpList_ld 43 _ rfl rfl _ _ rfl lt1.out ?_); simp only [pts])
    | (guard_target =~ wpList _ _ _ (Oper.mk _ (Op.store 43 _ _) _ _ _ _ :: _) _ _; go_must (refine wpList_st 43 _ _ rfl rfl _ _ rfl rfl (s1.out _ rfl) ?_); simp only [pts])
    | (go_at_call 28; refine cPl.mono ?_; rintro _ wa ⟨rfl, ea⟩)
    | (go_at_call 29; refine (cPr _ ea).mono ?_; rintro _ wb ⟨rfl, eb'⟩; have eb : Below W1.heap.size W1 wb := ea.trans (eb'.mono ea.size); have t1 := (hR.out _ eb).1.c1; simp only [Nat.zero_add] at t1)
    | (go_at_call 30; refine (cSy _).mono ?_; rintro _ wc ⟨rfl, ec'⟩; have ec : Below W1.heap.size W1 wc := eb.trans (ec'.mono eb.size))
    | (go_at_call 31; refine (cNm _ ec).mono ?_; rintro _ wd ⟨rfl, ed'⟩; have ed : Below W1.heap.size W1 wd := ec.trans (ed'.mono ec.size); obtain ⟨y1, y2⟩ := hR.out _ ed; have t5 := y1.c5; have t14 := y1.c14; have t15 := y1.c15; have v2 := y2.c2; simp only [Nat.zero_add] at t5 t14 t15 v2; replace y1 : Hid _ := ⟨y1⟩; replace y2 : Hid _ := ⟨y2⟩))
  by_cases k1 : t.since < 0
  · have d1 : decide (t.since < 0) = true := by simp; omega
    have HX : Hid (¬ P) := ⟨by rw [hP3.out]; omega⟩
    go_quiet (fail)
    go_wp2_with fail
    go_ret
    exact ⟨Ans.no HX.out, tdr (hb1.out.trans (ed.mono hb1.out.size))⟩
  have d1 : decide (t.since < 0) = false := by simp; omega
  by_cases k2 : f.ver < t.since
  · have d2 : decide (t.since > f.ver) = true := by simp; omega
    have HX : Hid (¬ P) := ⟨by rw [hP3.out]; omega⟩
    go_quiet (fail)
    go_wp2_with fail
    go_ret
    exact ⟨Ans.no HX.out, tdr (hb1.out.trans (ed.mono hb1.out.size))⟩
  have d2 : decide (t.since > f.ver) = false := by simp; omega
  by_cases k3 : t.blk < 0
  · have d3 : decide (t.blk < 0) = true := by simp; omega
    have HX : Hid (¬ P) := ⟨by rw [hP3.out]; omega⟩
    go_quiet (fail)
    go_wp2_with fail
    go_ret
    exact ⟨Ans.no HX.out, tdr (hb1.out.trans (ed.mono hb1.out.size))⟩
  have d3 : decide (t.blk < 0) = false := by simp; omega
  by_cases k4 : t.full < t.blk
  · have d4 : decide (t.blk > t.full) = true := by simp; omega
    have HX : Hid (¬ P) := ⟨by rw [hP3.out]; omega⟩
    go_quiet (fail)
    go_wp2_with fail
    go_ret
    exact ⟨Ans.no HX.out, tdr (hb1.out.trans (ed.mono hb1.out.size))⟩
  have d4 : decide (t.blk > t.full) = false := by simp; omega
  by_cases k5 : 65535 < t.full
  · have d5 : decide (t.full > 65535) = true := by simp; omega
    have HX : Hid (¬ P) := ⟨by rw [hP3.out]; omega⟩
    go_quiet (fail)
    go_wp2_with fail
    go_ret
    exact ⟨Ans.no HX.out, tdr (hb1.out.trans (ed.mono hb1.out.size))⟩
  have d5 : decide (t.full > 65535) = false := by simp; omega
  have hP4 : Hid (P ↔ (q5 = true ∧ q6 = true)) := ⟨by rw [hP3.out]; constructor; (exact fun h => h.2); (exact fun h => ⟨by omega, h⟩)⟩
  clear hP3 k1 k2 k3 k4 k5
  have hBl : B < wd.heap.size := Nat.lt_of_lt_of_le h1.out.ds.lt ed.size
  have hTl : w.heap.size < wd.heap.size := Nat.lt_of_lt_of_le hwl ed.size
  go_quiet (fail)
  go_wp2_with fail
  obtain ⟨p, p0, pB, hNe, pc', pk⟩ := clsB (wd.drewN nq)
  have f4 : ∀ θ : CW p, θ.w.cell? ⟨B, 4, none⟩ = some (.int .i64 f.hb.p) := fun θ => (pc' B 4 hBl θ).trans y2.out.c4
  have f5 : ∀ θ : CW p, θ.w.cell? ⟨B, 5, none⟩ = some (.int .i64 f.hb.o) := fun θ => (pc' B 5 hBl θ).trans y2.out.c5
  have f6 : ∀ θ : CW p, θ.w.cell? ⟨B, 6, none⟩ = some (.int .i64 f.ht.p) := fun θ => (pc' B 6 hBl θ).trans y2.out.c6
  have f7 : ∀ θ : CW p, θ.w.cell? ⟨B, 7, none⟩ = some (.int .i64 f.ht.o) := fun θ => (pc' B 7 hBl θ).trans y2.out.c7
  have f2 : ∀ θ : CW p, θ.w.cell? ⟨w.heap.size, 2, none⟩ = some (.int .i64 t.id) := fun θ => (pc' w.heap.size 2 hTl θ).trans y1.out.c2
  have f15 : ∀ θ : CW p, θ.w.cell? ⟨w.heap.size, 15, none⟩ = some (.int .i64 t.full) := fun θ => (pc' w.heap.size 15 hTl θ).trans y1.out.c15
  have cP := pk _ _ _ (fun W _ => cU W)
  have cQ := pk _ _ _ (fun W _ => cV W)
  have pB2 : Hid (∀ W, p W → Below w.heap.size w W) := ⟨fun W hW => hb1.out.trans ((ed.trans (((tdr (Below.refl _ _)).trans (pB W hW)).mono ed.size)).mono hb1.out.size)⟩
  clear pc' pk pB
  cases q5 with
  | false =>
    refine wp_region_lp p (by kernel_rfl) (by kernel_rfl) (fun _ _ d _ _ h => by cases d <;> exact h) p0 fun W hp => ?_
    repeat (first | (refine lx_one rfl ?_; (first | go_big_quiet_skip | (go_big_quiet_want; go_big_quiet_op; go_big_quiet_on)); refine wpQuiet_nil ?_) | (refine lx_p2 ent_tells cP hp rfl rfl (by rfl) ?_; intro W hp; simp only [pts]) | (refine lx_p2 ent_tells cQ hp rfl rfl (by rfl) ?_; intro W hp; simp only [pts]) | (refine lx_skip (by rfl) ?_; simp only [pts]))
    refine lx_done ?_
    go_wp2_with fail
    go_ret
    refine ⟨⟨_, rfl, Iff.trans ?_ hP4.out.symm⟩, pB2.out _ hp⟩
    simp
  | true =>
    refine wp_region_lp p (by kernel_rfl) (by kernel_rfl) (fun _ _ d _ _ h => by cases d <;> exact h) p0 fun W hp => ?_
    repeat (first | (refine lx_one rfl ?_; (first | go_big_quiet_skip | (go_big_quiet_want; go_big_quiet_op; go_big_quiet_on)); refine wpQuiet_nil ?_) | (refine lx_p2 ent_tells cP hp rfl rfl (by rfl) ?_; intro W hp; simp only [pts]) | (refine lx_p2 ent_tells cQ hp rfl rfl (by rfl) ?_; intro W hp; simp only [pts]) | (refine lx_skip (by rfl) ?_; simp only [pts]))
    refine lx_done ?_
    go_wp2_with fail
    go_ret
    refine ⟨⟨_, rfl, Iff.trans ?_ hP4.out.symm⟩, pB2.out _ hp⟩
    simp
end Go.Proofs.YtjjhfiddebmgcaaGreatDoor
