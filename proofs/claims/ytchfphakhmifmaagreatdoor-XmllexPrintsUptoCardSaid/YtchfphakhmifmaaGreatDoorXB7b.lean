/- The same, more pieces. -/
import Derived.Test.YtchfphakhmifmaaGreatDoorXB7
namespace Go.Proofs.YtchfphakhmifmaaGreatDoor
open Go.ChangeShapes Go.WideShapes Go.ChangeAt Go.RowKit Go.Shelf Go.Lib
set_option linter.unusedSimpArgs false
set_option maxRecDepth 100000 in
set_option maxHeartbeats 16000000 in
theorem rwrong_2 : WrongAt 2 := by
  intro g o cp n i nm vl p last w hn hv hi hn48 hg q0 q1 q2 q3 hl
  have hi2 : (i : Int) < (n : Int) := by omega
  have HB := Hid.mk' (bel1 w (.cells #[.int .i64 2, .string nm, .string vl, .int .i64 p] 39))
  have HT := Hid.mk' (TK.of (heap_new w (.cells #[.int .i64 2, .string nm, .string vl, .int .i64 p] 39)))
  have cS := fun w => rshape 2 nm vl p w
  have cC := fun w => rChars vl w (by omega)
  by_cases hA : nm.size = 0
  · by_cases hB : vl.size = 0
    · have hS : shpB 2 nm vl = true := by simp [shpB, hA, hB]
      rw [hS] at cS
      cases hT : inT last
      · skip
        have hz : Hid (putE last ⟨2, nm, vl, p⟩ = 40) := by simp [Hid, putE, canF, chkE, shN, shV, shT, hA, hB, hT]
        go_enter Tryz.func38, Tryz.ntmps38
        go_wp2_with (first
          | (go_at_call 60; refine (cS _).mono ?_; clear cS; rintro e w1 ⟨rfl, hb1⟩; replace HB := Hid.mk' (HB.out.trans (hb1.mono HB.out.size)); replace HT := Hid.mk' (HT.out.bel hb1); have t0 := HT.out.c0; have t1 := HT.out.c1; have t2 := HT.out.c2)
          | (go_at_call 43; refine (cX _).mono ?_; clear cX; rintro e w2 ⟨rfl, hb1⟩; replace HB := Hid.mk' (HB.out.trans (hb1.mono HB.out.size)); replace HT := Hid.mk' (HT.out.bel hb1); have t0 := HT.out.c0; have t1 := HT.out.c1; have t2 := HT.out.c2)
          | (go_at_call 41; refine (cC _).mono ?_; clear cC; rintro e w3 ⟨rfl, hb1⟩; replace HB := Hid.mk' (HB.out.trans (hb1.mono HB.out.size)); replace HT := Hid.mk' (HT.out.bel hb1); have t0 := HT.out.c0; have t1 := HT.out.c1; have t2 := HT.out.c2)
          | (go_at_call 61; refine (cH _).mono ?_; clear cH; rintro e w4 ⟨rfl, rfl⟩))
        go_ret
        exact ⟨by rw [hz.out]; rfl, HB.out⟩
      · skip
        by_cases he : (faultN xmlB vl).1 = 0
        · rw [he] at cC
          have hz : Hid (putE last ⟨2, nm, vl, p⟩ = 0) := by simp [Hid, putE, canF, chkE, shN, shV, shT, hA, hB, hT, he]
          go_enter Tryz.func38, Tryz.ntmps38
          go_wp2_with (first
            | (go_at_call 60; refine (cS _).mono ?_; clear cS; rintro e w1 ⟨rfl, hb1⟩; replace HB := Hid.mk' (HB.out.trans (hb1.mono HB.out.size)); replace HT := Hid.mk' (HT.out.bel hb1); have t0 := HT.out.c0; have t1 := HT.out.c1; have t2 := HT.out.c2)
            | (go_at_call 43; refine (cX _).mono ?_; clear cX; rintro e w2 ⟨rfl, hb1⟩; replace HB := Hid.mk' (HB.out.trans (hb1.mono HB.out.size)); replace HT := Hid.mk' (HT.out.bel hb1); have t0 := HT.out.c0; have t1 := HT.out.c1; have t2 := HT.out.c2)
            | (go_at_call 41; refine (cC _).mono ?_; clear cC; rintro e w3 ⟨rfl, hb1⟩; replace HB := Hid.mk' (HB.out.trans (hb1.mono HB.out.size)); replace HT := Hid.mk' (HT.out.bel hb1); have t0 := HT.out.c0; have t1 := HT.out.c1; have t2 := HT.out.c2)
            | (go_at_call 61; refine (cH _).mono ?_; clear cH; rintro e w4 ⟨rfl, rfl⟩))
          go_quiet (fail)
          go_wp2_with fail
          go_ret
          exact ⟨by rw [hz.out]; rfl, bdN HB.out _⟩
        · have k1 : (((faultN xmlB vl).1 : Int) == 0) = false := beq_eq_false_iff_ne.2 (by omega)
          have k2 : ¬ ((faultN xmlB vl).1 : Int) = 0 := by omega
          have hz : Hid (putE last ⟨2, nm, vl, p⟩ = (faultN xmlB vl).1) := by simp [Hid, putE, canF, chkE, shN, shV, shT, hA, hB, hT, he]
          generalize (faultN xmlB vl).1 = er at *
          go_enter Tryz.func38, Tryz.ntmps38
          go_wp2_with (first
            | (go_at_call 60; refine (cS _).mono ?_; clear cS; rintro e w1 ⟨rfl, hb1⟩; replace HB := Hid.mk' (HB.out.trans (hb1.mono HB.out.size)); replace HT := Hid.mk' (HT.out.bel hb1); have t0 := HT.out.c0; have t1 := HT.out.c1; have t2 := HT.out.c2)
            | (go_at_call 43; refine (cX _).mono ?_; clear cX; rintro e w2 ⟨rfl, hb1⟩; replace HB := Hid.mk' (HB.out.trans (hb1.mono HB.out.size)); replace HT := Hid.mk' (HT.out.bel hb1); have t0 := HT.out.c0; have t1 := HT.out.c1; have t2 := HT.out.c2)
            | (go_at_call 41; refine (cC _).mono ?_; clear cC; rintro e w3 ⟨rfl, hb1⟩; replace HB := Hid.mk' (HB.out.trans (hb1.mono HB.out.size)); replace HT := Hid.mk' (HT.out.bel hb1); have t0 := HT.out.c0; have t1 := HT.out.c1; have t2 := HT.out.c2)
            | (go_at_call 61; refine (cH _).mono ?_; clear cH; rintro e w4 ⟨rfl, rfl⟩))
          go_ret
          exact ⟨by rw [hz.out]; rfl, HB.out⟩
    · have hS : shpB 2 nm vl = false := by simp [shpB, hA, hB]
      rw [hS] at cS
      have hz : Hid (putE last ⟨2, nm, vl, p⟩ = 40) := by simp [Hid, putE, canF, chkE, shN, shV, shT, hA, hB]
      go_enter Tryz.func38, Tryz.ntmps38
      go_wp2_with (first
        | (go_at_call 60; refine (cS _).mono ?_; clear cS; rintro e w1 ⟨rfl, hb1⟩; replace HB := Hid.mk' (HB.out.trans (hb1.mono HB.out.size)); replace HT := Hid.mk' (HT.out.bel hb1); have t0 := HT.out.c0; have t1 := HT.out.c1; have t2 := HT.out.c2)
        | (go_at_call 43; refine (cX _).mono ?_; clear cX; rintro e w2 ⟨rfl, hb1⟩; replace HB := Hid.mk' (HB.out.trans (hb1.mono HB.out.size)); replace HT := Hid.mk' (HT.out.bel hb1); have t0 := HT.out.c0; have t1 := HT.out.c1; have t2 := HT.out.c2)
        | (go_at_call 41; refine (cC _).mono ?_; clear cC; rintro e w3 ⟨rfl, hb1⟩; replace HB := Hid.mk' (HB.out.trans (hb1.mono HB.out.size)); replace HT := Hid.mk' (HT.out.bel hb1); have t0 := HT.out.c0; have t1 := HT.out.c1; have t2 := HT.out.c2)
        | (go_at_call 61; refine (cH _).mono ?_; clear cH; rintro e w4 ⟨rfl, rfl⟩))
      go_ret
      exact ⟨by rw [hz.out]; rfl, HB.out⟩
  · have hS : shpB 2 nm vl = false := by simp [shpB, hA]
    rw [hS] at cS
    have hz : Hid (putE last ⟨2, nm, vl, p⟩ = 40) := by simp [Hid, putE, canF, chkE, shN, shV, shT, hA]
    go_enter Tryz.func38, Tryz.ntmps38
    go_wp2_with (first
      | (go_at_call 60; refine (cS _).mono ?_; clear cS; rintro e w1 ⟨rfl, hb1⟩; replace HB := Hid.mk' (HB.out.trans (hb1.mono HB.out.size)); replace HT := Hid.mk' (HT.out.bel hb1); have t0 := HT.out.c0; have t1 := HT.out.c1; have t2 := HT.out.c2)
      | (go_at_call 43; refine (cX _).mono ?_; clear cX; rintro e w2 ⟨rfl, hb1⟩; replace HB := Hid.mk' (HB.out.trans (hb1.mono HB.out.size)); replace HT := Hid.mk' (HT.out.bel hb1); have t0 := HT.out.c0; have t1 := HT.out.c1; have t2 := HT.out.c2)
      | (go_at_call 41; refine (cC _).mono ?_; clear cC; rintro e w3 ⟨rfl, hb1⟩; replace HB := Hid.mk' (HB.out.trans (hb1.mono HB.out.size)); replace HT := Hid.mk' (HT.out.bel hb1); have t0 := HT.out.c0; have t1 := HT.out.c1; have t2 := HT.out.c2)
      | (go_at_call 61; refine (cH _).mono ?_; clear cH; rintro e w4 ⟨rfl, rfl⟩))
    go_ret
    exact ⟨by rw [hz.out]; rfl, HB.out⟩
set_option maxRecDepth 100000 in
set_option maxHeartbeats 16000000 in
theorem rwrong_3 : WrongAt 3 := by
  intro g o cp n i nm vl p last w hn hv hi hn48 hg q0 q1 q2 q3 hl
  have hi2 : (i : Int) < (n : Int) := by omega
  have HB := Hid.mk' (bel1 w (.cells #[.int .i64 3, .string nm, .string vl, .int .i64 p] 39))
  have HT := Hid.mk' (TK.of (heap_new w (.cells #[.int .i64 3, .string nm, .string vl, .int .i64 p] 39)))
  have cS := fun w => rshape 3 nm vl p w
  have cC := fun w => rChars vl w (by omega)
  by_cases hA : nm.size = 0
  · by_cases hB : vl.size = 0
    · have hS : shpB 3 nm vl = true := by simp [shpB, hA, hB]
      rw [hS] at cS
      cases hT : inT last
      · skip
        have hz : Hid (putE last ⟨3, nm, vl, p⟩ = 40) := by simp [Hid, putE, canF, chkE, shN, shV, shT, hA, hB, hT]
        go_enter Tryz.func38, Tryz.ntmps38
        go_wp2_with (first
          | (go_at_call 60; refine (cS _).mono ?_; clear cS; rintro e w1 ⟨rfl, hb1⟩; replace HB := Hid.mk' (HB.out.trans (hb1.mono HB.out.size)); replace HT := Hid.mk' (HT.out.bel hb1); have t0 := HT.out.c0; have t1 := HT.out.c1; have t2 := HT.out.c2)
          | (go_at_call 43; refine (cX _).mono ?_; clear cX; rintro e w2 ⟨rfl, hb1⟩; replace HB := Hid.mk' (HB.out.trans (hb1.mono HB.out.size)); replace HT := Hid.mk' (HT.out.bel hb1); have t0 := HT.out.c0; have t1 := HT.out.c1; have t2 := HT.out.c2)
          | (go_at_call 41; refine (cC _).mono ?_; clear cC; rintro e w3 ⟨rfl, hb1⟩; replace HB := Hid.mk' (HB.out.trans (hb1.mono HB.out.size)); replace HT := Hid.mk' (HT.out.bel hb1); have t0 := HT.out.c0; have t1 := HT.out.c1; have t2 := HT.out.c2)
          | (go_at_call 61; refine (cH _).mono ?_; clear cH; rintro e w4 ⟨rfl, rfl⟩))
        go_ret
        exact ⟨by rw [hz.out]; rfl, HB.out⟩
      · skip
        by_cases he : (faultN xmlB vl).1 = 0
        · rw [he] at cC
          have hz : Hid (putE last ⟨3, nm, vl, p⟩ = 0) := by simp [Hid, putE, canF, chkE, shN, shV, shT, hA, hB, hT, he]
          go_enter Tryz.func38, Tryz.ntmps38
          go_wp2_with (first
            | (go_at_call 60; refine (cS _).mono ?_; clear cS; rintro e w1 ⟨rfl, hb1⟩; replace HB := Hid.mk' (HB.out.trans (hb1.mono HB.out.size)); replace HT := Hid.mk' (HT.out.bel hb1); have t0 := HT.out.c0; have t1 := HT.out.c1; have t2 := HT.out.c2)
            | (go_at_call 43; refine (cX _).mono ?_; clear cX; rintro e w2 ⟨rfl, hb1⟩; replace HB := Hid.mk' (HB.out.trans (hb1.mono HB.out.size)); replace HT := Hid.mk' (HT.out.bel hb1); have t0 := HT.out.c0; have t1 := HT.out.c1; have t2 := HT.out.c2)
            | (go_at_call 41; refine (cC _).mono ?_; clear cC; rintro e w3 ⟨rfl, hb1⟩; replace HB := Hid.mk' (HB.out.trans (hb1.mono HB.out.size)); replace HT := Hid.mk' (HT.out.bel hb1); have t0 := HT.out.c0; have t1 := HT.out.c1; have t2 := HT.out.c2)
            | (go_at_call 61; refine (cH _).mono ?_; clear cH; rintro e w4 ⟨rfl, rfl⟩))
          go_quiet (fail)
          go_wp2_with fail
          go_ret
          exact ⟨by rw [hz.out]; rfl, bdN HB.out _⟩
        · have k1 : (((faultN xmlB vl).1 : Int) == 0) = false := beq_eq_false_iff_ne.2 (by omega)
          have k2 : ¬ ((faultN xmlB vl).1 : Int) = 0 := by omega
          have hz : Hid (putE last ⟨3, nm, vl, p⟩ = (faultN xmlB vl).1) := by simp [Hid, putE, canF, chkE, shN, shV, shT, hA, hB, hT, he]
          generalize (faultN xmlB vl).1 = er at *
          go_enter Tryz.func38, Tryz.ntmps38
          go_wp2_with (first
            | (go_at_call 60; refine (cS _).mono ?_; clear cS; rintro e w1 ⟨rfl, hb1⟩; replace HB := Hid.mk' (HB.out.trans (hb1.mono HB.out.size)); replace HT := Hid.mk' (HT.out.bel hb1); have t0 := HT.out.c0; have t1 := HT.out.c1; have t2 := HT.out.c2)
            | (go_at_call 43; refine (cX _).mono ?_; clear cX; rintro e w2 ⟨rfl, hb1⟩; replace HB := Hid.mk' (HB.out.trans (hb1.mono HB.out.size)); replace HT := Hid.mk' (HT.out.bel hb1); have t0 := HT.out.c0; have t1 := HT.out.c1; have t2 := HT.out.c2)
            | (go_at_call 41; refine (cC _).mono ?_; clear cC; rintro e w3 ⟨rfl, hb1⟩; replace HB := Hid.mk' (HB.out.trans (hb1.mono HB.out.size)); replace HT := Hid.mk' (HT.out.bel hb1); have t0 := HT.out.c0; have t1 := HT.out.c1; have t2 := HT.out.c2)
            | (go_at_call 61; refine (cH _).mono ?_; clear cH; rintro e w4 ⟨rfl, rfl⟩))
          go_ret
          exact ⟨by rw [hz.out]; rfl, HB.out⟩
    · have hS : shpB 3 nm vl = false := by simp [shpB, hA, hB]
      rw [hS] at cS
      have hz : Hid (putE last ⟨3, nm, vl, p⟩ = 40) := by simp [Hid, putE, canF, chkE, shN, shV, shT, hA, hB]
      go_enter Tryz.func38, Tryz.ntmps38
      go_wp2_with (first
        | (go_at_call 60; refine (cS _).mono ?_; clear cS; rintro e w1 ⟨rfl, hb1⟩; replace HB := Hid.mk' (HB.out.trans (hb1.mono HB.out.size)); replace HT := Hid.mk' (HT.out.bel hb1); have t0 := HT.out.c0; have t1 := HT.out.c1; have t2 := HT.out.c2)
        | (go_at_call 43; refine (cX _).mono ?_; clear cX; rintro e w2 ⟨rfl, hb1⟩; replace HB := Hid.mk' (HB.out.trans (hb1.mono HB.out.size)); replace HT := Hid.mk' (HT.out.bel hb1); have t0 := HT.out.c0; have t1 := HT.out.c1; have t2 := HT.out.c2)
        | (go_at_call 41; refine (cC _).mono ?_; clear cC; rintro e w3 ⟨rfl, hb1⟩; replace HB := Hid.mk' (HB.out.trans (hb1.mono HB.out.size)); replace HT := Hid.mk' (HT.out.bel hb1); have t0 := HT.out.c0; have t1 := HT.out.c1; have t2 := HT.out.c2)
        | (go_at_call 61; refine (cH _).mono ?_; clear cH; rintro e w4 ⟨rfl, rfl⟩))
      go_ret
      exact ⟨by rw [hz.out]; rfl, HB.out⟩
  · have hS : shpB 3 nm vl = false := by simp [shpB, hA]
    rw [hS] at cS
    have hz : Hid (putE last ⟨3, nm, vl, p⟩ = 40) := by simp [Hid, putE, canF, chkE, shN, shV, shT, hA]
    go_enter Tryz.func38, Tryz.ntmps38
    go_wp2_with (first
      | (go_at_call 60; refine (cS _).mono ?_; clear cS; rintro e w1 ⟨rfl, hb1⟩; replace HB := Hid.mk' (HB.out.trans (hb1.mono HB.out.size)); replace HT := Hid.mk' (HT.out.bel hb1); have t0 := HT.out.c0; have t1 := HT.out.c1; have t2 := HT.out.c2)
      | (go_at_call 43; refine (cX _).mono ?_; clear cX; rintro e w2 ⟨rfl, hb1⟩; replace HB := Hid.mk' (HB.out.trans (hb1.mono HB.out.size)); replace HT := Hid.mk' (HT.out.bel hb1); have t0 := HT.out.c0; have t1 := HT.out.c1; have t2 := HT.out.c2)
      | (go_at_call 41; refine (cC _).mono ?_; clear cC; rintro e w3 ⟨rfl, hb1⟩; replace HB := Hid.mk' (HB.out.trans (hb1.mono HB.out.size)); replace HT := Hid.mk' (HT.out.bel hb1); have t0 := HT.out.c0; have t1 := HT.out.c1; have t2 := HT.out.c2)
      | (go_at_call 61; refine (cH _).mono ?_; clear cH; rintro e w4 ⟨rfl, rfl⟩))
    go_ret
    exact ⟨by rw [hz.out]; rfl, HB.out⟩
set_option maxRecDepth 100000 in
set_option maxHeartbeats 16000000 in
theorem rwrong_6 : WrongAt 6 := by
  intro g o cp n i nm vl p last w hn hv hi hn48 hg q0 q1 q2 q3 hl
  have hi2 : (i : Int) < (n : Int) := by omega
  have HB := Hid.mk' (bel1 w (.cells #[.int .i64 6, .string nm, .string vl, .int .i64 p] 39))
  have HT := Hid.mk' (TK.of (heap_new w (.cells #[.int .i64 6, .string nm, .string vl, .int .i64 p] 39)))
  have cS := fun w => rshape 6 nm vl p w
  have cC := fun w => rChars vl w (by omega)
  have cH := fun w => rhyphens vl w (by omega)
  by_cases hA : nm.size = 0
  · have hS : shpB 6 nm vl = true := by simp [shpB, hA]
    rw [hS] at cS
    cases hT : inT last
    · skip
      by_cases he : (faultN xmlB vl).1 = 0
      · rw [he] at cC
        cases hy : comB vl
        · rw [hy] at cH
          have hz : Hid (putE last ⟨6, nm, vl, p⟩ = 43) := by simp [Hid, putE, canF, chkE, shN, shV, shT, hA, hT, he, hy]
          go_enter Tryz.func38, Tryz.ntmps38
          go_wp2_with (first
            | (go_at_call 60; refine (cS _).mono ?_; clear cS; rintro e w1 ⟨rfl, hb1⟩; replace HB := Hid.mk' (HB.out.trans (hb1.mono HB.out.size)); replace HT := Hid.mk' (HT.out.bel hb1); have t0 := HT.out.c0; have t1 := HT.out.c1; have t2 := HT.out.c2)
            | (go_at_call 43; refine (cX _).mono ?_; clear cX; rintro e w2 ⟨rfl, hb1⟩; replace HB := Hid.mk' (HB.out.trans (hb1.mono HB.out.size)); replace HT := Hid.mk' (HT.out.bel hb1); have t0 := HT.out.c0; have t1 := HT.out.c1; have t2 := HT.out.c2)
            | (go_at_call 41; refine (cC _).mono ?_; clear cC; rintro e w3 ⟨rfl, hb1⟩; replace HB := Hid.mk' (HB.out.trans (hb1.mono HB.out.size)); replace HT := Hid.mk' (HT.out.bel hb1); have t0 := HT.out.c0; have t1 := HT.out.c1; have t2 := HT.out.c2)
            | (go_at_call 61; refine (cH _).mono ?_; clear cH; rintro e w4 ⟨rfl, rfl⟩))
          go_ret
          exact ⟨by rw [hz.out]; rfl, HB.out⟩
        · rw [hy] at cH
          have hz : Hid (putE last ⟨6, nm, vl, p⟩ = 0) := by simp [Hid, putE, canF, chkE, shN, shV, shT, hA, hT, he, hy]
          go_enter Tryz.func38, Tryz.ntmps38
          go_wp2_with (first
            | (go_at_call 60; refine (cS _).mono ?_; clear cS; rintro e w1 ⟨rfl, hb1⟩; replace HB := Hid.mk' (HB.out.trans (hb1.mono HB.out.size)); replace HT := Hid.mk' (HT.out.bel hb1); have t0 := HT.out.c0; have t1 := HT.out.c1; have t2 := HT.out.c2)
            | (go_at_call 43; refine (cX _).mono ?_; clear cX; rintro e w2 ⟨rfl, hb1⟩; replace HB := Hid.mk' (HB.out.trans (hb1.mono HB.out.size)); replace HT := Hid.mk' (HT.out.bel hb1); have t0 := HT.out.c0; have t1 := HT.out.c1; have t2 := HT.out.c2)
            | (go_at_call 41; refine (cC _).mono ?_; clear cC; rintro e w3 ⟨rfl, hb1⟩; replace HB := Hid.mk' (HB.out.trans (hb1.mono HB.out.size)); replace HT := Hid.mk' (HT.out.bel hb1); have t0 := HT.out.c0; have t1 := HT.out.c1; have t2 := HT.out.c2)
            | (go_at_call 61; refine (cH _).mono ?_; clear cH; rintro e w4 ⟨rfl, rfl⟩))
          go_quiet (fail)
          go_wp2_with fail
          go_ret
          exact ⟨by rw [hz.out]; rfl, bdN HB.out _⟩
      · have k1 : (((faultN xmlB vl).1 : Int) == 0) = false := beq_eq_false_iff_ne.2 (by omega)
        have k2 : ¬ ((faultN xmlB vl).1 : Int) = 0 := by omega
        have hz : Hid (putE last ⟨6, nm, vl, p⟩ = (faultN xmlB vl).1) := by simp [Hid, putE, canF, chkE, shN, shV, shT, hA, hT, he]
        generalize (faultN xmlB vl).1 = er at *
        go_enter Tryz.func38, Tryz.ntmps38
        go_wp2_with (first
          | (go_at_call 60; refine (cS _).mono ?_; clear cS; rintro e w1 ⟨rfl, hb1⟩; replace HB := Hid.mk' (HB.out.trans (hb1.mono HB.out.size)); replace HT := Hid.mk' (HT.out.bel hb1); have t0 := HT.out.c0; have t1 := HT.out.c1; have t2 := HT.out.c2)
          | (go_at_call 43; refine (cX _).mono ?_; clear cX; rintro e w2 ⟨rfl, hb1⟩; replace HB := Hid.mk' (HB.out.trans (hb1.mono HB.out.size)); replace HT := Hid.mk' (HT.out.bel hb1); have t0 := HT.out.c0; have t1 := HT.out.c1; have t2 := HT.out.c2)
          | (go_at_call 41; refine (cC _).mono ?_; clear cC; rintro e w3 ⟨rfl, hb1⟩; replace HB := Hid.mk' (HB.out.trans (hb1.mono HB.out.size)); replace HT := Hid.mk' (HT.out.bel hb1); have t0 := HT.out.c0; have t1 := HT.out.c1; have t2 := HT.out.c2)
          | (go_at_call 61; refine (cH _).mono ?_; clear cH; rintro e w4 ⟨rfl, rfl⟩))
        go_ret
        exact ⟨by rw [hz.out]; rfl, HB.out⟩
    · skip
      have hz : Hid (putE last ⟨6, nm, vl, p⟩ = 40) := by simp [Hid, putE, canF, chkE, shN, shV, shT, hA, hT]
      go_enter Tryz.func38, Tryz.ntmps38
      go_wp2_with (first
        | (go_at_call 60; refine (cS _).mono ?_; clear cS; rintro e w1 ⟨rfl, hb1⟩; replace HB := Hid.mk' (HB.out.trans (hb1.mono HB.out.size)); replace HT := Hid.mk' (HT.out.bel hb1); have t0 := HT.out.c0; have t1 := HT.out.c1; have t2 := HT.out.c2)
        | (go_at_call 43; refine (cX _).mono ?_; clear cX; rintro e w2 ⟨rfl, hb1⟩; replace HB := Hid.mk' (HB.out.trans (hb1.mono HB.out.size)); replace HT := Hid.mk' (HT.out.bel hb1); have t0 := HT.out.c0; have t1 := HT.out.c1; have t2 := HT.out.c2)
        | (go_at_call 41; refine (cC _).mono ?_; clear cC; rintro e w3 ⟨rfl, hb1⟩; replace HB := Hid.mk' (HB.out.trans (hb1.mono HB.out.size)); replace HT := Hid.mk' (HT.out.bel hb1); have t0 := HT.out.c0; have t1 := HT.out.c1; have t2 := HT.out.c2)
        | (go_at_call 61; refine (cH _).mono ?_; clear cH; rintro e w4 ⟨rfl, rfl⟩))
      go_ret
      exact ⟨by rw [hz.out]; rfl, HB.out⟩
  · have hS : shpB 6 nm vl = false := by simp [shpB, hA]
    rw [hS] at cS
    have hz : Hid (putE last ⟨6, nm, vl, p⟩ = 40) := by simp [Hid, putE, canF, chkE, shN, shV, shT, hA]
    go_enter Tryz.func38, Tryz.ntmps38
    go_wp2_with (first
      | (go_at_call 60; refine (cS _).mono ?_; clear cS; rintro e w1 ⟨rfl, hb1⟩; replace HB := Hid.mk' (HB.out.trans (hb1.mono HB.out.size)); replace HT := Hid.mk' (HT.out.bel hb1); have t0 := HT.out.c0; have t1 := HT.out.c1; have t2 := HT.out.c2)
      | (go_at_call 43; refine (cX _).mono ?_; clear cX; rintro e w2 ⟨rfl, hb1⟩; replace HB := Hid.mk' (HB.out.trans (hb1.mono HB.out.size)); replace HT := Hid.mk' (HT.out.bel hb1); have t0 := HT.out.c0; have t1 := HT.out.c1; have t2 := HT.out.c2)
      | (go_at_call 41; refine (cC _).mono ?_; clear cC; rintro e w3 ⟨rfl, hb1⟩; replace HB := Hid.mk' (HB.out.trans (hb1.mono HB.out.size)); replace HT := Hid.mk' (HT.out.bel hb1); have t0 := HT.out.c0; have t1 := HT.out.c1; have t2 := HT.out.c2)
      | (go_at_call 61; refine (cH _).mono ?_; clear cH; rintro e w4 ⟨rfl, rfl⟩))
    go_ret
    exact ⟨by rw [hz.out]; rfl, HB.out⟩
end Go.Proofs.YtchfphakhmifmaaGreatDoor
