/- The same, more pieces. -/
import Derived.Test.YtchfphakhmifmaaGreatDoorXB7
namespace Go.Proofs.YtchfphakhmifmaaGreatDoor
open Go.ChangeShapes Go.WideShapes Go.ChangeAt Go.RowKit Go.Shelf Go.Lib
set_option linter.unusedSimpArgs false
set_option maxRecDepth 100000 in
set_option maxHeartbeats 16000000 in
theorem rwrong_5 : WrongAt 5 := by
  intro g o cp n i nm vl p last w hn hv hi hn48 hg q0 q1 q2 q3 hl
  have hi2 : (i : Int) < (n : Int) := by omega
  have HB := Hid.mk' (bel1 w (.cells #[.int .i64 5, .string nm, .string vl, .int .i64 p] 39))
  have HT := Hid.mk' (TK.of (heap_new w (.cells #[.int .i64 5, .string nm, .string vl, .int .i64 p] 39)))
  have cS := fun w => rshape 5 nm vl p w
  have cC := fun w => rChars vl w (by omega)
  by_cases hA : nm.size = 0
  · by_cases hB : vl.size = 0
    · have hS : shpB 5 nm vl = false := by simp [shpB, hA, hB]
      rw [hS] at cS
      have HQ : Hid (∀ w', Below w.heap.size w w' → True) := fun _ _ => trivial
      have hz : Hid (putE last ⟨5, nm, vl, p⟩ = 40) := by simp [Hid, putE, canF, chkE, shN, shV, shT, hA, hB]
      go_enter Tryz.func38, Tryz.ntmps38
      go_wp2_with (first
        | (go_at_call 60; refine (cS _).mono ?_; clear cS; rintro e w1 ⟨rfl, hb1⟩; replace HB := Hid.mk' (HB.out.trans (hb1.mono HB.out.size)); replace HT := Hid.mk' (HT.out.bel hb1); have t0 := HT.out.c0; have t1 := HT.out.c1; have t2 := HT.out.c2; have qp := HQ.out _ HB.out)
        | (go_at_call 43; refine (cX _).mono ?_; clear cX; rintro e w2 ⟨rfl, hb1⟩; replace HB := Hid.mk' (HB.out.trans (hb1.mono HB.out.size)); replace HT := Hid.mk' (HT.out.bel hb1); have t0 := HT.out.c0; have t1 := HT.out.c1; have t2 := HT.out.c2)
        | (go_at_call 41; refine (cC _).mono ?_; clear cC; rintro e w3 ⟨rfl, hb1⟩; replace HB := Hid.mk' (HB.out.trans (hb1.mono HB.out.size)); replace HT := Hid.mk' (HT.out.bel hb1); have t0 := HT.out.c0; have t1 := HT.out.c1; have t2 := HT.out.c2)
        | (go_at_call 61; refine (cH _).mono ?_; clear cH; rintro e w4 ⟨rfl, rfl⟩))
      go_ret
      exact ⟨by rw [hz.out]; rfl, HB.out⟩
    · have hS : shpB 5 nm vl = true := by simp [shpB, hA, hB]
      rw [hS] at cS
      cases hT : inT last
      · skip
        rcases hl with ⟨hi0, hlm⟩ | ⟨hi0, hq, hl0, hl8⟩
        · have HQ : Hid (∀ w', Below w.heap.size w w' → True) := fun _ _ => trivial
          have hi1 : ¬ (0 : Int) < (i : Int) := by omega
          have h5 : ¬ last = 5 := by omega
          clear hi0 hlm
          by_cases he : (faultN xmlB vl).1 = 0
          · rw [he] at cC
            have hz : Hid (putE last ⟨5, nm, vl, p⟩ = 0) := by simp [Hid, putE, canF, chkE, shN, shV, shT, hA, hB, hT, h5, he]
            go_enter Tryz.func38, Tryz.ntmps38
            go_wp2_with (first
              | (go_at_call 60; refine (cS _).mono ?_; clear cS; rintro e w1 ⟨rfl, hb1⟩; replace HB := Hid.mk' (HB.out.trans (hb1.mono HB.out.size)); replace HT := Hid.mk' (HT.out.bel hb1); have t0 := HT.out.c0; have t1 := HT.out.c1; have t2 := HT.out.c2; have qp := HQ.out _ HB.out)
              | (go_at_call 43; refine (cX _).mono ?_; clear cX; rintro e w2 ⟨rfl, hb1⟩; replace HB := Hid.mk' (HB.out.trans (hb1.mono HB.out.size)); replace HT := Hid.mk' (HT.out.bel hb1); have t0 := HT.out.c0; have t1 := HT.out.c1; have t2 := HT.out.c2)
              | (go_at_call 41; refine (cC _).mono ?_; clear cC; rintro e w3 ⟨rfl, hb1⟩; replace HB := Hid.mk' (HB.out.trans (hb1.mono HB.out.size)); replace HT := Hid.mk' (HT.out.bel hb1); have t0 := HT.out.c0; have t1 := HT.out.c1; have t2 := HT.out.c2)
              | (go_at_call 61; refine (cH _).mono ?_; clear cH; rintro e w4 ⟨rfl, rfl⟩))
            go_quiet (fail)
            go_wp2_with fail
            go_ret
            exact ⟨by rw [hz.out]; rfl, bdN HB.out _⟩
          · have k1 : (((faultN xmlB vl).1 : Int) == 0) = false := beq_eq_false_iff_ne.2 (by omega)
            have k2 : ¬ ((faultN xmlB vl).1 : Int) = 0 := by omega
            have hz : Hid (putE last ⟨5, nm, vl, p⟩ = (faultN xmlB vl).1) := by simp [Hid, putE, canF, chkE, shN, shV, shT, hA, hB, hT, h5, he]
            generalize (faultN xmlB vl).1 = er at *
            go_enter Tryz.func38, Tryz.ntmps38
            go_wp2_with (first
              | (go_at_call 60; refine (cS _).mono ?_; clear cS; rintro e w1 ⟨rfl, hb1⟩; replace HB := Hid.mk' (HB.out.trans (hb1.mono HB.out.size)); replace HT := Hid.mk' (HT.out.bel hb1); have t0 := HT.out.c0; have t1 := HT.out.c1; have t2 := HT.out.c2; have qp := HQ.out _ HB.out)
              | (go_at_call 43; refine (cX _).mono ?_; clear cX; rintro e w2 ⟨rfl, hb1⟩; replace HB := Hid.mk' (HB.out.trans (hb1.mono HB.out.size)); replace HT := Hid.mk' (HT.out.bel hb1); have t0 := HT.out.c0; have t1 := HT.out.c1; have t2 := HT.out.c2)
              | (go_at_call 41; refine (cC _).mono ?_; clear cC; rintro e w3 ⟨rfl, hb1⟩; replace HB := Hid.mk' (HB.out.trans (hb1.mono HB.out.size)); replace HT := Hid.mk' (HT.out.bel hb1); have t0 := HT.out.c0; have t1 := HT.out.c1; have t2 := HT.out.c2)
              | (go_at_call 61; refine (cH _).mono ?_; clear cH; rintro e w4 ⟨rfl, rfl⟩))
            go_ret
            exact ⟨by rw [hz.out]; rfl, HB.out⟩
        · have hi1 : (0 : Int) < (i : Int) := by omega
          have HQ : Hid (∀ w', Below w.heap.size w w' → w'.cell? ⟨g, o + (i - 1) * 4, none⟩ = some (.int .i64 last)) := fun w' h => (h.cell (p := ⟨g, _, none⟩) hg).trans hq
          by_cases h5 : last = 5
          · rw [h5] at HQ
            have hz : Hid (putE last ⟨5, nm, vl, p⟩ = 40) := by simp [Hid, putE, canF, chkE, shN, shV, shT, hA, hB, h5, inT]
            go_enter Tryz.func38, Tryz.ntmps38
            go_wp2_with (first
              | (go_at_call 60; refine (cS _).mono ?_; clear cS; rintro e w1 ⟨rfl, hb1⟩; replace HB := Hid.mk' (HB.out.trans (hb1.mono HB.out.size)); replace HT := Hid.mk' (HT.out.bel hb1); have t0 := HT.out.c0; have t1 := HT.out.c1; have t2 := HT.out.c2; have qp := HQ.out _ HB.out)
              | (go_at_call 43; refine (cX _).mono ?_; clear cX; rintro e w2 ⟨rfl, hb1⟩; replace HB := Hid.mk' (HB.out.trans (hb1.mono HB.out.size)); replace HT := Hid.mk' (HT.out.bel hb1); have t0 := HT.out.c0; have t1 := HT.out.c1; have t2 := HT.out.c2)
              | (go_at_call 41; refine (cC _).mono ?_; clear cC; rintro e w3 ⟨rfl, hb1⟩; replace HB := Hid.mk' (HB.out.trans (hb1.mono HB.out.size)); replace HT := Hid.mk' (HT.out.bel hb1); have t0 := HT.out.c0; have t1 := HT.out.c1; have t2 := HT.out.c2)
              | (go_at_call 61; refine (cH _).mono ?_; clear cH; rintro e w4 ⟨rfl, rfl⟩))
            go_ret
            exact ⟨by rw [hz.out]; rfl, HB.out⟩
          · have h5b : (last == 5) = false := beq_eq_false_iff_ne.2 h5
            by_cases he : (faultN xmlB vl).1 = 0
            · rw [he] at cC
              have hz : Hid (putE last ⟨5, nm, vl, p⟩ = 0) := by simp [Hid, putE, canF, chkE, shN, shV, shT, hA, hB, hT, h5, he]
              go_enter Tryz.func38, Tryz.ntmps38
              go_wp2_with (first
                | (go_at_call 60; refine (cS _).mono ?_; clear cS; rintro e w1 ⟨rfl, hb1⟩; replace HB := Hid.mk' (HB.out.trans (hb1.mono HB.out.size)); replace HT := Hid.mk' (HT.out.bel hb1); have t0 := HT.out.c0; have t1 := HT.out.c1; have t2 := HT.out.c2; have qp := HQ.out _ HB.out)
                | (go_at_call 43; refine (cX _).mono ?_; clear cX; rintro e w2 ⟨rfl, hb1⟩; replace HB := Hid.mk' (HB.out.trans (hb1.mono HB.out.size)); replace HT := Hid.mk' (HT.out.bel hb1); have t0 := HT.out.c0; have t1 := HT.out.c1; have t2 := HT.out.c2)
                | (go_at_call 41; refine (cC _).mono ?_; clear cC; rintro e w3 ⟨rfl, hb1⟩; replace HB := Hid.mk' (HB.out.trans (hb1.mono HB.out.size)); replace HT := Hid.mk' (HT.out.bel hb1); have t0 := HT.out.c0; have t1 := HT.out.c1; have t2 := HT.out.c2)
                | (go_at_call 61; refine (cH _).mono ?_; clear cH; rintro e w4 ⟨rfl, rfl⟩))
              go_quiet (fail)
              go_wp2_with fail
              go_ret
              exact ⟨by rw [hz.out]; rfl, bdN HB.out _⟩
            · have k1 : (((faultN xmlB vl).1 : Int) == 0) = false := beq_eq_false_iff_ne.2 (by omega)
              have k2 : ¬ ((faultN xmlB vl).1 : Int) = 0 := by omega
              have hz : Hid (putE last ⟨5, nm, vl, p⟩ = (faultN xmlB vl).1) := by simp [Hid, putE, canF, chkE, shN, shV, shT, hA, hB, hT, h5, he]
              generalize (faultN xmlB vl).1 = er at *
              go_enter Tryz.func38, Tryz.ntmps38
              go_wp2_with (first
                | (go_at_call 60; refine (cS _).mono ?_; clear cS; rintro e w1 ⟨rfl, hb1⟩; replace HB := Hid.mk' (HB.out.trans (hb1.mono HB.out.size)); replace HT := Hid.mk' (HT.out.bel hb1); have t0 := HT.out.c0; have t1 := HT.out.c1; have t2 := HT.out.c2; have qp := HQ.out _ HB.out)
                | (go_at_call 43; refine (cX _).mono ?_; clear cX; rintro e w2 ⟨rfl, hb1⟩; replace HB := Hid.mk' (HB.out.trans (hb1.mono HB.out.size)); replace HT := Hid.mk' (HT.out.bel hb1); have t0 := HT.out.c0; have t1 := HT.out.c1; have t2 := HT.out.c2)
                | (go_at_call 41; refine (cC _).mono ?_; clear cC; rintro e w3 ⟨rfl, hb1⟩; replace HB := Hid.mk' (HB.out.trans (hb1.mono HB.out.size)); replace HT := Hid.mk' (HT.out.bel hb1); have t0 := HT.out.c0; have t1 := HT.out.c1; have t2 := HT.out.c2)
                | (go_at_call 61; refine (cH _).mono ?_; clear cH; rintro e w4 ⟨rfl, rfl⟩))
              go_ret
              exact ⟨by rw [hz.out]; rfl, HB.out⟩
      · skip
        have HQ : Hid (∀ w', Below w.heap.size w w' → True) := fun _ _ => trivial
        have hz : Hid (putE last ⟨5, nm, vl, p⟩ = 40) := by simp [Hid, putE, canF, chkE, shN, shV, shT, hA, hB, hT]
        go_enter Tryz.func38, Tryz.ntmps38
        go_wp2_with (first
          | (go_at_call 60; refine (cS _).mono ?_; clear cS; rintro e w1 ⟨rfl, hb1⟩; replace HB := Hid.mk' (HB.out.trans (hb1.mono HB.out.size)); replace HT := Hid.mk' (HT.out.bel hb1); have t0 := HT.out.c0; have t1 := HT.out.c1; have t2 := HT.out.c2; have qp := HQ.out _ HB.out)
          | (go_at_call 43; refine (cX _).mono ?_; clear cX; rintro e w2 ⟨rfl, hb1⟩; replace HB := Hid.mk' (HB.out.trans (hb1.mono HB.out.size)); replace HT := Hid.mk' (HT.out.bel hb1); have t0 := HT.out.c0; have t1 := HT.out.c1; have t2 := HT.out.c2)
          | (go_at_call 41; refine (cC _).mono ?_; clear cC; rintro e w3 ⟨rfl, hb1⟩; replace HB := Hid.mk' (HB.out.trans (hb1.mono HB.out.size)); replace HT := Hid.mk' (HT.out.bel hb1); have t0 := HT.out.c0; have t1 := HT.out.c1; have t2 := HT.out.c2)
          | (go_at_call 61; refine (cH _).mono ?_; clear cH; rintro e w4 ⟨rfl, rfl⟩))
        go_ret
        exact ⟨by rw [hz.out]; rfl, HB.out⟩
  · have hS : shpB 5 nm vl = false := by simp [shpB, hA]
    rw [hS] at cS
    have HQ : Hid (∀ w', Below w.heap.size w w' → True) := fun _ _ => trivial
    have hz : Hid (putE last ⟨5, nm, vl, p⟩ = 40) := by simp [Hid, putE, canF, chkE, shN, shV, shT, hA]
    go_enter Tryz.func38, Tryz.ntmps38
    go_wp2_with (first
      | (go_at_call 60; refine (cS _).mono ?_; clear cS; rintro e w1 ⟨rfl, hb1⟩; replace HB := Hid.mk' (HB.out.trans (hb1.mono HB.out.size)); replace HT := Hid.mk' (HT.out.bel hb1); have t0 := HT.out.c0; have t1 := HT.out.c1; have t2 := HT.out.c2; have qp := HQ.out _ HB.out)
      | (go_at_call 43; refine (cX _).mono ?_; clear cX; rintro e w2 ⟨rfl, hb1⟩; replace HB := Hid.mk' (HB.out.trans (hb1.mono HB.out.size)); replace HT := Hid.mk' (HT.out.bel hb1); have t0 := HT.out.c0; have t1 := HT.out.c1; have t2 := HT.out.c2)
      | (go_at_call 41; refine (cC _).mono ?_; clear cC; rintro e w3 ⟨rfl, hb1⟩; replace HB := Hid.mk' (HB.out.trans (hb1.mono HB.out.size)); replace HT := Hid.mk' (HT.out.bel hb1); have t0 := HT.out.c0; have t1 := HT.out.c1; have t2 := HT.out.c2)
      | (go_at_call 61; refine (cH _).mono ?_; clear cH; rintro e w4 ⟨rfl, rfl⟩))
    go_ret
    exact ⟨by rw [hz.out]; rfl, HB.out⟩
set_option maxRecDepth 100000 in
set_option maxHeartbeats 16000000 in
theorem rwrong_7 : WrongAt 7 := by
  intro g o cp n i nm vl p last w hn hv hi hn48 hg q0 q1 q2 q3 hl
  have hi2 : (i : Int) < (n : Int) := by omega
  have HB := Hid.mk' (bel1 w (.cells #[.int .i64 7, .string nm, .string vl, .int .i64 p] 39))
  have HT := Hid.mk' (TK.of (heap_new w (.cells #[.int .i64 7, .string nm, .string vl, .int .i64 p] 39)))
  have cS := fun w => rshape 7 nm vl p w
  have cC := fun w => rChars vl w (by omega)
  have hzs : (vl ++ bSHUT).size = vl.size + 2 := by rw [ByteArray.size_append]; rfl
  have cD := fun w => rDeclared (vl ++ bSHUT) 0 w (Nat.zero_le _) (by omega)
  clear hzs
  by_cases hA : nm.size = 0
  · have hS : shpB 7 nm vl = true := by simp [shpB, hA]
    rw [hS] at cS
    cases hT : inT last
    · skip
      rcases hl with ⟨hi0, hlm⟩ | ⟨hi0, hq, hl0, hl8⟩
      · subst hi0
        simp only [Nat.zero_mul, Nat.add_zero] at q0 q1 q2 q3
        by_cases he : (faultN xmlB vl).1 = 0
        · rw [he] at cC
          have dq := dcl_eq vl
          cases hd : dclB vl
          · rw [hd] at dq
            have d1 : (dclZ (vl ++ bSHUT) 0 == (vl.size : Int)) = false := beq_eq_false_iff_ne.2 (of_decide_eq_false dq)
            have d2 := of_decide_eq_false dq
            have hz : Hid (putE last ⟨7, nm, vl, p⟩ = 44) := by simp [Hid, putE, canF, chkE, shN, shV, shT, hA, hlm, inT, he, hd]
            clear dq
            generalize dclZ (vl ++ bSHUT) 0 = d at *
            go_enter Tryz.func38, Tryz.ntmps38
            go_wp2_with (first
              | (go_at_call 60; refine (cS _).mono ?_; clear cS; rintro e w1 ⟨rfl, hb1⟩; replace HB := Hid.mk' (HB.out.trans (hb1.mono HB.out.size)); replace HT := Hid.mk' (HT.out.bel hb1); have t0 := HT.out.c0; have t1 := HT.out.c1; have t2 := HT.out.c2)
              | (go_at_call 43; refine (cX _).mono ?_; clear cX; rintro e w2 ⟨rfl, hb1⟩; replace HB := Hid.mk' (HB.out.trans (hb1.mono HB.out.size)); replace HT := Hid.mk' (HT.out.bel hb1); have t0 := HT.out.c0; have t1 := HT.out.c1; have t2 := HT.out.c2)
              | (go_at_call 41; refine (cC _).mono ?_; clear cC; rintro e w3 ⟨rfl, hb1⟩; replace HB := Hid.mk' (HB.out.trans (hb1.mono HB.out.size)); replace HT := Hid.mk' (HT.out.bel hb1); have t0 := HT.out.c0; have t1 := HT.out.c1; have t2 := HT.out.c2)
              | (go_at_call 61; refine (cH _).mono ?_; clear cH; rintro e w4 ⟨rfl, rfl⟩))
            go_region_with (go_at_call 62; refine (cD _).mono ?_; rintro e w5 ⟨rfl, hb1⟩; have t2' := (hb1.cell (p := ⟨w.heap.size, 2, none⟩) (by exact HT.out.lt)).trans t2)
            all_goals
              go_wp2_with fail
              go_ret
              exact ⟨by rw [hz.out]; rfl, HB.out.trans ((Below.refl _ _).drew.trans (hb1.mono HB.out.size))⟩
          · rw [hd] at dq
            have hz : Hid (putE last ⟨7, nm, vl, p⟩ = 0) := by simp [Hid, putE, canF, chkE, shN, shV, shT, hA, hlm, inT, he, hd]
            rw [of_decide_eq_true dq] at cD
            clear dq
            go_enter Tryz.func38, Tryz.ntmps38
            go_wp2_with (first
              | (go_at_call 60; refine (cS _).mono ?_; clear cS; rintro e w1 ⟨rfl, hb1⟩; replace HB := Hid.mk' (HB.out.trans (hb1.mono HB.out.size)); replace HT := Hid.mk' (HT.out.bel hb1); have t0 := HT.out.c0; have t1 := HT.out.c1; have t2 := HT.out.c2)
              | (go_at_call 43; refine (cX _).mono ?_; clear cX; rintro e w2 ⟨rfl, hb1⟩; replace HB := Hid.mk' (HB.out.trans (hb1.mono HB.out.size)); replace HT := Hid.mk' (HT.out.bel hb1); have t0 := HT.out.c0; have t1 := HT.out.c1; have t2 := HT.out.c2)
              | (go_at_call 41; refine (cC _).mono ?_; clear cC; rintro e w3 ⟨rfl, hb1⟩; replace HB := Hid.mk' (HB.out.trans (hb1.mono HB.out.size)); replace HT := Hid.mk' (HT.out.bel hb1); have t0 := HT.out.c0; have t1 := HT.out.c1; have t2 := HT.out.c2)
              | (go_at_call 61; refine (cH _).mono ?_; clear cH; rintro e w4 ⟨rfl, rfl⟩))
            go_region_with (go_at_call 62; refine (cD _).mono ?_; rintro e w5 ⟨rfl, hb1⟩; have t2' := (hb1.cell (p := ⟨w.heap.size, 2, none⟩) (by exact HT.out.lt)).trans t2)
            all_goals
              go_wp2_with fail
              go_ret
              exact ⟨by rw [hz.out]; rfl, HB.out.trans ((Below.refl _ _).drew.trans (hb1.mono HB.out.size))⟩
        · have k1 : (((faultN xmlB vl).1 : Int) == 0) = false := beq_eq_false_iff_ne.2 (by omega)
          have k2 : ¬ ((faultN xmlB vl).1 : Int) = 0 := by omega
          have hz : Hid (putE last ⟨7, nm, vl, p⟩ = (faultN xmlB vl).1) := by simp [Hid, putE, canF, chkE, shN, shV, shT, hA, hlm, inT, he]
          generalize (faultN xmlB vl).1 = er at *
          go_enter Tryz.func38, Tryz.ntmps38
          go_wp2_with (first
            | (go_at_call 60; refine (cS _).mono ?_; clear cS; rintro e w1 ⟨rfl, hb1⟩; replace HB := Hid.mk' (HB.out.trans (hb1.mono HB.out.size)); replace HT := Hid.mk' (HT.out.bel hb1); have t0 := HT.out.c0; have t1 := HT.out.c1; have t2 := HT.out.c2)
            | (go_at_call 43; refine (cX _).mono ?_; clear cX; rintro e w2 ⟨rfl, hb1⟩; replace HB := Hid.mk' (HB.out.trans (hb1.mono HB.out.size)); replace HT := Hid.mk' (HT.out.bel hb1); have t0 := HT.out.c0; have t1 := HT.out.c1; have t2 := HT.out.c2)
            | (go_at_call 41; refine (cC _).mono ?_; clear cC; rintro e w3 ⟨rfl, hb1⟩; replace HB := Hid.mk' (HB.out.trans (hb1.mono HB.out.size)); replace HT := Hid.mk' (HT.out.bel hb1); have t0 := HT.out.c0; have t1 := HT.out.c1; have t2 := HT.out.c2)
            | (go_at_call 61; refine (cH _).mono ?_; clear cH; rintro e w4 ⟨rfl, rfl⟩))
          go_ret
          exact ⟨by rw [hz.out]; rfl, HB.out⟩
      · have hi1 : (0 : Int) < (i : Int) := by omega
        have hn1 : last ≠ -1 := by omega
        have hz : Hid (putE last ⟨7, nm, vl, p⟩ = 40) := by simp [Hid, putE, canF, chkE, shN, shV, shT, hA, hT, hn1]
        go_enter Tryz.func38, Tryz.ntmps38
        go_wp2_with (first
          | (go_at_call 60; refine (cS _).mono ?_; clear cS; rintro e w1 ⟨rfl, hb1⟩; replace HB := Hid.mk' (HB.out.trans (hb1.mono HB.out.size)); replace HT := Hid.mk' (HT.out.bel hb1); have t0 := HT.out.c0; have t1 := HT.out.c1; have t2 := HT.out.c2)
          | (go_at_call 43; refine (cX _).mono ?_; clear cX; rintro e w2 ⟨rfl, hb1⟩; replace HB := Hid.mk' (HB.out.trans (hb1.mono HB.out.size)); replace HT := Hid.mk' (HT.out.bel hb1); have t0 := HT.out.c0; have t1 := HT.out.c1; have t2 := HT.out.c2)
          | (go_at_call 41; refine (cC _).mono ?_; clear cC; rintro e w3 ⟨rfl, hb1⟩; replace HB := Hid.mk' (HB.out.trans (hb1.mono HB.out.size)); replace HT := Hid.mk' (HT.out.bel hb1); have t0 := HT.out.c0; have t1 := HT.out.c1; have t2 := HT.out.c2)
          | (go_at_call 61; refine (cH _).mono ?_; clear cH; rintro e w4 ⟨rfl, rfl⟩))
        go_ret
        exact ⟨by rw [hz.out]; rfl, HB.out⟩
    · skip
      have hz : Hid (putE last ⟨7, nm, vl, p⟩ = 40) := by simp [Hid, putE, canF, chkE, shN, shV, shT, hA, hT]
      go_enter Tryz.func38, Tryz.ntmps38
      go_wp2_with (first
        | (go_at_call 60; refine (cS _).mono ?_; clear cS; rintro e w1 ⟨rfl, hb1⟩; replace HB := Hid.mk' (HB.out.trans (hb1.mono HB.out.size)); replace HT := Hid.mk' (HT.out.bel hb1); have t0 := HT.out.c0; have t1 := HT.out.c1; have t2 := HT.out.c2)
        | (go_at_call 43; refine (cX _).mono ?_; clear cX; rintro e w2 ⟨rfl, hb1⟩; replace HB := Hid.mk' (HB.out.trans (hb1.mono HB.out.size)); replace HT := Hid.mk' (HT.out.bel hb1); have t0 := HT.out.c0; have t1 := HT.out.c1; have t2 := HT.out.c2)
        | (go_at_call 41; refine (cC _).mono ?_; clear cC; rintro e w3 ⟨rfl, hb1⟩; replace HB := Hid.mk' (HB.out.trans (hb1.mono HB.out.size)); replace HT := Hid.mk' (HT.out.bel hb1); have t0 := HT.out.c0; have t1 := HT.out.c1; have t2 := HT.out.c2)
        | (go_at_call 61; refine (cH _).mono ?_; clear cH; rintro e w4 ⟨rfl, rfl⟩))
      go_ret
      exact ⟨by rw [hz.out]; rfl, HB.out⟩
  · have hS : shpB 7 nm vl = false := by simp [shpB, hA]
    rw [hS] at cS
    have hz : Hid (putE last ⟨7, nm, vl, p⟩ = 40) := by simp [Hid, putE, canF, chkE, shN, shV, shT, hA]
    go_enter Tryz.func38, Tryz.ntmps38
    go_wp2_with (first
      | (go_at_call 60; refine (cS _).mono ?_; clear cS; rintro e w1 ⟨rfl, hb1⟩; replace HB := Hid.mk' (HB.out.trans (hb1.mono HB.out.size)); replace HT := Hid.mk' (HT.out.bel hb1); have t0 := HT.out.c0; have t1 := HT.out.c1; have t2 := HT.out.c2)
      | (go_at_call 43; refine (cX _).mono ?_; clear cX; rintro e w2 ⟨rfl, hb1⟩; replace HB := Hid.mk' (HB.out.trans (hb1.mono HB.out.size)); replace HT := Hid.mk' (HT.out.bel hb1); have t0 := HT.out.c0; have t1 := HT.out.c1; have t2 := HT.out.c2)
      | (go_at_call 41; refine (cC _).mono ?_; clear cC; rintro e w3 ⟨rfl, hb1⟩; replace HB := Hid.mk' (HB.out.trans (hb1.mono HB.out.size)); replace HT := Hid.mk' (HT.out.bel hb1); have t0 := HT.out.c0; have t1 := HT.out.c1; have t2 := HT.out.c2)
      | (go_at_call 61; refine (cH _).mono ?_; clear cH; rintro e w4 ⟨rfl, rfl⟩))
    go_ret
    exact ⟨by rw [hz.out]; rfl, HB.out⟩
end Go.Proofs.YtchfphakhmifmaaGreatDoor
