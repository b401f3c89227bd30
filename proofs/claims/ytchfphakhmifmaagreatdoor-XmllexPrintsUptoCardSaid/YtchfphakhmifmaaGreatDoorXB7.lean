/- The document's answer: what is wrong with a piece. -/
import Derived.Test.YtchfphakhmifmaaGreatDoorXB6
import Derived.Test.YtchfphakhmifmaaGreatDoorMD
import Derived.Test.YtchfphakhmifmaaGreatDoorMR
namespace Go.Proofs.YtchfphakhmifmaaGreatDoor
open Go.ChangeShapes Go.WideShapes Go.ChangeAt Go.RowKit Go.Shelf Go.Lib
set_option linter.unusedSimpArgs false

theorem TK.bel {w w' : World} {b : Nat} {x0 x1 x2 x3 : Value} (h : TK w b x0 x1 x2 x3) (hb : Below w.heap.size w w') : TK w' b x0 x1 x2 x3 :=
  ⟨(hb.cell (p := ⟨b, _, none⟩) h.lt).trans h.c0, (hb.cell (p := ⟨b, _, none⟩) h.lt).trans h.c1, (hb.cell (p := ⟨b, _, none⟩) h.lt).trans h.c2, (hb.cell (p := ⟨b, _, none⟩) h.lt).trans h.c3, fun o => (hb.frozen (p := ⟨b, o, none⟩) h.lt).trans (h.fz o)⟩
/-- What the document's wrong answers at a piece of a row. -/
def WrongAt (k : Int) : Prop := ∀ (g o cp n i : Nat) (nm vl : ByteArray) (p last : Int) (w : World), nm.size ≤ 16777216 → vl.size ≤ 16777216 → i < n → n ≤ 281474976710656 → g < w.heap.size →
  w.cell? ⟨g, o + i * 4, none⟩ = some (.int .i64 k) → w.cell? ⟨g, o + i * 4 + 1, none⟩ = some (.string nm) → w.cell? ⟨g, o + i * 4 + 2, none⟩ = some (.string vl) → w.cell? ⟨g, o + i * 4 + 3, none⟩ = some (.int .i64 p) →
  ((i = 0 ∧ last = -1) ∨ (0 < i ∧ w.cell? ⟨g, o + (i - 1) * 4, none⟩ = some (.int .i64 last) ∧ 0 ≤ last ∧ last < 8)) →
  Calls Tryz.prog 38 #[.slice (some ⟨g, o, none⟩) n cp, .int .i64 (i : Int), .bool (inT last)] w fun e w' => e = .returned (.int .i64 (putE last ⟨k, nm, vl, p⟩ : Int)) ∧ Below w.heap.size w w'
set_option maxRecDepth 100000 in
set_option maxHeartbeats 16000000 in
theorem rwrong_0 : WrongAt 0 := by
  intro g o cp n i nm vl p last w hn hv hi hn48 hg q0 q1 q2 q3 hl
  have hi2 : (i : Int) < (n : Int) := by omega
  have HB := Hid.mk' (bel1 w (.cells #[.int .i64 0, .string nm, .string vl, .int .i64 p] 39))
  have HT := Hid.mk' (TK.of (heap_new w (.cells #[.int .i64 0, .string nm, .string vl, .int .i64 p] 39)))
  have cS := fun w => rshape 0 nm vl p w
  have cX := fun w => rXMLName nm (by omega) w
  have cC := fun w => rChars vl w (by omega)
  by_cases hB : vl.size = 0
  · have hS : shpB 0 nm vl = true := by simp [shpB, hB]
    rw [hS] at cS
    cases hT : inT last
    · skip
      cases hx : xmlNameB nm
      · rw [hx] at cX
        have hz : Hid (putE last ⟨0, nm, vl, p⟩ = 42) := by simp [Hid, putE, canF, chkE, shN, shV, shT, hB, hT, hx]
        go_enter Tryz.func38, Tryz.ntmps38
        go_wp2_with (first
          | (go_at_call 60; refine (cS _).mono ?_; clear cS; rintro e w1 ⟨rfl, hb1⟩; replace HB := Hid.mk' (HB.out.trans (hb1.mono HB.out.size)); replace HT := Hid.mk' (HT.out.bel hb1); have t0 := HT.out.c0; have t1 := HT.out.c1; have t2 := HT.out.c2)
          | (go_at_call 43; refine (cX _).mono ?_; clear cX; rintro e w2 ⟨rfl, hb1⟩; replace HB := Hid.mk' (HB.out.trans (hb1.mono HB.out.size)); replace HT := Hid.mk' (HT.out.bel hb1); have t0 := HT.out.c0; have t1 := HT.out.c1; have t2 := HT.out.c2)
          | (go_at_call 41; refine (cC _).mono ?_; clear cC; rintro e w3 ⟨rfl, hb1⟩; replace HB := Hid.mk' (HB.out.trans (hb1.mono HB.out.size)); replace HT := Hid.mk' (HT.out.bel hb1); have t0 := HT.out.c0; have t1 := HT.out.c1; have t2 := HT.out.c2)
          | (go_at_call 61; refine (cH _).mono ?_; clear cH; rintro e w4 ⟨rfl, rfl⟩))
        go_ret
        exact ⟨by rw [hz.out]; rfl, HB.out⟩
      · rw [hx] at cX
        by_cases he : (faultN xmlB vl).1 = 0
        · rw [he] at cC
          have hz : Hid (putE last ⟨0, nm, vl, p⟩ = 0) := by simp [Hid, putE, canF, chkE, shN, shV, shT, hB, hT, hx, he]
          go_enter Tryz.func38, Tryz.ntmps38
          go_wp2_with (first
            | (go_at_call 60; refine (cS _).mono ?_; clear cS; rintro e w1 ⟨rfl, hb1⟩; replace HB := Hid.mk' (HB.out.trans (hb1.mono HB.out.size)); replace HT := Hid.mk' (HT.out.bel hb1); have t0 := HT.out.c0; have t1 := HT.out.c1; have t2 := HT.out.c2)
            | (go_at_call 43; refine (cX _).mono ?_; clear cX; rintro e w2 ⟨rfl, hb1⟩; replace HB := Hid.mk' (HB.out.trans (hb1.mono HB.out.size)); replace HT := Hid.mk' (HT.out.bel hb1); have t0 := HT.out.c0; have t1 := HT.out.c1; have t2 := HT.out.c2)
            | (go_at_call 41; refine (cC _).mono ?_; clear cC; rintro e w3 ⟨rfl, hb1⟩; replace HB := Hid.mk' (HB.out.trans (hb1.mono HB.out.size)); replace HT := Hid.mk' (HT.out.bel hb1); have t0 := HT.out.c0; have t1 := HT.out.c1; have t2 := HT.out.c2)
            | (go_at_call 61; refine (cH _).mono ?_; clear cH; rintro e w4 ⟨rfl, rfl⟩))
          go_quiet (fail)
          go_wp2_with fail
          go_ret
          exact ⟨by rw [hz.out]; rfl, bdN HB.out _⟩
        · have k1 : (((faultN xmlB vl).1 : Int) == 0) = false := beq_eq_false_iff_ne.2 (by omega)
          have k2 : ¬ ((faultN xmlB vl).1 : Int) = 0 := by omega
          have hz : Hid (putE last ⟨0, nm, vl, p⟩ = (faultN xmlB vl).1) := by simp [Hid, putE, canF, chkE, shN, shV, shT, hB, hT, hx, he]
          generalize (faultN xmlB vl).1 = er at *
          go_enter Tryz.func38, Tryz.ntmps38
          go_wp2_with (first
            | (go_at_call 60; refine (cS _).mono ?_; clear cS; rintro e w1 ⟨rfl, hb1⟩; replace HB := Hid.mk' (HB.out.trans (hb1.mono HB.out.size)); replace HT := Hid.mk' (HT.out.bel hb1); have t0 := HT.out.c0; have t1 := HT.out.c1; have t2 := HT.out.c2)
            | (go_at_call 43; refine (cX _).mono ?_; clear cX; rintro e w2 ⟨rfl, hb1⟩; replace HB := Hid.mk' (HB.out.trans (hb1.mono HB.out.size)); replace HT := Hid.mk' (HT.out.bel hb1); have t0 := HT.out.c0; have t1 := HT.out.c1; have t2 := HT.out.c2)
            | (go_at_call 41; refine (cC _).mono ?_; clear cC; rintro e w3 ⟨rfl, hb1⟩; replace HB := Hid.mk' (HB.out.trans (hb1.mono HB.out.size)); replace HT := Hid.mk' (HT.out.bel hb1); have t0 := HT.out.c0; have t1 := HT.out.c1; have t2 := HT.out.c2)
            | (go_at_call 61; refine (cH _).mono ?_; clear cH; rintro e w4 ⟨rfl, rfl⟩))
          go_ret
          exact ⟨by rw [hz.out]; rfl, HB.out⟩
    · skip
      have hz : Hid (putE last ⟨0, nm, vl, p⟩ = 40) := by simp [Hid, putE, canF, chkE, shN, shV, shT, hB, hT]
      go_enter Tryz.func38, Tryz.ntmps38
      go_wp2_with (first
        | (go_at_call 60; refine (cS _).mono ?_; clear cS; rintro e w1 ⟨rfl, hb1⟩; replace HB := Hid.mk' (HB.out.trans (hb1.mono HB.out.size)); replace HT := Hid.mk' (HT.out.bel hb1); have t0 := HT.out.c0; have t1 := HT.out.c1; have t2 := HT.out.c2)
        | (go_at_call 43; refine (cX _).mono ?_; clear cX; rintro e w2 ⟨rfl, hb1⟩; replace HB := Hid.mk' (HB.out.trans (hb1.mono HB.out.size)); replace HT := Hid.mk' (HT.out.bel hb1); have t0 := HT.out.c0; have t1 := HT.out.c1; have t2 := HT.out.c2)
        | (go_at_call 41; refine (cC _).mono ?_; clear cC; rintro e w3 ⟨rfl, hb1⟩; replace HB := Hid.mk' (HB.out.trans (hb1.mono HB.out.size)); replace HT := Hid.mk' (HT.out.bel hb1); have t0 := HT.out.c0; have t1 := HT.out.c1; have t2 := HT.out.c2)
        | (go_at_call 61; refine (cH _).mono ?_; clear cH; rintro e w4 ⟨rfl, rfl⟩))
      go_ret
      exact ⟨by rw [hz.out]; rfl, HB.out⟩
  · have hS : shpB 0 nm vl = false := by simp [shpB, hB]
    rw [hS] at cS
    have hz : Hid (putE last ⟨0, nm, vl, p⟩ = 40) := by simp [Hid, putE, canF, chkE, shN, shV, shT, hB]
    go_enter Tryz.func38, Tryz.ntmps38
    go_wp2_with (first
      | (go_at_call 60; refine (cS _).mono ?_; clear cS; rintro e w1 ⟨rfl, hb1⟩; replace HB := Hid.mk' (HB.out.trans (hb1.mono HB.out.size)); replace HT := Hid.mk' (HT.out.bel hb1); have t0 := HT.out.c0; have t1 := HT.out.c1; have t2 := HT.out.c2)
      | (go_at_call 43; refine (cX _).mono ?_; clear cX; rintro e w2 ⟨rfl, hb1⟩; replace HB := Hid.mk' (HB.out.trans (hb1.mono HB.out.size)); replace HT := Hid.mk' (HT.out.bel hb1); have t0 := HT.out.c0; have t1 := HT.out.c1; have t2 := HT.out.c2)
      | (go_at_call 41; refine (cC _).mono ?_; clear cC; rintro e w3 ⟨rfl, hb1⟩; replace HB := Hid.mk' (HB.out.trans (hb1.mono HB.out.size)); replace HT := Hid.mk' (HT.out.bel hb1); have t0 := HT.out.c0; have t1 := HT.out.c1; have t2 := HT.out.c2)
      | (go_at_call 61; refine (cH _).mono ?_; clear cH; rintro e w4 ⟨rfl, rfl⟩))
    go_ret
    exact ⟨by rw [hz.out]; rfl, HB.out⟩
set_option maxRecDepth 100000 in
set_option maxHeartbeats 16000000 in
theorem rwrong_1 : WrongAt 1 := by
  intro g o cp n i nm vl p last w hn hv hi hn48 hg q0 q1 q2 q3 hl
  have hi2 : (i : Int) < (n : Int) := by omega
  have HB := Hid.mk' (bel1 w (.cells #[.int .i64 1, .string nm, .string vl, .int .i64 p] 39))
  have HT := Hid.mk' (TK.of (heap_new w (.cells #[.int .i64 1, .string nm, .string vl, .int .i64 p] 39)))
  have cS := fun w => rshape 1 nm vl p w
  have cX := fun w => rXMLName nm (by omega) w
  have cC := fun w => rChars vl w (by omega)
  have hS : shpB 1 nm vl = true := by simp [shpB]
  rw [hS] at cS
  cases hT : inT last
  · skip
    have hz : Hid (putE last ⟨1, nm, vl, p⟩ = 40) := by simp [Hid, putE, canF, chkE, shN, shV, shT, hT]
    go_enter Tryz.func38, Tryz.ntmps38
    go_wp2_with (first
      | (go_at_call 60; refine (cS _).mono ?_; clear cS; rintro e w1 ⟨rfl, hb1⟩; replace HB := Hid.mk' (HB.out.trans (hb1.mono HB.out.size)); replace HT := Hid.mk' (HT.out.bel hb1); have t0 := HT.out.c0; have t1 := HT.out.c1; have t2 := HT.out.c2)
      | (go_at_call 43; refine (cX _).mono ?_; clear cX; rintro e w2 ⟨rfl, hb1⟩; replace HB := Hid.mk' (HB.out.trans (hb1.mono HB.out.size)); replace HT := Hid.mk' (HT.out.bel hb1); have t0 := HT.out.c0; have t1 := HT.out.c1; have t2 := HT.out.c2)
      | (go_at_call 41; refine (cC _).mono ?_; clear cC; rintro e w3 ⟨rfl, hb1⟩; replace HB := Hid.mk' (HB.out.trans (hb1.mono HB.out.size)); replace HT := Hid.mk' (HT.out.bel hb1); have t0 := HT.out.c0; have t1 := HT.out.c1; have t2 := HT.out.c2)
      | (go_at_call 61; refine (cH _).mono ?_; clear cH; rintro e w4 ⟨rfl, rfl⟩))
    go_ret
    exact ⟨by rw [hz.out]; rfl, HB.out⟩
  · skip
    cases hx : xmlNameB nm
    · rw [hx] at cX
      have hz : Hid (putE last ⟨1, nm, vl, p⟩ = 42) := by simp [Hid, putE, canF, chkE, shN, shV, shT, hT, hx]
      go_enter Tryz.func38, Tryz.ntmps38
      go_wp2_with (first
        | (go_at_call 60; refine (cS _).mono ?_; clear cS; rintro e w1 ⟨rfl, hb1⟩; replace HB := Hid.mk' (HB.out.trans (hb1.mono HB.out.size)); replace HT := Hid.mk' (HT.out.bel hb1); have t0 := HT.out.c0; have t1 := HT.out.c1; have t2 := HT.out.c2)
        | (go_at_call 43; refine (cX _).mono ?_; clear cX; rintro e w2 ⟨rfl, hb1⟩; replace HB := Hid.mk' (HB.out.trans (hb1.mono HB.out.size)); replace HT := Hid.mk' (HT.out.bel hb1); have t0 := HT.out.c0; have t1 := HT.out.c1; have t2 := HT.out.c2)
        | (go_at_call 41; refine (cC _).mono ?_; clear cC; rintro e w3 ⟨rfl, hb1⟩; replace HB := Hid.mk' (HB.out.trans (hb1.mono HB.out.size)); replace HT := Hid.mk' (HT.out.bel hb1); have t0 := HT.out.c0; have t1 := HT.out.c1; have t2 := HT.out.c2)
        | (go_at_call 61; refine (cH _).mono ?_; clear cH; rintro e w4 ⟨rfl, rfl⟩))
      go_ret
      exact ⟨by rw [hz.out]; rfl, HB.out⟩
    · rw [hx] at cX
      by_cases he : (faultN xmlB vl).1 = 0
      · rw [he] at cC
        have hz : Hid (putE last ⟨1, nm, vl, p⟩ = 0) := by simp [Hid, putE, canF, chkE, shN, shV, shT, hT, hx, he]
        go_enter Tryz.func38, Tryz.ntmps38
        go_wp2_with (first
          | (go_at_call 60; refine (cS _).mono ?_; clear cS; rintro e w1 ⟨rfl, hb1⟩; replace HB := Hid.mk' (HB.out.trans (hb1.mono HB.out.size)); replace HT := Hid.mk' (HT.out.bel hb1); have t0 := HT.out.c0; have t1 := HT.out.c1; have t2 := HT.out.c2)
          | (go_at_call 43; refine (cX _).mono ?_; clear cX; rintro e w2 ⟨rfl, hb1⟩; replace HB := Hid.mk' (HB.out.trans (hb1.mono HB.out.size)); replace HT := Hid.mk' (HT.out.bel hb1); have t0 := HT.out.c0; have t1 := HT.out.c1; have t2 := HT.out.c2)
          | (go_at_call 41; refine (cC _).mono ?_; clear cC; rintro e w3 ⟨rfl, hb1⟩; replace HB := Hid.mk' (HB.out.trans (hb1.mono HB.out.size)); replace HT := Hid.mk' (HT.out.bel hb1); have t0 := HT.out.c0; have t1 := HT.out.c1; have t2 := HT.out.c2)
          | (go_at_call 61; refine (cH _).mono ?_; clear cH; rintro e w4 ⟨rfl, rfl⟩))
        go_quiet (fail)
        go_wp2_with fail
        go_ret
        exact ⟨by rw [hz.out]; rfl, bdN HB.out _⟩
      · have k1 : (((faultN xmlB vl).1 : Int) == 0) = false := beq_eq_false_iff_ne.2 (by omega)
        have k2 : ¬ ((faultN xmlB vl).1 : Int) = 0 := by omega
        have hz : Hid (putE last ⟨1, nm, vl, p⟩ = (faultN xmlB vl).1) := by simp [Hid, putE, canF, chkE, shN, shV, shT, hT, hx, he]
        generalize (faultN xmlB vl).1 = er at *
        go_enter Tryz.func38, Tryz.ntmps38
        go_wp2_with (first
          | (go_at_call 60; refine (cS _).mono ?_; clear cS; rintro e w1 ⟨rfl, hb1⟩; replace HB := Hid.mk' (HB.out.trans (hb1.mono HB.out.size)); replace HT := Hid.mk' (HT.out.bel hb1); have t0 := HT.out.c0; have t1 := HT.out.c1; have t2 := HT.out.c2)
          | (go_at_call 43; refine (cX _).mono ?_; clear cX; rintro e w2 ⟨rfl, hb1⟩; replace HB := Hid.mk' (HB.out.trans (hb1.mono HB.out.size)); replace HT := Hid.mk' (HT.out.bel hb1); have t0 := HT.out.c0; have t1 := HT.out.c1; have t2 := HT.out.c2)
          | (go_at_call 41; refine (cC _).mono ?_; clear cC; rintro e w3 ⟨rfl, hb1⟩; replace HB := Hid.mk' (HB.out.trans (hb1.mono HB.out.size)); replace HT := Hid.mk' (HT.out.bel hb1); have t0 := HT.out.c0; have t1 := HT.out.c1; have t2 := HT.out.c2)
          | (go_at_call 61; refine (cH _).mono ?_; clear cH; rintro e w4 ⟨rfl, rfl⟩))
        go_ret
        exact ⟨by rw [hz.out]; rfl, HB.out⟩
set_option maxRecDepth 100000 in
set_option maxHeartbeats 16000000 in
theorem rwrong_4 : WrongAt 4 := by
  intro g o cp n i nm vl p last w hn hv hi hn48 hg q0 q1 q2 q3 hl
  have hi2 : (i : Int) < (n : Int) := by omega
  have HB := Hid.mk' (bel1 w (.cells #[.int .i64 4, .string nm, .string vl, .int .i64 p] 39))
  have HT := Hid.mk' (TK.of (heap_new w (.cells #[.int .i64 4, .string nm, .string vl, .int .i64 p] 39)))
  have cS := fun w => rshape 4 nm vl p w
  have cX := fun w => rXMLName nm (by omega) w
  have cC := fun w => rChars vl w (by omega)
  by_cases hB : vl.size = 0
  · have hS : shpB 4 nm vl = true := by simp [shpB, hB]
    rw [hS] at cS
    cases hT : inT last
    · skip
      cases hx : xmlNameB nm
      · rw [hx] at cX
        have hz : Hid (putE last ⟨4, nm, vl, p⟩ = 42) := by simp [Hid, putE, canF, chkE, shN, shV, shT, hB, hT, hx]
        go_enter Tryz.func38, Tryz.ntmps38
        go_wp2_with (first
          | (go_at_call 60; refine (cS _).mono ?_; clear cS; rintro e w1 ⟨rfl, hb1⟩; replace HB := Hid.mk' (HB.out.trans (hb1.mono HB.out.size)); replace HT := Hid.mk' (HT.out.bel hb1); have t0 := HT.out.c0; have t1 := HT.out.c1; have t2 := HT.out.c2)
          | (go_at_call 43; refine (cX _).mono ?_; clear cX; rintro e w2 ⟨rfl, hb1⟩; replace HB := Hid.mk' (HB.out.trans (hb1.mono HB.out.size)); replace HT := Hid.mk' (HT.out.bel hb1); have t0 := HT.out.c0; have t1 := HT.out.c1; have t2 := HT.out.c2)
          | (go_at_call 41; refine (cC _).mono ?_; clear cC; rintro e w3 ⟨rfl, hb1⟩; replace HB := Hid.mk' (HB.out.trans (hb1.mono HB.out.size)); replace HT := Hid.mk' (HT.out.bel hb1); have t0 := HT.out.c0; have t1 := HT.out.c1; have t2 := HT.out.c2)
          | (go_at_call 61; refine (cH _).mono ?_; clear cH; rintro e w4 ⟨rfl, rfl⟩))
        go_ret
        exact ⟨by rw [hz.out]; rfl, HB.out⟩
      · rw [hx] at cX
        by_cases he : (faultN xmlB vl).1 = 0
        · rw [he] at cC
          have hz : Hid (putE last ⟨4, nm, vl, p⟩ = 0) := by simp [Hid, putE, canF, chkE, shN, shV, shT, hB, hT, hx, he]
          go_enter Tryz.func38, Tryz.ntmps38
          go_wp2_with (first
            | (go_at_call 60; refine (cS _).mono ?_; clear cS; rintro e w1 ⟨rfl, hb1⟩; replace HB := Hid.mk' (HB.out.trans (hb1.mono HB.out.size)); replace HT := Hid.mk' (HT.out.bel hb1); have t0 := HT.out.c0; have t1 := HT.out.c1; have t2 := HT.out.c2)
            | (go_at_call 43; refine (cX _).mono ?_; clear cX; rintro e w2 ⟨rfl, hb1⟩; replace HB := Hid.mk' (HB.out.trans (hb1.mono HB.out.size)); replace HT := Hid.mk' (HT.out.bel hb1); have t0 := HT.out.c0; have t1 := HT.out.c1; have t2 := HT.out.c2)
            | (go_at_call 41; refine (cC _).mono ?_; clear cC; rintro e w3 ⟨rfl, hb1⟩; replace HB := Hid.mk' (HB.out.trans (hb1.mono HB.out.size)); replace HT := Hid.mk' (HT.out.bel hb1); have t0 := HT.out.c0; have t1 := HT.out.c1; have t2 := HT.out.c2)
            | (go_at_call 61; refine (cH _).mono ?_; clear cH; rintro e w4 ⟨rfl, rfl⟩))
          go_quiet (fail)
          go_wp2_with fail
          go_ret
          exact ⟨by rw [hz.out]; rfl, bdN HB.out _⟩
        · have k1 : (((faultN xmlB vl).1 : Int) == 0) = false := beq_eq_false_iff_ne.2 (by omega)
          have k2 : ¬ ((faultN xmlB vl).1 : Int) = 0 := by omega
          have hz : Hid (putE last ⟨4, nm, vl, p⟩ = (faultN xmlB vl).1) := by simp [Hid, putE, canF, chkE, shN, shV, shT, hB, hT, hx, he]
          generalize (faultN xmlB vl).1 = er at *
          go_enter Tryz.func38, Tryz.ntmps38
          go_wp2_with (first
            | (go_at_call 60; refine (cS _).mono ?_; clear cS; rintro e w1 ⟨rfl, hb1⟩; replace HB := Hid.mk' (HB.out.trans (hb1.mono HB.out.size)); replace HT := Hid.mk' (HT.out.bel hb1); have t0 := HT.out.c0; have t1 := HT.out.c1; have t2 := HT.out.c2)
            | (go_at_call 43; refine (cX _).mono ?_; clear cX; rintro e w2 ⟨rfl, hb1⟩; replace HB := Hid.mk' (HB.out.trans (hb1.mono HB.out.size)); replace HT := Hid.mk' (HT.out.bel hb1); have t0 := HT.out.c0; have t1 := HT.out.c1; have t2 := HT.out.c2)
            | (go_at_call 41; refine (cC _).mono ?_; clear cC; rintro e w3 ⟨rfl, hb1⟩; replace HB := Hid.mk' (HB.out.trans (hb1.mono HB.out.size)); replace HT := Hid.mk' (HT.out.bel hb1); have t0 := HT.out.c0; have t1 := HT.out.c1; have t2 := HT.out.c2)
            | (go_at_call 61; refine (cH _).mono ?_; clear cH; rintro e w4 ⟨rfl, rfl⟩))
          go_ret
          exact ⟨by rw [hz.out]; rfl, HB.out⟩
    · skip
      have hz : Hid (putE last ⟨4, nm, vl, p⟩ = 40) := by simp [Hid, putE, canF, chkE, shN, shV, shT, hB, hT]
      go_enter Tryz.func38, Tryz.ntmps38
      go_wp2_with (first
        | (go_at_call 60; refine (cS _).mono ?_; clear cS; rintro e w1 ⟨rfl, hb1⟩; replace HB := Hid.mk' (HB.out.trans (hb1.mono HB.out.size)); replace HT := Hid.mk' (HT.out.bel hb1); have t0 := HT.out.c0; have t1 := HT.out.c1; have t2 := HT.out.c2)
        | (go_at_call 43; refine (cX _).mono ?_; clear cX; rintro e w2 ⟨rfl, hb1⟩; replace HB := Hid.mk' (HB.out.trans (hb1.mono HB.out.size)); replace HT := Hid.mk' (HT.out.bel hb1); have t0 := HT.out.c0; have t1 := HT.out.c1; have t2 := HT.out.c2)
        | (go_at_call 41; refine (cC _).mono ?_; clear cC; rintro e w3 ⟨rfl, hb1⟩; replace HB := Hid.mk' (HB.out.trans (hb1.mono HB.out.size)); replace HT := Hid.mk' (HT.out.bel hb1); have t0 := HT.out.c0; have t1 := HT.out.c1; have t2 := HT.out.c2)
        | (go_at_call 61; refine (cH _).mono ?_; clear cH; rintro e w4 ⟨rfl, rfl⟩))
      go_ret
      exact ⟨by rw [hz.out]; rfl, HB.out⟩
  · have hS : shpB 4 nm vl = false := by simp [shpB, hB]
    rw [hS] at cS
    have hz : Hid (putE last ⟨4, nm, vl, p⟩ = 40) := by simp [Hid, putE, canF, chkE, shN, shV, shT, hB]
    go_enter Tryz.func38, Tryz.ntmps38
    go_wp2_with (first
      | (go_at_call 60; refine (cS _).mono ?_; clear cS; rintro e w1 ⟨rfl, hb1⟩; replace HB := Hid.mk' (HB.out.trans (hb1.mono HB.out.size)); replace HT := Hid.mk' (HT.out.bel hb1); have t0 := HT.out.c0; have t1 := HT.out.c1; have t2 := HT.out.c2)
      | (go_at_call 43; refine (cX _).mono ?_; clear cX; rintro e w2 ⟨rfl, hb1⟩; replace HB := Hid.mk' (HB.out.trans (hb1.mono HB.out.size)); replace HT := Hid.mk' (HT.out.bel hb1); have t0 := HT.out.c0; have t1 := HT.out.c1; have t2 := HT.out.c2)
      | (go_at_call 41; refine (cC _).mono ?_; clear cC; rintro e w3 ⟨rfl, hb1⟩; replace HB := Hid.mk' (HB.out.trans (hb1.mono HB.out.size)); replace HT := Hid.mk' (HT.out.bel hb1); have t0 := HT.out.c0; have t1 := HT.out.c1; have t2 := HT.out.c2)
      | (go_at_call 61; refine (cH _).mono ?_; clear cH; rintro e w4 ⟨rfl, rfl⟩))
    go_ret
    exact ⟨by rw [hz.out]; rfl, HB.out⟩
end Go.Proofs.YtchfphakhmifmaaGreatDoor
