/- The law XmllexBack: its walks. -/
import Derived.Test.YtchfphakhmifmaaGreatDoorYBL1
namespace Go.Proofs.YtchfphakhmifmaaGreatDoor
open Go.ChangeShapes Go.WideShapes Go.ChangeAt Go.RowKit Go.Shelf Go.Lib

set_option maxRecDepth 100000 in
set_option maxHeartbeats 8000000 in
theorem back_Ba (pp : Option Addr) (cp : Nat) (ts : List IT) (s : ByteArray) (w : World) (hr : IRow w pp w.heap.size ts) (hl : ts.length ≤ 1048576) (hok : ∀ t ∈ ts, t.nm.size ≤ 16777216 ∧ t.vl.size ≤ 16777216) (hs : s.size ≤ 1048576) (hB : BW w w)
    {T1 : List Nat} {n1 : Nat} (h1 : prZ ts 0 (-1) [] = (T1, 0, n1)) {us1 : List Tok} (hu1 : toksN (sOf T1) = (us1, none)) (hm1 : Sm us1 ts) (hr1 : Rs (sOf T1).size 0 us1) {us : List Tok} {er p : Nat} (h2 : toksN s = (us, some (er, p))) (hp : p ≤ s.size) (her : er ≠ 0) :
    Calls Tryz.prog 4 #[.slice pp ts.length cp, .string s] w fun e w' => e = .returned (.bool true) ∧ Below w.heap.size w w' := by
  have HR := hidm hr
  have HW := hidm hB
  have cR := fun (W : World) (b : BW w W) => reads_call b
  have cP := fun (W : World) (b : BW w W) => print_call (cp := cp) h1 (by omega) hok b (hr.bw b)
  have cT1 := fun (W : World) (b : BW w W) => toks_call hu1 b
  have hlen1 : us1.length ≤ 1048576 := by have := sm_same hm1; omega
  have cS1 := fun (W : World) (b : BW w W) (pa : Option Addr) (ca : Nat) (ha : IRow W pa W.heap.size (us1.map Tok.it)) => same_call (ca := ca) (cb := cp) (sm_l hm1) (by rw [List.length_map]; omega) b ha (hr.bw b)
  rw [List.length_map] at cS1
  have cT := fun (W : World) (b : BW w W) => toks_fail h2 (by omega) b
  have k2 : ¬ (er : Int) = 0 := by omega
  have k2b : ((er : Int) == 0) = false := beq_eq_false_iff_ne.2 k2
  have k3 : (p : Int) ≤ (s.size : Int) := by omega
  have HS := hidm hr1
  clear hr hB hok h1 h2 hu1 hm1  hr1
  go_enter Tryz.func4, Tryz.ntmps4
  go_wp2_with (first
      | (go_at_call 17; refine (cR _ HW.out).mono ?_; clear cR HW; rintro e w1 ⟨rfl, HW⟩)
      | (go_at_call 18; refine (cP _ HW.out).mono ?_; clear cP HW; rintro e w2 ⟨rfl, HW, -⟩)
      | (go_at_call 19; refine (cT1 _ HW.out).mono ?_; clear cT1 HW; rintro e w3 ⟨p1, c1, rfl, HW, HU1, -⟩)
      | (go_at_call 20; refine (cS1 _ HW.out _ _ HU1.out).mono ?_; clear cS1 HW; rintro e w4 ⟨rfl, HW, HB4⟩; replace HU1 := hidm (HU1.out.up HB4.out); clear HB4))
  go_loopw [43] (fun i wr => ∃ k : Nat, k ≤ us1.length ∧ i = .int .i64 k ∧ Hid (BW w wr) ∧ Hid (IRow wr p1 wr.heap.size (us1.map Tok.it))) (fun i _ => us1.length - (RowKit.intOf i).toNat)
  case atStart => exact ⟨0, Nat.zero_le _, rfl, HW, HU1⟩
  case round =>
    obtain ⟨k, hk, rfl, HW, HU1⟩ := hrel
    by_cases hlt : k < us1.length
    · obtain ⟨x, hx⟩ : ∃ t, us1[k]? = some t := ⟨us1[k], List.getElem?_eq_getElem hlt⟩
      have hxi : (us1.map Tok.it)[k]? = some x.it := by rw [List.getElem?_map, hx]; rfl
      obtain ⟨g, o, rfl, hg, q0, q1, q2, q3⟩ := HU1.out.c k x.it hxi
      have hx1 := rs_get HS.out hx
      have y1 : decide ((x.p : Int) < 0) = false := decide_eq_false (by omega)
      have y2 : decide (((sOf T1).size : Int) ≤ (x.p : Int)) = false := decide_eq_false (by omega)
      simp only [Tok.it] at q3
      clear q0 q1 q2 hxi
      by_cases hk0 : k = 0
      · have y5 : decide ((0 : Int) < (k : Int)) = false := decide_eq_false (by omega)
        have y5n : decide (0 < k) = false := decide_eq_false (by omega)
        generalize (x.p : Int) = X at q3 y1 y2
        clear hk0 hx hx1
        go_wp2_with fail
        go_big_quiet (fail)
        go_wp2_with fail
        go_roundw
        case rel => exact ⟨k + 1, by omega, by go_num, hidm (HW.out.go (bdN (Below.refl _ _) _)), hidm (HU1.out.up (bdN (Below.refl _ _) _))⟩
        case measure => simp [RowKit.intOf]; omega
      · obtain ⟨j, hj⟩ : ∃ j, k = j + 1 := ⟨k - 1, by omega⟩
        obtain ⟨z, hzz⟩ : ∃ t, us1[j]? = some t := ⟨us1[j], List.getElem?_eq_getElem (by omega)⟩
        have hzi : (us1.map Tok.it)[j]? = some z.it := by rw [List.getElem?_map, hzz]; rfl
        obtain ⟨g', o', e', hg', r0, r1, r2, r3⟩ := HU1.out.c j z.it hzi
        cases e'
        simp only [Tok.it] at r3
        have hx2 := rs_two HS.out hzz (by rw [← hj]; exact hx)
        have y3 : decide ((x.p : Int) ≤ (z.p : Int)) = false := decide_eq_false (by omega)
        have y4 : ((k : Int) - 1).toNat = j := by omega
        have r4 : wr.cell? ⟨g, o + ((k : Int) - 1).toNat * 4 + 3, none⟩ = some (.int .i64 (z.p : Int)) := by rw [y4]; exact r3
        have y5 : decide ((0 : Int) < (k : Int)) = true := decide_eq_true (by omega)
        have y5n : decide (0 < k) = true := decide_eq_true (by omega)
        have y6 : 0 < k := by omega
        generalize (x.p : Int) = X at q3 y1 y2 y3
        generalize (z.p : Int) = Z at r3 r4 y3
        clear r0 r1 r2 hzi hx hx1 hx2 hzz hk0 hj
        go_wp2_with fail
        go_big_quiet (fail)
        go_wp2_with fail
        go_roundw
        case rel => exact ⟨k + 1, by omega, by go_num, hidm (HW.out.go (bdN (Below.refl _ _) _)), hidm (HU1.out.up (bdN (Below.refl _ _) _))⟩
        case measure => simp [RowKit.intOf]; omega
    · obtain rfl : k = us1.length := by omega
      go_wp2_with (first
          | (go_at_call 19; refine (cT _ HW.out).mono ?_; clear cT HW; rintro e w3 ⟨rfl, HW⟩))
      go_ret
      exact ⟨rfl, HW.out.bel⟩
set_option maxRecDepth 100000 in
set_option maxHeartbeats 8000000 in
theorem back_Bb (pp : Option Addr) (cp : Nat) (ts : List IT) (s : ByteArray) (w : World) (hr : IRow w pp w.heap.size ts) (hl : ts.length ≤ 1048576) (hok : ∀ t ∈ ts, t.nm.size ≤ 16777216 ∧ t.vl.size ≤ 16777216) (hs : s.size ≤ 1048576) (hB : BW w w)
    {T1 : List Nat} {n1 : Nat} (h1 : prZ ts 0 (-1) [] = (T1, 0, n1)) {us1 : List Tok} (hu1 : toksN (sOf T1) = (us1, none)) (hm1 : Sm us1 ts) (hr1 : Rs (sOf T1).size 0 us1) {us : List Tok} (h2 : toksN s = (us, none)) {n2 : Nat} (h3 : prZ (us.map Tok.it) 0 (-1) [] = ([], 45, n2)) (hz : 100000 < s.size) :
    Calls Tryz.prog 4 #[.slice pp ts.length cp, .string s] w fun e w' => e = .returned (.bool true) ∧ Below w.heap.size w w' := by
  have HR := hidm hr
  have HW := hidm hB
  have cR := fun (W : World) (b : BW w W) => reads_call b
  have cP := fun (W : World) (b : BW w W) => print_call (cp := cp) h1 (by omega) hok b (hr.bw b)
  have cT1 := fun (W : World) (b : BW w W) => toks_call hu1 b
  have hlen1 : us1.length ≤ 1048576 := by have := sm_same hm1; omega
  have cS1 := fun (W : World) (b : BW w W) (pa : Option Addr) (ca : Nat) (ha : IRow W pa W.heap.size (us1.map Tok.it)) => same_call (ca := ca) (cb := cp) (sm_l hm1) (by rw [List.length_map]; omega) b ha (hr.bw b)
  rw [List.length_map] at cS1
  have cT := fun (W : World) (b : BW w W) => toks_call h2 b
  have hlen2 : us.length ≤ 1048576 := by have h := toks_len s (s.size + 1) (some 58) 0 (ok_begin hs) (Nat.zero_le _); rw [show toksF s (s.size + 1) (some 58) 0 = (us, none) from h2] at h; simp only at h; omega
  have cP2 := fun (W : World) (b : BW w W) (pa : Option Addr) (ca : Nat) (ha : IRow W pa W.heap.size (us.map Tok.it)) => print_call (cp := ca) h3 (by rw [List.length_map]; omega) (toks_small h2) b ha
  rw [List.length_map] at cP2
  have k4 : (100000 : Int) < (s.size : Int) := by omega
  have HS := hidm hr1
  clear hr hB hok h1 h2 hu1 hm1 h3 hr1
  go_enter Tryz.func4, Tryz.ntmps4
  go_wp2_with (first
      | (go_at_call 17; refine (cR _ HW.out).mono ?_; clear cR HW; rintro e w1 ⟨rfl, HW⟩)
      | (go_at_call 18; refine (cP _ HW.out).mono ?_; clear cP HW; rintro e w2 ⟨rfl, HW, -⟩)
      | (go_at_call 19; refine (cT1 _ HW.out).mono ?_; clear cT1 HW; rintro e w3 ⟨p1, c1, rfl, HW, HU1, -⟩)
      | (go_at_call 20; refine (cS1 _ HW.out _ _ HU1.out).mono ?_; clear cS1 HW; rintro e w4 ⟨rfl, HW, HB4⟩; replace HU1 := hidm (HU1.out.up HB4.out); clear HB4))
  go_loopw [43] (fun i wr => ∃ k : Nat, k ≤ us1.length ∧ i = .int .i64 k ∧ Hid (BW w wr) ∧ Hid (IRow wr p1 wr.heap.size (us1.map Tok.it))) (fun i _ => us1.length - (RowKit.intOf i).toNat)
  case atStart => exact ⟨0, Nat.zero_le _, rfl, HW, HU1⟩
  case round =>
    obtain ⟨k, hk, rfl, HW, HU1⟩ := hrel
    by_cases hlt : k < us1.length
    · obtain ⟨x, hx⟩ : ∃ t, us1[k]? = some t := ⟨us1[k], List.getElem?_eq_getElem hlt⟩
      have hxi : (us1.map Tok.it)[k]? = some x.it := by rw [List.getElem?_map, hx]; rfl
      obtain ⟨g, o, rfl, hg, q0, q1, q2, q3⟩ := HU1.out.c k x.it hxi
      have hx1 := rs_get HS.out hx
      have y1 : decide ((x.p : Int) < 0) = false := decide_eq_false (by omega)
      have y2 : decide (((sOf T1).size : Int) ≤ (x.p : Int)) = false := decide_eq_false (by omega)
      simp only [Tok.it] at q3
      clear q0 q1 q2 hxi
      by_cases hk0 : k = 0
      · have y5 : decide ((0 : Int) < (k : Int)) = false := decide_eq_false (by omega)
        have y5n : decide (0 < k) = false := decide_eq_false (by omega)
        generalize (x.p : Int) = X at q3 y1 y2
        clear hk0 hx hx1
        go_wp2_with fail
        go_big_quiet (fail)
        go_wp2_with fail
        go_roundw
        case rel => exact ⟨k + 1, by omega, by go_num, hidm (HW.out.go (bdN (Below.refl _ _) _)), hidm (HU1.out.up (bdN (Below.refl _ _) _))⟩
        case measure => simp [RowKit.intOf]; omega
      · obtain ⟨j, hj⟩ : ∃ j, k = j + 1 := ⟨k - 1, by omega⟩
        obtain ⟨z, hzz⟩ : ∃ t, us1[j]? = some t := ⟨us1[j], List.getElem?_eq_getElem (by omega)⟩
        have hzi : (us1.map Tok.it)[j]? = some z.it := by rw [List.getElem?_map, hzz]; rfl
        obtain ⟨g', o', e', hg', r0, r1, r2, r3⟩ := HU1.out.c j z.it hzi
        cases e'
        simp only [Tok.it] at r3
        have hx2 := rs_two HS.out hzz (by rw [← hj]; exact hx)
        have y3 : decide ((x.p : Int) ≤ (z.p : Int)) = false := decide_eq_false (by omega)
        have y4 : ((k : Int) - 1).toNat = j := by omega
        have r4 : wr.cell? ⟨g, o + ((k : Int) - 1).toNat * 4 + 3, none⟩ = some (.int .i64 (z.p : Int)) := by rw [y4]; exact r3
        have y5 : decide ((0 : Int) < (k : Int)) = true := decide_eq_true (by omega)
        have y5n : decide (0 < k) = true := decide_eq_true (by omega)
        have y6 : 0 < k := by omega
        generalize (x.p : Int) = X at q3 y1 y2 y3
        generalize (z.p : Int) = Z at r3 r4 y3
        clear r0 r1 r2 hzi hx hx1 hx2 hzz hk0 hj
        go_wp2_with fail
        go_big_quiet (fail)
        go_wp2_with fail
        go_roundw
        case rel => exact ⟨k + 1, by omega, by go_num, hidm (HW.out.go (bdN (Below.refl _ _) _)), hidm (HU1.out.up (bdN (Below.refl _ _) _))⟩
        case measure => simp [RowKit.intOf]; omega
    · obtain rfl : k = us1.length := by omega
      go_wp2_with (first
          | (go_at_call 19; refine (cT _ HW.out).mono ?_; clear cT HW; rintro e w3 ⟨pu, cu, rfl, HW, HU, -⟩)
          | (go_at_call 18; refine (cP2 _ HW.out _ _ HU.out).mono ?_; clear cP2 HW; rintro e w4 ⟨rfl, HW, -⟩; clear HU))
      go_ret
      exact ⟨rfl, HW.out.bel⟩
set_option maxRecDepth 100000 in
set_option maxHeartbeats 8000000 in
theorem back_Bc (pp : Option Addr) (cp : Nat) (ts : List IT) (s : ByteArray) (w : World) (hr : IRow w pp w.heap.size ts) (hl : ts.length ≤ 1048576) (hok : ∀ t ∈ ts, t.nm.size ≤ 16777216 ∧ t.vl.size ≤ 16777216) (hs : s.size ≤ 1048576) (hB : BW w w)
    {T1 : List Nat} {n1 : Nat} (h1 : prZ ts 0 (-1) [] = (T1, 0, n1)) {us1 : List Tok} (hu1 : toksN (sOf T1) = (us1, none)) (hm1 : Sm us1 ts) (hr1 : Rs (sOf T1).size 0 us1) {us : List Tok} (h2 : toksN s = (us, none)) {T2 : List Nat} {n2 : Nat} (h3 : prZ (us.map Tok.it) 0 (-1) [] = (T2, 0, n2)) {vs : List Tok} (h4 : toksN (sOf T2) = (vs, none)) (h5 : Sm vs (us.map Tok.it)) :
    Calls Tryz.prog 4 #[.slice pp ts.length cp, .string s] w fun e w' => e = .returned (.bool true) ∧ Below w.heap.size w w' := by
  have HR := hidm hr
  have HW := hidm hB
  have cR := fun (W : World) (b : BW w W) => reads_call b
  have cP := fun (W : World) (b : BW w W) => print_call (cp := cp) h1 (by omega) hok b (hr.bw b)
  have cT1 := fun (W : World) (b : BW w W) => toks_call hu1 b
  have hlen1 : us1.length ≤ 1048576 := by have := sm_same hm1; omega
  have cS1 := fun (W : World) (b : BW w W) (pa : Option Addr) (ca : Nat) (ha : IRow W pa W.heap.size (us1.map Tok.it)) => same_call (ca := ca) (cb := cp) (sm_l hm1) (by rw [List.length_map]; omega) b ha (hr.bw b)
  rw [List.length_map] at cS1
  have cT := fun (W : World) (b : BW w W) => toks_call h2 b
  have hlen2 : us.length ≤ 1048576 := by have h := toks_len s (s.size + 1) (some 58) 0 (ok_begin hs) (Nat.zero_le _); rw [show toksF s (s.size + 1) (some 58) 0 = (us, none) from h2] at h; simp only at h; omega
  have cP2 := fun (W : World) (b : BW w W) (pa : Option Addr) (ca : Nat) (ha : IRow W pa W.heap.size (us.map Tok.it)) => print_call (cp := ca) h3 (by rw [List.length_map]; omega) (toks_small h2) b ha
  rw [List.length_map] at cP2
  have cT3 := fun (W : World) (b : BW w W) => toks_call h4 b
  have cS2 := fun (W : World) (b : BW w W) (pa pb : Option Addr) (ca cb : Nat) (ha : IRow W pa W.heap.size (us.map Tok.it)) (hb : IRow W pb W.heap.size (vs.map Tok.it)) => same_call (ca := ca) (cb := cb) (sm_r h5) (by rw [List.length_map]; omega) b ha hb
  rw [List.length_map, List.length_map] at cS2
  have HS := hidm hr1
  clear hr hB hok h1 h2 hu1 hm1 h3 h4 h5 hr1
  go_enter Tryz.func4, Tryz.ntmps4
  go_wp2_with (first
      | (go_at_call 17; refine (cR _ HW.out).mono ?_; clear cR HW; rintro e w1 ⟨rfl, HW⟩)
      | (go_at_call 18; refine (cP _ HW.out).mono ?_; clear cP HW; rintro e w2 ⟨rfl, HW, -⟩)
      | (go_at_call 19; refine (cT1 _ HW.out).mono ?_; clear cT1 HW; rintro e w3 ⟨p1, c1, rfl, HW, HU1, -⟩)
      | (go_at_call 20; refine (cS1 _ HW.out _ _ HU1.out).mono ?_; clear cS1 HW; rintro e w4 ⟨rfl, HW, HB4⟩; replace HU1 := hidm (HU1.out.up HB4.out); clear HB4))
  go_loopw [43] (fun i wr => ∃ k : Nat, k ≤ us1.length ∧ i = .int .i64 k ∧ Hid (BW w wr) ∧ Hid (IRow wr p1 wr.heap.size (us1.map Tok.it))) (fun i _ => us1.length - (RowKit.intOf i).toNat)
  case atStart => exact ⟨0, Nat.zero_le _, rfl, HW, HU1⟩
  case round =>
    obtain ⟨k, hk, rfl, HW, HU1⟩ := hrel
    by_cases hlt : k < us1.length
    · obtain ⟨x, hx⟩ : ∃ t, us1[k]? = some t := ⟨us1[k], List.getElem?_eq_getElem hlt⟩
      have hxi : (us1.map Tok.it)[k]? = some x.it := by rw [List.getElem?_map, hx]; rfl
      obtain ⟨g, o, rfl, hg, q0, q1, q2, q3⟩ := HU1.out.c k x.it hxi
      have hx1 := rs_get HS.out hx
      have y1 : decide ((x.p : Int) < 0) = false := decide_eq_false (by omega)
      have y2 : decide (((sOf T1).size : Int) ≤ (x.p : Int)) = false := decide_eq_false (by omega)
      simp only [Tok.it] at q3
      clear q0 q1 q2 hxi
      by_cases hk0 : k = 0
      · have y5 : decide ((0 : Int) < (k : Int)) = false := decide_eq_false (by omega)
        have y5n : decide (0 < k) = false := decide_eq_false (by omega)
        generalize (x.p : Int) = X at q3 y1 y2
        clear hk0 hx hx1
        go_wp2_with fail
        go_big_quiet (fail)
        go_wp2_with fail
        go_roundw
        case rel => exact ⟨k + 1, by omega, by go_num, hidm (HW.out.go (bdN (Below.refl _ _) _)), hidm (HU1.out.up (bdN (Below.refl _ _) _))⟩
        case measure => simp [RowKit.intOf]; omega
      · obtain ⟨j, hj⟩ : ∃ j, k = j + 1 := ⟨k - 1, by omega⟩
        obtain ⟨z, hzz⟩ : ∃ t, us1[j]? = some t := ⟨us1[j], List.getElem?_eq_getElem (by omega)⟩
        have hzi : (us1.map Tok.it)[j]? = some z.it := by rw [List.getElem?_map, hzz]; rfl
        obtain ⟨g', o', e', hg', r0, r1, r2, r3⟩ := HU1.out.c j z.it hzi
        cases e'
        simp only [Tok.it] at r3
        have hx2 := rs_two HS.out hzz (by rw [← hj]; exact hx)
        have y3 : decide ((x.p : Int) ≤ (z.p : Int)) = false := decide_eq_false (by omega)
        have y4 : ((k : Int) - 1).toNat = j := by omega
        have r4 : wr.cell? ⟨g, o + ((k : Int) - 1).toNat * 4 + 3, none⟩ = some (.int .i64 (z.p : Int)) := by rw [y4]; exact r3
        have y5 : decide ((0 : Int) < (k : Int)) = true := decide_eq_true (by omega)
        have y5n : decide (0 < k) = true := decide_eq_true (by omega)
        have y6 : 0 < k := by omega
        generalize (x.p : Int) = X at q3 y1 y2 y3
        generalize (z.p : Int) = Z at r3 r4 y3
        clear r0 r1 r2 hzi hx hx1 hx2 hzz hk0 hj
        go_wp2_with fail
        go_big_quiet (fail)
        go_wp2_with fail
        go_roundw
        case rel => exact ⟨k + 1, by omega, by go_num, hidm (HW.out.go (bdN (Below.refl _ _) _)), hidm (HU1.out.up (bdN (Below.refl _ _) _))⟩
        case measure => simp [RowKit.intOf]; omega
    · obtain rfl : k = us1.length := by omega
      go_wp2_with (first
          | (go_at_call 19; refine (cT _ HW.out).mono ?_; clear cT HW; rintro e w3 ⟨pu, cu, rfl, HW, HU, -⟩)
          | (go_at_call 18; refine (cP2 _ HW.out _ _ HU.out).mono ?_; clear cP2 HW; rintro e w4 ⟨rfl, HW, HB4⟩; replace HU := hidm (HU.out.up HB4.out); clear HB4)
          | (go_at_call 19; refine (cT3 _ HW.out).mono ?_; clear cT3 HW; rintro e w5 ⟨pv, cv, rfl, HW, HV, HB5⟩; replace HU := hidm (HU.out.up HB5.out); clear HB5)
          | (go_at_call 20; refine (cS2 _ HW.out _ _ _ _ HU.out HV.out).mono ?_; clear cS2 HW; rintro e w6 ⟨rfl, HW, -⟩))
      go_ret
      exact ⟨rfl, HW.out.bel⟩
end Go.Proofs.YtchfphakhmifmaaGreatDoor
