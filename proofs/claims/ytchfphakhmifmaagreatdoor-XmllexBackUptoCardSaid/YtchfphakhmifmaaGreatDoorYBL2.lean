/- The law XmllexBack: its walks. -/
import Derived.Test.YtchfphakhmifmaaGreatDoorYBL1
namespace Go.Proofs.YtchfphakhmifmaaGreatDoor
open Go.ChangeShapes Go.WideShapes Go.ChangeAt Go.RowKit Go.Shelf Go.Lib

set_option maxRecDepth 100000 in
set_option maxHeartbeats 8000000 in
theorem back_Aa (pp : Option Addr) (cp : Nat) (ts : List IT) (s : ByteArray) (w : World) (hr : IRow w pp w.heap.size ts) (hl : ts.length ≤ 1048576) (hok : ∀ t ∈ ts, t.nm.size ≤ 16777216 ∧ t.vl.size ≤ 16777216) (hs : s.size ≤ 1048576) (hB : BW w w)
    {T1 : List Nat} {e1 n1 : Nat} (h1 : prZ ts 0 (-1) [] = (T1, e1, n1)) (he1 : e1 ≠ 0) {us : List Tok} {er p : Nat} (h2 : toksN s = (us, some (er, p))) (hp : p ≤ s.size) (her : er ≠ 0) :
    Calls Tryz.prog 4 #[.slice pp ts.length cp, .string s] w fun e w' => e = .returned (.bool true) ∧ Below w.heap.size w w' := by
  have HR := hidm hr
  have HW := hidm hB
  have cR := fun (W : World) (b : BW w W) => reads_call b
  have cP := fun (W : World) (b : BW w W) => print_call (cp := cp) h1 (by omega) hok b (hr.bw b)
  have k1 : ¬ (e1 : Int) = 0 := by omega
  have k1b : ((e1 : Int) == 0) = false := beq_eq_false_iff_ne.2 k1
  have cT := fun (W : World) (b : BW w W) => toks_fail h2 (by omega) b
  have k2 : ¬ (er : Int) = 0 := by omega
  have k2b : ((er : Int) == 0) = false := beq_eq_false_iff_ne.2 k2
  have k3 : (p : Int) ≤ (s.size : Int) := by omega
  clear hr hB hok h1 h2 he1 
  go_enter Tryz.func4, Tryz.ntmps4
  go_wp2_with (first
      | (go_at_call 17; refine (cR _ HW.out).mono ?_; clear cR HW; rintro e w1 ⟨rfl, HW⟩)
      | (go_at_call 18; refine (cP _ HW.out).mono ?_; clear cP HW; rintro e w2 ⟨rfl, HW, -⟩)
      | (go_at_call 19; refine (cT _ HW.out).mono ?_; clear cT HW; rintro e w3 ⟨rfl, HW⟩))
  go_ret
  exact ⟨rfl, HW.out.bel⟩
set_option maxRecDepth 100000 in
set_option maxHeartbeats 8000000 in
theorem back_Ab (pp : Option Addr) (cp : Nat) (ts : List IT) (s : ByteArray) (w : World) (hr : IRow w pp w.heap.size ts) (hl : ts.length ≤ 1048576) (hok : ∀ t ∈ ts, t.nm.size ≤ 16777216 ∧ t.vl.size ≤ 16777216) (hs : s.size ≤ 1048576) (hB : BW w w)
    {T1 : List Nat} {e1 n1 : Nat} (h1 : prZ ts 0 (-1) [] = (T1, e1, n1)) (he1 : e1 ≠ 0) {us : List Tok} (h2 : toksN s = (us, none)) {n2 : Nat} (h3 : prZ (us.map Tok.it) 0 (-1) [] = ([], 45, n2)) (hz : 100000 < s.size) :
    Calls Tryz.prog 4 #[.slice pp ts.length cp, .string s] w fun e w' => e = .returned (.bool true) ∧ Below w.heap.size w w' := by
  have HR := hidm hr
  have HW := hidm hB
  have cR := fun (W : World) (b : BW w W) => reads_call b
  have cP := fun (W : World) (b : BW w W) => print_call (cp := cp) h1 (by omega) hok b (hr.bw b)
  have k1 : ¬ (e1 : Int) = 0 := by omega
  have k1b : ((e1 : Int) == 0) = false := beq_eq_false_iff_ne.2 k1
  have cT := fun (W : World) (b : BW w W) => toks_call h2 b
  have hlen2 : us.length ≤ 1048576 := by have h := toks_len s (s.size + 1) (some 58) 0 (ok_begin hs) (Nat.zero_le _); rw [show toksF s (s.size + 1) (some 58) 0 = (us, none) from h2] at h; simp only at h; omega
  have cP2 := fun (W : World) (b : BW w W) (pa : Option Addr) (ca : Nat) (ha : IRow W pa W.heap.size (us.map Tok.it)) => print_call (cp := ca) h3 (by rw [List.length_map]; omega) (toks_small h2) b ha
  rw [List.length_map] at cP2
  have k4 : (100000 : Int) < (s.size : Int) := by omega
  clear hr hB hok h1 h2 he1 h3
  go_enter Tryz.func4, Tryz.ntmps4
  go_wp2_with (first
      | (go_at_call 17; refine (cR _ HW.out).mono ?_; clear cR HW; rintro e w1 ⟨rfl, HW⟩)
      | (go_at_call 18; refine (cP _ HW.out).mono ?_; clear cP HW; rintro e w2 ⟨rfl, HW, -⟩)
      | (go_at_call 19; refine (cT _ HW.out).mono ?_; clear cT HW; rintro e w3 ⟨pu, cu, rfl, HW, HU, -⟩)
      | (go_at_call 18; refine (cP2 _ HW.out _ _ HU.out).mono ?_; clear cP2 HW; rintro e w4 ⟨rfl, HW, -⟩; clear HU))
  go_ret
  exact ⟨rfl, HW.out.bel⟩
set_option maxRecDepth 100000 in
set_option maxHeartbeats 8000000 in
theorem back_Ac (pp : Option Addr) (cp : Nat) (ts : List IT) (s : ByteArray) (w : World) (hr : IRow w pp w.heap.size ts) (hl : ts.length ≤ 1048576) (hok : ∀ t ∈ ts, t.nm.size ≤ 16777216 ∧ t.vl.size ≤ 16777216) (hs : s.size ≤ 1048576) (hB : BW w w)
    {T1 : List Nat} {e1 n1 : Nat} (h1 : prZ ts 0 (-1) [] = (T1, e1, n1)) (he1 : e1 ≠ 0) {us : List Tok} (h2 : toksN s = (us, none)) {T2 : List Nat} {n2 : Nat} (h3 : prZ (us.map Tok.it) 0 (-1) [] = (T2, 0, n2)) {vs : List Tok} (h4 : toksN (sOf T2) = (vs, none)) (h5 : Sm vs (us.map Tok.it)) :
    Calls Tryz.prog 4 #[.slice pp ts.length cp, .string s] w fun e w' => e = .returned (.bool true) ∧ Below w.heap.size w w' := by
  have HR := hidm hr
  have HW := hidm hB
  have cR := fun (W : World) (b : BW w W) => reads_call b
  have cP := fun (W : World) (b : BW w W) => print_call (cp := cp) h1 (by omega) hok b (hr.bw b)
  have k1 : ¬ (e1 : Int) = 0 := by omega
  have k1b : ((e1 : Int) == 0) = false := beq_eq_false_iff_ne.2 k1
  have cT := fun (W : World) (b : BW w W) => toks_call h2 b
  have hlen2 : us.length ≤ 1048576 := by have h := toks_len s (s.size + 1) (some 58) 0 (ok_begin hs) (Nat.zero_le _); rw [show toksF s (s.size + 1) (some 58) 0 = (us, none) from h2] at h; simp only at h; omega
  have cP2 := fun (W : World) (b : BW w W) (pa : Option Addr) (ca : Nat) (ha : IRow W pa W.heap.size (us.map Tok.it)) => print_call (cp := ca) h3 (by rw [List.length_map]; omega) (toks_small h2) b ha
  rw [List.length_map] at cP2
  have cT3 := fun (W : World) (b : BW w W) => toks_call h4 b
  have cS2 := fun (W : World) (b : BW w W) (pa pb : Option Addr) (ca cb : Nat) (ha : IRow W pa W.heap.size (us.map Tok.it)) (hb : IRow W pb W.heap.size (vs.map Tok.it)) => same_call (ca := ca) (cb := cb) (sm_r h5) (by rw [List.length_map]; omega) b ha hb
  rw [List.length_map, List.length_map] at cS2
  clear hr hB hok h1 h2 he1 h3 h4 h5
  go_enter Tryz.func4, Tryz.ntmps4
  go_wp2_with (first
      | (go_at_call 17; refine (cR _ HW.out).mono ?_; clear cR HW; rintro e w1 ⟨rfl, HW⟩)
      | (go_at_call 18; refine (cP _ HW.out).mono ?_; clear cP HW; rintro e w2 ⟨rfl, HW, -⟩)
      | (go_at_call 19; refine (cT _ HW.out).mono ?_; clear cT HW; rintro e w3 ⟨pu, cu, rfl, HW, HU, -⟩)
      | (go_at_call 18; refine (cP2 _ HW.out _ _ HU.out).mono ?_; clear cP2 HW; rintro e w4 ⟨rfl, HW, HB4⟩; replace HU := hidm (HU.out.up HB4.out); clear HB4)
      | (go_at_call 19; refine (cT3 _ HW.out).mono ?_; clear cT3 HW; rintro e w5 ⟨pv, cv, rfl, HW, HV, HB5⟩; replace HU := hidm (HU.out.up HB5.out); clear HB5)
      | (go_at_call 20; refine (cS2 _ HW.out _ _ _ _ HU.out HV.out).mono ?_; clear cS2 HW; rintro e w6 ⟨rfl, HW, -⟩))
  go_ret
  exact ⟨rfl, HW.out.bel⟩
end Go.Proofs.YtchfphakhmifmaaGreatDoor
