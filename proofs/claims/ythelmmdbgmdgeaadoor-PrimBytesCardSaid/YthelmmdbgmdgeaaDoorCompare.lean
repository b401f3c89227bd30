/- The contract of prim.Compare. -/
import Derived.Test.YthelmmdbgmdgeaaDoorFace
import Derived.Deep.RegionWith
import Derived.BigRegion
namespace Go.Proofs.YthelmmdbgmdgeaaDoor
open Go.ChangeShapes Go.WideShapes Go.ChangeAt Go.RowKit
set_option maxHeartbeats 1000000 in
theorem Compare_yes (p a b : Int) (w : World) (h : KT w) (ha0 : 0 ≤ a) (ha1 : a < 18446744073709551616) (hb0 : 0 ≤ b) (hb1 : b < 18446744073709551616)
    (ha : fitsF (sz p) (rd p) a = true) (hb : fitsF (sz p) (rd p) b = true) :
    Calls Tryd.prog 7 #[.int .i64 p, .int .u64 a, .int .u64 b] w fun e w' => e = .returned (.int .i64 (cmp3 (rankF (sz p) (rd p) a) (rankF (sz p) (rd p) b))) ∧ Below w.heap.size w w' := by
  have hk := kok p
  go_enter Tryd.func7, Tryd.ntmps7
  go_wp2_with (go_at_call 29; refine (kindOf_any _ _ h).mono ?_; rintro e w1 ⟨rfl, hbl1⟩)
  refine (fits_any _ _ _ _ _ _ _ hk ha0 ha1).mono ?_
  rintro e w2 ⟨rfl, hbl2⟩
  obtain ⟨hc2, hf2⟩ := bcell hbl2
  have hz2 : w1.heap.size < w2.heap.size := by have := hbl2.size; simp at this; omega
  go_wp2_with fail
  refine (fits_any _ _ _ _ _ _ _ hk hb0 hb1).mono ?_
  rintro e w3 ⟨rfl, hbl3⟩
  obtain ⟨hc3, hf3⟩ := bcell hbl3
  have hz3 : w1.heap.size < w3.heap.size := by have := hbl3.size; omega
  go_wp2_with fail
  have e3 : ∀ o, w3.cell? ⟨w1.heap.size, o, none⟩ = (w1.alloc (.cells #[.int .i64 (sz p), .int .i64 (rd p), .int .u64 (nl p), .int .u64 (mn p), .int .u64 (mx p)] 47)).cell? ⟨w1.heap.size, o, none⟩ := fun o => (hc3 _ _ hz2).trans (hc2 _ _ (by simp))
  have k0 : w3.cell? ⟨w1.heap.size, 0, none⟩ = some (.int .i64 (sz p)) := by rw [e3]; simp
  have k1 : w3.cell? ⟨w1.heap.size, 1, none⟩ = some (.int .i64 (rd p)) := by rw [e3]; simp
  have k2 : w3.cell? ⟨w1.heap.size, 2, none⟩ = some (.int .u64 (nl p)) := by rw [e3]; simp
  have k3 : w3.cell? ⟨w1.heap.size, 3, none⟩ = some (.int .u64 (mn p)) := by rw [e3]; simp
  have k4 : w3.cell? ⟨w1.heap.size, 4, none⟩ = some (.int .u64 (mx p)) := by rw [e3]; simp
  have B3 : Below w.heap.size w w3 := ((hbl1.alloc hbl1.size _).trans (hbl2.mono (by have := hbl1.size; simp; omega))).trans (hbl3.mono (by have := hbl1.size; omega))
  have HB : Hid (w.heap.size ≤ w3.heap.size) := B3.size
  clear e3 hc2 hf2 hc3 hf3 hbl1 hbl2 hbl3 h
  go_region_with (first
    | (go_at_call 32; refine (rank_any _ _ _ _ _ _ _ hk (by assumption) (by assumption) (by assumption)).mono ?_; rintro e wr ⟨rfl, hblr⟩; (first | have B3 := B3.trans (hblr.mono B3.size) | have B3 := B3.drew.trans (hblr.mono B3.size)); (try have r0 := (hblr.cell (p := ⟨w1.heap.size, 0, none⟩) hz3).trans k0); (try have r1 := (hblr.cell (p := ⟨w1.heap.size, 1, none⟩) hz3).trans k1); (try have r2 := (hblr.cell (p := ⟨w1.heap.size, 2, none⟩) hz3).trans k2); (try have r3 := (hblr.cell (p := ⟨w1.heap.size, 3, none⟩) hz3).trans k3); (try have r4 := (hblr.cell (p := ⟨w1.heap.size, 4, none⟩) hz3).trans k4))
    | (go_at_call 31; refine (cmp_any _ _ _).mono ?_; rintro e wc ⟨rfl, hblc⟩; have B3 := B3.trans (hblc.mono B3.size)))
  all_goals (go_wp2; go_ret; exact ⟨rfl, B3⟩)

set_option maxHeartbeats 1000000 in
theorem Compare_no1 (p a b : Int) (w : World) (h : KT w) (ha0 : 0 ≤ a) (ha1 : a < 18446744073709551616) (ha : fitsF (sz p) (rd p) a = false) :
    Calls Tryd.prog 7 #[.int .i64 p, .int .u64 a, .int .u64 b] w fun e w' => e = .returned (.int .i64 0) ∧ Below w.heap.size w w' := by
  have hk := kok p
  go_enter Tryd.func7, Tryd.ntmps7
  go_wp2_with (go_at_call 29; refine (kindOf_any _ _ h).mono ?_; rintro e w1 ⟨rfl, hbl1⟩)
  refine (fits_any _ _ _ _ _ _ _ hk ha0 ha1).mono ?_
  rintro e w2 ⟨rfl, hbl2⟩
  go_wp2
  go_ret
  exact ⟨rfl, (hbl1.alloc hbl1.size _).trans (hbl2.mono (by have := hbl1.size; simp; omega))⟩
set_option maxHeartbeats 1000000 in
theorem Compare_no2 (p a b : Int) (w : World) (h : KT w) (ha0 : 0 ≤ a) (ha1 : a < 18446744073709551616) (hb0 : 0 ≤ b) (hb1 : b < 18446744073709551616)
    (ha : fitsF (sz p) (rd p) a = true) (hb : fitsF (sz p) (rd p) b = false) :
    Calls Tryd.prog 7 #[.int .i64 p, .int .u64 a, .int .u64 b] w fun e w' => e = .returned (.int .i64 0) ∧ Below w.heap.size w w' := by
  have hk := kok p
  go_enter Tryd.func7, Tryd.ntmps7
  go_wp2_with (go_at_call 29; refine (kindOf_any _ _ h).mono ?_; rintro e w1 ⟨rfl, hbl1⟩)
  refine (fits_any _ _ _ _ _ _ _ hk ha0 ha1).mono ?_
  rintro e w2 ⟨rfl, hbl2⟩
  obtain ⟨hc2, hf2⟩ := bcell hbl2
  have hz2 : w1.heap.size < w2.heap.size := by have := hbl2.size; simp at this; omega
  go_wp2_with fail
  refine (fits_any _ _ _ _ _ _ _ hk hb0 hb1).mono ?_
  rintro e w3 ⟨rfl, hbl3⟩
  go_wp2
  go_ret
  exact ⟨rfl, ((hbl1.alloc hbl1.size _).trans (hbl2.mono (by have := hbl1.size; simp; omega))).trans (hbl3.mono (by have := hbl1.size; omega))⟩
theorem Compare_any (p a b : Int) (w : World) (h : KT w) (ha0 : 0 ≤ a) (ha1 : a < 18446744073709551616) (hb0 : 0 ≤ b) (hb1 : b < 18446744073709551616) :
    Calls Tryd.prog 7 #[.int .i64 p, .int .u64 a, .int .u64 b] w fun e w' => e = .returned (.int .i64 (cmpF (sz p) (rd p) a b)) ∧ Below w.heap.size w w' := by
  cases ha : fitsF (sz p) (rd p) a
  · rw [cmpF_no _ _ _ _ (by rw [ha]; rfl)]; exact Compare_no1 p a b w h ha0 ha1 ha
  · cases hb : fitsF (sz p) (rd p) b
    · rw [cmpF_no _ _ _ _ (by rw [ha, hb]; rfl)]; exact Compare_no2 p a b w h ha0 ha1 hb0 hb1 ha hb
    · rw [cmpF_yes _ _ _ _ ha hb]; exact Compare_yes p a b w h ha0 ha1 hb0 hb1 ha hb
end Go.Proofs.YthelmmdbgmdgeaaDoor
