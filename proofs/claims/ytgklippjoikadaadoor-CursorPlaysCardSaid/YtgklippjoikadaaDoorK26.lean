/- CuRm, CuAg. -/
import Derived.Test.YtgklippjoikadaaDoorK21
import Derived.Test.YtgklippjoikadaaDoorK16
namespace Go.Proofs.YtgklippjoikadaaDoor
open Go.ChangeShapes Go.WideShapes Go.ChangeAt Go.RowKit

abbrev rhO (d : Hd) : Obj := (.cells #[.int .i64 d.size, .int .i64 d.b.p, .int .i64 d.b.o, .int .i64 d.t.p, .int .i64 d.t.o, .int .i64 d.s.p, .int .i64 d.s.o, .int .i64 d.v.p, .int .i64 d.v.o] 42)
abbrev rfO (v : Four) : Obj := (.cells #[.int .u64 v.a, .int .u64 v.b, .int .u64 v.c, .int .u64 v.d] 81)
theorem rh_cells (d : Hd) {W : World} {b : Nat} (h : W.heap[b]? = some (rhO d)) : b < W.heap.size ∧ W.cell? ⟨b, 0, none⟩ = some (.int .i64 d.size) ∧ W.cell? ⟨b, 1, none⟩ = some (.int .i64 d.b.p) ∧ W.cell? ⟨b, 2, none⟩ = some (.int .i64 d.b.o) ∧ W.cell? ⟨b, 3, none⟩ = some (.int .i64 d.t.p) ∧ W.cell? ⟨b, 4, none⟩ = some (.int .i64 d.t.o) ∧ W.cell? ⟨b, 5, none⟩ = some (.int .i64 d.s.p) ∧ W.cell? ⟨b, 6, none⟩ = some (.int .i64 d.s.o) ∧ W.cell? ⟨b, 7, none⟩ = some (.int .i64 d.v.p) ∧ W.cell? ⟨b, 8, none⟩ = some (.int .i64 d.v.o) :=
  ⟨(Array.getElem?_eq_some_iff.1 h).1, cell_at h 0, cell_at h 1, cell_at h 2, cell_at h 3, cell_at h 4, cell_at h 5, cell_at h 6, cell_at h 7, cell_at h 8⟩
theorem rf_cells (v : Four) {W : World} {b : Nat} (h : W.heap[b]? = some (rfO v)) : b < W.heap.size ∧ W.cell? ⟨b, 0, none⟩ = some (.int .u64 v.a) ∧ W.cell? ⟨b, 1, none⟩ = some (.int .u64 v.b) ∧ W.cell? ⟨b, 2, none⟩ = some (.int .u64 v.c) ∧ W.cell? ⟨b, 3, none⟩ = some (.int .u64 v.d) :=
  ⟨(Array.getElem?_eq_some_iff.1 h).1, cell_at h 0, cell_at h 1, cell_at h 2, cell_at h 3⟩
set_option maxRecDepth 20000 in
set_option maxHeartbeats 2000000 in
theorem rPutHead_any {w : World} {c g len cap st en : Nat} {hi : Bool} {f : Nat → Int} (h : Cs w c 1 g len cap st en hi f) (d : Hd) (v : Four) (hv : FourOk v) :
    Calls Tryd.prog 30 #[.pointer (some ⟨c, 1, none⟩), hdV d, fourV v] w fun e w' => e = .returned (.int .i64 (pwE (headG d) len en d.size (hdN d v))) ∧ Cs w' c 1 g len cap st (pwN (headG d) len en d.size (hdN d v)) hi (pwF (headG d) hi len st en f d.size (hdN d v)) ∧ Cb c 1 g w w' := by
  have G := fun W => rGoodHead_any d W
  have B0 : Hid (((w.alloc (.cells #[.int .i64 d.size, .int .i64 d.b.p, .int .i64 d.b.o, .int .i64 d.t.p, .int .i64 d.t.o, .int .i64 d.s.p, .int .i64 d.s.o, .int .i64 d.v.p, .int .i64 d.v.o] 42)).alloc (.cells #[.int .u64 v.a, .int .u64 v.b, .int .u64 v.c, .int .u64 v.d] 81)).heap[w.heap.size]? = some (rhO d)) := two_1 w (rhO d) (rfO v)
  have B1 : Hid (((w.alloc (.cells #[.int .i64 d.size, .int .i64 d.b.p, .int .i64 d.b.o, .int .i64 d.t.p, .int .i64 d.t.o, .int .i64 d.s.p, .int .i64 d.s.o, .int .i64 d.v.p, .int .i64 d.v.o] 42)).alloc (.cells #[.int .u64 v.a, .int .u64 v.b, .int .u64 v.c, .int .u64 v.d] 81)).heap[w.heap.size + 1]? = some (rfO v)) := two_2 w (rhO d) (rfO v)
  have H : Hid (Cs w c 1 g len cap st en hi f) := h
  have h2 := h.h2
  have h4 := h.h4
  unfold pwE pwN pwF
  cases hg : headG d with
  | false =>
    rw [hg] at G
    clear h
    rw [if_neg (by decide), if_neg (by decide), if_neg (by decide)]
    go_enter Tryd.func30, Tryd.ntmps30
    go_wp2_with (go_at_call 56; refine (G _).mono ?_; rintro e w1 ⟨rfl, hb1⟩)
    go_ret
    exact ⟨rfl, H.out.below (belT (bel2 _ _ _) hb1), Cb.of_below (belT (bel2 _ _ _) hb1) H.out.lt⟩
  | true =>
    rw [hg] at G
    obtain ⟨hsz, hsp⟩ := goods_ok hg
    have o1 := goodB_off (hsp (d.b.p, d.b.o) (by simp [hdS])) hsz.2
    have o2 := goodB_off (hsp (d.t.p, d.t.o) (by simp [hdS])) hsz.2
    have o3 := goodB_off (hsp (d.s.p, d.s.o) (by simp [hdS])) hsz.2
    have o4 := goodB_off (hsp (d.v.p, d.v.o) (by simp [hdS])) hsz.2
    dsimp only at o1 o2 o3 o4
    have xc : w.heap.size ≠ c := by have := h.lt; omega
    have xg : w.heap.size ≠ g := by have := h.row.lt; omega
    have xc1 : w.heap.size + 1 ≠ c := by have := h.lt; omega
    have xg1 : w.heap.size + 1 ≠ g := by have := h.row.lt; omega
    have hov : over (hdN d v) = (decide (mx d.b.p < v.a) || (decide (mx d.t.p < v.b) || (decide (mx d.s.p < v.c) || decide (mx d.v.p < v.d)))) := by
      unfold over hdN
      simp only [List.any_cons, List.any_nil, Bool.or_false]
    have MX := fun p W => refMax_any p W
    rw [if_pos rfl, if_pos rfl, if_pos rfl]
    have S : ∀ w1, Below ((w.alloc (.cells #[.int .i64 d.size, .int .i64 d.b.p, .int .i64 d.b.o, .int .i64 d.t.p, .int .i64 d.t.o, .int .i64 d.s.p, .int .i64 d.s.o, .int .i64 d.v.p, .int .i64 d.v.o] 42)).alloc (.cells #[.int .u64 v.a, .int .u64 v.b, .int .u64 v.c, .int .u64 v.d] 81)).heap.size ((w.alloc (.cells #[.int .i64 d.size, .int .i64 d.b.p, .int .i64 d.b.o, .int .i64 d.t.p, .int .i64 d.t.o, .int .i64 d.s.p, .int .i64 d.s.o, .int .i64 d.v.p, .int .i64 d.v.o] 42)).alloc (.cells #[.int .u64 v.a, .int .u64 v.b, .int .u64 v.c, .int .u64 v.d] 81)) w1 → w1.heap[w.heap.size]? = some (rhO d) ∧ w1.heap[w.heap.size + 1]? = some (rfO v) := fun w1 hb => ⟨(hb.block _ (by simp; omega)).trans B0.out, (hb.block _ (by simp)).trans B1.out⟩
    replace S : Hid _ := S
    clear hg hsp
    by_cases c0 : mx d.b.p < v.a
    · have m0 : decide (mx d.b.p < v.a) = true := decide_eq_true c0
      have ew : wrE len en d.size (hdN d v) = 12 := by unfold wrE; rw [hov, m0]; simp
      unfold wrN wrF
      rw [ew, if_neg (by decide), if_neg (by decide)]
      clear h hov ew
      clear c0
      go_enter Tryd.func30, Tryd.ntmps30
      go_wp2_with (go_at_call 56; refine (G _).mono ?_; rintro e w1 ⟨rfl, hb1⟩; obtain ⟨k1, l1⟩ := S.out w1 hb1; replace k1 : Hid _ := k1; replace l1 : Hid _ := l1; obtain ⟨z1, q0, q1, q2, q3, q4, q5, q6, q7, q8⟩ := rh_cells d k1.out; obtain ⟨z2, y0, y1, y2, y3⟩ := rf_cells v l1.out; have hb2 : Hid (Below w.heap.size w w1) := belT (bel2 _ _ _) hb1; clear hb1)
      go_quiet (first | (go_at_call 57; exact Calls.quiet_of_same (MX _ _)))
      go_wp2_with fail
      go_ret
      exact ⟨rfl, H.out.below (below_drewN hb2.out _), Cb.of_below (below_drewN hb2.out _) H.out.lt⟩
    have m0 : decide (mx d.b.p < v.a) = false := decide_eq_false c0
    by_cases c1 : mx d.t.p < v.b
    · have m1 : decide (mx d.t.p < v.b) = true := decide_eq_true c1
      have ew : wrE len en d.size (hdN d v) = 12 := by unfold wrE; rw [hov, m0, m1]; simp
      unfold wrN wrF
      rw [ew, if_neg (by decide), if_neg (by decide)]
      clear h hov ew
      clear c0
      clear c1
      go_enter Tryd.func30, Tryd.ntmps30
      go_wp2_with (go_at_call 56; refine (G _).mono ?_; rintro e w1 ⟨rfl, hb1⟩; obtain ⟨k1, l1⟩ := S.out w1 hb1; replace k1 : Hid _ := k1; replace l1 : Hid _ := l1; obtain ⟨z1, q0, q1, q2, q3, q4, q5, q6, q7, q8⟩ := rh_cells d k1.out; obtain ⟨z2, y0, y1, y2, y3⟩ := rf_cells v l1.out; have hb2 : Hid (Below w.heap.size w w1) := belT (bel2 _ _ _) hb1; clear hb1)
      go_quiet (first | (go_at_call 57; exact Calls.quiet_of_same (MX _ _)))
      go_wp2_with fail
      go_ret
      exact ⟨rfl, H.out.below (below_drewN hb2.out _), Cb.of_below (below_drewN hb2.out _) H.out.lt⟩
    have m1 : decide (mx d.t.p < v.b) = false := decide_eq_false c1
    by_cases c2 : mx d.s.p < v.c
    · have m2 : decide (mx d.s.p < v.c) = true := decide_eq_true c2
      have ew : wrE len en d.size (hdN d v) = 12 := by unfold wrE; rw [hov, m0, m1, m2]; simp
      unfold wrN wrF
      rw [ew, if_neg (by decide), if_neg (by decide)]
      clear h hov ew
      clear c0
      clear c1
      clear c2
      go_enter Tryd.func30, Tryd.ntmps30
      go_wp2_with (go_at_call 56; refine (G _).mono ?_; rintro e w1 ⟨rfl, hb1⟩; obtain ⟨k1, l1⟩ := S.out w1 hb1; replace k1 : Hid _ := k1; replace l1 : Hid _ := l1; obtain ⟨z1, q0, q1, q2, q3, q4, q5, q6, q7, q8⟩ := rh_cells d k1.out; obtain ⟨z2, y0, y1, y2, y3⟩ := rf_cells v l1.out; have hb2 : Hid (Below w.heap.size w w1) := belT (bel2 _ _ _) hb1; clear hb1)
      go_quiet (first | (go_at_call 57; exact Calls.quiet_of_same (MX _ _)))
      go_wp2_with fail
      go_ret
      exact ⟨rfl, H.out.below (below_drewN hb2.out _), Cb.of_below (below_drewN hb2.out _) H.out.lt⟩
    have m2 : decide (mx d.s.p < v.c) = false := decide_eq_false c2
    by_cases c3 : mx d.v.p < v.d
    · have m3 : decide (mx d.v.p < v.d) = true := decide_eq_true c3
      have ew : wrE len en d.size (hdN d v) = 12 := by unfold wrE; rw [hov, m0, m1, m2, m3]; simp
      unfold wrN wrF
      rw [ew, if_neg (by decide), if_neg (by decide)]
      clear h hov ew
      clear c0
      clear c1
      clear c2
      clear c3
      go_enter Tryd.func30, Tryd.ntmps30
      go_wp2_with (go_at_call 56; refine (G _).mono ?_; rintro e w1 ⟨rfl, hb1⟩; obtain ⟨k1, l1⟩ := S.out w1 hb1; replace k1 : Hid _ := k1; replace l1 : Hid _ := l1; obtain ⟨z1, q0, q1, q2, q3, q4, q5, q6, q7, q8⟩ := rh_cells d k1.out; obtain ⟨z2, y0, y1, y2, y3⟩ := rf_cells v l1.out; have hb2 : Hid (Below w.heap.size w w1) := belT (bel2 _ _ _) hb1; clear hb1)
      go_quiet (first | (go_at_call 57; exact Calls.quiet_of_same (MX _ _)))
      go_wp2_with fail
      go_ret
      exact ⟨rfl, H.out.below (below_drewN hb2.out _), Cb.of_below (below_drewN hb2.out _) H.out.lt⟩
    have m3 : decide (mx d.v.p < v.d) = false := decide_eq_false c3
    have ew : wrE len en d.size (hdN d v) = clE len en d.size := by unfold wrE; rw [hov, m0, m1, m2, m3]; rfl
    unfold wrN wrF
    rw [ew]
    have RM := fun W (hW : Below w.heap.size w W) => rRoom_any (h.below hW)
    clear hov ew c0 c1 c2 c3
    by_cases hr : (len : Int) - en < d.size
    · have ec : clE len en d.size = 11 := by unfold clE; rw [if_neg (by omega), if_pos hr]
      rw [ec, if_neg (by decide), if_neg (by decide)]
      clear h ec
      go_enter Tryd.func30, Tryd.ntmps30
      go_wp2_with (go_at_call 56; refine (G _).mono ?_; rintro e w1 ⟨rfl, hb1⟩; obtain ⟨k1, l1⟩ := S.out w1 hb1; replace k1 : Hid _ := k1; replace l1 : Hid _ := l1; obtain ⟨z1, q0, q1, q2, q3, q4, q5, q6, q7, q8⟩ := rh_cells d k1.out; obtain ⟨z2, y0, y1, y2, y3⟩ := rf_cells v l1.out; have hb2 : Hid (Below w.heap.size w w1) := belT (bel2 _ _ _) hb1; clear hb1)
      go_quiet (first | (go_at_call 57; exact Calls.quiet_of_same (MX _ _)))
      go_wp2_with fail
      have e1 := fun n => (show (w1.drewN n).cell? ⟨w.heap.size, 0, none⟩ = _ from q0)
      have hb3 := fun n => (show Hid (Below w.heap.size w (w1.drewN n)) from below_drewN hb2.out n)
      go_region_held3 (fun X => X.cell? ⟨w.heap.size, 0, none⟩ = some (.int .i64 d.size)) (first | exact e1 _ | assumption | go_keep) (first
        | (go_at_call 12; refine (RM _ (hb3 _).out.drew).mono ?_; rintro _ w4 ⟨rfl, m, rfl⟩; have B3 := e1 0))
      all_goals
        go_wp2_with fail
        go_ret
        exact ⟨rfl, H.out.below (below_drewN hb2.out _), Cb.of_below (below_drewN hb2.out _) H.out.lt⟩
    · obtain ⟨n, hn⟩ : ∃ n : Nat, d.size = n := ⟨d.size.toNat, by omega⟩
      have ec : clE len en d.size = 0 := by unfold clE; rw [if_neg (by omega), if_neg hr]
      rw [ec, if_pos rfl, if_pos rfl, hn, show ((n : Int)).toNat = n by omega]
      have Z := fun W (hW : Below w.heap.size w W) => rZero_any (h.below hW) n (by omega)
      rw [← hn] at Z
      have hn1 : n ≤ 65535 := by omega
      clear h ec hn
      go_enter Tryd.func30, Tryd.ntmps30
      go_wp2_with (go_at_call 56; refine (G _).mono ?_; rintro e w1 ⟨rfl, hb1⟩; obtain ⟨k1, l1⟩ := S.out w1 hb1; replace k1 : Hid _ := k1; replace l1 : Hid _ := l1; obtain ⟨z1, q0, q1, q2, q3, q4, q5, q6, q7, q8⟩ := rh_cells d k1.out; obtain ⟨z2, y0, y1, y2, y3⟩ := rf_cells v l1.out; have hb2 : Hid (Below w.heap.size w w1) := belT (bel2 _ _ _) hb1; clear hb1)
      go_quiet (first | (go_at_call 57; exact Calls.quiet_of_same (MX _ _)))
      go_wp2_with fail
      have e1 := fun n => (show (w1.drewN n).cell? ⟨w.heap.size, 0, none⟩ = _ from q0)
      have hb3 := fun n => (show Hid (Below w.heap.size w (w1.drewN n)) from below_drewN hb2.out n)
      go_region_held3 (fun X => X.cell? ⟨w.heap.size, 0, none⟩ = some (.int .i64 d.size)) (first | exact e1 _ | assumption | go_keep) (first
        | (go_at_call 12; refine (RM _ (hb3 _).out.drew).mono ?_; rintro _ w4 ⟨rfl, m, rfl⟩; have B3 := e1 0))
      all_goals
        go_wp2_with (first
          | (go_at_call 58; refine (Z _ (below_drewN hb2.out _)).mono ?_; rintro _ w5 ⟨rfl, C5, D5⟩; have k5 : Hid (w5.heap[w.heap.size]? = some (rhO d)) := (D5.block _ z1 xc xg).trans k1.out; have l5 : Hid (w5.heap[w.heap.size + 1]? = some (rfO v)) := (D5.block _ z2 xc1 xg1).trans l1.out; obtain ⟨a1, a2, a3, a4, a5, a6, a7, a8, a9, a10⟩ := rh_cells d k5.out; obtain ⟨b1, b2, b3, b4, b5⟩ := rf_cells v l5.out; have P0 := rPut_any C5 ((en : Int) + d.b.o) d.b.p v.a hv.a.1 hv.a.2; have F0 : Hid (1 = 1) := rfl; have F1 : Hid (1 = 1) := rfl; have F2 : Hid (1 = 1) := rfl; replace C5 : Hid _ := C5; replace D5 : Hid _ := D5)
          | (clear F0; go_at_call 25; refine P0.mono ?_; rintro _ w6 ⟨rfl, C6, D6⟩; have k6 : Hid (w6.heap[w.heap.size]? = some (rhO d)) := (D6.block _ a1 xg).trans k5.out; have l6 : Hid (w6.heap[w.heap.size + 1]? = some (rfO v)) := (D6.block _ b1 xg1).trans l5.out; obtain ⟨a1x, e0x, e1x, e2x, e3x, e4x, e5x, e6x, e7x, e8x⟩ := rh_cells d k6.out; obtain ⟨b1x, f0x, f1x, f2x, f3x⟩ := rf_cells v l6.out; have P1 := rPut_any C6 ((en : Int) + d.t.o) d.t.p v.b hv.b.1 hv.b.2; replace C6 : Hid _ := C6; replace D6 : Hid _ := D6)
          | (clear F1; go_at_call 25; refine P1.mono ?_; rintro _ w7 ⟨rfl, C7, D7⟩; have k7 : Hid (w7.heap[w.heap.size]? = some (rhO d)) := (D7.block _ a1x xg).trans k6.out; have l7 : Hid (w7.heap[w.heap.size + 1]? = some (rfO v)) := (D7.block _ b1x xg1).trans l6.out; obtain ⟨a1xx, e0xx, e1xx, e2xx, e3xx, e4xx, e5xx, e6xx, e7xx, e8xx⟩ := rh_cells d k7.out; obtain ⟨b1xx, f0xx, f1xx, f2xx, f3xx⟩ := rf_cells v l7.out; have P2 := rPut_any C7 ((en : Int) + d.s.o) d.s.p v.c hv.c.1 hv.c.2; replace C7 : Hid _ := C7; replace D7 : Hid _ := D7)
          | (clear F2; go_at_call 25; refine P2.mono ?_; rintro _ w8 ⟨rfl, C8, D8⟩; have k8 : Hid (w8.heap[w.heap.size]? = some (rhO d)) := (D8.block _ a1xx xg).trans k7.out; have l8 : Hid (w8.heap[w.heap.size + 1]? = some (rfO v)) := (D8.block _ b1xx xg1).trans l7.out; obtain ⟨a1xxx, e0xxx, e1xxx, e2xxx, e3xxx, e4xxx, e5xxx, e6xxx, e7xxx, e8xxx⟩ := rh_cells d k8.out; obtain ⟨b1xxx, f0xxx, f1xxx, f2xxx, f3xxx⟩ := rf_cells v l8.out; have P3 := rPut_any C8 ((en : Int) + d.v.o) d.v.p v.d hv.d.1 hv.d.2; replace C8 : Hid _ := C8; replace D8 : Hid _ := D8)
          | (go_at_call 25; refine P3.mono ?_; rintro _ w9 ⟨rfl, C9, D9⟩; replace C9 : Hid _ := C9; replace D9 : Hid _ := D9))
        go_ret
        exact ⟨rfl, C9.out, (((((Cb.of_below (below_drewN hb2.out _) H.out.lt).trans D5.out).trans (Cb.of_only D6.out C5.out.lt C5.out.ne)).trans (Cb.of_only D7.out C6.out.lt C6.out.ne)).trans (Cb.of_only D8.out C7.out.lt C7.out.ne)).trans (Cb.of_only D9.out C8.out.lt C8.out.ne)⟩
end Go.Proofs.YtgklippjoikadaaDoor
namespace Go.Proofs.YtgklippjoikadaaDoor
open Go.ChangeShapes Go.WideShapes Go.ChangeAt Go.RowKit

/-- The same bytes up to len. -/
def Agr (len : Nat) (f g : Nat → Int) : Prop := ∀ j, j < len → f j = g j
theorem getE_in {st en : Nat} {a p : Int} (h : getE st en a p = 0) : inC st en a (sz p) = true := by
  unfold getE at h
  by_cases h0 : sz p = 0
  · rw [if_pos h0] at h; cases h
  · rw [if_neg h0] at h
    by_cases h2 : inC st en a (sz p) = true
    · exact h2
    · rw [if_neg h2] at h; cases h
section
variable {hi : Bool} {len st en : Nat} {f g : Nat → Int}
theorem getW_agr (h : Agr len f g) (hl : en ≤ len) (a p : Int) : getW hi st en f a p = getW hi st en g a p := by
  unfold getW
  split
  · rename_i e
    have h1 := inC_of (getE_in e)
    have h2 := sz_cases p
    exact wrd_congr fun j _ hj => h j (by omega)
  · rfl
theorem chT_agr (h : Agr len f g) (hl : en ≤ len) (a n : Int) : chT st en f a n = chT st en g a n := by
  unfold chT
  split
  · rename_i e
    have h1 : inC st en a n = true ∧ 0 ≤ n := by
      unfold chE at e
      by_cases h0 : n < 0
      · rw [if_pos h0] at e; cases e
      · rw [if_neg h0] at e
        by_cases h2 : inC st en a n = true
        · exact ⟨h2, by omega⟩
        · rw [if_neg h2] at e; cases e
    have h2 := inC_of h1.1
    exact textF_congr fun j _ hj => h j (by omega)
  · rfl
theorem putF_agr (h : Agr len f g) (a p x : Int) : Agr len (putF hi st en f a p x) (putF hi st en g a p x) := putF_congr h
theorem setF_agr (h : Agr len f g) (a n : Int) (t : ByteArray) : Agr len (setF st en f a n t) (setF st en g a n t) := by
  unfold setF
  split
  · exact lay_congr h
  · exact h
theorem wrF_agr (h : Agr len f g) (ln : Nat) (size : Int) (ns : List Nb) : Agr len (wrF hi ln st en f size ns) (wrF hi ln st en g size ns) := by
  unfold wrF
  split
  · exact puts_congr ns (lay_congr h)
  · exact h
theorem pwF_agr (h : Agr len f g) (b : Bool) (ln : Nat) (size : Int) (ns : List Nb) : Agr len (pwF b hi ln st en f size ns) (pwF b hi ln st en g size ns) := by
  unfold pwF
  split
  · exact wrF_agr h ln size ns
  · exact h
theorem pdF_agr (h : Agr len f g) (ln : Nat) (t : Tk) (s : ByteArray) : Agr len (pdF hi ln st en f t s) (pdF hi ln st en g t s) := by
  unfold pdF
  split
  · exact lay_congr (wrF_agr h ln _ _)
  · exact h
theorem clN_le (h : en ≤ len) (n : Int) : clN len en n ≤ len := by
  unfold clN
  rcases clE_cases len en n with ⟨e, _⟩ | ⟨e, _⟩ | ⟨e, h0, h1⟩
  · rw [e, if_neg (by decide)]; exact h
  · rw [e, if_neg (by decide)]; exact h
  · rw [e, if_pos rfl]; omega
theorem gwV_agr (h : Agr len f g) (hl : en ≤ len) (b : Bool) (size : Int) (s : Int × Int) : gwV b hi len st en f size s = gwV b hi len st en g size s := by
  unfold gwV
  split
  · exact getW_agr h (clN_le hl size) _ _
  · rfl
theorem gdn_agr (h : Agr len f g) (t : Tk) (hc : clE len en t.siz = 0) : gdn hi st en f t = gdn hi st en g t := by
  unfold gdn
  rcases clE_cases len en t.siz with ⟨e, _⟩ | ⟨e, _⟩ | ⟨_, h0, h1⟩
  · rw [e] at hc; cases hc
  · rw [e] at hc; cases hc
  · exact getW_agr h (by omega) _ _
theorem gdE_agr (h : Agr len f g) (t : Tk) : gdE hi len st en f t = gdE hi len st en g t := by
  unfold gdE
  by_cases hc : clE len en t.siz = 0
  · rw [if_pos hc, if_pos hc, gdn_agr h t hc]
  · rw [if_neg hc, if_neg hc]
theorem gdE_both {t : Tk} (e : gdE hi len st en f t = 0) : clE len en t.siz = 0 ∧ clE len (en + t.siz.toNat) (gdn hi st en f t) = 0 := by
  unfold gdE at e
  by_cases hg : lenG t = true
  · rw [if_pos hg] at e
    by_cases hc : clE len en t.siz = 0
    · rw [if_pos hc] at e; exact ⟨hc, e⟩
    · rw [if_neg hc] at e; exact absurd e hc
  · rw [if_neg hg] at e; cases e
theorem gdN_agr (h : Agr len f g) (t : Tk) : gdN hi len st en f t = gdN hi len st en g t := by
  unfold gdN
  rw [← gdE_agr h t]
  split
  · rename_i e
    rw [gdn_agr h t (gdE_both e).1]
  · rfl
theorem gdT_agr (h : Agr len f g) (t : Tk) : gdT hi len st en f t = gdT hi len st en g t := by
  unfold gdT
  rw [← gdE_agr h t]
  split
  · rename_i e
    obtain ⟨e1, e2⟩ := gdE_both e
    rw [← gdn_agr h t e1]
    rcases clE_cases len en t.siz with ⟨e3, _⟩ | ⟨e3, _⟩ | ⟨_, h0, h1⟩
    · rw [e3] at e1; cases e1
    · rw [e3] at e1; cases e1
    · rcases clE_cases len (en + t.siz.toNat) (gdn hi st en f t) with ⟨e4, _⟩ | ⟨e4, _⟩ | ⟨_, h2, h3⟩
      · rw [e4] at e2; cases e2
      · rw [e4] at e2; cases e2
      · exact textF_congr fun j _ hj => h j (by omega)
  · rfl
end
end Go.Proofs.YtgklippjoikadaaDoor
