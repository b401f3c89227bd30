/- One more room in a row: gap. -/
import Derived.Test.YtjdinlgbfpkodaaLOne2
namespace Go.Proofs.Ytjdinlgbfpkodaa
open Go.ChangeShapes Go.WideShapes Go.ChangeAt Go.RowKit

set_option maxHeartbeats 4000000 in
theorem gap_any (R H : Nat) (s : St) (b : Int) (x : Rm) (w : World) (hS : SRow 1 w R H s b) (hR : R < H) (hH : H ≤ w.heap.size) (hl : s.tol.length ≤ 8796093021952) (he : 0 ≤ s.e ∧ s.e ≤ 65535) (ht : 0 ≤ s.t ∧ s.t ≤ 65535) (hx : x.ok) :
    Calls Try.prog 33 #[.pointer (some ⟨R, 0, none⟩), rmV x] w (OnePost 1 R H s b x w) := by
  obtain ⟨v, hC, h0, h1, h2, hk⟩ := hS
  rcases hk with ⟨k, _⟩ | ⟨_, h3, h5, hZ⟩
  · exact absurd k (by decide)
  unfold OnePost
  have hB := bel1 w (.cells #[.int .i64 x.sz, .int .i64 x.of] 35)
  have cL := lay_any R x s.e v _ (hC.below hB) h0 he hx
  have hlt := hC.lt
  by_cases hE : layErr x s.e = 0
  · have hst : stp 1 s x = (if 0 < x.sz then { s with e := layFrom x s.e + x.sz, t := layFrom x s.e + x.sz, tol := s.tol ++ gapL s.t x.of } else { s with e := layFrom x s.e + x.sz }) := rfl
    rw [hst, hE]
    have hok := layErr_ok hE
    rw [hE] at cL
    unfold layV at cL
    rw [if_pos hE] at cL
    clear hst hE
    generalize layFrom x s.e = F at cL hok ⊢
    have hx2 := hx.2
    have hC2 : ∀ w1, Kp R (w.alloc (.cells #[.int .i64 x.sz, .int .i64 x.of] 35)).heap.size (w.alloc (.cells #[.int .i64 x.sz, .int .i64 x.of] 35)) w1 → RC w1 R (upd v 0 (.int .i64 (F + x.sz))) → SRow 1 w1 R H { s with e := F + x.sz } b := fun w1 hK1 hC1 => ⟨_, hC1, rfl, h1, h2, .inr ⟨by decide, h3, h5, own_same hZ fun k hk => by
      have := own_lt hZ hk
      exact (hK1.block k (by rw [World.size_alloc]; omega) (by omega)).trans (hB.block k this.2)⟩⟩
    by_cases hp : 0 < x.sz
    · rw [if_pos hp]
      go_enter Try.func33, Try.ntmps33
      go_wp2_with (go_at_call 40; refine cL.mono ?_; rintro _ w1 ⟨rfl, hK1, hC1⟩; have hs1 : w.heap.size < w1.heap.size := (by have := hK1.size; rw [World.size_alloc] at this; omega); have x0 : w1.cell? ⟨w.heap.size, 0, none⟩ = some (.int .i64 x.sz) := (hK1.cell (by simp) (by omega)).trans (cell_lit (heap_new w _) 0); have x1 : w1.cell? ⟨w.heap.size, 1, none⟩ = some (.int .i64 x.of) := (hK1.cell (by simp) (by omega)).trans (cell_lit (heap_new w _) 1); have cT := tellGap_any R H _ b x.of w1 (hC2 w1 hK1 hC1) hR (by omega) hl ht hx2)
      refine cT.mono ?_
      rintro _ w2 ⟨rfl, hK2, v2, hC3, k0, k1, k2, kk⟩
      rcases kk with ⟨k, _⟩ | ⟨_, k3, k5, hZ2⟩
      · exact absurd k (by decide)
      have e0 := hC3.c 0 (by decide)
      rw [k0] at e0
      have e1 := hC3.c 1 (by decide)
      have f1 := hC3.fz 1
      have HX : Hid (Kp R H w (w2.setCell ⟨R, 1, none⟩ (.int .i64 (F + x.sz))) ∧ RC (w2.setCell ⟨R, 1, none⟩ (.int .i64 (F + x.sz))) R (upd v2 1 (.int .i64 (F + x.sz))) ∧ ROwn (w2.setCell ⟨R, 1, none⟩ (.int .i64 (F + x.sz))) H (v2 4) (s.tol ++ gapL s.t x.of)) := by
        refine ⟨(((Kp.of (hB.mono hH)).trans (hK1.mono (by rw [World.size_alloc]; omega))).trans hK2).trans (Kp.set R H 1 w2 _), hC3.set 1 _, own_same hZ2 fun k hk => Below.heap_setCell _ _ _ _ (show k ≠ R from fun e => ?_)⟩
        have := own_lt hZ2 hk
        omega
      clear hK1 hC1 hK2 hC3 hZ2 hZ hB hC2
      go_wp2_with fail
      go_ret
      exact ⟨rfl, HX.out.1, ⟨_, HX.out.2.1⟩, fun _ => ⟨_, HX.out.2.1, k0, rfl, k2, .inr ⟨by decide, k3, k5, HX.out.2.2⟩⟩⟩
    · rw [if_neg hp]
      go_enter Try.func33, Try.ntmps33
      go_wp2_with (go_at_call 40; refine cL.mono ?_; rintro _ w1 ⟨rfl, hK1, hC1⟩; have hs1 : w.heap.size < w1.heap.size := (by have := hK1.size; rw [World.size_alloc] at this; omega); have x0 : w1.cell? ⟨w.heap.size, 0, none⟩ = some (.int .i64 x.sz) := (hK1.cell (by simp) (by omega)).trans (cell_lit (heap_new w _) 0))
      go_ret
      exact ⟨rfl, (Kp.of (hB.mono hH)).trans (hK1.mono (by rw [World.size_alloc]; omega)), ⟨_, hC1⟩, fun _ => hC2 w1 hK1 hC1⟩
  · rw [show layV v x s.e = v from if_neg hE] at cL
    go_enter Try.func33, Try.ntmps33
    go_wp2_with (go_at_call 40; refine cL.mono ?_; rintro _ w1 ⟨rfl, hK1, hC1⟩)
    go_ret
    exact ⟨rfl, (Kp.of (hB.mono hH)).trans (hK1.mono (by rw [World.size_alloc]; omega)), ⟨_, hC1⟩, fun h => absurd h hE⟩
end Go.Proofs.Ytjdinlgbfpkodaa
