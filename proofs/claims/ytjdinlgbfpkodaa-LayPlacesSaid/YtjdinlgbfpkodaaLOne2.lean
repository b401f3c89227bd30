/- One more room in a row: plain, gap. -/
import Derived.Test.YtjdinlgbfpkodaaLOne
namespace Go.Proofs.Ytjdinlgbfpkodaa
open Go.ChangeShapes Go.WideShapes Go.ChangeAt Go.RowKit

theorem own_kp {w w' : World} {R H : Nat} {ty : TypeId} {sz n : Nat} {v : Value} {xs : List Value} (h : w.ownsRow H ty sz v n xs) (hR : R < H) (hK : Kp R w.heap.size w w') : w'.ownsRow H ty sz v n xs :=
  own_same h fun k hk => by
    have := own_lt h hk
    exact hK.block k this.2 (by omega)
/-- What an append onto the row's told rooms leaves, and the store behind it. -/
theorem told_ap {R H : Nat} {s : St} {b a c : Int} {v : Nat → Value} {w1 : World} (hC1 : RC w1 R v) (h0 : v 0 = .int .i64 s.e) (h1 : v 1 = .int .i64 s.t) (h2 : v 2 = .int .i64 b) (h3 : v 3 = nilS) (h5 : s.off = []) (hZ1 : ROwn w1 H (v 4) s.tol) (hR : R < H) (hH : H ≤ w1.heap.size) (hl : s.tol.length ≤ 8796093021952) :
    ∃ p2 c2 w2, (∀ ty, (Builtin.append_ #[23, 23] ty #[v 4, .slice (some ⟨w1.heap.size, 0, none⟩) 1 1]).run Try.prog (w1.alloc (.cells #[.int .i64 a, .int .i64 c] 35)).drew = .ok (.slice p2 (s.tol.length + 1) c2) w2) ∧
      w2.cell? ⟨R, 4, none⟩ = some (v 4) ∧ w2.frozen? ⟨R, 4, none⟩ = false ∧
      Hid (Kp R H w1 (w2.setCell ⟨R, 4, none⟩ (.slice p2 (s.tol.length + 1) c2)) ∧ (∃ v, RC (w2.setCell ⟨R, 4, none⟩ (.slice p2 (s.tol.length + 1) c2)) R v) ∧ SRow 1 (w2.setCell ⟨R, 4, none⟩ (.slice p2 (s.tol.length + 1) c2)) R H { s with tol := s.tol ++ [⟨a, c⟩] } b ∧ SRow 2 (w2.setCell ⟨R, 4, none⟩ (.slice p2 (s.tol.length + 1) c2)) R H { s with tol := s.tol ++ [⟨a, c⟩] } b) := by
  have hB2 : Below w1.heap.size w1 (w1.alloc (.cells #[.int .i64 a, .int .i64 c] 35)).drew := (bel1 w1 _).drew
  obtain ⟨v2, w2, hrun, hown, hgr, hbk⟩ := r_ap (bl := [⟨a, c⟩]) (ad := ⟨w1.heap.size, 0, none⟩) (H := w1.heap.size + 1) 1 (own_below hZ1 hB2) (RmRow.lit (heap_new w1 _) (Nat.lt_succ_self _)) (by simp; omega) (by have := hB2.size; omega)
  have hbR : w2.heap[R]? = w1.heap[R]? := (hgr.block R (Nat.lt_of_lt_of_le hC1.lt hB2.size) (fun e => by have := own_lt hZ1 e.symm; omega)).trans (hB2.block R hC1.lt)
  have hC2 : RC w2 R _ := hC1.same hbR (Nat.le_trans hB2.size hgr.size)
  have hK2 : Kp R H w1 w2 := ⟨hgr.os.trans hB2.os, hgr.tape.trans hB2.tape, hgr.output.trans hB2.output, by have := hgr.size; have := hB2.size; omega, fun k hk hn =>
    (hgr.block k (by have := hB2.size; omega) (fun e => by have := own_lt hZ1 e.symm; omega)).trans (hB2.block k (by omega))⟩
  obtain ⟨p2, c2, hv2, _⟩ := hown.shape
  rw [List.length_append, List.length_singleton] at hv2
  have hO : ROwn (w2.setCell ⟨R, 4, none⟩ v2) H v2 (s.tol ++ [⟨a, c⟩]) := by
    refine own_same (v := v2) hown fun k hk => Below.heap_setCell _ _ _ _ (show k ≠ R from fun e => ?_)
    have := own_lt hown hk
    omega
  subst hv2
  exact ⟨p2, c2, w2, hrun, hC2.c 4 (by decide), hC2.fz 4, ⟨hK2.trans (Kp.set R H 4 w2 _), ⟨_, hC2.set 4 _⟩, ⟨_, hC2.set 4 _, h0, h1, h2, .inr ⟨by decide, h3, h5, hO⟩⟩, ⟨_, hC2.set 4 _, h0, h1, h2, .inr ⟨by decide, h3, h5, hO⟩⟩⟩⟩
set_option maxHeartbeats 4000000 in
theorem tellGap_any (R H : Nat) (s : St) (b : Int) (u : Int) (w : World) (hS : SRow 1 w R H s b) (hR : R < H) (hH : H ≤ w.heap.size) (hl : s.tol.length ≤ 8796093021952) (ht : 0 ≤ s.t ∧ s.t ≤ 65535) (hu : i64ok u) :
    Calls Try.prog 34 #[.pointer (some ⟨R, 0, none⟩), .int .i64 u] w fun r w' => r = .returned (.tuple #[]) ∧ Kp R H w w' ∧ SRow 1 w' R H { s with tol := s.tol ++ gapL s.t u } b := by
  obtain ⟨v, hC, h0, h1, h2, hk⟩ := hS
  rcases hk with ⟨k, _⟩ | ⟨_, h3, h5, hZ⟩
  · exact absurd k (by decide)
  have e1 := hC.c 1 (by decide)
  rw [h1] at e1
  unfold gapL
  by_cases hg : s.t < u
  · rw [if_pos hg]
    obtain ⟨hu1, hu2⟩ := hu
    have e4 := hC.c 4 (by decide)
    have f4 := hC.fz 4
    obtain ⟨p2, c2, w2, hrun, q4, g4, HX⟩ := told_ap (a := u - s.t) (c := s.t) hC h0 h1 h2 h3 h5 hZ hR hH hl
    obtain ⟨pp, cp, hv4, _⟩ := hZ.shape
    rw [hv4] at e4 hrun q4
    have hwr : IntKind.i64.wrap (u - s.t) = u - s.t := by rw [IntKind.wrap_i64]; omega
    have e4b : (w.alloc (.cells #[.int .i64 (u - s.t), .int .i64 s.t] 35)).cell? ⟨R, 4, none⟩ = some (.slice pp s.tol.length cp) := ((bel1 w _).cell (p := ⟨R, 4, none⟩) hC.lt).trans e4
    clear hC hZ h0 h1 h2 h3 h5 hv4
    go_enter Try.func34, Try.ntmps34
    go_wp2_with fail
    go_region_law (refine step_append_ex ?_ (.tmp 14) (.tmp 26) _ _ ?_ _ _ ?_ ?_ (fun a b => a = _ ∧ b = w2) ⟨_, w2, hrun, rfl, rfl⟩ ?_; rfl; rfl; rfl; rfl; rintro _ _ ⟨rfl, rfl⟩)
    all_goals
      go_wp2_with fail
      go_end0
      exact ⟨rfl, HX.out.1, HX.out.2.2.1⟩
  · rw [if_neg hg, List.append_nil]
    go_enter Try.func34, Try.ntmps34
    go_wp2_with fail
    go_end0
    exact ⟨rfl, Kp.refl _ _ _, ⟨v, hC, h0, h1, h2, .inr ⟨by decide, h3, rfl, hZ⟩⟩⟩
set_option maxHeartbeats 4000000 in
theorem plain_any (R H : Nat) (s : St) (b : Int) (x : Rm) (w : World) (hS : SRow 2 w R H s b) (hR : R < H) (hH : H ≤ w.heap.size) (hl : s.tol.length ≤ 8796093021952) (he : 0 ≤ s.e ∧ s.e ≤ 65535) (hx : x.ok) :
    Calls Try.prog 31 #[.pointer (some ⟨R, 0, none⟩), rmV x] w (OnePost 2 R H s b x w) := by
  obtain ⟨v, hC, h0, h1, h2, hk⟩ := hS
  rcases hk with ⟨k, _⟩ | ⟨_, h3, h5, hZ⟩
  · exact absurd k (by decide)
  unfold OnePost
  have hB := bel1 w (.cells #[.int .i64 x.sz, .int .i64 x.of] 35)
  have c0 := (hC.below hB).c 0 (by decide)
  rw [h0] at c0
  have cL := fun n => lay_any R x s.e v _ ((hC.below hB).drewN n) h0 he hx
  have hlt := hC.lt
  have hu := unsaid_any x.of s.e
  by_cases hE : layErr x s.e = 0
  · have hst : stp 2 s x = { ({ s with e := layFrom x s.e + x.sz } : St) with tol := s.tol ++ [⟨x.sz, if x.of = s.e then -1 else x.of⟩] } := rfl
    rw [hst]
    generalize hU : (if x.of = s.e then -1 else x.of) = U at hu ⊢
    rw [hE]
    simp only [hE] at cL
    unfold layV at cL
    simp only [hE, if_true] at cL
    clear hst
    generalize layFrom x s.e = F at cL ⊢
    go_enter Try.func31, Try.ntmps31
    go_wp2_with fail
    go_quiet ((go_at_call 32; exact Calls.quiet_of_same (hu _)))
    go_wp2_with (go_at_call 40; refine (cL _).mono ?_; rintro _ w1 ⟨rfl, hK1, hC1⟩)
    have hs1 : w.heap.size < w1.heap.size := by have := hK1.size; simp at this; omega
    have e4 := hC1.c 4 (by decide)
    have f4 := hC1.fz 4
    have e40 : upd v 0 (.int .i64 (F + x.sz)) 4 = v 4 := rfl
    rw [e40] at e4
    have x0 : w1.cell? ⟨w.heap.size, 0, none⟩ = some (.int .i64 x.sz) := (hK1.cell (by simp) (by omega)).trans (cell_lit (heap_new w _) 0)
    have hZ1 : ROwn w1 H (v 4) s.tol := own_same hZ fun k hk => by
      have := own_lt hZ hk
      exact (hK1.block k (by simp; omega) (by omega)).trans (hB.block k this.2)
    obtain ⟨p2, c2, w2, hrun, q4, g4, HX⟩ := told_ap (s := { s with e := F + x.sz }) (a := x.sz) (c := U) hC1 rfl h1 h2 h3 h5 hZ1 hR (by omega) hl
    have HX2 : Hid (Kp R H w (w2.setCell ⟨R, 4, none⟩ (.slice p2 (s.tol.length + 1) c2))) := Hid.mk <| ((Kp.of (hB.mono hH)).drewN _ |>.trans (hK1.mono (by simp; omega))).trans HX.out.1
    rw [e40] at hrun q4
    obtain ⟨pp, cp, hv4, _⟩ := hZ.shape
    rw [hv4] at e4 hrun q4
    have e4b : (w1.alloc (.cells #[.int .i64 x.sz, .int .i64 U] 35)).cell? ⟨R, 4, none⟩ = some (.slice pp s.tol.length cp) := ((bel1 w1 _).cell (p := ⟨R, 4, none⟩) hC1.lt).trans e4
    clear hC hZ h0 h1 h2 h3 h5 hv4 hK1 hC1 hZ1 hB cL hu c0
    dsimp only at hrun
    go_region_law (refine step_append_ex ?_ (.tmp 24) (.tmp 29) _ _ ?_ _ _ ?_ ?_ (fun a b => a = _ ∧ b = w2) ⟨_, w2, hrun, rfl, rfl⟩ ?_; rfl; rfl; rfl; rfl; rintro _ _ ⟨rfl, rfl⟩)
    all_goals
      go_wp2_with fail
      go_ret
      exact ⟨rfl, HX2.out, HX.out.2.1, HX.out.2.2.2⟩
  · have hv : layV v x s.e = v := if_neg hE
    rw [hv] at cL
    generalize hU : (if x.of = s.e then -1 else x.of) = U at hu
    go_enter Try.func31, Try.ntmps31
    go_wp2_with fail
    go_quiet ((go_at_call 32; exact Calls.quiet_of_same (hu _)))
    go_wp2_with (go_at_call 40; refine (cL _).mono ?_; rintro _ w1 ⟨rfl, hK1, hC1⟩)
    go_ret
    exact ⟨rfl, ((Kp.of (hB.mono hH)).drewN _).trans (hK1.mono (by simp; omega)), ⟨_, hC1⟩, fun h => absurd h hE⟩
end Go.Proofs.Ytjdinlgbfpkodaa
