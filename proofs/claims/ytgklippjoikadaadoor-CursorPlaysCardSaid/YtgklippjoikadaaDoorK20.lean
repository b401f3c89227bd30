/- CuRi, CuRf, CuRh. -/
import Derived.Test.YtgklippjoikadaaDoorK18
import Derived.Test.YtgklippjoikadaaDoorK11
import Derived.Test.YtgklippjoikadaaDoorK13
import Derived.Test.YtgklippjoikadaaDoorK09
namespace Go.Proofs.YtgklippjoikadaaDoor
open Go.ChangeShapes Go.WideShapes Go.ChangeAt Go.RowKit

set_option maxRecDepth 20000 in
set_option maxHeartbeats 1000000 in
theorem rGoodHead_any (h : Hd) (w : World) : Calls Tryd.prog 56 #[hdV h] w fun e w' => e = .returned (.bool (headG h)) ∧ Below w.heap.size w w' := by
  have F : Hid (∀ W, Below (w.alloc (.cells #[.int .i64 h.size, .int .i64 h.b.p, .int .i64 h.b.o, .int .i64 h.t.p, .int .i64 h.t.o, .int .i64 h.s.p, .int .i64 h.s.o, .int .i64 h.v.p, .int .i64 h.v.o] 42)).heap.size (w.alloc (.cells #[.int .i64 h.size, .int .i64 h.b.p, .int .i64 h.b.o, .int .i64 h.t.p, .int .i64 h.t.o, .int .i64 h.s.p, .int .i64 h.s.o, .int .i64 h.v.p, .int .i64 h.v.o] 42)) W → W.cell? ⟨w.heap.size, 0, none⟩ = some (.int .i64 h.size) ∧ W.cell? ⟨w.heap.size, 1, none⟩ = some (.int .i64 h.b.p) ∧ W.cell? ⟨w.heap.size, 2, none⟩ = some (.int .i64 h.b.o) ∧ W.cell? ⟨w.heap.size, 3, none⟩ = some (.int .i64 h.t.p) ∧ W.cell? ⟨w.heap.size, 4, none⟩ = some (.int .i64 h.t.o) ∧ W.cell? ⟨w.heap.size, 5, none⟩ = some (.int .i64 h.s.p) ∧ W.cell? ⟨w.heap.size, 6, none⟩ = some (.int .i64 h.s.o) ∧ W.cell? ⟨w.heap.size, 7, none⟩ = some (.int .i64 h.v.p) ∧ W.cell? ⟨w.heap.size, 8, none⟩ = some (.int .i64 h.v.o)) := fun W hb => by
    refine ⟨?_, ?_, ?_, ?_, ?_, ?_, ?_, ?_, ?_⟩ <;> exact (hb.cell (p := ⟨w.heap.size, _, none⟩) (by simp)).trans (cell_at (heap_al _ _) _)
  by_cases hz : 1 ≤ h.size ∧ h.size ≤ 65535
  · have S0 := fun W => rSpot_any h.size (h.b.p) (h.b.o) W hz.1 hz.2
    have S1 := fun W => rSpot_any h.size (h.t.p) (h.t.o) W hz.1 hz.2
    have S2 := fun W => rSpot_any h.size (h.s.p) (h.s.o) W hz.1 hz.2
    have S3 := fun W => rSpot_any h.size (h.v.p) (h.v.o) W hz.1 hz.2
    have e : (headG h) = ((goodB h.size (h.b.p) (h.b.o)) && (goodB h.size (h.t.p) (h.t.o)) && (goodB h.size (h.s.p) (h.s.o)) && (goodB h.size (h.v.p) (h.v.o))) := by
      unfold headG goods
      rw [decide_eq_true hz]
      simp [hdS, Bool.and_assoc]
    rw [e]
    clear e
    generalize goodB h.size (h.b.p) (h.b.o) = b0 at *
    generalize goodB h.size (h.t.p) (h.t.o) = b1 at *
    generalize goodB h.size (h.s.p) (h.s.o) = b2 at *
    generalize goodB h.size (h.v.p) (h.v.o) = b3 at *
    obtain ⟨z1, z2⟩ := hz
    have z3 : ¬ h.size < 1 := by omega
    have z4 : ¬ 65535 < h.size := by omega
    cases b0
    · have F0 : Hid (1 = 1) := rfl
      go_enter Tryd.func56, Tryd.ntmps56
      go_wp2_with (first
        | (go_at_call 76; clear F0; refine (S0 _).mono ?_; rintro _ w0 ⟨rfl, hx0⟩; have hb0 : Hid (Below (w.alloc (.cells #[.int .i64 h.size, .int .i64 h.b.p, .int .i64 h.b.o, .int .i64 h.t.p, .int .i64 h.t.o, .int .i64 h.s.p, .int .i64 h.s.o, .int .i64 h.v.p, .int .i64 h.v.o] 42)).heap.size (w.alloc (.cells #[.int .i64 h.size, .int .i64 h.b.p, .int .i64 h.b.o, .int .i64 h.t.p, .int .i64 h.t.o, .int .i64 h.s.p, .int .i64 h.s.o, .int .i64 h.v.p, .int .i64 h.v.o] 42)) w0) := hx0; obtain ⟨q0a, q1a, q2a, q3a, q4a, q5a, q6a, q7a, q8a⟩ := F.out w0 hb0.out; clear hx0))
      go_ret
      exact ⟨rfl, belT (bel1 _ _) hb0.out⟩
    · skip
      cases b1
      · have F0 : Hid (1 = 1) := rfl
        have F1 : Hid (1 = 1) := rfl
        go_enter Tryd.func56, Tryd.ntmps56
        go_wp2_with (first
          | (go_at_call 76; clear F0; refine (S0 _).mono ?_; rintro _ w0 ⟨rfl, hx0⟩; have hb0 : Hid (Below (w.alloc (.cells #[.int .i64 h.size, .int .i64 h.b.p, .int .i64 h.b.o, .int .i64 h.t.p, .int .i64 h.t.o, .int .i64 h.s.p, .int .i64 h.s.o, .int .i64 h.v.p, .int .i64 h.v.o] 42)).heap.size (w.alloc (.cells #[.int .i64 h.size, .int .i64 h.b.p, .int .i64 h.b.o, .int .i64 h.t.p, .int .i64 h.t.o, .int .i64 h.s.p, .int .i64 h.s.o, .int .i64 h.v.p, .int .i64 h.v.o] 42)) w0) := hx0; obtain ⟨q0a, q1a, q2a, q3a, q4a, q5a, q6a, q7a, q8a⟩ := F.out w0 hb0.out; clear hx0)
          | (go_at_call 76; clear F1; refine (S1 _).mono ?_; rintro _ w1 ⟨rfl, hx1⟩; have hb1 : Hid (Below (w.alloc (.cells #[.int .i64 h.size, .int .i64 h.b.p, .int .i64 h.b.o, .int .i64 h.t.p, .int .i64 h.t.o, .int .i64 h.s.p, .int .i64 h.s.o, .int .i64 h.v.p, .int .i64 h.v.o] 42)).heap.size (w.alloc (.cells #[.int .i64 h.size, .int .i64 h.b.p, .int .i64 h.b.o, .int .i64 h.t.p, .int .i64 h.t.o, .int .i64 h.s.p, .int .i64 h.s.o, .int .i64 h.v.p, .int .i64 h.v.o] 42)) w1) := belT hb0.out hx1; obtain ⟨q0b, q1b, q2b, q3b, q4b, q5b, q6b, q7b, q8b⟩ := F.out w1 hb1.out; clear hx1))
        go_ret
        exact ⟨rfl, belT (bel1 _ _) hb1.out⟩
      · skip
        cases b2
        · have F0 : Hid (1 = 1) := rfl
          have F1 : Hid (1 = 1) := rfl
          have F2 : Hid (1 = 1) := rfl
          go_enter Tryd.func56, Tryd.ntmps56
          go_wp2_with (first
            | (go_at_call 76; clear F0; refine (S0 _).mono ?_; rintro _ w0 ⟨rfl, hx0⟩; have hb0 : Hid (Below (w.alloc (.cells #[.int .i64 h.size, .int .i64 h.b.p, .int .i64 h.b.o, .int .i64 h.t.p, .int .i64 h.t.o, .int .i64 h.s.p, .int .i64 h.s.o, .int .i64 h.v.p, .int .i64 h.v.o] 42)).heap.size (w.alloc (.cells #[.int .i64 h.size, .int .i64 h.b.p, .int .i64 h.b.o, .int .i64 h.t.p, .int .i64 h.t.o, .int .i64 h.s.p, .int .i64 h.s.o, .int .i64 h.v.p, .int .i64 h.v.o] 42)) w0) := hx0; obtain ⟨q0a, q1a, q2a, q3a, q4a, q5a, q6a, q7a, q8a⟩ := F.out w0 hb0.out; clear hx0)
            | (go_at_call 76; clear F1; refine (S1 _).mono ?_; rintro _ w1 ⟨rfl, hx1⟩; have hb1 : Hid (Below (w.alloc (.cells #[.int .i64 h.size, .int .i64 h.b.p, .int .i64 h.b.o, .int .i64 h.t.p, .int .i64 h.t.o, .int .i64 h.s.p, .int .i64 h.s.o, .int .i64 h.v.p, .int .i64 h.v.o] 42)).heap.size (w.alloc (.cells #[.int .i64 h.size, .int .i64 h.b.p, .int .i64 h.b.o, .int .i64 h.t.p, .int .i64 h.t.o, .int .i64 h.s.p, .int .i64 h.s.o, .int .i64 h.v.p, .int .i64 h.v.o] 42)) w1) := belT hb0.out hx1; obtain ⟨q0b, q1b, q2b, q3b, q4b, q5b, q6b, q7b, q8b⟩ := F.out w1 hb1.out; clear hx1)
            | (go_at_call 76; clear F2; refine (S2 _).mono ?_; rintro _ w2 ⟨rfl, hx2⟩; have hb2 : Hid (Below (w.alloc (.cells #[.int .i64 h.size, .int .i64 h.b.p, .int .i64 h.b.o, .int .i64 h.t.p, .int .i64 h.t.o, .int .i64 h.s.p, .int .i64 h.s.o, .int .i64 h.v.p, .int .i64 h.v.o] 42)).heap.size (w.alloc (.cells #[.int .i64 h.size, .int .i64 h.b.p, .int .i64 h.b.o, .int .i64 h.t.p, .int .i64 h.t.o, .int .i64 h.s.p, .int .i64 h.s.o, .int .i64 h.v.p, .int .i64 h.v.o] 42)) w2) := belT hb1.out hx2; obtain ⟨q0c, q1c, q2c, q3c, q4c, q5c, q6c, q7c, q8c⟩ := F.out w2 hb2.out; clear hx2))
          go_ret
          exact ⟨rfl, belT (bel1 _ _) hb2.out⟩
        · skip
          cases b3
          · have F0 : Hid (1 = 1) := rfl
            have F1 : Hid (1 = 1) := rfl
            have F2 : Hid (1 = 1) := rfl
            have F3 : Hid (1 = 1) := rfl
            go_enter Tryd.func56, Tryd.ntmps56
            go_wp2_with (first
              | (go_at_call 76; clear F0; refine (S0 _).mono ?_; rintro _ w0 ⟨rfl, hx0⟩; have hb0 : Hid (Below (w.alloc (.cells #[.int .i64 h.size, .int .i64 h.b.p, .int .i64 h.b.o, .int .i64 h.t.p, .int .i64 h.t.o, .int .i64 h.s.p, .int .i64 h.s.o, .int .i64 h.v.p, .int .i64 h.v.o] 42)).heap.size (w.alloc (.cells #[.int .i64 h.size, .int .i64 h.b.p, .int .i64 h.b.o, .int .i64 h.t.p, .int .i64 h.t.o, .int .i64 h.s.p, .int .i64 h.s.o, .int .i64 h.v.p, .int .i64 h.v.o] 42)) w0) := hx0; obtain ⟨q0a, q1a, q2a, q3a, q4a, q5a, q6a, q7a, q8a⟩ := F.out w0 hb0.out; clear hx0)
              | (go_at_call 76; clear F1; refine (S1 _).mono ?_; rintro _ w1 ⟨rfl, hx1⟩; have hb1 : Hid (Below (w.alloc (.cells #[.int .i64 h.size, .int .i64 h.b.p, .int .i64 h.b.o, .int .i64 h.t.p, .int .i64 h.t.o, .int .i64 h.s.p, .int .i64 h.s.o, .int .i64 h.v.p, .int .i64 h.v.o] 42)).heap.size (w.alloc (.cells #[.int .i64 h.size, .int .i64 h.b.p, .int .i64 h.b.o, .int .i64 h.t.p, .int .i64 h.t.o, .int .i64 h.s.p, .int .i64 h.s.o, .int .i64 h.v.p, .int .i64 h.v.o] 42)) w1) := belT hb0.out hx1; obtain ⟨q0b, q1b, q2b, q3b, q4b, q5b, q6b, q7b, q8b⟩ := F.out w1 hb1.out; clear hx1)
              | (go_at_call 76; clear F2; refine (S2 _).mono ?_; rintro _ w2 ⟨rfl, hx2⟩; have hb2 : Hid (Below (w.alloc (.cells #[.int .i64 h.size, .int .i64 h.b.p, .int .i64 h.b.o, .int .i64 h.t.p, .int .i64 h.t.o, .int .i64 h.s.p, .int .i64 h.s.o, .int .i64 h.v.p, .int .i64 h.v.o] 42)).heap.size (w.alloc (.cells #[.int .i64 h.size, .int .i64 h.b.p, .int .i64 h.b.o, .int .i64 h.t.p, .int .i64 h.t.o, .int .i64 h.s.p, .int .i64 h.s.o, .int .i64 h.v.p, .int .i64 h.v.o] 42)) w2) := belT hb1.out hx2; obtain ⟨q0c, q1c, q2c, q3c, q4c, q5c, q6c, q7c, q8c⟩ := F.out w2 hb2.out; clear hx2)
              | (go_at_call 76; clear F3; refine (S3 _).mono ?_; rintro _ w3 ⟨rfl, hx3⟩; have hb3 : Hid (Below (w.alloc (.cells #[.int .i64 h.size, .int .i64 h.b.p, .int .i64 h.b.o, .int .i64 h.t.p, .int .i64 h.t.o, .int .i64 h.s.p, .int .i64 h.s.o, .int .i64 h.v.p, .int .i64 h.v.o] 42)).heap.size (w.alloc (.cells #[.int .i64 h.size, .int .i64 h.b.p, .int .i64 h.b.o, .int .i64 h.t.p, .int .i64 h.t.o, .int .i64 h.s.p, .int .i64 h.s.o, .int .i64 h.v.p, .int .i64 h.v.o] 42)) w3) := belT hb2.out hx3; obtain ⟨q0d, q1d, q2d, q3d, q4d, q5d, q6d, q7d, q8d⟩ := F.out w3 hb3.out; clear hx3))
            go_ret
            exact ⟨rfl, belT (bel1 _ _) hb3.out⟩
          · have F0 : Hid (1 = 1) := rfl
            have F1 : Hid (1 = 1) := rfl
            have F2 : Hid (1 = 1) := rfl
            have F3 : Hid (1 = 1) := rfl
            go_enter Tryd.func56, Tryd.ntmps56
            go_wp2_with (first
              | (go_at_call 76; clear F0; refine (S0 _).mono ?_; rintro _ w0 ⟨rfl, hx0⟩; have hb0 : Hid (Below (w.alloc (.cells #[.int .i64 h.size, .int .i64 h.b.p, .int .i64 h.b.o, .int .i64 h.t.p, .int .i64 h.t.o, .int .i64 h.s.p, .int .i64 h.s.o, .int .i64 h.v.p, .int .i64 h.v.o] 42)).heap.size (w.alloc (.cells #[.int .i64 h.size, .int .i64 h.b.p, .int .i64 h.b.o, .int .i64 h.t.p, .int .i64 h.t.o, .int .i64 h.s.p, .int .i64 h.s.o, .int .i64 h.v.p, .int .i64 h.v.o] 42)) w0) := hx0; obtain ⟨q0a, q1a, q2a, q3a, q4a, q5a, q6a, q7a, q8a⟩ := F.out w0 hb0.out; clear hx0)
              | (go_at_call 76; clear F1; refine (S1 _).mono ?_; rintro _ w1 ⟨rfl, hx1⟩; have hb1 : Hid (Below (w.alloc (.cells #[.int .i64 h.size, .int .i64 h.b.p, .int .i64 h.b.o, .int .i64 h.t.p, .int .i64 h.t.o, .int .i64 h.s.p, .int .i64 h.s.o, .int .i64 h.v.p, .int .i64 h.v.o] 42)).heap.size (w.alloc (.cells #[.int .i64 h.size, .int .i64 h.b.p, .int .i64 h.b.o, .int .i64 h.t.p, .int .i64 h.t.o, .int .i64 h.s.p, .int .i64 h.s.o, .int .i64 h.v.p, .int .i64 h.v.o] 42)) w1) := belT hb0.out hx1; obtain ⟨q0b, q1b, q2b, q3b, q4b, q5b, q6b, q7b, q8b⟩ := F.out w1 hb1.out; clear hx1)
              | (go_at_call 76; clear F2; refine (S2 _).mono ?_; rintro _ w2 ⟨rfl, hx2⟩; have hb2 : Hid (Below (w.alloc (.cells #[.int .i64 h.size, .int .i64 h.b.p, .int .i64 h.b.o, .int .i64 h.t.p, .int .i64 h.t.o, .int .i64 h.s.p, .int .i64 h.s.o, .int .i64 h.v.p, .int .i64 h.v.o] 42)).heap.size (w.alloc (.cells #[.int .i64 h.size, .int .i64 h.b.p, .int .i64 h.b.o, .int .i64 h.t.p, .int .i64 h.t.o, .int .i64 h.s.p, .int .i64 h.s.o, .int .i64 h.v.p, .int .i64 h.v.o] 42)) w2) := belT hb1.out hx2; obtain ⟨q0c, q1c, q2c, q3c, q4c, q5c, q6c, q7c, q8c⟩ := F.out w2 hb2.out; clear hx2)
              | (go_at_call 76; clear F3; refine (S3 _).mono ?_; rintro _ w3 ⟨rfl, hx3⟩; have hb3 : Hid (Below (w.alloc (.cells #[.int .i64 h.size, .int .i64 h.b.p, .int .i64 h.b.o, .int .i64 h.t.p, .int .i64 h.t.o, .int .i64 h.s.p, .int .i64 h.s.o, .int .i64 h.v.p, .int .i64 h.v.o] 42)).heap.size (w.alloc (.cells #[.int .i64 h.size, .int .i64 h.b.p, .int .i64 h.b.o, .int .i64 h.t.p, .int .i64 h.t.o, .int .i64 h.s.p, .int .i64 h.s.o, .int .i64 h.v.p, .int .i64 h.v.o] 42)) w3) := belT hb2.out hx3; obtain ⟨q0d, q1d, q2d, q3d, q4d, q5d, q6d, q7d, q8d⟩ := F.out w3 hb3.out; clear hx3))
            go_ret
            exact ⟨rfl, belT (bel1 _ _) hb3.out⟩
  · have e : (headG h) = false := by
      unfold headG goods
      rw [decide_eq_false hz]
      simp
    rw [e]
    clear e
    have hq : h.size < 1 ∨ (¬ h.size < 1 ∧ 65535 < h.size) := by omega
    rcases hq with z1 | ⟨z1, z2⟩
    · go_enter Tryd.func56, Tryd.ntmps56
      go_wp2_with fail
      go_ret
      exact ⟨rfl, bel1 _ _⟩
    · go_enter Tryd.func56, Tryd.ntmps56
      go_wp2_with fail
      go_ret
      exact ⟨rfl, bel1 _ _⟩
theorem rMost_any (p off n : Int) (hn : n ≤ 9223372036854775807) (w : World) : Calls Tryd.prog 60 #[.agg #[.int .i64 p, .int .i64 off], .int .i64 n] w fun e w' => e = .returned (.bool (decide (0 ≤ n ∧ n ≤ mx p))) ∧ Below w.heap.size w w' := by
  have S := fun W => refMax_any p W
  by_cases h0 : 0 ≤ n
  · have e : decide (0 ≤ n ∧ n ≤ mx p) = decide (n ≤ mx p) := decide_eq_decide.2 (by omega)
    rw [e]
    clear e
    go_enter Tryd.func60, Tryd.ntmps60
    go_wp2_with (go_at_call 57; refine (S _).mono ?_; rintro _ w1 ⟨rfl, he⟩; replace he := he.symm; subst he)
    go_ret
    exact ⟨rfl, bel1 _ _⟩
  · have e : decide (0 ≤ n ∧ n ≤ mx p) = false := decide_eq_false (by omega)
    rw [e]
    clear e
    have hd : decide (0 ≤ n) = false := decide_eq_false h0
    go_enter Tryd.func60, Tryd.ntmps60
    go_wp2_with fail
    go_ret
    exact ⟨rfl, bel1 _ _⟩
end Go.Proofs.YtgklippjoikadaaDoor
namespace Go.Proofs.YtgklippjoikadaaDoor
open Go.ChangeShapes Go.WideShapes Go.ChangeAt Go.RowKit

set_option maxHeartbeats 1000000 in
theorem rZero_any {w : World} {c g len cap st en : Nat} {hi : Bool} {f : Nat → Int} (h : Cs w c 1 g len cap st en hi f) (n : Nat) (hn : en + n ≤ len) :
    Calls Tryd.prog 58 #[.pointer (some ⟨c, 1, none⟩), .int .i64 n] w fun e w' => e = .returned (.int .i64 en) ∧ Cs w' c 1 g len cap st (en + n) hi (lay f en n ByteArray.empty) ∧ Cb c 1 g w w' := by
  have CL := rClaim_any h n
  have hz : clE len en n = 0 := by unfold clE; rw [if_neg (by omega), if_neg (by omega)]
  have h3 := h.h3
  have h4 := h.h4
  unfold clP clN at CL
  rw [hz, if_pos rfl, if_pos rfl, show ((n : Int)).toNat = n by omega] at CL
  clear h hz
  go_enter Tryd.func58, Tryd.ntmps58
  go_wp2_with (go_at_call 23; refine CL.mono ?_; rintro _ w1 ⟨rfl, C1, D1⟩)
  go_loopw [7] (fun i wr => ∃ k : Nat, k ≤ n ∧ i = .int .i64 k ∧ Cs wr c 1 g len cap st (en + n) hi (lay f en k ByteArray.empty) ∧ Only g w1 wr) (fun i _ => n - (intOf i).toNat)
  case atStart => exact ⟨0, Nat.zero_le _, rfl, C1.only (Only.refl _ _) (C1.row.congr fun j _ => by unfold lay; rw [if_neg (by omega)]) (lay_bd C1.bd _ _ _), Only.refl _ _⟩
  case round =>
    obtain ⟨k, hk, rfl, X1, X2⟩ := hrel
    by_cases hlt : k < n
    · rename World => wr
      have b1 : wr.cell? ⟨c, 1, none⟩ = _ := X1.buf
      have c0 := X1.row.cell (i := en + k) (by omega)
      have c1 := X1.row.frozen (en + k)
      have l1 : (en : Int) + (k : Int) < (len : Int) := by omega
      have l2 : (k : Int) < (n : Int) := by omega
      have X3 : Hid _ := only_setCell X2 (en + k) (.int .u8 0)
      have X4 : Hid (Cs _ c 1 g len cap st (en + n) hi (lay f en (k + 1) ByteArray.empty)) := X1.only (only_setCell (Only.refl _ _) (en + k) (.int .u8 0)) ((X1.row.set (en + k) (.int .u8 0)).congr fun j _ => by
        unfold lay
        by_cases e : j = en + k
        · subst e; rw [if_pos rfl, if_pos (by omega)]; rfl
        · rw [if_neg e]
          by_cases e2 : en ≤ j ∧ j < en + k
          · rw [if_pos e2, if_pos (by omega)]
          · rw [if_neg e2, if_neg (by omega)]) (by
        intro j
        exact lay_bd C1.bd _ _ _ j)
      clear X1 X2
      go_wp2_with fail
      go_roundw
      case rel => exact ⟨k + 1, by omega, by go_num, X4.out, X3.out⟩
      case measure => simp [intOf]; omega
    · obtain rfl : k = n := by omega
      have l2 : ¬ (k : Int) < (k : Int) := by omega
      go_wp2_with fail
      go_ret
      exact ⟨rfl, X1, D1.trans (Cb.of_only X2 C1.lt C1.ne)⟩
end Go.Proofs.YtgklippjoikadaaDoor
namespace Go.Proofs.YtgklippjoikadaaDoor
open Go.ChangeShapes Go.WideShapes Go.ChangeAt Go.RowKit

theorem chF_at (s : ByteArray) (k : Nat) (h : k < s.size) : chF s k = ((s[k]'h).toNat : Int) := by
  have hl : k < s.data.toList.length := h
  unfold chF
  rw [List.getD_eq_getElem?_getD, List.getElem?_map, List.getElem?_eq_getElem hl]
  rfl
set_option maxHeartbeats 1000000 in
theorem rSet_ok {w : World} {c g len cap st en : Nat} {hi : Bool} {f : Nat → Int} (h : Cs w c 1 g len cap st en hi f) (a n : Nat) (s : ByteArray) (h1 : st ≤ a) (h2 : a + n ≤ en) (hs : s.size ≤ n) :
    Calls Tryd.prog 29 #[.pointer (some ⟨c, 1, none⟩), .int .i64 a, .int .i64 n, .string s] w fun e w' => e = .returned (.int .i64 0) ∧ Cs w' c 1 g len cap st en hi (lay f a n s) ∧ Only g w w' := by
  have HO := rInside_any h a n (by omega)
  rw [inC_yes (by omega)] at HO
  have h5 := h.h2
  have h3 := h.h3
  have h4 := h.h4
  have C1 : Hid (Cs w c 1 g len cap st en hi f) := h
  clear h
  go_enter Tryd.func29, Tryd.ntmps29
  go_wp2_with (go_at_call 50; refine HO.mono ?_; rintro _ w1 ⟨rfl, he⟩; replace he := he.symm; subst he)
  go_loopw [9] (fun i wr => ∃ k : Nat, k ≤ n ∧ i = .int .i64 k ∧ Cs wr c 1 g len cap st en hi (lay f a k s) ∧ Only g w wr) (fun i _ => n - (intOf i).toNat)
  case atStart => exact ⟨0, Nat.zero_le _, rfl, C1.out.only (Only.refl _ _) (C1.out.row.congr fun j _ => by unfold lay; rw [if_neg (by omega)]) (lay_bd C1.out.bd _ _ _), Only.refl _ _⟩
  case round =>
    obtain ⟨k, hk, rfl, X1, X2⟩ := hrel
    rename World => wr
    by_cases hlt : k < n
    · have b1 : wr.cell? ⟨c, 1, none⟩ = _ := X1.buf
      have c0 := X1.row.cell (i := a + k) (by omega)
      have c1 := X1.row.frozen (a + k)
      have l1 : (a : Int) + (k : Int) < (len : Int) := by omega
      have l2 : (k : Int) < (n : Int) := by omega
      by_cases hks : k < s.size
      · have l3 : (k : Int) < (s.size : Int) := by omega
        have hb1 : (wr.setCell ⟨g, a + k, none⟩ (.int .u8 0)).cell? ⟨c, 1, none⟩ = _ := (World.cell?_setCell_other _ _ _ _ (fun e => X1.ne (by simpa using (congrArg Addr.block e).symm))).trans X1.buf
        have hc0 : (wr.setCell ⟨g, a + k, none⟩ (.int .u8 0)).cell? ⟨g, a + k, none⟩ = _ := World.cell?_setCell_same _ _ _ c0
        have hc1 : (wr.setCell ⟨g, a + k, none⟩ (.int .u8 0)).frozen? ⟨g, a + k, none⟩ = false := by rw [World.frozen?_setCell]; exact c1
        go_wp2_with fail
        have ek := chF_at s k hks
        have O1 : Only g wr ((wr.setCell ⟨g, a + k, none⟩ (.int .u8 0)).setCell ⟨g, a + k, none⟩ (.int .u8 ((s[k]'hks).toNat : Int))) := only_setCell (only_setCell (Only.refl _ _) _ _) _ _
        have O2 : Hid (Only g w ((wr.setCell ⟨g, a + k, none⟩ (.int .u8 0)).setCell ⟨g, a + k, none⟩ (.int .u8 ((s[k]'hks).toNat : Int))).drew) := (only_setCell (only_setCell X2 _ _) _ _).trans_below (Below.refl _ _).drew
        have X4 : Hid (Cs ((wr.setCell ⟨g, a + k, none⟩ (.int .u8 0)).setCell ⟨g, a + k, none⟩ (.int .u8 ((s[k]'hks).toNat : Int))).drew c 1 g len cap st en hi (lay f a (k + 1) s)) := (X1.only O1 (((X1.row.set (a + k) (.int .u8 0)).set (a + k) (.int .u8 ((s[k]'hks).toNat : Int))).congr fun j _ => by
          unfold lay
          by_cases e : j = a + k
          · subst e; rw [if_pos rfl, if_pos (by omega), show a + k - a = k by omega, ek]
          · rw [if_neg e, if_neg e]
            by_cases e2 : a ≤ j ∧ j < a + k
            · rw [if_pos e2, if_pos (by omega)]
            · rw [if_neg e2, if_neg (by omega)]) (fun j => lay_bd C1.out.bd _ _ _ j)).below (Below.refl _ _).drew
        clear X1 X2 O1
        go_region
        go_wp2_with fail
        go_roundw
        case rel => exact ⟨k + 1, by omega, by go_num, X4.out, O2.out⟩
        case measure => simp [intOf]; omega
      · have l3 : ¬ (k : Int) < (s.size : Int) := by omega
        have X3 : Hid _ := only_setCell X2 (a + k) (.int .u8 0)
        have X4 : Hid (Cs _ c 1 g len cap st en hi (lay f a (k + 1) s)) := X1.only (only_setCell (Only.refl _ _) (a + k) (.int .u8 0)) ((X1.row.set (a + k) (.int .u8 0)).congr fun j _ => by
          unfold lay
          by_cases e : j = a + k
          · subst e; rw [if_pos rfl, if_pos (by omega), chF_out s _ (by omega)]
          · rw [if_neg e]
            by_cases e2 : a ≤ j ∧ j < a + k
            · rw [if_pos e2, if_pos (by omega)]
            · rw [if_neg e2, if_neg (by omega)]) (fun j => lay_bd C1.out.bd _ _ _ j)
        clear X1 X2
        go_wp2_with fail
        go_roundw
        case rel => exact ⟨k + 1, by omega, by go_num, X4.out, X3.out⟩
        case measure => simp [intOf]; omega
    · obtain rfl : k = n := by omega
      have l2 : ¬ (k : Int) < (k : Int) := by omega
      go_wp2_with fail
      go_ret
      exact ⟨rfl, X1, X2⟩
theorem rSet_any {w : World} {c g len cap st en : Nat} {hi : Bool} {f : Nat → Int} (h : Cs w c 1 g len cap st en hi f) (at' n : Int) (s : ByteArray) :
    Calls Tryd.prog 29 #[.pointer (some ⟨c, 1, none⟩), .int .i64 at', .int .i64 n, .string s] w fun e w' => e = .returned (.int .i64 (setE st en at' n s)) ∧ Cs w' c 1 g len cap st en hi (setF st en f at' n s) ∧ Only g w w' := by
  unfold setF setE
  by_cases h0 : n < 0
  · rw [if_pos h0, if_neg (by decide)]
    have H : Hid (Cs w c 1 g len cap st en hi f) := h
    clear h
    go_enter Tryd.func29, Tryd.ntmps29
    go_wp2
    go_ret
    exact ⟨rfl, H.out, Only.refl _ _⟩
  · rw [if_neg h0]
    by_cases hin : inC st en at' n = true
    · rw [if_pos hin]
      have hb := inC_of hin
      obtain ⟨a, rfl⟩ : ∃ a : Nat, at' = a := ⟨at'.toNat, by omega⟩
      obtain ⟨m, rfl⟩ : ∃ m : Nat, n = m := ⟨n.toNat, by omega⟩
      have ha : ((a : Int)).toNat = a := by omega
      have hm : ((m : Int)).toNat = m := by omega
      by_cases hs : (s.size : Int) ≤ (m : Int)
      · rw [if_pos hs, if_pos rfl, ha, hm]
        exact rSet_ok h a m s (by omega) (by omega) (by omega)
      · rw [if_neg hs, if_neg (by decide)]
        have HO := rInside_any h a m (by omega)
        rw [hin] at HO
        have H : Hid (Cs w c 1 g len cap st en hi f) := h
        clear h hin hb ha hm
        have hs' : (m : Int) < (s.size : Int) := by omega
        go_enter Tryd.func29, Tryd.ntmps29
        go_wp2_with (go_at_call 50; refine HO.mono ?_; rintro _ w1 ⟨rfl, he⟩; replace he := he.symm; subst he)
        go_ret
        exact ⟨rfl, H.out, Only.refl _ _⟩
    · have hin' : inC st en at' n = false := by simpa using hin
      rw [if_neg hin, if_neg (by decide)]
      have HO := rInside_any h at' n (by omega)
      rw [hin'] at HO
      have H : Hid (Cs w c 1 g len cap st en hi f) := h
      clear h hin hin'
      go_enter Tryd.func29, Tryd.ntmps29
      go_wp2_with (go_at_call 50; refine HO.mono ?_; rintro _ w1 ⟨rfl, he⟩; replace he := he.symm; subst he)
      go_ret
      exact ⟨rfl, H.out, Only.refl _ _⟩
end Go.Proofs.YtgklippjoikadaaDoor
