/- look, take, parcel. -/
import Derived.Test.YtnicdehbedcdpaaFmB
namespace Go.Proofs.Ytnicdehbedcdpaa
open Go.ChangeShapes Go.WideShapes Go.ChangeAt Go.RowKit

theorem count_n {w : World} {B R : Nat} {v : Value} {L : List Nat} {fr : Nat} {lim er : Int} (h : Fr w B R v L fr lim er) {N : Nat} (hN : (L.drop fr).length = N) :
    Calls Try.prog 25 #[.pointer (some ⟨R, 0, none⟩)] w fun e w' => e = .returned (.int .i64 (N : Int)) ∧ Below w.heap.size w w' := by
  rw [List.length_drop] at hN
  rw [← hN]
  exact count_any h
theorem length_n {w : World} {B R : Nat} {v : Value} {L : List Nat} {fr : Nat} {lim er : Int} (h : Fr w B R v L fr lim er) {N M : Nat} (hN : (L.drop fr).length = N) (h4 : 4 ≤ N) (hM : lnZ (L.drop fr) = M) :
    Calls Try.prog 26 #[.pointer (some ⟨R, 0, none⟩)] w fun e w' => e = .returned (.int .i64 (M : Int)) ∧ Below w.heap.size w w' := by
  rw [← hM]
  exact length_any h (by omega)
theorem kind_n {w : World} {B R : Nat} {v : Value} {L : List Nat} {fr : Nat} {lim er : Int} (h : Fr w B R v L fr lim er) {N T : Nat} (hN : (L.drop fr).length = N) (h6 : 6 ≤ N) (hT : kdZ (L.drop fr) = T) :
    Calls Try.prog 41 #[.pointer (some ⟨R, 0, none⟩)] w fun e w' => e = .returned (.int .i64 (T : Int)) ∧ Below w.heap.size w w' := by
  rw [← hT]
  exact kind_any h (by omega)
set_option maxHeartbeats 2000000 in
theorem look_any {w : World} {B R : Nat} {v : Value} {L : List Nat} {fr : Nat} {lim er : Int} (hF : Fr w B R v L fr lim er) :
    Calls Try.prog 36 #[.pointer (some ⟨R, 0, none⟩)] w fun e w' => e = .returned (.int .i64 ((lkZ lim (L.drop fr) : Nat) : Int)) ∧ Below w.heap.size w w' := by
  unfold lkZ
  obtain ⟨N, hN⟩ : ∃ N, (L.drop fr).length = N := ⟨_, rfl⟩
  obtain ⟨M, hM⟩ : ∃ M, lnZ (L.drop fr) = M := ⟨_, rfl⟩
  obtain ⟨T, hT⟩ : ∃ T, kdZ (L.drop fr) = T := ⟨_, rfl⟩
  rw [hN, hM, hT]
  have hB := Below.refl w.heap.size w
  by_cases h1 : N < 4
  · rw [if_pos h1]
    have h1i : (N : Int) < 4 := by omega
    go_enter Try.func36, Try.ntmps36
    go_wp2_with (go_at_call 25; refine (count_n hF hN).mono ?_; rintro _ w1 ⟨rfl, hb⟩)
    go_ret
    exact ⟨rfl, hb⟩
  rw [if_neg h1]
  have h4 : 4 ≤ N := by omega
  have h1i : ¬ (N : Int) < 4 := by omega
  by_cases h2 : (M : Int) < 6 ∨ lim < (M : Int)
  · rw [if_pos h2]
    have hF0 := hF
    by_cases h2a : (M : Int) < 6
    · clear h1 h2
      go_enter Try.func36, Try.ntmps36
      go_wp2_with (first
        | (go_at_call 25; refine (count_n hF hN).mono ?_; rintro _ w1 ⟨rfl, hb⟩; have hF := hF.below hb; have hB := hB.trans (hb.mono hB.size); clear hb)
        | (go_at_call 26; refine (length_n hF hN h4 hM).mono ?_; rintro _ w1 ⟨rfl, hb⟩; have hF := hF.below hb; have hB := hB.trans (hb.mono hB.size); have c2 := hF.c2; clear hb))
      go_ret
      exact ⟨rfl, hB⟩
    · have h2b : lim < (M : Int) := by omega
      clear h1 h2
      go_enter Try.func36, Try.ntmps36
      go_wp2_with (first
        | (go_at_call 25; refine (count_n hF hN).mono ?_; rintro _ w1 ⟨rfl, hb⟩; have hF := hF.below hb; have hB := hB.trans (hb.mono hB.size); clear hb)
        | (go_at_call 26; refine (length_n hF hN h4 hM).mono ?_; rintro _ w1 ⟨rfl, hb⟩; have hF := hF.below hb; have hB := hB.trans (hb.mono hB.size); have c2 := hF.c2; clear hb))
      go_ret
      exact ⟨rfl, hB⟩
  rw [if_neg h2]
  have h2a : ¬ (M : Int) < 6 := by omega
  have h2b : ¬ lim < (M : Int) := by omega
  clear h1 h2
  by_cases h3 : N < 6
  · rw [if_pos h3]
    have h3i : (N : Int) < 6 := by omega
    go_enter Try.func36, Try.ntmps36
    go_wp2_with (first
      | (go_at_call 25; refine (count_n hF hN).mono ?_; rintro _ w1 ⟨rfl, hb⟩; have hF := hF.below hb; have hB := hB.trans (hb.mono hB.size); clear hb)
      | (go_at_call 26; refine (length_n hF hN h4 hM).mono ?_; rintro _ w1 ⟨rfl, hb⟩; have hF := hF.below hb; have hB := hB.trans (hb.mono hB.size); have c2 := hF.c2; clear hb))
    go_ret
    exact ⟨rfl, hB⟩
  rw [if_neg h3]
  have h6 : 6 ≤ N := by omega
  have h3i : ¬ (N : Int) < 6 := by omega
  clear h3
  by_cases h5 : knB (T : Int) = false
  · rw [if_pos h5]
    go_enter Try.func36, Try.ntmps36
    go_wp2_with (first
      | (go_at_call 25; refine (count_n hF hN).mono ?_; rintro _ w1 ⟨rfl, hb⟩; have hF := hF.below hb; have hB := hB.trans (hb.mono hB.size); clear hb)
      | (go_at_call 26; refine (length_n hF hN h4 hM).mono ?_; rintro _ w1 ⟨rfl, hb⟩; have hF := hF.below hb; have hB := hB.trans (hb.mono hB.size); have c2 := hF.c2; clear hb)
      | (go_at_call 41; refine (kind_n hF hN h6 hT).mono ?_; rintro _ w1 ⟨rfl, hb⟩; have hF := hF.below hb; have hB := hB.trans (hb.mono hB.size); clear hb)
      | (go_at_call 39; refine (known_any _ _).mono ?_; rintro _ _ ⟨rfl, rfl⟩))
    go_ret
    exact ⟨rfl, hB⟩
  rw [if_neg h5]
  replace h5 : knB (T : Int) = true := by simpa using h5
  by_cases h7 : N < M
  · rw [if_pos h7]
    have h7i : (N : Int) < (M : Int) := by omega
    go_enter Try.func36, Try.ntmps36
    go_wp2_with (first
      | (go_at_call 25; refine (count_n hF hN).mono ?_; rintro _ w1 ⟨rfl, hb⟩; have hF := hF.below hb; have hB := hB.trans (hb.mono hB.size); clear hb)
      | (go_at_call 26; refine (length_n hF hN h4 hM).mono ?_; rintro _ w1 ⟨rfl, hb⟩; have hF := hF.below hb; have hB := hB.trans (hb.mono hB.size); have c2 := hF.c2; clear hb)
      | (go_at_call 41; refine (kind_n hF hN h6 hT).mono ?_; rintro _ w1 ⟨rfl, hb⟩; have hF := hF.below hb; have hB := hB.trans (hb.mono hB.size); clear hb)
      | (go_at_call 39; refine (known_any _ _).mono ?_; rintro _ _ ⟨rfl, rfl⟩))
    go_ret
    exact ⟨rfl, hB⟩
  rw [if_neg h7]
  have h7i : ¬ (N : Int) < (M : Int) := by omega
  go_enter Try.func36, Try.ntmps36
  go_wp2_with (first
    | (go_at_call 25; refine (count_n hF hN).mono ?_; rintro _ w1 ⟨rfl, hb⟩; have hF := hF.below hb; have hB := hB.trans (hb.mono hB.size); clear hb)
    | (go_at_call 26; refine (length_n hF hN h4 hM).mono ?_; rintro _ w1 ⟨rfl, hb⟩; have hF := hF.below hb; have hB := hB.trans (hb.mono hB.size); have c2 := hF.c2; clear hb)
    | (go_at_call 41; refine (kind_n hF hN h6 hT).mono ?_; rintro _ w1 ⟨rfl, hb⟩; have hF := hF.below hb; have hB := hB.trans (hb.mono hB.size); clear hb)
    | (go_at_call 39; refine (known_any _ _).mono ?_; rintro _ _ ⟨rfl, rfl⟩))
  go_ret
  exact ⟨rfl, hB⟩
end Go.Proofs.Ytnicdehbedcdpaa
