/- Held, Need; the document's framer. -/
import Derived.Test.YtnicdehbedcdpaaFmP
namespace Go.Proofs.Ytnicdehbedcdpaa
open Go.ChangeShapes Go.WideShapes Go.ChangeAt Go.RowKit

theorem Held_any {w : World} {B R : Nat} {v : Value} {L : List Nat} {lim er : Int} (h : Fr w B R v L 0 lim er) :
    Calls Try.prog 10 #[.pointer (some ⟨R, 0, none⟩)] w fun e w' => e = .returned (.int .i64 (L.length : Int)) ∧ Below w.heap.size w w' := by
  have hc := count_n h (N := L.length) (by rw [List.drop_zero])
  go_enter Try.func10, Try.ntmps10
  go_wp2_with (go_at_call 25; refine hc.mono ?_; rintro _ w1 ⟨rfl, hb⟩)
  go_ret
  exact ⟨rfl, hb⟩
/-- What a framer wants at least. -/
def ndZ (L : List Nat) (er : Int) : Int := if er ≠ 0 then 0 else if L.length < 4 then 6 - (L.length : Int) else (lnZ L : Int) - (L.length : Int)
set_option maxHeartbeats 1000000 in
theorem Need_any {w : World} {B R : Nat} {v : Value} {L : List Nat} {lim er : Int} (h : Fr w B R v L 0 lim er) :
    Calls Try.prog 11 #[.pointer (some ⟨R, 0, none⟩)] w fun e w' => e = .returned (.int .i64 (ndZ L er)) ∧ Below w.heap.size w w' := by
  unfold ndZ
  have e3 := h.c3
  have hlen := h.len
  have hdz : (L.drop 0).length = L.length := by rw [List.drop_zero]
  by_cases he : er = 0
  · subst he
    rw [if_neg (by simp)]
    by_cases h4 : L.length < 4
    · rw [if_pos h4]
      generalize hN : L.length = N at *
      have h4i : (N : Int) < 4 := by omega
      have s1 : IntKind.i64.wrap (6 - (N : Int)) = 6 - (N : Int) := by rw [IntKind.wrap_i64]; omega
      have hF := h
      have hB := Below.refl w.heap.size w
      clear h
      go_enter Try.func11, Try.ntmps11
      go_wp2_with (go_at_call 25; refine (count_n hF hdz).mono ?_; rintro _ w1 ⟨rfl, hb⟩; have hF := hF.below hb; have hB := hB.trans (hb.mono hB.size); clear hb)
      go_ret
      exact ⟨rfl, hB⟩
    · rw [if_neg h4]
      have hlz : lnZ (L.drop 0) = lnZ L := by rw [List.drop_zero]
      have hlt := lnZ_lt h.by_
      generalize hN : L.length = N at *
      generalize lnZ L = T at *
      have h4i : ¬ (N : Int) < 4 := by omega
      have s1 : IntKind.i64.wrap ((T : Int) - (N : Int)) = (T : Int) - (N : Int) := by rw [IntKind.wrap_i64]; omega
      have hF := h
      have hB := Below.refl w.heap.size w
      clear h
      go_enter Try.func11, Try.ntmps11
      go_wp2_with (go_at_call 25; refine (count_n hF hdz).mono ?_; rintro _ w1 ⟨rfl, hb⟩; have hF := hF.below hb; have hB := hB.trans (hb.mono hB.size); clear hb)
      have hBd : ∀ W : World, Below W.heap.size W W.drew := fun W => (Below.refl _ _).drew
      go_region_with (first
        | (go_at_call 26; refine (length_n (hF.below (hBd _)) hdz (by omega) hlz).mono ?_; rintro _ w2 ⟨rfl, hb2⟩; have hF2 := (hF.below (hBd _)).below hb2)
        | (go_at_call 25; refine (count_n hF2 hdz).mono ?_; rintro _ w3 ⟨rfl, hb3⟩))
      all_goals
        go_wp2_with fail
        go_ret
        exact ⟨rfl, hB.trans (((hBd w1).trans (hb2.trans (hb3.mono hb2.size))).mono hB.size)⟩
  · rw [if_pos he]
    have hb1 : (er == 0) = false := beq_eq_false_iff_ne.2 he
    have hb2 : (er != 0) = true := by rw [bne, hb1]; rfl
    go_enter Try.func11, Try.ntmps11
    go_wp2_with fail
    go_ret
    exact ⟨rfl, Below.refl _ _⟩
end Go.Proofs.Ytnicdehbedcdpaa
