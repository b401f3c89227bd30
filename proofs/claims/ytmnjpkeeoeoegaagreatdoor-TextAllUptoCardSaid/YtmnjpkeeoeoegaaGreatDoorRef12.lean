/- The document's answer: item. -/
import Derived.Test.YtmnjpkeeoeoegaaGreatDoorRef11
import Derived.Test.YtmnjpkeeoeoegaaGreatDoorQuo5
namespace Go.Proofs.YtmnjpkeeoeoegaaGreatDoor
open Go.ChangeShapes Go.WideShapes Go.ChangeAt Go.RowKit

abbrev signsS : ByteArray := ⟨#[92, 34, 110, 114, 116]⟩
theorem mark_sign : ∀ j, j < 5 → markF (ch signsS j) = some (ch meansS j) := by decide
theorem sign_vals : ch signsS 0 = 92 ∧ ch signsS 1 = 34 ∧ ch signsS 2 = 110 ∧ ch signsS 3 = 114 ∧ ch signsS 4 = 116 := by decide
theorem mark_none (c : Nat) (h : ∀ j, j < 5 → ¬ ch signsS j = c) : markF c = none := by
  obtain ⟨m0, m1, m2, m3, m4⟩ := sign_vals
  have h0 := h 0 (by omega)
  have h1 := h 1 (by omega)
  have h2 := h 2 (by omega)
  have h3 := h 3 (by omega)
  have h4 := h 4 (by omega)
  unfold markF
  rw [m0] at h0
  rw [m1] at h1
  rw [m2] at h2
  rw [m3] at h3
  rw [m4] at h4
  simp only [Ne.symm h0, Ne.symm h1, Ne.symm h2, Ne.symm h3, Ne.symm h4, if_false]
def itI (s : ByteArray) (a : Nat) : Nat × Nat × Bool :=
  if ¬ ch s a = 92 then (ch s a, a + 1, decide (32 ≤ ch s a))
  else if a + 1 = s.size then (0, s.size, false)
  else match markF (ch s (a + 1)) with
    | some m => (m, a + 2, true)
    | none => if ¬ ch s (a + 1) = 120 then (0, a + 1, false)
      else if (pairN s (a + 2)).2 < a + 4 then (0, (pairN s (a + 2)).2, false) else ((pairN s (a + 2)).1, a + 4, true)
theorem mark_120 : markF 120 = none := by decide
theorem unq_item (s : ByteArray) (a : Nat) (acc : List Nat) (ha : a < s.size) (h34 : ¬ ch s a = 34) : unqF s (s.size + 1) a acc =
    if (itI s a).2.2 = true then unqF s (s.size + 1) (itI s a).2.1 (acc ++ [(itI s a).1]) else ([], if ¬ ch s a = 92 then a else (itI s a).2.1, 23) := by
  rw [unq_step s a acc ha, if_neg h34]
  unfold itI
  by_cases h92 : ch s a = 92
  · simp only [h92, not_true, if_false, true_and, if_true]
    by_cases hz : a + 1 = s.size
    · rw [if_neg (by omega), if_pos hz, if_pos hz]
      simp only [Bool.false_eq_true, if_false]
      rw [hz]
    · rw [if_neg hz]
      by_cases hx : ch s (a + 1) = 120
      · rw [if_pos ⟨by omega, hx⟩, hx, mark_120]
        simp only [not_true, if_false, if_neg hz]
        by_cases hp : (pairN s (a + 2)).2 < a + 4
        · rw [if_pos hp, if_pos hp]; simp only [Bool.false_eq_true, if_false]
        · rw [if_neg hp, if_neg hp]; simp only [if_true]
      · rw [if_neg (fun h => hx h.2), if_neg hz]
        cases hm : markF (ch s (a + 1)) with
        | some m => simp only [if_true]
        | none => simp only [hx, not_false_eq_true, if_true, Bool.false_eq_true, if_false]
  · simp only [h92, not_false_eq_true, if_true, false_and, and_false, if_false]
    have hp : plainB (ch s a) = decide (32 ≤ ch s a) := by
      unfold plainB
      simp only [h34, h92, decide_false, Bool.not_false, Bool.and_true]
    rw [hp]
theorem it_bd (s : ByteArray) (a : Nat) (ha : a < s.size) (hok : (itI s a).2.2 = true) : a < (itI s a).2.1 ∧ (itI s a).2.1 ≤ s.size := by
  unfold itI at hok ⊢
  by_cases h92 : ch s a = 92
  · simp only [h92, not_true, if_false] at hok ⊢
    by_cases hz : a + 1 = s.size
    · rw [if_pos hz] at hok; cases hok
    · rw [if_neg hz] at hok ⊢
      cases hm : markF (ch s (a + 1)) with
      | some m => rw [hm] at hok; simp only; omega
      | none =>
        rw [hm] at hok
        simp only at hok ⊢
        by_cases hx : ch s (a + 1) = 120
        · simp only [hx, not_true, if_false] at hok ⊢
          by_cases hp : (pairN s (a + 2)).2 < a + 4
          · rw [if_pos hp] at hok; cases hok
          · rw [if_neg hp]
            have := pairN_le s (a + 2) (by omega)
            simp only
            omega
        · simp only [hx, not_false_eq_true, if_true] at hok; cases hok
  · simp only [h92, not_false_eq_true, if_true]
    omega
theorem it_lt (s : ByteArray) (a : Nat) (hok : (itI s a).2.2 = true) : (itI s a).1 < 256 := by
  unfold itI at hok ⊢
  by_cases h92 : ch s a = 92
  · simp only [h92, not_true, if_false] at hok ⊢
    by_cases hz : a + 1 = s.size
    · rw [if_pos hz] at hok; cases hok
    · rw [if_neg hz] at hok ⊢
      cases hm : markF (ch s (a + 1)) with
      | some m =>
        simp only
        unfold markF at hm
        split at hm
        · cases hm; omega
        · split at hm
          · cases hm; omega
          · split at hm
            · cases hm; omega
            · split at hm
              · cases hm; omega
              · split at hm
                · cases hm; omega
                · cases hm
      | none =>
        rw [hm] at hok
        simp only at hok ⊢
        by_cases hx : ch s (a + 1) = 120
        · simp only [hx, not_true, if_false] at hok ⊢
          by_cases hp : (pairN s (a + 2)).2 < a + 4
          · rw [if_pos hp] at hok; cases hok
          · rw [if_neg hp]
            simp only
            unfold pairN at hp ⊢
            split
            · omega
            · split
              · omega
              · rename_i d hd
                have := worth_lt hd
                split
                · simp only; omega
                · split
                  · simp only; omega
                  · rename_i e he
                    have := worth_lt he
                    simp only; omega
        · simp only [hx, not_false_eq_true, if_true] at hok; cases hok
  · simp only [h92, not_false_eq_true, if_true]
    exact ch_lt s a
end Go.Proofs.YtmnjpkeeoeoegaaGreatDoor
