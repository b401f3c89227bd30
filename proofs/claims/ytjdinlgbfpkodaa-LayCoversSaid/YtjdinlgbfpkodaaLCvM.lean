/- Each place is in one room or in one gap: the mathematics. -/
import Derived.Test.YtjdinlgbfpkodaaLLk
namespace Go.Proofs.Ytjdinlgbfpkodaa
open Go.ChangeShapes Go.WideShapes Go.ChangeAt Go.RowKit Go.Shelf

theorem laidE_made (l : List Rm) (B : Int) (h0 : (madeZ l).2.2 ≤ B) (h1 : B ≤ 65535) : laidE (madeZ l).1 (madeZ l).2.1 B = some (madeZ l).2.2 := by
  have hb := madeZ_b l
  have h60 := take60 l
  have hf := made_plain (l.take 60) s0 0 (by decide) (by show (0 : Int) + _ ≤ _; omega)
  have hf2 : fillR 2 (seatsL (madeZ l).1 (madeZ l).2.1) s0 0 = .ok { s0 with e := (madeZ l).2.2, tol := plR (l.take 60) 0 } := by simpa [s0, madeZ] using hf
  have hL := fill_laid 2 (madeZ l).1 (madeZ l).2.1 s0 0 _ hf2 hb.2.2.2.symm (fun o ho => (madeZ_at_b l o ho).1) (by decide) (by decide)
  have hL0 : laidR (madeZ l).1 (madeZ l).2.1 0 = some (madeZ l).2.2 := hL
  unfold laidE
  rw [if_pos ⟨hb.2.2.2.symm, by omega, h1⟩, hL0]
  dsimp only
  rw [if_pos h0]
def inG (gs : List Rm) (p : Int) : Bool := gs.any fun g => decide (g.of ≤ p ∧ p < g.of + g.sz)
theorem inG_append (a b : List Rm) (p : Int) : inG (a ++ b) p = (inG a p || inG b p) := by unfold inG; rw [List.any_append]
theorem inG_gapL (t u p : Int) : inG (gapL t u) p = decide (t ≤ p ∧ p < u) := by
  unfold inG gapL
  by_cases h : t < u
  · rw [if_pos h]
    simp only [List.any_cons, List.any_nil, Bool.or_false]
    by_cases hp : t ≤ p ∧ p < u
    · rw [decide_eq_true hp, decide_eq_true (by omega)]
    · rw [decide_eq_false hp, decide_eq_false (by omega)]
  · rw [if_neg h, decide_eq_false (by omega)]
    rfl
theorem cover (b : Int) : ∀ (l : List Rm) (os : List Int) (t e E p : Int), laidR l os e = some E → E ≤ b → t ≤ e → inG (gapsR l os t b) p = (decide (t ≤ p ∧ p < b) && !inR l os p)
  | [], [], t, e, E, p, h, hE, ht => by
    simp only [gapsR, inR]
    rw [inG_gapL]
    simp
  | [], _ :: _, _, _, _, _, h, _, _ => by cases h
  | _ :: _, [], _, _, _, _, h, _, _ => by cases h
  | x :: r, o :: q, t, e, E, p, h, hE, ht => by
    obtain ⟨h1, h2, h3, h4, h5⟩ := laidR_cons h
    have hle := laidR_le r q _ E h5
    simp only [gapsR, inR]
    by_cases hp : 0 < x.sz
    · rw [if_pos hp, inG_append, inG_gapL, cover b r q (o + x.sz) (o + x.sz) E p h5 hE (Int.le_refl _)]
      by_cases a1 : p < o
      · rw [inR_low r q _ E p h5 (by omega), decide_eq_false (show ¬ (o ≤ p ∧ p < o + x.sz) by omega), decide_eq_false (show ¬ (o + x.sz ≤ p ∧ p < b) by omega)]
        by_cases a2 : t ≤ p
        · rw [decide_eq_true (show t ≤ p ∧ p < o by omega), decide_eq_true (show t ≤ p ∧ p < b by omega)]; rfl
        · rw [decide_eq_false (show ¬ (t ≤ p ∧ p < o) by omega), decide_eq_false (show ¬ (t ≤ p ∧ p < b) by omega)]; rfl
      · rw [decide_eq_false (show ¬ (t ≤ p ∧ p < o) by omega), Bool.false_or]
        by_cases a2 : p < o + x.sz
        · rw [decide_eq_true (show o ≤ p ∧ p < o + x.sz by omega), decide_eq_false (show ¬ (o + x.sz ≤ p ∧ p < b) by omega)]
          simp
        · rw [decide_eq_false (show ¬ (o ≤ p ∧ p < o + x.sz) by omega), Bool.false_or]
          by_cases a3 : p < b
          · rw [decide_eq_true (show o + x.sz ≤ p ∧ p < b by omega), decide_eq_true (show t ≤ p ∧ p < b by omega)]
          · rw [decide_eq_false (show ¬ (o + x.sz ≤ p ∧ p < b) by omega), decide_eq_false (show ¬ (t ≤ p ∧ p < b) by omega)]
    · rw [if_neg hp, cover b r q t (o + x.sz) E p h5 hE (by omega), decide_eq_false (show ¬ (o ≤ p ∧ p < o + x.sz) by omega), Bool.false_or]
/-- Gaps that rise and don't touch. -/
def Gok (b : Int) : Int → List Rm → Prop
  | _, [] => True
  | last, g :: r => 1 ≤ g.sz ∧ last < g.of ∧ g.of + g.sz ≤ b ∧ Gok b (g.of + g.sz) r
theorem gaps_ok (b : Int) : ∀ (l : List Rm) (os : List Int) (last t e E : Int), laidR l os e = some E → E ≤ b → t ≤ e → last < t → Gok b last (gapsR l os t b)
  | [], [], last, t, e, E, h, hE, ht, hl => by
    simp only [gapsR, gapL]
    split
    · exact ⟨by dsimp only; omega, by dsimp only; omega, by dsimp only; omega, trivial⟩
    · trivial
  | [], _ :: _, _, _, _, _, h, _, _, _ => by cases h
  | _ :: _, [], _, _, _, _, h, _, _, _ => by cases h
  | x :: r, o :: q, last, t, e, E, h, hE, ht, hl => by
    obtain ⟨h1, h2, h3, h4, h5⟩ := laidR_cons h
    have hle := laidR_le r q _ E h5
    simp only [gapsR]
    by_cases hp : 0 < x.sz
    · rw [if_pos hp]
      unfold gapL
      by_cases hto : t < o
      · rw [if_pos hto]
        refine ⟨by dsimp only; omega, by dsimp only; omega, by dsimp only; omega, ?_⟩
        have := gaps_ok b r q (o - t + t) (o + x.sz) (o + x.sz) E h5 hE (Int.le_refl _) (by omega)
        rw [show t + (o - t) = o - t + t by omega]
        exact this
      · rw [if_neg hto]
        exact gaps_ok b r q last (o + x.sz) (o + x.sz) E h5 hE (Int.le_refl _) (by omega)
    · rw [if_neg hp]
      exact gaps_ok b r q last t (o + x.sz) E h5 hE (by omega) hl
theorem inG_take : ∀ (gs : List Rm) (i : Nat) (g : Rm) (p : Int), gs[i]? = some g → inG (gs.take (i + 1)) p = (inG (gs.take i) p || decide (g.of ≤ p ∧ p < g.of + g.sz)) := by
  intro gs i g p h
  rw [List.take_add_one, h, inG_append]
  congr 1
  simp [inG]
theorem atR_spec : ∀ (l : List Rm) (os : List Int) (p : Int) (k : Nat), (atR l os p k = -1 ∧ inR l os p = false) ∨ (∃ (i : Nat) (x : Rm) (o : Int), atR l os p k = ((k + i : Nat) : Int) ∧ l[i]? = some x ∧ os[i]? = some o ∧ o ≤ p ∧ p < o + x.sz ∧ inR l os p = true)
  | [], os, p, k => by cases os <;> exact .inl ⟨rfl, rfl⟩
  | x :: r, [], p, k => .inl ⟨rfl, rfl⟩
  | x :: r, o :: q, p, k => by
    simp only [atR, inR]
    by_cases h : o ≤ p ∧ p < o + x.sz
    · have hh : holdsB x.sz o p = true := by unfold holdsB; exact decide_eq_true (by omega)
      rw [hh, if_pos rfl, decide_eq_true h]
      exact .inr ⟨0, x, o, rfl, rfl, rfl, h.1, h.2, rfl⟩
    · have hh : holdsB x.sz o p = false := by unfold holdsB; exact decide_eq_false (by omega)
      rw [hh, if_neg (by decide), decide_eq_false h, Bool.false_or]
      rcases atR_spec r q p (k + 1) with ⟨h1, h2⟩ | ⟨i, y, z, h1, h2, h3, h4⟩
      · exact .inl ⟨h1, h2⟩
      · exact .inr ⟨i + 1, y, z, by rw [h1]; congr 1; omega, h2, h3, h4⟩
theorem inR_high : ∀ (l : List Rm) (os : List Int) (e E p : Int), laidR l os e = some E → E ≤ p → inR l os p = false
  | [], os, _, _, _, _, _ => by cases os <;> rfl
  | _ :: _, [], _, _, _, _, _ => rfl
  | x :: r, o :: q, e, E, p, h, hp => by
    obtain ⟨h1, h2, h3, h4, h5⟩ := laidR_cons h
    have := laidR_le r q _ E h5
    simp only [inR]
    rw [inR_high r q _ E p h5 hp, decide_eq_false (by omega)]
    rfl
theorem atR_none {l : List Rm} {os : List Int} {p : Int} (h : inR l os p = false) : atR l os p 0 = -1 := by
  rcases atR_spec l os p 0 with ⟨h1, _⟩ | ⟨_, _, _, _, _, _, _, _, h2⟩
  · exact h1
  · rw [h] at h2; cases h2
end Go.Proofs.Ytjdinlgbfpkodaa
