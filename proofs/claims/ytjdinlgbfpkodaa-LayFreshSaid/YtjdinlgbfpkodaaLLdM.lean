/- Laid blocks, plain lists and gaps: the mathematics. -/
import Derived.Test.YtjdinlgbfpkodaaLMkM
namespace Go.Proofs.Ytjdinlgbfpkodaa
open Go.ChangeShapes Go.WideShapes Go.ChangeAt Go.RowKit Go.Shelf

def laidR : List Rm → List Int → Int → Option Int
  | [], [], e => some e
  | x :: r, o :: q, e => if x.sz < 0 ∨ 65535 < x.sz ∨ o < e ∨ 65535 < o then none else laidR r q (o + x.sz)
  | _, _, _ => none
def laidE (l : List Rm) (os : List Int) (b : Int) : Option Int :=
  if l.length = os.length ∧ 0 ≤ b ∧ b ≤ 65535 then (match laidR l os 0 with
    | some e => if e ≤ b then some e else none
    | none => none) else none
theorem stp_e (k : Nat) (s : St) (x : Rm) : (stp k s x).e = layFrom x s.e + x.sz := by
  unfold stp
  split
  · rfl
  · split
    · split <;> rfl
    · rfl
theorem layFrom_nn {sz o e : Int} (h : 0 ≤ o) : layFrom ⟨sz, o⟩ e = o := by unfold layFrom; dsimp only; rw [if_neg (by omega)]
theorem seatsL_cons (x : Rm) (r : List Rm) (o : Int) (q : List Int) : seatsL (x :: r) (o :: q) = ⟨x.sz, o⟩ :: seatsL r q := rfl
theorem laidR_cons {x : Rm} {r : List Rm} {o : Int} {q : List Int} {e E : Int} (h : laidR (x :: r) (o :: q) e = some E) : 0 ≤ x.sz ∧ x.sz ≤ 65535 ∧ e ≤ o ∧ o ≤ 65535 ∧ laidR r q (o + x.sz) = some E := by
  simp only [laidR] at h
  split at h
  · cases h
  · rename_i hn
    exact ⟨by omega, by omega, by omega, by omega, h⟩
theorem laid_fill (k : Nat) : ∀ (l : List Rm) (os : List Int) (s : St) (i : Nat) (E : Int), laidR l os s.e = some E → E ≤ 65535 → 0 ≤ s.e → fillR k (seatsL l os) s i = .ok ((seatsL l os).foldl (stp k) s) ∧ ((seatsL l os).foldl (stp k) s).e = E ∧ (∀ o ∈ os, 0 ≤ o) ∧ s.e ≤ E
  | [], [], s, i, E, h, _, _ => by cases h; exact ⟨rfl, rfl, (fun o ho => by cases ho), Int.le_refl _⟩
  | [], _ :: _, _, _, _, h, _, _ => by cases h
  | _ :: _, [], _, _, _, h, _, _ => by cases h
  | x :: r, o :: q, s, i, E, h, hE, h0 => by
    obtain ⟨h1, h2, h3, h4, h5⟩ := laidR_cons h
    have he : (stp k s ⟨x.sz, o⟩).e = o + x.sz := by rw [stp_e, layFrom_nn (by omega)]
    obtain ⟨i1, i2, i3, i4⟩ := laid_fill k r q (stp k s ⟨x.sz, o⟩) (i + 1) E (by rw [he]; exact h5) hE (by omega)
    rw [he] at i4
    have hl := lay_at s.e o x.sz h0 h3 h1 (by omega)
    rw [seatsL_cons]
    simp only [fillR, List.foldl_cons]
    rw [if_pos hl.1]
    exact ⟨i1, i2, fun y hy => by
      rcases List.mem_cons.1 hy with rfl | hy
      · omega
      · exact i3 y hy, by omega⟩
theorem fill_laid (k : Nat) : ∀ (l : List Rm) (os : List Int) (s : St) (i : Nat) (s' : St), fillR k (seatsL l os) s i = .ok s' → l.length = os.length → (∀ o ∈ os, 0 ≤ o) → 0 ≤ s.e → s.e ≤ 65535 → laidR l os s.e = some s'.e
  | [], [], s, i, s', h, _, _, _, _ => by cases h; rfl
  | [], _ :: _, _, _, _, _, h, _, _, _ => by cases h
  | _ :: _, [], _, _, _, _, h, _, _, _ => by cases h
  | x :: r, o :: q, s, i, s', h, hl, hn, h0, h1 => by
    rw [seatsL_cons] at h
    simp only [fillR] at h
    have ho := hn o (by simp)
    split at h
    · rename_i hE
      have hk := layErr_ok hE
      rw [layFrom_nn ho] at hk
      have he : (stp k s ⟨x.sz, o⟩).e = o + x.sz := by rw [stp_e, layFrom_nn ho]
      have hk1 : 0 ≤ x.sz := hk.1
      have hk3 : o + x.sz ≤ 65535 := hk.2.2
      have ih := fill_laid k r q (stp k s ⟨x.sz, o⟩) (i + 1) s' h (by simpa using hl) (fun y hy => hn y (by simp [hy])) (by omega) (by omega)
      rw [he] at ih
      simp only [laidR]
      rw [if_neg (by omega)]
      exact ih
    · cases h
/-- What the row's functions come to, of a block and of none. -/
theorem refillZ_laid (k : Nat) (l : List Rm) (os : List Int) (b : Int) : refillZ k l os b = match laidE l os b with
    | some _ => some ((seatsL l os).foldl (stp k) s0, b)
    | none => none := by
  cases hz : refillZ k l os b with
  | some p =>
    obtain ⟨s, c⟩ := p
    obtain ⟨h1, h2, h3, h4, h5, h6, h7, h8⟩ := refillZ_some hz
    have hL := fill_laid k l os s0 0 s h4 h2 h3 (by decide) (by decide)
    have hL0 : laidR l os 0 = some s.e := hL
    have hle : laidE l os b = some s.e := by
      unfold laidE
      rw [if_pos ⟨h2, h1, h7⟩, hL0]
      dsimp only
      rw [if_pos (by omega)]
    rw [hle]
    have := (laid_fill k l os s0 0 s.e hL (by omega) (by decide)).1
    rw [h4] at this
    cases this
    rw [h5]
  | none =>
    cases hl : laidE l os b with
    | none => rfl
    | some e =>
      exfalso
      unfold laidE at hl
      split at hl
      · rename_i hc
        cases hr : laidR l os 0 with
        | none => rw [hr] at hl; cases hl
        | some E =>
          rw [hr] at hl
          dsimp only at hl
          split at hl
          · rename_i hEb
            obtain ⟨i1, i2, i3, _⟩ := laid_fill k l os s0 0 E hr (by omega) (by decide)
            unfold refillZ at hz
            rw [if_neg (by
              rintro (h | h | ⟨o, ho, hn⟩)
              · omega
              · exact h hc.1
              · have := i3 o ho; omega)] at hz
            unfold fillZ at hz
            have hb : blkErr b = 0 := by unfold blkErr; rw [if_neg (by omega), if_neg (by omega)]
            rw [if_pos hb, i1] at hz
            dsimp only at hz
            have hs : sayB b ((seatsL l os).foldl (stp k) s0).e = b := by unfold sayB; rw [if_neg (by omega)]
            rw [hs, i2, if_neg (by omega)] at hz
            cases hz
          · cases hl
      · cases hl
theorem laidE_some {l : List Rm} {os : List Int} {b e : Int} (h : laidE l os b = some e) : l.length = os.length ∧ 0 ≤ b ∧ b ≤ 65535 ∧ laidR l os 0 = some e ∧ e ≤ b ∧ 0 ≤ e := by
  unfold laidE at h
  split at h
  · rename_i hc
    cases hr : laidR l os 0 with
    | none => rw [hr] at h; cases h
    | some E =>
      rw [hr] at h
      dsimp only at h
      split at h
      · rename_i hEb
        cases h
        exact ⟨hc.1, hc.2.1, hc.2.2, rfl, hEb, (laid_fill 0 l os s0 0 e hr (by omega) (by decide)).2.2.2⟩
      · cases h
  · cases h
def pl2 : List Rm → List Int → Int → List Rm
  | x :: r, o :: q, e => ⟨x.sz, if o = e then -1 else o⟩ :: pl2 r q (o + x.sz)
  | _, _, _ => []
theorem fold_plain : ∀ (l : List Rm) (os : List Int) (s : St), (∀ o ∈ os, 0 ≤ o) → ((seatsL l os).foldl (stp 2) s).tol = s.tol ++ pl2 l os s.e
  | [], os, s, _ => by cases os <;> simp [seatsL, pl2]
  | x :: r, [], s, _ => by simp [seatsL, pl2]
  | x :: r, o :: q, s, h => by
    have ho := h o (by simp)
    rw [seatsL_cons, List.foldl_cons, fold_plain r q _ (fun y hy => h y (by simp [hy])), stp_e, layFrom_nn ho]
    have : (stp 2 s ⟨x.sz, o⟩).tol = s.tol ++ [⟨x.sz, if o = s.e then -1 else o⟩] := rfl
    rw [this]
    simp [pl2]
theorem plainZ_laid (l : List Rm) (os : List Int) (b : Int) : plainZ l os b = match laidE l os b with
    | some e => (pl2 l os 0, if b = e then -1 else b, 0)
    | none => ([], 0, 73) := by
  unfold plainZ
  rw [refillZ_laid]
  cases hl : laidE l os b with
  | none => rfl
  | some e =>
    obtain ⟨h1, h2, h3, h4, h5, _⟩ := laidE_some hl
    obtain ⟨_, i2, i3, _⟩ := laid_fill 2 l os s0 0 e h4 (by omega) (by decide)
    dsimp only
    rw [i2, fold_plain l os s0 i3]
    rfl
def gapsR : List Rm → List Int → Int → Int → List Rm
  | x :: r, o :: q, t, b => if 0 < x.sz then gapL t o ++ gapsR r q (o + x.sz) b else gapsR r q t b
  | [], _, t, b => gapL t b
  | _ :: _, [], t, b => gapL t b
theorem fold_gaps (b : Int) : ∀ (l : List Rm) (os : List Int) (s : St), (∀ o ∈ os, 0 ≤ o) → ((seatsL l os).foldl (stp 1) s).tol ++ gapL ((seatsL l os).foldl (stp 1) s).t b = s.tol ++ gapsR l os s.t b
  | [], os, s, _ => by cases os <;> simp [seatsL, gapsR]
  | x :: r, [], s, _ => by simp [seatsL, gapsR]
  | x :: r, o :: q, s, h => by
    have ho := h o (by simp)
    rw [seatsL_cons, List.foldl_cons, fold_gaps b r q _ (fun y hy => h y (by simp [hy]))]
    simp only [gapsR]
    have hst : stp 1 s ⟨x.sz, o⟩ = if 0 < x.sz then { s with e := o + x.sz, t := o + x.sz, tol := s.tol ++ gapL s.t o } else { s with e := o + x.sz } := by
      unfold stp
      rw [if_neg (by decide), if_pos rfl, layFrom_nn ho]
    rw [hst]
    by_cases hp : 0 < x.sz
    · rw [if_pos hp, if_pos hp]
      simp
    · rw [if_neg hp, if_neg hp]
theorem gapsZ_laid (l : List Rm) (os : List Int) (b : Int) : gapsZ l os b = match laidE l os b with
    | some _ => (gapsR l os 0 b, 0)
    | none => ([], 73) := by
  unfold gapsZ
  rw [refillZ_laid]
  cases hl : laidE l os b with
  | none => rfl
  | some e =>
    obtain ⟨h1, h2, h3, h4, h5, _⟩ := laidE_some hl
    obtain ⟨_, i2, i3, _⟩ := laid_fill 1 l os s0 0 e h4 (by omega) (by decide)
    dsimp only
    rw [fold_gaps b l os s0 i3]
    rfl
/-- Is a place in one of the rooms? -/
def inR : List Rm → List Int → Int → Bool
  | x :: r, o :: q, p => decide (o ≤ p ∧ p < o + x.sz) || inR r q p
  | _, _, _ => false
theorem inR_low : ∀ (l : List Rm) (os : List Int) (e E p : Int), laidR l os e = some E → p < e → inR l os p = false
  | [], os, _, _, _, _, _ => by cases os <;> rfl
  | _ :: _, [], _, _, _, _, _ => rfl
  | x :: r, o :: q, e, E, p, h, hp => by
    obtain ⟨h1, h2, h3, h4, h5⟩ := laidR_cons h
    simp only [inR]
    rw [inR_low r q _ E p h5 (by omega), decide_eq_false (by omega)]
    rfl
theorem laidR_le : ∀ (l : List Rm) (os : List Int) (e E : Int), laidR l os e = some E → e ≤ E
  | [], [], _, _, h => by cases h; exact Int.le_refl _
  | [], _ :: _, _, _, h => by cases h
  | _ :: _, [], _, _, h => by cases h
  | x :: r, o :: q, e, E, h => by
    obtain ⟨h1, h2, h3, h4, h5⟩ := laidR_cons h
    have := laidR_le r q _ E h5
    omega
/-- The walk place by place. -/
def scanR (U : Int → Bool) (b : Int) : Nat → Int → Int → List Rm
  | 0, _, _ => []
  | f + 1, p, n => if U p then scanR U b f (p + 1) 0 else if p + 1 = b ∨ U (p + 1) = true then ⟨n + 1, p + 1 - (n + 1)⟩ :: scanR U b f (p + 1) (n + 1) else scanR U b f (p + 1) (n + 1)
theorem scan_free (U : Int → Bool) (b : Int) : ∀ (f : Nat) (p n : Int), (f : Int) = b - p → (∀ q, p ≤ q → q < b → U q = false) → scanR U b f p n = if p < b then [⟨n + (b - p), p - n⟩] else []
  | 0, p, n, hf, _ => by rw [if_neg (by omega)]; rfl
  | f + 1, p, n, hf, hU => by
    have hR : (if p < b then [(⟨n + (b - p), p - n⟩ : Rm)] else []) = [⟨n + (b - p), p - n⟩] := if_pos (by omega)
    rw [hR]
    have ih := scan_free U b f (p + 1) (n + 1) (by omega) (fun q h1 h2 => hU q (by omega) h2)
    have hUp : ¬ U p = true := by rw [hU p (Int.le_refl _) (by omega)]; decide
    simp only [scanR]
    rw [if_neg hUp]
    by_cases hpb : p + 1 = b
    · rw [if_pos (.inl hpb), ih, if_neg (by omega)]
      congr 2 <;> omega
    · rw [if_neg (by
        rintro (h | h)
        · exact hpb h
        · rw [hU (p + 1) (by omega) (by omega)] at h; cases h), ih, if_pos (by omega)]
      congr 2 <;> omega
theorem scan_upto (U : Int → Bool) (b u : Int) (hu : U u = true) (hub : u < b) : ∀ (f : Nat) (p n : Int), (f : Int) = b - p → p ≤ u → (∀ q, p ≤ q → q < u → U q = false) → ∃ (g : Nat) (m : Int), (g : Int) = b - u ∧ scanR U b f p n = (if p < u then [⟨n + (u - p), p - n⟩] else []) ++ scanR U b g u m
  | 0, p, n, hf, hp, _ => by omega
  | f + 1, p, n, hf, hp, hU => by
    by_cases hpu : p = u
    · subst hpu
      exact ⟨f + 1, n, hf, by rw [if_neg (by omega)]; rfl⟩
    · obtain ⟨g, m, h1, h2⟩ := scan_upto U b u hu hub f (p + 1) (n + 1) (by omega) (by omega) (fun q h1 h2 => hU q (by omega) h2)
      refine ⟨g, m, h1, ?_⟩
      simp only [scanR]
      rw [if_neg (by rw [hU p (Int.le_refl _) (by omega)]; decide), h2, if_pos (show p < u by omega)]
      by_cases hq : p + 1 = u
      · rw [if_pos (.inr (by rw [hq]; exact hu)), if_neg (by omega)]
        simp only [List.nil_append, List.cons_append]
        congr 2 <;> omega
      · rw [if_neg (by
          rintro (h | h)
          · omega
          · rw [hU (p + 1) (by omega) (by omega)] at h; cases h), if_pos (by omega)]
        congr 3 <;> omega
theorem scan_used (U : Int → Bool) (b u : Int) : ∀ (f : Nat) (p n : Int), (f : Int) = b - p → p < u → u ≤ b → (∀ q, p ≤ q → q < u → U q = true) → ∃ g : Nat, (g : Int) = b - u ∧ scanR U b f p n = scanR U b g u 0
  | 0, p, n, hf, hp, hub, _ => by omega
  | f + 1, p, n, hf, hp, hub, hU => by
    simp only [scanR]
    rw [if_pos (hU p (Int.le_refl _) hp)]
    by_cases hq : p + 1 = u
    · subst hq
      exact ⟨f, by omega, rfl⟩
    · exact scan_used U b u f (p + 1) 0 (by omega) (by omega) hub (fun q h1 h2 => hU q (by omega) h2)
theorem scan_gaps (U : Int → Bool) (b : Int) : ∀ (l : List Rm) (os : List Int) (t e E : Int) (f : Nat), laidR l os e = some E → E ≤ b → 0 ≤ t → t ≤ e → (f : Int) = b - t → (∀ p, t ≤ p → p < b → U p = inR l os p) → scanR U b f t 0 = gapsR l os t b
  | [], [], t, e, E, f, h, hE, h0, ht, hf, hU => by
    rw [scan_free U b f t 0 hf (fun q h1 h2 => by rw [hU q h1 h2]; rfl)]
    simp only [gapsR, gapL]
    by_cases hb : t < b
    · rw [if_pos hb, if_pos hb]
      congr 2 <;> omega
    · rw [if_neg hb, if_neg hb]
  | [], _ :: _, _, _, _, _, h, _, _, _, _, _ => by cases h
  | _ :: _, [], _, _, _, _, h, _, _, _, _, _ => by cases h
  | x :: r, o :: q, t, e, E, f, h, hE, h0, ht, hf, hU => by
    obtain ⟨h1, h2, h3, h4, h5⟩ := laidR_cons h
    have hle := laidR_le r q _ E h5
    simp only [gapsR]
    by_cases hp : 0 < x.sz
    · rw [if_pos hp]
      have hUo : U o = true := by rw [hU o (by omega) (by omega)]; simp only [inR]; rw [decide_eq_true (by omega)]; rfl
      obtain ⟨g, m, e1, e2⟩ := scan_upto U b o hUo (by omega) f t 0 hf (by omega) (fun p k1 k2 => by
        rw [hU p k1 (by omega)]
        simp only [inR]
        rw [decide_eq_false (by omega), inR_low r q _ E p h5 (by omega)]
        rfl)
      obtain ⟨g2, e3, e4⟩ := scan_used U b (o + x.sz) g o m e1 (by omega) (by omega) (fun p k1 k2 => by
        rw [hU p (by omega) (by omega)]
        simp only [inR]
        rw [decide_eq_true (by omega)]
        rfl)
      have ih := scan_gaps U b r q (o + x.sz) (o + x.sz) E g2 h5 hE (by omega) (Int.le_refl _) e3 (fun p k1 k2 => by
        rw [hU p (by omega) k2]
        simp only [inR]
        rw [decide_eq_false (by omega)]
        rfl)
      rw [e2, e4, ih]
      congr 1
      unfold gapL
      by_cases hto : t < o
      · rw [if_pos hto, if_pos hto]
        congr 2 <;> omega
      · rw [if_neg hto, if_neg hto]
    · rw [if_neg hp]
      exact scan_gaps U b r q t (o + x.sz) E f h5 hE h0 (by omega) hf (fun p k1 k2 => by
        rw [hU p k1 k2]
        simp only [inR]
        rw [decide_eq_false (by omega)]
        rfl)
end Go.Proofs.Ytjdinlgbfpkodaa
