/- What is made, told plainly: the mathematics. -/
import Derived.Test.YtjdinlgbfpkodaaLRefu
import Derived.Test.YtjdinlgbfpkodaaLGap
namespace Go.Proofs.Ytjdinlgbfpkodaa
open Go.ChangeShapes Go.WideShapes Go.ChangeAt Go.RowKit Go.Shelf

def plR : List Rm → Int → List Rm
  | [], _ => []
  | x :: r, e => ⟨x.sz % 70, if e + gapS x = e then -1 else e + gapS x⟩ :: plR r (e + gapS x + x.sz % 70)
theorem plR_len : ∀ (l : List Rm) (e : Int), (plR l e).length = l.length
  | [], _ => rfl
  | x :: r, e => by simp only [plR, List.length_cons]; rw [plR_len r]
theorem plR_ok : ∀ (l : List Rm) (e : Int), 0 ≤ e → e + 108 * l.length ≤ 65000 → ∀ x ∈ plR l e, x.ok
  | [], e, _, _ => by simp [plR]
  | x :: r, e, h0, h1 => by
    have hg := gapS_b x
    rw [List.length_cons] at h1
    simp only [plR]
    intro y hy
    rcases List.mem_cons.1 hy with rfl | hy
    · refine ⟨?_, ?_⟩
      · show i64ok (x.sz % 70); unfold i64ok; omega
      · show i64ok (if e + gapS x = e then -1 else e + gapS x)
        unfold i64ok
        split <;> omega
    · exact plR_ok r _ (by omega) (by omega) y hy
theorem plR_at : ∀ (l : List Rm) (e : Int) (k : Nat) (x : Rm), l[k]? = some x → (plR l e)[k]? = some ⟨x.sz % 70, if endK l e k + gapS x = endK l e k then -1 else endK l e k + gapS x⟩
  | [], _, _, _, h => by cases h
  | y :: r, e, 0, x, h => by cases h; rfl
  | y :: r, e, k + 1, x, h => by
    exact plR_at r (e + gapS y + y.sz % 70) k x h
theorem lay_at (e o : Int) (sz : Int) (h0 : 0 ≤ e) (h1 : e ≤ o) (hs : 0 ≤ sz) (h2 : o + sz ≤ 65535) : layErr ⟨sz, o⟩ e = 0 ∧ layFrom ⟨sz, o⟩ e = o := by
  have hf : layFrom ⟨sz, o⟩ e = o := by unfold layFrom; dsimp only; rw [if_neg (by omega)]
  refine ⟨?_, hf⟩
  unfold layErr
  rw [hf]
  dsimp only
  rw [if_neg (by omega), if_neg (by omega), if_neg (by omega)]
theorem made_plain : ∀ (l : List Rm) (s : St) (i : Nat), 0 ≤ s.e → s.e + 108 * l.length ≤ 65000 → fillR 2 (seatsL (madeR l s.e).1 (madeR l s.e).2.1) s i = .ok { s with e := (madeR l s.e).2.2, tol := s.tol ++ plR l s.e }
  | [], s, i, _, _ => by simp [madeR, fillR, seatsL, plR]
  | x :: r, s, i, h0, h1 => by
    have hg := gapS_b x
    rw [List.length_cons] at h1
    have hl := lay_at s.e (s.e + gapS x) (x.sz % 70) h0 (by omega) (by omega) (by omega)
    have hs : seatsL (madeR (x :: r) s.e).1 (madeR (x :: r) s.e).2.1 = ⟨x.sz % 70, s.e + gapS x⟩ :: seatsL (madeR r (s.e + gapS x + x.sz % 70)).1 (madeR r (s.e + gapS x + x.sz % 70)).2.1 := rfl
    rw [hs]
    simp only [fillR]
    rw [if_pos hl.1]
    have hst : stp 2 s ⟨x.sz % 70, s.e + gapS x⟩ = { s with e := s.e + gapS x + x.sz % 70, tol := s.tol ++ [⟨x.sz % 70, if s.e + gapS x = s.e then -1 else s.e + gapS x⟩] } := by
      unfold stp
      rw [if_neg (by decide), if_neg (by decide), hl.2]
    rw [hst]
    have ih := made_plain r { s with e := s.e + gapS x + x.sz % 70, tol := s.tol ++ [⟨x.sz % 70, if s.e + gapS x = s.e then -1 else s.e + gapS x⟩] } (i + 1) (by dsimp only; omega) (by dsimp only; omega)
    dsimp only at ih
    rw [ih]
    simp [plR, madeR]
theorem plain_fill : ∀ (l : List Rm) (s : St) (i : Nat), 0 ≤ s.e → s.e + 108 * l.length ≤ 65000 → fillR 0 (plR l s.e) s i = .ok { s with e := (madeR l s.e).2.2, off := s.off ++ (madeR l s.e).2.1 }
  | [], s, i, _, _ => by simp [madeR, fillR, plR]
  | x :: r, s, i, h0, h1 => by
    have hg := gapS_b x
    rw [List.length_cons] at h1
    have hl : layErr ⟨x.sz % 70, if s.e + gapS x = s.e then -1 else s.e + gapS x⟩ s.e = 0 ∧ layFrom ⟨x.sz % 70, if s.e + gapS x = s.e then -1 else s.e + gapS x⟩ s.e = s.e + gapS x := by
      by_cases h : s.e + gapS x = s.e
      · rw [if_pos h]
        have hf : layFrom ⟨x.sz % 70, -1⟩ s.e = s.e := by unfold layFrom; dsimp only; rw [if_pos rfl]
        refine ⟨?_, by rw [hf]; omega⟩
        unfold layErr
        rw [hf]
        dsimp only
        rw [if_neg (by omega), if_neg (by omega), if_neg (by omega)]
      · rw [if_neg h]
        exact lay_at s.e (s.e + gapS x) (x.sz % 70) h0 (by omega) (by omega) (by omega)
    simp only [plR, fillR]
    rw [if_pos hl.1]
    have hst : stp 0 s ⟨x.sz % 70, if s.e + gapS x = s.e then -1 else s.e + gapS x⟩ = { s with e := s.e + gapS x + x.sz % 70, off := s.off ++ [s.e + gapS x] } := by
      unfold stp
      rw [if_pos rfl, hl.2]
    rw [hst]
    have ih := plain_fill r { s with e := s.e + gapS x + x.sz % 70, off := s.off ++ [s.e + gapS x] } (i + 1) (by dsimp only; omega) (by dsimp only; omega)
    dsimp only at ih
    rw [ih]
    simp [madeR]
theorem take60 (l : List Rm) : (l.take 60).length ≤ 60 := by simp; omega
theorem madeZ_at_b (l : List Rm) : ∀ o ∈ (madeZ l).2.1, 0 ≤ o ∧ o ≤ 6600 := by
  intro o ho
  obtain ⟨k, hk⟩ := List.mem_iff_getElem?.1 ho
  have hkl : k < (madeZ l).2.1.length := (List.getElem?_eq_some_iff.1 hk).1
  have hb := madeZ_b l
  obtain ⟨e, G, S, O, hP⟩ := made_pick l k (by omega)
  have h1 := hP.pa
  rw [hk] at h1
  cases h1
  have := hP.pe
  have := hP.pg
  omega
/-- Plain of what was made. -/
theorem plainZ_made (l : List Rm) (B : Int) (h0 : (madeZ l).2.2 ≤ B) (h1 : B ≤ 65535) : plainZ (madeZ l).1 (madeZ l).2.1 B = (plR (l.take 60) 0, if B = (madeZ l).2.2 then -1 else B, 0) := by
  have hb := madeZ_b l
  have h60 := take60 l
  have hf := made_plain (l.take 60) s0 0 (by decide) (by show (0 : Int) + _ ≤ _; omega)
  have hz : refillZ 2 (madeZ l).1 (madeZ l).2.1 B = some ({ s0 with e := (madeZ l).2.2, tol := plR (l.take 60) 0 }, B) := by
    unfold refillZ
    rw [if_neg (by
      rintro (h | h | ⟨o, ho, hn⟩)
      · omega
      · omega
      · have := madeZ_at_b l o ho; omega)]
    unfold fillZ
    have hbl : blkErr B = 0 := by unfold blkErr; rw [if_neg (by omega), if_neg (by omega)]
    rw [if_pos hbl]
    have hf2 : fillR 2 (seatsL (madeZ l).1 (madeZ l).2.1) s0 0 = .ok { s0 with e := (madeZ l).2.2, tol := plR (l.take 60) 0 } := by simpa [s0, madeZ] using hf
    rw [hf2]
    dsimp only
    have hs : sayB B (madeZ l).2.2 = B := by unfold sayB; rw [if_neg (by omega)]
    rw [hs, if_neg (by omega)]
  unfold plainZ
  rw [hz]
/-- Place of what was made, and of what Plain tells of it. -/
theorem placeZ_at (l : List Rm) (B : Int) (h0 : (madeZ l).2.2 ≤ B) (h1 : B ≤ 65535) : placeZ (madeZ l).1 B = ⟨(madeZ l).2.1, B, 0, 0⟩ := by
  have hb := madeZ_b l
  rw [placeZ_ok (by unfold blkErr; rw [if_neg (by omega), if_neg (by omega)]) (madeZ_fill l)]
  unfold sayB
  rw [if_neg (show ¬ B = -1 by omega), if_neg (by dsimp only; omega)]
theorem placeZ_short (l : List Rm) (h : 0 < (madeZ l).2.2) : placeZ (madeZ l).1 ((madeZ l).2.2 - 1) = ⟨[], 0, 71, (madeZ l).1.length⟩ := by
  have hb := madeZ_b l
  rw [placeZ_ok (by unfold blkErr; rw [if_neg (by omega), if_neg (by omega)]) (madeZ_fill l)]
  unfold sayB
  rw [if_neg (show ¬ (madeZ l).2.2 - 1 = -1 by omega), if_pos (by dsimp only; omega)]
theorem placeZ_plain (l : List Rm) (B : Int) (h0 : (madeZ l).2.2 ≤ B) (h1 : B ≤ 65535) : placeZ (plR (l.take 60) 0) (if B = (madeZ l).2.2 then -1 else B) = ⟨(madeZ l).2.1, B, 0, 0⟩ := by
  have hb := madeZ_b l
  have h60 := take60 l
  have hf := plain_fill (l.take 60) s0 0 (by decide) (by show (0 : Int) + _ ≤ _; omega)
  have hf2 : fillR 0 (plR (l.take 60) 0) s0 0 = .ok { s0 with e := (madeZ l).2.2, off := (madeZ l).2.1 } := by simpa [s0, madeZ] using hf
  by_cases h : B = (madeZ l).2.2
  · rw [if_pos h, placeZ_ok (by decide) hf2]
    unfold sayB
    rw [if_pos rfl, if_neg (by dsimp only; omega), h]
  · rw [if_neg h, placeZ_ok (by unfold blkErr; rw [if_neg (by omega), if_neg (by omega)]) hf2]
    unfold sayB
    rw [if_neg (show ¬ B = -1 by omega), if_neg (by dsimp only; omega)]
/-- One room of what Plain tells. -/
structure PlAt (L : List Rm) (A : List Int) (P : List Rm) (K : Nat) (e G S : Int) : Prop where
  pp : P[K]? = some ⟨S, if G = 0 then -1 else e + G⟩
  pl : ∃ O, L[K]? = some ⟨S, O⟩
  pa : A[K]? = some (e + G)
  pe : 0 ≤ e ∧ e ≤ 6480
  pg : 0 ≤ G ∧ G < 40
  ps : 0 ≤ S ∧ S < 70
  p0 : K = 0 → e = 0
  pah : ∀ J, K = J + 1 → ∃ S' O' A', L[J]? = some ⟨S', O'⟩ ∧ A[J]? = some A' ∧ A' + S' = e ∧ 0 ≤ A' ∧ A' ≤ 6480 ∧ 0 ≤ S' ∧ S' < 70
theorem plAt (l : List Rm) (K : Nat) (hK : K < (madeZ l).1.length) : ∃ e G S, PlAt (madeZ l).1 (madeZ l).2.1 (plR (l.take 60) 0) K e G S := by
  have hlen := (madeR_len (l.take 60) 0).1
  have hK' : K < (l.take 60).length := by unfold madeZ at hK; omega
  obtain ⟨x, hx⟩ : ∃ x, (l.take 60)[K]? = some x := ⟨(l.take 60)[K], List.getElem?_eq_getElem hK'⟩
  have hat := madeR_at (l.take 60) 0 K x hx
  have hg := gapS_b x
  have he := endK_b (l.take 60) 0 K (by decide)
  have h60 := take60 l
  refine ⟨endK (l.take 60) 0 K, gapS x, x.sz % 70, ?_, ⟨_, hat.1⟩, hat.2, by omega, by omega, by omega, fun h => ?_, fun J hJ => ?_⟩
  · rw [plR_at (l.take 60) 0 K x hx]
    by_cases h : gapS x = 0
    · rw [if_pos h, if_pos (by omega)]
    · rw [if_neg h, if_neg (by omega)]
  · subst h
    cases hl : l.take 60 with
    | nil => rw [hl] at hK'; simp at hK'
    | cons a r => rfl
  · subst hJ
    obtain ⟨y, hy⟩ : ∃ y, (l.take 60)[J]? = some y := ⟨(l.take 60)[J]'(by omega), List.getElem?_eq_getElem (by omega)⟩
    have hat2 := madeR_at (l.take 60) 0 J y hy
    have he2 := endK_b (l.take 60) 0 J (by decide)
    have hg2 := gapS_b y
    exact ⟨y.sz % 70, (roomS (endK (l.take 60) 0 J) y).of, endK (l.take 60) 0 J + gapS y, hat2.1, hat2.2, (endK_succ (l.take 60) 0 J y hy hK').symm, by omega, by
      have := endK_succ (l.take 60) 0 J y hy hK'
      omega, by omega, by omega⟩
end Go.Proofs.Ytjdinlgbfpkodaa
