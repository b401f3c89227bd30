/- One thing spoilt: the mathematics. -/
import Derived.Test.YtjdinlgbfpkodaaLMade
namespace Go.Proofs.Ytjdinlgbfpkodaa
open Go.ChangeShapes Go.WideShapes Go.ChangeAt Go.RowKit Go.Shelf

/-- Where the room k begins to be laid: the end of those ahead. -/
def endK : List Rm → Int → Nat → Int
  | [], e, _ => e
  | _ :: _, e, 0 => e
  | x :: r, e, k + 1 => endK r (e + gapS x + x.sz % 70) k
theorem madeR_at : ∀ (l : List Rm) (e : Int) (k : Nat) (x : Rm), l[k]? = some x → (madeR l e).1[k]? = some (roomS (endK l e k) x) ∧ (madeR l e).2.1[k]? = some (endK l e k + gapS x)
  | [], _, _, _, h => by cases h
  | y :: r, e, 0, x, h => by cases h; exact ⟨rfl, rfl⟩
  | y :: r, e, k + 1, x, h => by
    have := madeR_at r (e + gapS y + y.sz % 70) k x h
    simpa [madeR, endK] using this
theorem endK_succ : ∀ (l : List Rm) (e : Int) (k : Nat) (x : Rm), l[k]? = some x → k + 1 < l.length → endK l e (k + 1) = endK l e k + gapS x + x.sz % 70
  | [], _, _, _, h, _ => by cases h
  | [y], e, 0, x, h, hl => by simp at hl
  | y :: z :: r, e, 0, x, h, hl => by cases h; rfl
  | y :: r, e, k + 1, x, h, hl => by
    have := endK_succ r (e + gapS y + y.sz % 70) k x h (by simpa using hl)
    simpa [endK] using this
theorem endK_b : ∀ (l : List Rm) (e : Int) (k : Nat), 0 ≤ e → 0 ≤ endK l e k ∧ endK l e k ≤ e + 108 * l.length
  | [], e, k, h => by simp [endK]; omega
  | y :: r, e, 0, h => by simp only [endK, List.length_cons]; omega
  | y :: r, e, k + 1, h => by
    have hg := gapS_b y
    have := endK_b r (e + gapS y + y.sz % 70) k (by omega)
    simp only [endK, List.length_cons]
    omega
theorem bad_fill : ∀ (l : List Rm) (s : St) (i k : Nat) (y : Rm) (er : Int), k < l.length → 0 ≤ s.e → s.e + 108 * l.length ≤ 65000 → layErr y (endK l s.e k) = er → er ≠ 0 → fillR 0 ((madeR l s.e).1.set k y) s i = .error (er, i + k)
  | [], _, _, _, _, _, h, _, _, _, _ => by simp at h
  | x :: r, s, i, 0, y, er, _, _, _, he, hn => by
    simp only [madeR, List.set_cons_zero, fillR, endK] at he ⊢
    rw [if_neg (by rw [he]; exact hn), he, Nat.add_zero]
  | x :: r, s, i, k + 1, y, er, hk, h0, h1, he, hn => by
    have hg := gapS_b x
    rw [List.length_cons] at h1 hk
    have hl := lay_room s.e x h0 (by omega)
    simp only [madeR, List.set_cons_succ, fillR]
    rw [if_pos hl.1]
    have hst : stp 0 s (roomS s.e x) = { s with e := s.e + gapS x + x.sz % 70, off := s.off ++ [s.e + gapS x] } := by
      unfold stp
      rw [if_pos rfl, hl.2]
      rfl
    rw [hst]
    have ih := bad_fill r { s with e := s.e + gapS x + x.sz % 70, off := s.off ++ [s.e + gapS x] } (i + 1) k y er (by omega) (by dsimp only; omega) (by dsimp only; omega) he hn
    dsimp only at ih
    rw [ih]
    congr 2
    omega
theorem bad_place (l : List Rm) (k : Nat) (y : Rm) (er : Int) (hk : k < (l.take 60).length) (he : layErr y (endK (l.take 60) 0 k) = er) (hn : er ≠ 0) : placeZ ((madeZ l).1.set k y) (-1) = ⟨[], 0, er, k⟩ := by
  refine placeZ_err (by decide) ?_
  have := bad_fill (l.take 60) s0 0 k y er hk (by decide) (by simp [s0]; omega) he hn
  rw [Nat.zero_add] at this
  exact this
theorem RmRow.set0 {w : World} {g H k : Nat} {l : List Rm} {x : Rm} (h : RmRow w (some ⟨g, 0, none⟩) H l) (hx : l[k]? = some x) (y : Int) : RmRow (w.setCell ⟨g, k * 2, none⟩ (.int .i64 y)) (some ⟨g, 0, none⟩) H (l.set k ⟨y, x.of⟩) :=
  ⟨fun i t ht => by
    by_cases hi : i = k
    · subst hi
      rw [List.getElem?_set_self (List.getElem?_eq_some_iff.1 hx).1] at ht
      cases ht
      obtain ⟨g', o', e, hg, h0, h1⟩ := h.c i x hx
      cases e
      rw [Nat.zero_add] at h0 h1
      refine ⟨g, 0, rfl, hg, ?_, ?_⟩
      · rw [Nat.zero_add]; exact World.cell?_setCell_same w ⟨g, i * 2, none⟩ _ h0
      · rw [Nat.zero_add]; exact (World.cell?_setCell_other w _ _ _ (fun e => by injection e with _ e2; omega)).trans h1
    · rw [List.getElem?_set_ne (fun e => hi e.symm)] at ht
      obtain ⟨g', o', e, hg, h0, h1⟩ := h.c i t ht
      cases e
      rw [Nat.zero_add] at h0 h1
      refine ⟨g, 0, rfl, hg, ?_, ?_⟩
      · rw [Nat.zero_add]; exact (World.cell?_setCell_other w _ _ _ (fun e => by injection e with _ e2; omega)).trans h0
      · rw [Nat.zero_add]; exact (World.cell?_setCell_other w _ _ _ (fun e => by injection e with _ e2; omega)).trans h1⟩
theorem RmRow.set1 {w : World} {g H k : Nat} {l : List Rm} {x : Rm} (h : RmRow w (some ⟨g, 0, none⟩) H l) (hx : l[k]? = some x) (y : Int) : RmRow (w.setCell ⟨g, k * 2 + 1, none⟩ (.int .i64 y)) (some ⟨g, 0, none⟩) H (l.set k ⟨x.sz, y⟩) :=
  ⟨fun i t ht => by
    by_cases hi : i = k
    · subst hi
      rw [List.getElem?_set_self (List.getElem?_eq_some_iff.1 hx).1] at ht
      cases ht
      obtain ⟨g', o', e, hg, h0, h1⟩ := h.c i x hx
      cases e
      rw [Nat.zero_add] at h0 h1
      refine ⟨g, 0, rfl, hg, ?_, ?_⟩
      · rw [Nat.zero_add]; exact (World.cell?_setCell_other w _ _ _ (fun e => by injection e with _ e2; omega)).trans h0
      · rw [Nat.zero_add]; exact World.cell?_setCell_same w ⟨g, i * 2 + 1, none⟩ _ h1
    · rw [List.getElem?_set_ne (fun e => hi e.symm)] at ht
      obtain ⟨g', o', e, hg, h0, h1⟩ := h.c i t ht
      cases e
      rw [Nat.zero_add] at h0 h1
      refine ⟨g, 0, rfl, hg, ?_, ?_⟩
      · rw [Nat.zero_add]; exact (World.cell?_setCell_other w _ _ _ (fun e => by injection e with _ e2; omega)).trans h0
      · rw [Nat.zero_add]; exact (World.cell?_setCell_other w _ _ _ (fun e => by injection e with _ e2; omega)).trans h1⟩
end Go.Proofs.Ytjdinlgbfpkodaa
