/- What is printed is read as the pieces: the mathematics, a declaration aside. -/
import Derived.Test.YtchfphakhmifmaaGreatDoorYB3
import Derived.Test.YtchfphakhmifmaaGreatDoorMD
namespace Go.Proofs.YtchfphakhmifmaaGreatDoor
open Go.Lib Go

/-- What a piece is written as; pieces that Print takes, behind one of a Kind. -/
def wL (t : IT) : List UInt8 := (wrB t.k.toNat t.nm t.vl).data.toList
def Chn : Int → List IT → Prop
  | last, [] => inT last = false
  | last, t :: ts => putE last t = 0 ∧ Chn t.k ts
def flatL (ts : List IT) : List Nat := ts.flatMap fun t => lOf (wrB t.k.toNat t.nm t.vl)
theorem pr_ok : ∀ (ts : List IT) (n : Nat) (last : Int) (L T : List Nat) (p : Nat), prZ ts n last L = (T, 0, p) → Chn last ts ∧ T = L ++ flatL ts ∧ T.length ≤ 1048576
  | [], n, last, L, T, p, h => by
    rw [prZ] at h
    split at h
    · cases h
    · split at h
      · cases h
      · rename_i h1 h2
        injection h with h3 h4
        refine ⟨by show inT last = false; simpa using h1, ?_, by rw [← h3]; omega⟩
        rw [← h3]; simp [flatL]
  | t :: ts, n, last, L, T, p, h => by
    rw [prZ] at h
    split at h
    · rename_i h0
      obtain ⟨h1, h2, h3⟩ := pr_ok ts (n + 1) t.k (putL L t) T p h
      refine ⟨⟨h0, h1⟩, ?_, h3⟩
      have hl := congrArg List.length h2
      rw [List.length_append] at hl
      have hle : L.length ≤ 1048576 := by
        by_cases hh : L.length ≤ 1048576
        · exact hh
        · unfold putL at hl
          rw [if_neg hh] at hl
          omega
      rw [h2]
      unfold putL flatL
      rw [if_pos hle, List.flatMap_cons, List.append_assoc]
    · rename_i h0
      injection h with h1 h2
      injection h2 with h2 h3
      exact absurd h2 h0
theorem pr_of : ∀ (ts : List IT) (n : Nat) (last : Int) (L : List Nat), Chn last ts → (L.length + (flatL ts).length ≤ 1048576 → prZ ts n last L = (L ++ flatL ts, 0, 0)) ∧ (1048576 < L.length + (flatL ts).length → prZ ts n last L = ([], 45, n + ts.length))
  | [], n, last, L, h => by
    have h' : inT last = false := h
    rw [prZ, if_neg (by rw [h']; decide)]
    have e : flatL [] = [] := rfl
    rw [e]
    simp only [List.length_nil, Nat.add_zero, List.append_nil]
    exact ⟨fun hh => by rw [if_neg (by omega)], fun hh => by rw [if_pos hh]⟩
  | t :: ts, n, last, L, h => by
    rw [prZ, if_pos h.1]
    have ih := pr_of ts (n + 1) t.k (putL L t) h.2
    have e : flatL (t :: ts) = lOf (wrB t.k.toNat t.nm t.vl) ++ flatL ts := by unfold flatL; rw [List.flatMap_cons]
    rw [e, List.length_append, List.length_cons]
    by_cases hle : L.length ≤ 1048576
    · have e2 : putL L t = L ++ lOf (wrB t.k.toNat t.nm t.vl) := by unfold putL; rw [if_pos hle]
      rw [e2, List.length_append] at ih
      rw [e2]
      exact ⟨fun hh => by rw [ih.1 (by omega), List.append_assoc], fun hh => by rw [ih.2 (by omega), show n + 1 + ts.length = n + (ts.length + 1) by omega]⟩
    · have e2 : putL L t = L := by unfold putL; rw [if_neg hle]
      rw [e2] at ih ⊢
      exact ⟨fun hh => by omega, fun hh => by rw [ih.2 (by omega), show n + 1 + ts.length = n + (ts.length + 1) by omega]⟩
theorem size_zero {v : ByteArray} (h : v.size = 0) : v = E0 := by
  apply ba_ext
  have : v.data.toList.length = 0 := by rw [tl_len]; exact h
  rw [List.length_eq_zero_iff.1 this]
theorem size_E0 : E0.size = 0 := rfl
/-- What put asks of a piece. -/
structure Fits (last : Int) (k : Nat) (nm vl : ByteArray) : Prop where
  lt : k < 8
  n0 : shN k = false → nm = E0
  v0 : shV k = false → vl = E0
  tag : shT k = inT last
  d : k = 7 → last = -1
  t5 : k = 5 → 0 < vl.size ∧ last ≠ 5
  nm : shN k = true → xmlNameB nm = true
  vx : VX (lOf vl)
  c6 : k = 6 → comB vl = true
  c7 : k = 7 → dclB vl = true
theorem fits_of {last : Int} {t : IT} (h : putE last t = 0) : ∃ k : Nat, t.k = (k : Int) ∧ Fits last k t.nm t.vl := by
  unfold putE at h
  split at h
  · exact absurd h (by decide)
  · rename_i hk
    obtain ⟨k, hk2⟩ : ∃ k : Nat, t.k = (k : Int) := ⟨t.k.toNat, by omega⟩
    refine ⟨k, hk2, ?_⟩
    rw [hk2, Int.toNat_natCast] at h
    rw [hk2] at hk
    split at h
    · rename_i hc
      unfold canF at hc
      split at hc
      · exact absurd hc (by decide)
      · rename_i hg
        simp only [Bool.or_eq_true, Bool.and_eq_true, Bool.not_eq_true', decide_eq_false_iff_not, bne_iff_ne, not_or, not_and, Bool.not_eq_false, Decidable.not_not] at hg
        obtain ⟨g1, g2, g3⟩ := hg
        unfold chkE at h
        split at h
        · exact absurd h (by decide)
        · rename_i hn
          split at h
          · rename_i hv
            split at h
            · exact absurd h (by decide)
            · rename_i h6
              split at h
              · exact absurd h (by decide)
              · rename_i h7
                refine ⟨by omega, fun hs => ?_, fun hs => ?_, g3, fun h7' => ?_, fun h5' => ?_, fun hs => ?_, (chars_iff _).1 hv, fun h6' => ?_, fun h7' => ?_⟩
                · by_cases hz : t.nm.size = 0
                  · exact size_zero hz
                  · have := g1 hz; rw [hs] at this; exact absurd this (by decide)
                · by_cases hz : t.vl.size = 0
                  · exact size_zero hz
                  · have := g2 hz; rw [hs] at this; exact absurd this (by decide)
                · subst h7'
                  rw [if_pos rfl] at hc
                  exact of_decide_eq_true hc
                · subst h5'
                  rw [if_neg (by decide), if_pos rfl] at hc
                  simp only [Bool.and_eq_true, Bool.not_eq_true', decide_eq_false_iff_not] at hc
                  exact ⟨by omega, hc.2⟩
                · by_cases hx : xmlNameB t.nm = true
                  · exact hx
                  · exact absurd ⟨hs, by simpa using hx⟩ hn
                · by_cases hx : comB t.vl = true
                  · exact hx
                  · exact absurd ⟨h6', by simpa using hx⟩ h6
                · by_cases hx : dclB t.vl = true
                  · exact hx
                  · exact absurd ⟨h7', by simpa using hx⟩ h7
          · rename_i hv
            exact absurd h hv
    · exact absurd h (by decide)
theorem fits_put {last : Int} {t : IT} {k : Nat} (hk : t.k = (k : Int)) (f : Fits last k t.nm t.vl) : putE last t = 0 := by
  have h8 := f.lt
  unfold putE
  rw [if_neg (by omega), hk, Int.toNat_natCast]
  have hc : canF last k t.nm t.vl = true := by
    unfold canF
    rw [if_neg]
    · by_cases h7 : k = 7
      · rw [if_pos h7, decide_eq_true (f.d h7)]
      · rw [if_neg h7]
        by_cases h5 : k = 5
        · have := f.t5 h5
          rw [if_pos h5, decide_eq_false (by omega), decide_eq_false this.2]
          rfl
        · rw [if_neg h5]
    · simp only [Bool.or_eq_true, Bool.and_eq_true, Bool.not_eq_true', decide_eq_false_iff_not, bne_iff_ne, not_or, not_and, Bool.not_eq_false, Decidable.not_not]
      refine ⟨fun hz => ?_, fun hz => ?_, f.tag⟩
      · cases hs : shN k
        · exact absurd (by rw [f.n0 hs]; rfl) hz
        · rfl
      · cases hs : shV k
        · exact absurd (by rw [f.v0 hs]; rfl) hz
        · rfl
  rw [if_pos hc]
  unfold chkE
  rw [if_neg (fun hh => by rw [f.nm hh.1] at hh; exact absurd hh.2 (by decide)), if_pos ((chars_iff _).2 f.vx), if_neg (fun hh => by rw [f.c6 hh.1] at hh; exact absurd hh.2 (by decide)), if_neg (fun hh => by rw [f.c7 hh.1] at hh; exact absurd hh.2 (by decide))]
theorem wl0 (nm vl : ByteArray) : (wrB 0 nm vl).data.toList = 60 :: nm.data.toList := by simp [wrB, ByteArray.data_append]
theorem wl1 (nm vl : ByteArray) : (wrB 1 nm vl).data.toList = 32 :: (nm.data.toList ++ 61 :: 34 :: ((escB true vl).data.toList ++ [34])) := by simp [wrB, ByteArray.data_append]
theorem wl2 (nm vl : ByteArray) : (wrB 2 nm vl).data.toList = [62] := by simp [wrB]
theorem wl3 (nm vl : ByteArray) : (wrB 3 nm vl).data.toList = [47, 62] := by simp [wrB]
theorem wl4 (nm vl : ByteArray) : (wrB 4 nm vl).data.toList = 60 :: 47 :: (nm.data.toList ++ [62]) := by simp [wrB, ByteArray.data_append]
theorem wl5 (nm vl : ByteArray) : (wrB 5 nm vl).data.toList = (escB false vl).data.toList := by simp [wrB]
theorem wl6 (nm vl : ByteArray) : (wrB 6 nm vl).data.toList = 60 :: 33 :: 45 :: 45 :: (vl.data.toList ++ [45, 45, 62]) := by simp [wrB, ByteArray.data_append]
theorem wl7 (nm vl : ByteArray) : (wrB 7 nm vl).data.toList = 60 :: 63 :: 120 :: 109 :: 108 :: (vl.data.toList ++ [63, 62]) := by simp [wrB, ByteArray.data_append]
theorem esc_ne {attr : Bool} {vl : ByteArray} (h : 0 < vl.size) : (escB attr vl).data.toList ≠ [] := by
  intro e
  have h1 : (escB attr vl).size = 0 := by rw [← tl_len, e]; rfl
  unfold escB at h1
  rw [sOf_size] at h1
  have h2 : lOf vl ≠ [] := fun hh => by rw [← lOf_length, hh] at h; exact absurd h (by decide)
  obtain ⟨c, r, e2⟩ := List.exists_cons_of_ne_nil h2
  rw [e2] at h1
  unfold escL at h1
  rw [List.flatMap_cons, List.length_append] at h1
  have := (escC_len attr c).2
  omega
/-- The reader's state behind a piece of a Kind. -/
def stN (last : Int) : Nat := if inT last = true then 135 else 83
theorem ok_st {s : ByteArray} {a : Nat} (last : Int) (hs : s.size ≤ 1048576) (ha : a ≤ s.size) : okO s a (some (stN last)) := by
  unfold stN
  show stOk s _ a
  unfold stOk
  right
  refine ⟨hs, ?_⟩
  split
  · simp [ha]
  · simp [ha]
theorem piece_back {s : ByteArray} {a : Nat} {last : Int} {k : Nat} {nm vl : ByteArray} {y : List UInt8} (f : Fits last k nm vl) (h7 : k ≠ 7) (h : Dr s a = (wrB k nm vl).data.toList ++ y)
    (hy0 : k = 0 → ∃ c y', y = c :: y' ∧ NEb.data.toList.contains c = true) (hy5 : k = 5 → y = [] ∨ ∃ y', y = 60 :: y') :
    ∃ p, pieceZ s (some (stN last)) a = .told (some (stN (k : Int))) (a + (wrB k nm vl).data.toList.length) ⟨k, nm, vl, p⟩ ∧ a ≤ p ∧ p < a + (wrB k nm vl).data.toList.length := by
  have ht := f.tag
  have hk := f.lt
  have cases : k = 0 ∨ k = 1 ∨ k = 2 ∨ k = 3 ∨ k = 4 ∨ k = 5 ∨ k = 6 := by omega
  unfold stN
  rcases cases with rfl | rfl | rfl | rfl | rfl | rfl | rfl
  · rw [← ht, if_neg (show ¬ shT 0 = true by decide), if_pos (show inT ((0 : Nat) : Int) = true by decide)]
    obtain ⟨c, y', rfl, hc⟩ := hy0 rfl
    rw [wl0] at h ⊢
    rw [f.v0 (by decide), p_open h (f.nm (by decide)) hc]
    refine ⟨a, ?_, Nat.le_refl _, by simp⟩
    rw [List.length_cons, tl_len, show a + 1 + nm.size = a + (nm.size + 1) by omega]
  · rw [← ht, if_pos (show shT 1 = true by decide), if_pos (show inT ((1 : Nat) : Int) = true by decide)]
    rw [wl1] at h ⊢
    have h' : Dr s a = 32 :: (nm.data.toList ++ 61 :: 34 :: ((escB true vl).data.toList ++ 34 :: y)) := by rw [h]; simp
    rw [p_attr h' (f.nm (by decide))]
    refine ⟨a + 1, ?_, by omega, by simp; omega⟩
    congr 1
    simp only [List.length_cons, List.length_append, tl_len, List.length_nil]
    omega
  · rw [← ht, if_pos (show shT 2 = true by decide), if_neg (show ¬ inT ((2 : Nat) : Int) = true by decide)]
    rw [wl2] at h ⊢
    rw [f.n0 (by decide), f.v0 (by decide), p_end h]
    exact ⟨a, rfl, Nat.le_refl _, by simp⟩
  · rw [← ht, if_pos (show shT 3 = true by decide), if_neg (show ¬ inT ((3 : Nat) : Int) = true by decide)]
    rw [wl3] at h ⊢
    rw [f.n0 (by decide), f.v0 (by decide), p_empty h]
    exact ⟨a, rfl, Nat.le_refl _, by simp⟩
  · rw [← ht, if_neg (show ¬ shT 4 = true by decide), if_neg (show ¬ inT ((4 : Nat) : Int) = true by decide)]
    rw [wl4] at h ⊢
    have h' : Dr s a = 60 :: 47 :: (nm.data.toList ++ 62 :: y) := by rw [h]; simp
    rw [f.v0 (by decide), p_close h' (f.nm (by decide))]
    refine ⟨a, ?_, Nat.le_refl _, by simp⟩
    congr 1
    simp only [List.length_cons, List.length_append, tl_len, List.length_nil]
    omega
  · rw [← ht, if_neg (show ¬ shT 5 = true by decide), if_neg (show ¬ inT ((5 : Nat) : Int) = true by decide)]
    rw [wl5] at h ⊢
    have hne := esc_ne (attr := false) (f.t5 rfl).1
    rw [f.n0 (by decide), p_text h hne (hy5 rfl)]
    refine ⟨a, by rw [tl_len], Nat.le_refl _, ?_⟩
    have := List.length_pos_iff.2 hne
    omega
  · rw [← ht, if_neg (show ¬ shT 6 = true by decide), if_neg (show ¬ inT ((6 : Nat) : Int) = true by decide)]
    rw [wl6] at h ⊢
    have h' : Dr s a = 60 :: 33 :: 45 :: 45 :: (vl.data.toList ++ 45 :: 45 :: 62 :: y) := by rw [h]; simp
    rw [f.n0 (by decide), p_comment h' (f.c6 rfl)]
    refine ⟨a, ?_, Nat.le_refl _, by simp⟩
    congr 1
    simp only [List.length_cons, List.length_append, tl_len, List.length_nil]
    omega
/-- The same pieces, places aside; places rise. -/
def Sm : List Tok → List IT → Prop
  | [], [] => True
  | u :: us, t :: ts => (u.k : Int) = t.k ∧ u.nm = t.nm ∧ u.vl = t.vl ∧ Sm us ts
  | _, _ => False
def Rs (n : Nat) : Nat → List Tok → Prop
  | _, [] => True
  | lo, u :: us => lo ≤ u.p ∧ u.p < n ∧ Rs n (u.p + 1) us
theorem Rs.le {n : Nat} : ∀ {us : List Tok} {lo lo' : Nat}, Rs n lo us → lo' ≤ lo → Rs n lo' us
  | [], _, _, _, _ => trivial
  | _ :: _, _, _, h, hl => ⟨Nat.le_trans hl h.1, h.2⟩
def fl (ts : List IT) : List UInt8 := ts.flatMap wL
theorem fl_cons (t : IT) (ts : List IT) : fl (t :: ts) = wL t ++ fl ts := by unfold fl; rw [List.flatMap_cons]
theorem behind_open {ts : List IT} (h : Chn 0 ts) : ∃ c y', fl ts = c :: y' ∧ NEb.data.toList.contains c = true := by
  cases ts with
  | nil => exact absurd (show inT 0 = false from h) (by decide)
  | cons t ts =>
    obtain ⟨k, hk, f⟩ := fits_of h.1
    have ht : shT k = true := f.tag
    have hk3 : k = 1 ∨ k = 2 ∨ k = 3 := of_decide_eq_true ht
    rw [fl_cons]
    unfold wL
    rw [hk, Int.toNat_natCast]
    rcases hk3 with rfl | rfl | rfl
    · rw [wl1]; exact ⟨_, _, List.cons_append, by decide⟩
    · rw [wl2]; exact ⟨_, _, List.cons_append, by decide⟩
    · rw [wl3]; exact ⟨_, _, List.cons_append, by decide⟩
theorem behind_text {ts : List IT} (h : Chn 5 ts) : fl ts = [] ∨ ∃ y', fl ts = 60 :: y' := by
  cases ts with
  | nil => exact Or.inl rfl
  | cons t ts =>
    right
    obtain ⟨k, hk, f⟩ := fits_of h.1
    have ht : shT k = false := f.tag
    have hk3 : ¬ (k = 1 ∨ k = 2 ∨ k = 3) := of_decide_eq_false ht
    have h5 : k ≠ 5 := fun hh => (f.t5 hh).2 rfl
    have h7 : k ≠ 7 := fun hh => absurd (f.d hh) (by decide)
    have h8 := f.lt
    have cs : k = 0 ∨ k = 4 ∨ k = 6 := by omega
    rw [fl_cons]
    unfold wL
    rw [hk, Int.toNat_natCast]
    rcases cs with rfl | rfl | rfl
    · rw [wl0]; exact ⟨_, List.cons_append⟩
    · rw [wl4]; exact ⟨_, List.cons_append⟩
    · rw [wl6]; exact ⟨_, List.cons_append⟩
theorem back_main (s : ByteArray) (hs : s.size ≤ 1048576) : ∀ (ts : List IT) (last : Int) (a : Nat), Chn last ts → last ≠ -1 → a ≤ s.size → Dr s a = fl ts → ∃ us, toksZ s (some (stN last)) a = (us, none) ∧ Sm us ts ∧ Rs s.size a us
  | [], last, a, hc, _, _, h => by
    have hi : inT last = false := hc
    refine ⟨[], toksZ_end (b := a) ?_, trivial, trivial⟩
    unfold stN
    rw [if_neg (by rw [hi]; decide)]
    exact p_stop h
  | t :: ts, last, a, hc, hl, ha, h => by
    obtain ⟨k, hk, f⟩ := fits_of hc.1
    have hc2 := hc.2
    rw [hk] at hc2
    rw [fl_cons] at h
    unfold wL at h
    rw [hk, Int.toNat_natCast] at h
    obtain ⟨p, hp, hp1, hp2⟩ := piece_back f (fun hh => hl (f.d hh)) h (fun hh => by subst hh; exact behind_open hc2) (fun hh => by subst hh; exact behind_text hc2)
    have hb := dr_le ha h
    obtain ⟨us, e, sm, rs⟩ := back_main s hs ts (k : Int) _ hc2 (by omega) hb (dr_app h)
    refine ⟨⟨k, t.nm, t.vl, p⟩ :: us, by rw [toksZ_told (ok_st last hs ha) hp, e], ⟨hk.symm, rfl, rfl, sm⟩, hp1, by show p < s.size; omega, Rs.le rs (by show p + 1 ≤ _; omega)⟩
end Go.Proofs.YtchfphakhmifmaaGreatDoor
