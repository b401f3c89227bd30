/- CuD, CuE. -/
import Derived.Test.YtgklippjoikadaaDoorK08
namespace Go.Proofs.YtgklippjoikadaaDoor
open Go.ChangeShapes Go.WideShapes Go.ChangeAt Go.RowKit

theorem GetChars_cur {w : World} {c g len cap st en : Nat} {hi : Bool} {f : Nat → Int} (h : Cs w c 0 g len cap st en hi f) (at' n : Int) (hn : 0 ≤ n) (hin : inC st en at' n = true) {W : World} (hW : Below w.heap.size w W) :
    Calls Tryd.prog 54 #[.slice (some ⟨g, 0, none⟩) len cap, .int .i64 at', .int .i64 n] W fun e w' => e = .returned (.tuple #[.string (textF f at'.toNat n.toNat), .int .i64 0]) ∧ w' = W := by
  have hb := inC_of hin
  have h2 := h.h2
  have h4 := h.h4
  have hh := h.below hW
  obtain ⟨a, rfl⟩ : ∃ a : Nat, at' = a := ⟨at'.toNat, by omega⟩
  obtain ⟨m, rfl⟩ : ∃ m : Nat, n = m := ⟨n.toNat, by omega⟩
  have ha : ((a : Int)).toNat = a := by omega
  have hm : ((m : Int)).toNat = m := by omega
  rw [ha, hm]
  exact GetChars_ok g len cap a m f W hh.row (by omega) h.h3 (by omega)
theorem CharsCu_any {w : World} {c g len cap st en : Nat} {hi : Bool} {f : Nat → Int} (h : Cs w c 0 g len cap st en hi f) (at' n : Int) (hn : n ≤ 9223372036854775807) :
    Calls Tryd.prog 26 #[.pointer (some ⟨c, 0, none⟩), .int .i64 at', .int .i64 n] w fun e w' => e = .returned (.tuple #[.string (chT st en f at' n), .int .i64 (chE st en at' n)]) ∧ Below w.heap.size w w' := by
  unfold chT chE
  by_cases h0 : n < 0
  · rw [if_pos h0, if_neg (by decide)]
    clear h
    go_enter Tryd.func26, Tryd.ntmps26
    go_wp2
    go_ret2
    exact ⟨rfl, Below.refl _ _⟩
  · rw [if_neg h0]
    have HO := holds_any h at' n (by omega) hn
    by_cases hin : inC st en at' n = true
    · rw [if_pos hin, if_pos rfl]
      have G := fun W hW => GetChars_cur h at' n (by omega) hin (W := W) hW
      have B := h.buf
      have z := h.lt
      rw [hin] at HO
      clear hin h
      go_enter Tryd.func26, Tryd.ntmps26
      go_wp2_with (first
        | (go_at_call 41; refine HO.mono ?_; rintro e w2 ⟨rfl, he⟩; replace he := he.symm; subst he)
        | (go_at_call 54; refine (G _ (Below.refl _ _)).mono ?_; rintro _ w3 ⟨rfl, he⟩; replace he := he.symm; subst he))
      go_ret2
      exact ⟨rfl, Below.refl _ _⟩
    · have hin' : inC st en at' n = false := by simpa using hin
      rw [if_neg hin, if_neg (by decide)]
      rw [hin'] at HO
      clear hin h
      go_enter Tryd.func26, Tryd.ntmps26
      go_wp2_with (first
        | (go_at_call 41; refine HO.mono ?_; rintro e w2 ⟨rfl, he⟩; replace he := he.symm; subst he))
      go_ret2
      exact ⟨rfl, Below.refl _ _⟩
theorem PutChars_cur {w : World} {c g len cap st en : Nat} {hi : Bool} {f : Nat → Int} (h : Cs w c 0 g len cap st en hi f) (at' n : Int) (t : ByteArray) (hn : 0 ≤ n) (hin : inC st en at' n = true) {W : World} (hW : Below w.heap.size w W) :
    Calls Tryd.prog 55 #[.slice (some ⟨g, 0, none⟩) len cap, .int .i64 at', .int .i64 n, .string t] W fun e w' => e = .returned (.int .i64 (if (t.size : Int) ≤ n then 0 else 13)) ∧ Only g W w' ∧ w'.rowIs g 5 cap (fun j => .int .u8 ((if (t.size : Int) ≤ n then lay f at'.toNat n.toNat t else f) j)) := by
  have hb := inC_of hin
  have h2 := h.h2
  have h4 := h.h4
  have hh := h.below hW
  obtain ⟨a, rfl⟩ : ∃ a : Nat, at' = a := ⟨at'.toNat, by omega⟩
  obtain ⟨m, rfl⟩ : ∃ m : Nat, n = m := ⟨n.toNat, by omega⟩
  have ha : ((a : Int)).toNat = a := by omega
  have hm : ((m : Int)).toNat = m := by omega
  rw [ha, hm]
  by_cases hs : (t.size : Int) ≤ m
  · rw [if_pos hs, if_pos hs]
    by_cases he : t.size = m
    · subst he
      exact PutChars_eq g len cap a t f W hh.row (by omega) h.h3 (by omega)
    · exact PutChars_lt g len cap a m t f W hh.row (by omega) h.h3 (by omega) (by omega)
  · rw [if_neg hs, if_neg hs]
    refine (PutChars_long (some ⟨g, 0, none⟩) len cap a m t W (by omega) (by omega) (inB_yes (by omega)) (by omega)).mono ?_
    rintro _ w' ⟨rfl, rfl⟩
    exact ⟨rfl, Only.refl _ _, hh.row⟩
theorem setZ {st en : Nat} {at' n : Int} {t : ByteArray} {f : Nat → Int} (h0 : ¬ n < 0) (hin : inC st en at' n = true) : setE st en at' n t = (if (t.size : Int) ≤ n then 0 else 13) ∧ setF st en f at' n t = if (t.size : Int) ≤ n then lay f at'.toNat n.toNat t else f := by
  unfold setF setE
  rw [if_neg h0, if_pos hin]
  refine ⟨rfl, ?_⟩
  by_cases hs : (t.size : Int) ≤ n
  · rw [if_pos hs, if_pos hs, if_pos rfl]
  · rw [if_neg hs, if_neg hs, if_neg (by decide)]
theorem setN {st en : Nat} {at' n : Int} {t : ByteArray} {f : Nat → Int} (h : n < 0 ∨ (¬ n < 0 ∧ inC st en at' n = false)) : setE st en at' n t = (if n < 0 then 1 else 171) ∧ setF st en f at' n t = f := by
  unfold setF setE
  rcases h with h | ⟨h, h2⟩
  · rw [if_pos h, if_pos h, if_neg (by decide)]; exact ⟨rfl, rfl⟩
  · rw [if_neg h, if_neg h, h2, if_neg (by decide), if_neg (by decide)]; exact ⟨rfl, rfl⟩
theorem SetCu_any {w : World} {c g len cap st en : Nat} {hi : Bool} {f : Nat → Int} (h : Cs w c 0 g len cap st en hi f) (at' n : Int) (t : ByteArray) (hn : n ≤ 9223372036854775807) :
    Calls Tryd.prog 28 #[.pointer (some ⟨c, 0, none⟩), .int .i64 at', .int .i64 n, .string t] w fun e w' => e = .returned (.int .i64 (setE st en at' n t)) ∧ Cs w' c 0 g len cap st en hi (setF st en f at' n t) ∧ Only g w w' := by
  have H : Hid (Cs w c 0 g len cap st en hi f) := h
  by_cases h0 : n < 0
  · obtain ⟨e1, e2⟩ := setN (f := f) (t := t) (st := st) (en := en) (at' := at') (.inl h0)
    rw [e1, e2, if_pos h0]
    clear h e1 e2
    go_enter Tryd.func28, Tryd.ntmps28
    go_wp2
    go_ret
    exact ⟨rfl, H.out, Only.refl _ _⟩
  · have HO := holds_any h at' n (by omega) hn
    by_cases hin : inC st en at' n = true
    · obtain ⟨e1, e2⟩ := setZ (f := f) (t := t) h0 hin
      have G := fun W hW => PutChars_cur h at' n t (by omega) hin (W := W) hW
      have Bd : ∀ j, 0 ≤ setF st en f at' n t j ∧ setF st en f at' n t j ≤ 255 := by
        rw [e2]
        split
        · exact lay_bd h.bd _ _ _
        · exact h.bd
      rw [← e1, ← e2] at G
      generalize setE st en at' n t = E at G ⊢
      generalize setF st en f at' n t = F at G Bd ⊢
      have B := h.buf
      have z := h.lt
      have zn := h.ne
      rw [hin] at HO
      clear hin h e1 e2
      go_enter Tryd.func28, Tryd.ntmps28
      go_wp2_with (first
        | (go_at_call 41; refine HO.mono ?_; rintro e w2 ⟨rfl, he⟩; replace he := he.symm; subst he)
        | (go_at_call 55; refine (G _ (Below.refl _ _)).mono ?_; rintro _ w3 ⟨rfl, hb3, hr3⟩))
      go_ret
      exact ⟨rfl, H.out.only hb3 hr3 Bd, hb3⟩
    · have hin' : inC st en at' n = false := by simpa using hin
      obtain ⟨e1, e2⟩ := setN (f := f) (t := t) (at' := at') (.inr ⟨h0, hin'⟩)
      rw [e1, e2, if_neg h0]
      rw [hin'] at HO
      clear hin h e1 e2 hin'
      go_enter Tryd.func28, Tryd.ntmps28
      go_wp2_with (first
        | (go_at_call 41; refine HO.mono ?_; rintro e w2 ⟨rfl, he⟩; replace he := he.symm; subst he))
      go_ret
      exact ⟨rfl, H.out, Only.refl _ _⟩
end Go.Proofs.YtgklippjoikadaaDoor
namespace Go.Proofs.YtgklippjoikadaaDoor
open Go.ChangeShapes Go.WideShapes Go.ChangeAt Go.RowKit

theorem isGood_any (size p off : Int) (w : World) (kt : KT w) (h1 : 1 ≤ size) (h2 : size ≤ 65535) :
    Calls Tryd.prog 77 #[.agg #[.int .i64 p, .int .i64 off], .int .i64 size] w fun e w' => e = .returned (.bool (goodB size p off)) ∧ Below w.heap.size w w' := by
  have S := fun W hW => size_any p W (kt.below (w' := W) kt.pos hW)
  have hsz := sz_cases p
  have hw : IntKind.i64.wrap (size - sz p) = size - sz p := by rw [IntKind.wrap_i64]; omega
  by_cases hp : p = 5 ∨ p = 6 ∨ p = 7
  · by_cases h0 : 0 ≤ off
    · have e : goodB size p off = decide (off ≤ size - sz p) := by unfold goodB; exact decide_eq_decide.2 (by omega)
      rw [e]
      clear e
      have hd : decide (0 ≤ off) = true := decide_eq_true h0
      have hq : (p == 5) = true ∨ ((p == 5) = false ∧ (p == 6) = true) ∨ ((p == 5) = false ∧ (p == 6) = false ∧ (p == 7) = true) := by rcases hp with rfl | rfl | rfl <;> simp
      clear hp
      rcases hq with d5 | ⟨d5, d6⟩ | ⟨d5, d6, d7⟩
      all_goals
        go_enter Tryd.func77, Tryd.ntmps77
        go_wp2_with fail
        go_region_held3 (fun X => X.cell? ⟨w.heap.size, 0, none⟩ = some (.int .i64 p) ∧ X.cell? ⟨w.heap.size, 1, none⟩ = some (.int .i64 off)) (first | assumption | (refine ⟨?_, ?_⟩ <;> assumption) | go_keep) (first
          | (go_at_call 39; refine (S _ (bel1 _ _).drew).mono ?_; rintro _ w3 ⟨rfl, hb3⟩; have B0 := hb3.cell (p := ⟨w.heap.size, 0, none⟩) (by simp); have B1 := hb3.cell (p := ⟨w.heap.size, 1, none⟩) (by simp)))
        all_goals
          go_wp2_with fail
          go_ret
          exact ⟨rfl, (bel1 _ _).drew.trans (hb3.mono (by simp))⟩
    · have e : goodB size p off = false := by unfold goodB; exact decide_eq_false (by omega)
      rw [e]
      clear e
      have hd : decide (0 ≤ off) = false := decide_eq_false h0
      have hq : (p == 5) = true ∨ ((p == 5) = false ∧ (p == 6) = true) ∨ ((p == 5) = false ∧ (p == 6) = false ∧ (p == 7) = true) := by rcases hp with rfl | rfl | rfl <;> simp
      clear hp
      rcases hq with d5 | ⟨d5, d6⟩ | ⟨d5, d6, d7⟩
      all_goals
        go_enter Tryd.func77, Tryd.ntmps77
        go_wp2_with fail
        go_quiet (fail)
        go_wp2_with fail
        go_ret
        exact ⟨rfl, below_drewN (bel1 _ _) _⟩
  · have e : goodB size p off = false := by unfold goodB; exact decide_eq_false (by omega)
    rw [e]
    clear e
    have d5 : (p == 5) = false := by simp; omega
    have d6 : (p == 6) = false := by simp; omega
    have d7 : (p == 7) = false := by simp; omega
    go_enter Tryd.func77, Tryd.ntmps77
    go_wp2_with fail
    go_ret
    exact ⟨rfl, bel1 _ _⟩
/-- Spots in a row of their own. -/
structure SpRow (w : World) (b : Nat) (l : List (Int × Int)) : Prop where
  lt : b < w.heap.size
  p : ∀ i s, l[i]? = some s → w.cell? ⟨b, i * 2, none⟩ = some (.int .i64 s.1)
  o : ∀ i s, l[i]? = some s → w.cell? ⟨b, i * 2 + 1, none⟩ = some (.int .i64 s.2)
theorem SpRow.below {w w' : World} {b : Nat} {l : List (Int × Int)} (h : SpRow w b l) (hb : Below w.heap.size w w') : SpRow w' b l :=
  ⟨Nat.lt_of_lt_of_le h.lt hb.size, fun i s hs => (hb.cell (p := ⟨b, i * 2, none⟩) h.lt).trans (h.p i s hs), fun i s hs => (hb.cell (p := ⟨b, i * 2 + 1, none⟩) h.lt).trans (h.o i s hs)⟩
set_option maxHeartbeats 1000000 in
theorem areGood_any (size : Int) (b cap : Nat) (l : List (Int × Int)) (w : World) (kt : KT w) (h : SpRow w b l) (hl : l.length ≤ 4) :
    Calls Tryd.prog 62 #[.int .i64 size, .slice (some ⟨b, 0, none⟩) l.length cap] w fun e w' => e = .returned (.bool (goods size l)) ∧ Below w.heap.size w w' := by
  by_cases hs : 1 ≤ size ∧ size ≤ 65535
  · have e : goods size l = l.all fun s => goodB size s.1 s.2 := by unfold goods; rw [decide_eq_true hs]; rfl
    rw [e]
    clear e
    obtain ⟨h1, h2⟩ := hs
    have H : Hid (SpRow w b l) := h
    have K : Hid (KT w) := kt
    clear h kt
    go_enter Tryd.func62, Tryd.ntmps62
    go_wp2_with fail
    go_loopw [15] (fun i wr => ∃ k : Nat, k ≤ l.length ∧ i = .int .i64 k ∧ Below w.heap.size w wr ∧ (l.take k).all (fun s => goodB size s.1 s.2) = true) (fun i _ => l.length - (intOf i).toNat)
    case atStart => exact ⟨0, Nat.zero_le _, rfl, Below.refl _ _, rfl⟩
    case round =>
      obtain ⟨k, hk, rfl, HB, HG⟩ := hrel
      by_cases hlt : k < l.length
      · obtain ⟨s, hs⟩ : ∃ s, l[k]? = some s := ⟨l[k], List.getElem?_eq_getElem hlt⟩
        have c0 := (H.out.below HB).p k s hs
        have c1 := (H.out.below HB).o k s hs
        have hlt' : (k : Int) < (l.length : Int) := by omega
        have G := fun W (hW : Below w.heap.size w W) => isGood_any size s.1 s.2 W (K.out.below K.out.pos hW) h1 h2
        have T : Hid ((l.take (k + 1)).all (fun s => goodB size s.1 s.2) = goodB size s.1 s.2) := by
          show (l.take (k + 1)).all (fun s => goodB size s.1 s.2) = goodB size s.1 s.2
          rw [List.take_add_one, List.all_append, HG, hs]
          simp
        have A : Hid (goodB size s.1 s.2 = false → l.all (fun s => goodB size s.1 s.2) = false) := fun e => by
          rw [Bool.eq_false_iff]
          intro e2
          have := List.all_eq_true.1 e2 s (List.mem_of_getElem? hs)
          rw [e] at this
          cases this
        cases hg : goodB size s.1 s.2 with
        | true =>
          rw [hg] at G T
          clear hg A HG hs
          go_wp2_with (go_at_call 77; refine (G _ (HB.alloc HB.size _)).mono ?_; rintro e wc ⟨rfl, hbl⟩)
          go_roundw
          case rel => exact ⟨k + 1, by omega, by go_num, (HB.alloc HB.size _).trans (hbl.mono (HB.alloc HB.size _).size), T.out⟩
          case measure => simp [intOf]; omega
        | false =>
          rw [hg] at G
          have A2 : Hid (l.all (fun s => goodB size s.1 s.2) = false) := A.out hg
          clear hg T A HG hs
          go_wp2_with (go_at_call 77; refine (G _ (HB.alloc HB.size _)).mono ?_; rintro e wc ⟨rfl, hbl⟩)
          go_ret
          exact ⟨ret_bool A2.out.symm, (HB.alloc HB.size _).trans (hbl.mono (HB.alloc HB.size _).size)⟩
      · obtain rfl : k = l.length := by omega
        rw [List.take_length] at HG
        replace HG : Hid _ := HG
        go_wp2
        go_ret
        exact ⟨ret_bool HG.out.symm, HB⟩
  · have e : goods size l = false := by unfold goods; rw [decide_eq_false hs]; rfl
    rw [e]
    clear e h
    by_cases h1 : size < 1
    · go_enter Tryd.func62, Tryd.ntmps62
      go_wp2_with fail
      go_ret
      exact ⟨rfl, Below.refl _ _⟩
    · have h2 : 65535 < size := by omega
      go_enter Tryd.func62, Tryd.ntmps62
      go_wp2_with fail
      go_ret
      exact ⟨rfl, Below.refl _ _⟩
end Go.Proofs.YtgklippjoikadaaDoor
