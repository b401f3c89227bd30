/- A cursor's Chars, SetChars. -/
import Derived.Test.YtfhphjgcmbneeaaDoorCuC
namespace Go.Proofs.YtfhphjgcmbneeaaDoor
open Go.ChangeShapes Go.WideShapes Go.ChangeAt Go.RowKit

theorem GetChars_cur {w : World} {c g len cap st en : Nat} {hi : Bool} {f : Nat → Int} (h : Cs w c 0 g len cap st en hi f) (at' n : Int) (hn : 0 ≤ n) (hin : inC st en at' n = true) {W : World} (hW : Below w.heap.size w W) :
    Calls Tryd.prog 57 #[.slice (some ⟨g, 0, none⟩) len cap, .int .i64 at', .int .i64 n] W fun e w' => e = .returned (.tuple #[.string (textF f at'.toNat n.toNat), .int .i64 0]) ∧ w' = W := by
  have hb := inC_of hin
  have h2 := h.h2
  have h4 := h.h4
  have hh := h.below hW
  obtain ⟨a, rfl⟩ : ∃ a : Nat, at' = a := ⟨at'.toNat, by omega⟩
  obtain ⟨m, rfl⟩ : ∃ m : Nat, n = m := ⟨n.toNat, by omega⟩
  have ha : ((a : Int)).toNat = a := by omega
  have hm : ((m : Int)).toNat = m := by omega
  rw [ha, hm]
  exact GetChars_ok g len cap a m f W hh.row (by omega) h.h3 (by omega)
theorem CharsCu_any {w : World} {c g len cap st en : Nat} {hi : Bool} {f : Nat → Int} (h : Cs w c 0 g len cap st en hi f) (at' n : Int) (hn : n ≤ 9223372036854775807) :
    Calls Tryd.prog 37 #[.pointer (some ⟨c, 0, none⟩), .int .i64 at', .int .i64 n] w fun e w' => e = .returned (.tuple #[.string (chT st en f at' n), .int .i64 (chE st en at' n)]) ∧ Below w.heap.size w w' := by
  unfold chT chE
  by_cases h0 : n < 0
  · rw [if_pos h0, if_neg (by decide)]
    clear h
    go_enter Tryd.func37, Tryd.ntmps37
    go_wp2
    go_ret2
    exact ⟨rfl, Below.refl _ _⟩
  · rw [if_neg h0]
    have HO := holds_any h at' n (by omega) hn
    by_cases hin : inC st en at' n = true
    · rw [if_pos hin, if_pos rfl]
      have G := fun W hW => GetChars_cur h at' n (by omega) hin (W := W) hW
      have B := h.buf
      have z := h.lt
      rw [hin] at HO
      clear hin h
      go_enter Tryd.func37, Tryd.ntmps37
      go_wp2_with (first
        | (go_at_call 28; refine HO.mono ?_; rintro e w2 ⟨rfl, he⟩; replace he := he.symm; subst he)
        | (go_at_call 57; refine (G _ (Below.refl _ _)).mono ?_; rintro _ w3 ⟨rfl, he⟩; replace he := he.symm; subst he))
      go_ret2
      exact ⟨rfl, Below.refl _ _⟩
    · have hin' : inC st en at' n = false := by simpa using hin
      rw [if_neg hin, if_neg (by decide)]
      rw [hin'] at HO
      clear hin h
      go_enter Tryd.func37, Tryd.ntmps37
      go_wp2_with (first
        | (go_at_call 28; refine HO.mono ?_; rintro e w2 ⟨rfl, he⟩; replace he := he.symm; subst he))
      go_ret2
      exact ⟨rfl, Below.refl _ _⟩
theorem PutChars_cur {w : World} {c g len cap st en : Nat} {hi : Bool} {f : Nat → Int} (h : Cs w c 0 g len cap st en hi f) (at' n : Int) (t : ByteArray) (hn : 0 ≤ n) (hin : inC st en at' n = true) {W : World} (hW : Below w.heap.size w W) :
    Calls Tryd.prog 55 #[.slice (some ⟨g, 0, none⟩) len cap, .int .i64 at', .int .i64 n, .string t] W fun e w' => e = .returned (.int .i64 (if (t.size : Int) ≤ n then 0 else 13)) ∧ Only g W w' ∧ w'.rowIs g 5 cap (fun j => .int .u8 ((if (t.size : Int) ≤ n then lay f at'.toNat n.toNat t else f) j)) := by
  have hb := inC_of hin
  have h2 := h.h2
  have h4 := h.h4
  have hh := h.below hW
  obtain ⟨a, rfl⟩ : ∃ a : Nat, at' = a := ⟨at'.toNat, by omega⟩
  obtain ⟨m, rfl⟩ : ∃ m : Nat, n = m := ⟨n.toNat, by omega⟩
  have ha : ((a : Int)).toNat = a := by omega
  have hm : ((m : Int)).toNat = m := by omega
  rw [ha, hm]
  by_cases hs : (t.size : Int) ≤ m
  · rw [if_pos hs, if_pos hs]
    by_cases he : t.size = m
    · subst he
      exact PutChars_eq g len cap a t f W hh.row (by omega) h.h3 (by omega)
    · exact PutChars_lt g len cap a m t f W hh.row (by omega) h.h3 (by omega) (by omega)
  · rw [if_neg hs, if_neg hs]
    refine (PutChars_long (some ⟨g, 0, none⟩) len cap a m t W (by omega) (by omega) (inB_yes (by omega)) (by omega)).mono ?_
    rintro _ w' ⟨rfl, rfl⟩
    exact ⟨rfl, Only.refl _ _, hh.row⟩
theorem setZ {st en : Nat} {at' n : Int} {t : ByteArray} {f : Nat → Int} (h0 : ¬ n < 0) (hin : inC st en at' n = true) : setE st en at' n t = (if (t.size : Int) ≤ n then 0 else 13) ∧ setF st en f at' n t = if (t.size : Int) ≤ n then lay f at'.toNat n.toNat t else f := by
  unfold setF setE
  rw [if_neg h0, if_pos hin]
  refine ⟨rfl, ?_⟩
  by_cases hs : (t.size : Int) ≤ n
  · rw [if_pos hs, if_pos hs, if_pos rfl]
  · rw [if_neg hs, if_neg hs, if_neg (by decide)]
theorem setN {st en : Nat} {at' n : Int} {t : ByteArray} {f : Nat → Int} (h : n < 0 ∨ (¬ n < 0 ∧ inC st en at' n = false)) : setE st en at' n t = (if n < 0 then 1 else 171) ∧ setF st en f at' n t = f := by
  unfold setF setE
  rcases h with h | ⟨h, h2⟩
  · rw [if_pos h, if_pos h, if_neg (by decide)]; exact ⟨rfl, rfl⟩
  · rw [if_neg h, if_neg h, h2, if_neg (by decide), if_neg (by decide)]; exact ⟨rfl, rfl⟩
theorem SetCu_any {w : World} {c g len cap st en : Nat} {hi : Bool} {f : Nat → Int} (h : Cs w c 0 g len cap st en hi f) (at' n : Int) (t : ByteArray) (hn : n ≤ 9223372036854775807) :
    Calls Tryd.prog 33 #[.pointer (some ⟨c, 0, none⟩), .int .i64 at', .int .i64 n, .string t] w fun e w' => e = .returned (.int .i64 (setE st en at' n t)) ∧ Cs w' c 0 g len cap st en hi (setF st en f at' n t) ∧ Only g w w' := by
  have H : Hid (Cs w c 0 g len cap st en hi f) := h
  by_cases h0 : n < 0
  · obtain ⟨e1, e2⟩ := setN (f := f) (t := t) (st := st) (en := en) (at' := at') (.inl h0)
    rw [e1, e2, if_pos h0]
    clear h e1 e2
    go_enter Tryd.func33, Tryd.ntmps33
    go_wp2
    go_ret
    exact ⟨rfl, H.out, Only.refl _ _⟩
  · have HO := holds_any h at' n (by omega) hn
    by_cases hin : inC st en at' n = true
    · obtain ⟨e1, e2⟩ := setZ (f := f) (t := t) h0 hin
      have G := fun W hW => PutChars_cur h at' n t (by omega) hin (W := W) hW
      have Bd : ∀ j, 0 ≤ setF st en f at' n t j ∧ setF st en f at' n t j ≤ 255 := by
        rw [e2]
        split
        · exact lay_bd h.bd _ _ _
        · exact h.bd
      rw [← e1, ← e2] at G
      generalize setE st en at' n t = E at G ⊢
      generalize setF st en f at' n t = F at G Bd ⊢
      have B := h.buf
      have z := h.lt
      have zn := h.ne
      rw [hin] at HO
      clear hin h e1 e2
      go_enter Tryd.func33, Tryd.ntmps33
      go_wp2_with (first
        | (go_at_call 28; refine HO.mono ?_; rintro e w2 ⟨rfl, he⟩; replace he := he.symm; subst he)
        | (go_at_call 55; refine (G _ (Below.refl _ _)).mono ?_; rintro _ w3 ⟨rfl, hb3, hr3⟩))
      go_ret
      exact ⟨rfl, H.out.only hb3 hr3 Bd, hb3⟩
    · have hin' : inC st en at' n = false := by simpa using hin
      obtain ⟨e1, e2⟩ := setN (f := f) (t := t) (at' := at') (.inr ⟨h0, hin'⟩)
      rw [e1, e2, if_neg h0]
      rw [hin'] at HO
      clear hin h e1 e2 hin'
      go_enter Tryd.func33, Tryd.ntmps33
      go_wp2_with (first
        | (go_at_call 28; refine HO.mono ?_; rintro e w2 ⟨rfl, he⟩; replace he := he.symm; subst he))
      go_ret
      exact ⟨rfl, H.out, Only.refl _ _⟩
end Go.Proofs.YtfhphjgcmbneeaaDoor
