/- A cursor's Get, Put, Chars, SetChars. -/
import Derived.Test.YtfhphjgcmbneeaaDoorCuB
import Derived.Deep.RegionHeld3
namespace Go.Proofs.YtfhphjgcmbneeaaDoor
open Go.ChangeShapes Go.WideShapes Go.ChangeAt Go.RowKit

theorem sz_toNat {p : Int} (h : sz p ≠ 0) : sz p = ((sz p).toNat : Int) ∧ ((sz p).toNat = 1 ∨ (sz p).toNat = 2 ∨ (sz p).toNat = 4 ∨ (sz p).toNat = 8) := by
  have := sz_cases p
  omega
theorem Get_cur {w : World} {c g len cap st en : Nat} {hi : Bool} {f : Nat → Int} (h : Cs w c 0 g len cap st en hi f) (kt : KT w) (at' p : Int) (hp : sz p ≠ 0) (hin : inC st en at' (sz p) = true) {W : World} (hW : Below w.heap.size w W) :
    Calls Tryd.prog 35 #[.slice (some ⟨g, 0, none⟩) len cap, .int .i64 at', .int .i64 p, .int .i64 (ordV hi)] W fun e w' => e = .returned (.tuple #[.int .u64 (wrd hi f at'.toNat p), .int .i64 0]) ∧ Below W.heap.size W w' := by
  obtain ⟨e1, e2⟩ := sz_toNat hp
  have hb := inC_of hin
  have h2 := h.h2
  have h3 := h.h3
  have h4 := h.h4
  have hh := h.below hW
  obtain ⟨a, rfl⟩ : ∃ a : Nat, at' = a := ⟨at'.toNat, by omega⟩
  have ha : ((a : Int)).toNat = a := by omega
  rw [ha]
  unfold wrd
  rw [e1]
  have e3 : (((sz p).toNat : Int)).toNat = (sz p).toNat := by omega
  rw [e3]
  refine Get_ok g 0 len cap a p _ hi (sz p).toNat (fun k => f (a + k)) W (kt.below kt.pos hW) rfl e1 e2 (fun j => hh.bd _) (fun j hj => ?_) (by omega) (by omega) hh.row.lt
  rw [Nat.zero_add]
  exact hh.row.cell (by omega)
theorem GetCu_any {w : World} {c g len cap st en : Nat} {hi : Bool} {f : Nat → Int} (h : Cs w c 0 g len cap st en hi f) (kt : KT w) (at' p : Int) :
    Calls Tryd.prog 15 #[.pointer (some ⟨c, 0, none⟩), .int .i64 at', .int .i64 p] w fun e w' => e = .returned (.tuple #[.int .u64 (getW hi st en f at' p), .int .i64 (getE st en at' p)]) ∧ Below w.heap.size w w' := by
  unfold getW getE
  have S := size_any p w kt
  have hsz := sz_cases p
  by_cases hp : sz p = 0
  · rw [if_pos hp]
    have hp' : (sz p == 0) = true := by rw [hp]; rfl
    clear hp
    go_enter Tryd.func15, Tryd.ntmps15
    go_wp2_with (go_at_call 26; refine S.mono ?_; rintro e w1 ⟨rfl, hb1⟩)
    go_ret2
    exact ⟨rfl, hb1⟩
  · rw [if_neg hp]
    have hp' : (sz p == 0) = false := by simpa using hp
    by_cases hin : inC st en at' (sz p) = true
    · rw [if_pos hin]
      have G := fun W hW => Get_cur h kt at' p hp hin (W := W) hW
      have HO := fun W hW => holds_any (h.below (w' := W) hW) at' (sz p) (by omega) (by omega)
      have B := fun W hW => (h.below (w' := W) hW).buf
      have O := fun W hW => (h.below (w' := W) hW).ord
      have z := h.lt
      rw [hin] at HO
      clear hin h hp
      go_enter Tryd.func15, Tryd.ntmps15
      go_wp2_with (first
        | (go_at_call 26; refine S.mono ?_; rintro e w1 ⟨rfl, hb1⟩; have B1 := B _ hb1; have O1 := O _ hb1)
        | (go_at_call 28; refine (HO _ hb1).mono ?_; rintro e w2 ⟨rfl, he⟩; replace he := he.symm; subst he))
      go_region_held3 (fun X => X.cell? ⟨c, 0, none⟩ = some (.slice (some ⟨g, 0, none⟩) len cap) ∧ X.cell? ⟨c, 3, none⟩ = some (.int .i64 (ordV hi))) (first | assumption | (refine ⟨?_, ?_⟩ <;> assumption) | go_keep) (first
        | (go_at_call 35; refine (G _ hb1.drew).mono ?_; rintro _ w3 ⟨rfl, hb3⟩; have hb4 := hb1.drew.trans (hb3.mono hb1.drew.size); have B3 := B _ hb4; have O3 := O _ hb4))
      all_goals
        go_wp2_with fail
        go_ret2
        exact ⟨rfl, hb4⟩
    · have hin' : inC st en at' (sz p) = false := by simpa using hin
      rw [if_neg hin]
      have HO := fun W hW => holds_any (h.below (w' := W) hW) at' (sz p) (by omega) (by omega)
      rw [hin'] at HO
      clear hin h hp
      go_enter Tryd.func15, Tryd.ntmps15
      go_wp2_with (first
        | (go_at_call 26; refine S.mono ?_; rintro e w1 ⟨rfl, hb1⟩)
        | (go_at_call 28; refine (HO _ hb1).mono ?_; rintro e w2 ⟨rfl, rfl⟩))
      go_ret2
      exact ⟨rfl, hb1⟩
theorem only_below {g : Nat} {w W w' : World} (h : Only g w W) (hb : Below w.heap.size W w') : Only g w w' :=
  ⟨hb.os.trans h.os, hb.tape.trans h.tape, hb.output.trans h.output, Nat.le_trans h.size hb.size, fun k hk hg => (hb.block k hk).trans (h.block k hk hg)⟩
theorem Put_cur {w : World} {c g len cap st en : Nat} {hi : Bool} {f : Nat → Int} (h : Cs w c 0 g len cap st en hi f) (kt : KT w) (at' p x : Int) (hp : sz p ≠ 0) (hx0 : 0 ≤ x) (hx1 : x < 18446744073709551616) (hf : fitsF (sz p) (rd p) x = true) (hin : inC st en at' (sz p) = true) {W : World} (hW : Below w.heap.size w W) :
    Calls Tryd.prog 29 #[.slice (some ⟨g, 0, none⟩) len cap, .int .i64 at', .int .i64 p, .int .i64 (ordV hi), .int .u64 x] W fun e w' => e = .returned (.int .i64 0) ∧ Only g W w' ∧ w'.rowIs g 5 cap (fun j => .int .u8 (pb hi f at'.toNat p x j)) := by
  obtain ⟨e1, e2⟩ := sz_toNat hp
  have hb := inC_of hin
  have h2 := h.h2
  have h3 := h.h3
  have h4 := h.h4
  have hh := h.below hW
  obtain ⟨a, rfl⟩ : ∃ a : Nat, at' = a := ⟨at'.toNat, by omega⟩
  have ha : ((a : Int)).toNat = a := by omega
  rw [ha]
  refine (Put_ok g 0 len cap a p _ x hi (sz p).toNat W (kt.below kt.pos hW) rfl e1 e2 hx0 hx1 hf (fun j hj => ?_) (fun j hj => ?_) (by omega) (by omega) hh.row.lt).mono ?_
  · rw [Nat.zero_add]
    exact ⟨_, hh.row.cell (by omega)⟩
  · exact hh.row.frozen _
  · rintro _ w' ⟨rfl, hB⟩
    rw [Nat.zero_add] at hB
    have R1 := rowIs_setBytes hi (sz p).toNat x a hh.row (sz p).toNat
    refine ⟨rfl, only_below (only_setCells _ _ _ (Only.refl _ _)) hB, (R1.of_block (hB.block g hh.row.lt)).congr fun j _ => ?_⟩
    unfold pb
    by_cases c1 : a ≤ j ∧ j < a + (sz p).toNat
    · rw [if_pos c1, if_pos c1]
    · rw [if_neg c1, if_neg c1]
theorem PutCu_any {w : World} {c g len cap st en : Nat} {hi : Bool} {f : Nat → Int} (h : Cs w c 0 g len cap st en hi f) (kt : KT w) (at' p x : Int) (hx0 : 0 ≤ x) (hx1 : x < 18446744073709551616) :
    Calls Tryd.prog 9 #[.pointer (some ⟨c, 0, none⟩), .int .i64 at', .int .i64 p, .int .u64 x] w fun e w' => e = .returned (.int .i64 (putE st en at' p x)) ∧ Cs w' c 0 g len cap st en hi (putF hi st en f at' p x) ∧ Only g w w' := by
  unfold putF putE
  have S := size_any p w kt
  have hsz := sz_cases p
  have H : Hid (Cs w c 0 g len cap st en hi f) := h
  by_cases hp : sz p = 0
  · rw [if_pos hp, if_neg (by decide)]
    have hp' : (sz p == 0) = true := by rw [hp]; rfl
    clear hp h
    go_enter Tryd.func9, Tryd.ntmps9
    go_wp2_with (go_at_call 26; refine S.mono ?_; rintro e w1 ⟨rfl, hb1⟩)
    go_ret
    exact ⟨rfl, H.out.below hb1, Only.of_below hb1⟩
  · rw [if_neg hp]
    have hp' : (sz p == 0) = false := by simpa using hp
    have F := fun W hW => Fits_any p x W (kt.below (w' := W) kt.pos hW) hx0 hx1
    have T : ∀ {a b d : World}, Below a.heap.size a b → Below b.heap.size b d → Below a.heap.size a d := fun h1 h2 => h1.trans (h2.mono h1.size)
    by_cases hf : fitsF (sz p) (rd p) x = true
    · rw [if_pos hf]
      have HO := fun W hW => holds_any (h.below (w' := W) hW) at' (sz p) (by omega) (by omega)
      by_cases hin : inC st en at' (sz p) = true
      · rw [if_pos hin, if_pos rfl]
        have G := fun W hW => Put_cur h kt at' p x hp hx0 hx1 hf hin (W := W) hW
        have B := fun W hW => (h.below (w' := W) hW).buf
        have O := fun W hW => (h.below (w' := W) hW).ord
        have z := h.lt
        have zn := h.ne
        rw [hin] at HO
        rw [hf] at F
        clear hin h hp hf
        go_enter Tryd.func9, Tryd.ntmps9
        go_wp2_with (first
          | (go_at_call 26; refine S.mono ?_; rintro e w1 ⟨rfl, hb1⟩)
          | (go_at_call 27; refine (F _ hb1).mono ?_; rintro e w2 ⟨rfl, hb2⟩; replace hb2 := T hb1 hb2; have B1 := B _ hb2; have O1 := O _ hb2)
          | (go_at_call 28; refine (HO _ hb2).mono ?_; rintro e w3 ⟨rfl, he⟩; replace he := he.symm; subst he))
        go_region_held3 (fun X => X.cell? ⟨c, 0, none⟩ = some (.slice (some ⟨g, 0, none⟩) len cap) ∧ X.cell? ⟨c, 3, none⟩ = some (.int .i64 (ordV hi))) (first | assumption | (refine ⟨?_, ?_⟩ <;> assumption) | go_keep) (first
          | (go_at_call 29; refine (G _ hb2.drew).mono ?_; rintro _ w4 ⟨rfl, hb4, hr4⟩; have B3 := (hb4.cell (p := ⟨c, 0, none⟩) (Nat.lt_of_lt_of_le z hb2.size) zn).trans B1; have O3 := (hb4.cell (p := ⟨c, 3, none⟩) (Nat.lt_of_lt_of_le z hb2.size) zn).trans O1))
        all_goals
          go_wp2_with fail
          go_ret
          have ho : Only g w w4 := ⟨hb4.os.trans hb2.os, hb4.tape.trans hb2.tape, hb4.output.trans hb2.output, Nat.le_trans hb2.size hb4.size, fun k hk hg => (hb4.block k (Nat.lt_of_lt_of_le hk hb2.size) hg).trans (hb2.block k hk)⟩
          exact ⟨rfl, H.out.only ho hr4 (pb_bd hi H.out.bd _ _ _), ho⟩
      · have hin' : inC st en at' (sz p) = false := by simpa using hin
        rw [if_neg hin, if_neg (by decide)]
        rw [hin'] at HO
        rw [hf] at F
        clear hin h hp hf
        go_enter Tryd.func9, Tryd.ntmps9
        go_wp2_with (first
          | (go_at_call 26; refine S.mono ?_; rintro e w1 ⟨rfl, hb1⟩)
          | (go_at_call 27; refine (F _ hb1).mono ?_; rintro e w2 ⟨rfl, hb2⟩; replace hb2 := T hb1 hb2)
          | (go_at_call 28; refine (HO _ hb2).mono ?_; rintro e w3 ⟨rfl, he⟩; replace he := he.symm; subst he))
        go_ret
        exact ⟨rfl, H.out.below hb2, Only.of_below hb2⟩
    · have hf' : fitsF (sz p) (rd p) x = false := by simpa using hf
      rw [if_neg hf, if_neg (by decide)]
      rw [hf'] at F
      clear h hp hf hf'
      go_enter Tryd.func9, Tryd.ntmps9
      go_wp2_with (first
        | (go_at_call 26; refine S.mono ?_; rintro e w1 ⟨rfl, hb1⟩)
        | (go_at_call 27; refine (F _ hb1).mono ?_; rintro e w2 ⟨rfl, hb2⟩; replace hb2 := T hb1 hb2))
      go_ret
      exact ⟨rfl, H.out.below hb2, Only.of_below hb2⟩
end Go.Proofs.YtfhphjgcmbneeaaDoor
