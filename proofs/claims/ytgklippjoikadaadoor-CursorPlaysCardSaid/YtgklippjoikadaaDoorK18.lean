/- CuRa, CuRb, CuRc, CuRd, CuRg. -/
import Derived.Test.YtgklippjoikadaaDoorK08
import Derived.Test.YtgklippjoikadaaDoorK09
namespace Go.Proofs.YtgklippjoikadaaDoor
open Go.ChangeShapes Go.WideShapes Go.ChangeAt Go.RowKit

section
variable {w : World} {c g len cap st en : Nat} {hi : Bool} {f : Nat → Int}
theorem rRoom_any (h : Cs w c 1 g len cap st en hi f) :
    Calls Tryd.prog 12 #[.pointer (some ⟨c, 1, none⟩)] w fun e w' => e = .returned (.int .i64 ((len : Int) - en)) ∧ ∃ m, w' = w.drewN m := by
  have c0 : w.cell? ⟨c, 1, none⟩ = _ := h.buf
  have c2 : w.cell? ⟨c, 3, none⟩ = _ := h.to
  have := h.h2
  have := h.h4
  go_enter Tryd.func12, Tryd.ntmps12
  go_wp2_with fail
  go_quiet (fail)
  go_wp2_with fail
  go_ret
  exact ⟨rfl, _, rfl⟩
theorem rInside_any (h : Cs w c 1 g len cap st en hi f) (at' n : Int) (h0 : 0 ≤ n) :
    Calls Tryd.prog 50 #[.pointer (some ⟨c, 1, none⟩), .int .i64 at', .int .i64 n] w fun e w' => e = .returned (.bool (inC st en at' n)) ∧ w' = w := by
  have c1 : w.cell? ⟨c, 2, none⟩ = _ := h.fro
  have c2 : w.cell? ⟨c, 3, none⟩ = _ := h.to
  have := h.h2
  have := h.h4
  clear h
  by_cases hs : (st : Int) ≤ at'
  · by_cases ht : at' ≤ (en : Int)
    · have e : inC st en at' n = decide (n ≤ (en : Int) - at') := by unfold inC; exact decide_eq_decide.2 (by omega)
      rw [e]
      clear e
      go_enter Tryd.func50, Tryd.ntmps50
      go_wp2_with fail
      go_ret
      exact ⟨rfl, rfl⟩
    · rw [inC_no (by omega)]
      have hd : decide (at' ≤ (en : Int)) = false := decide_eq_false ht
      go_enter Tryd.func50, Tryd.ntmps50
      go_wp2_with fail
      go_ret
      exact ⟨rfl, rfl⟩
  · rw [inC_no (by omega)]
    have hd : decide ((st : Int) ≤ at') = false := decide_eq_false hs
    go_enter Tryd.func50, Tryd.ntmps50
    go_wp2_with fail
    go_ret
    exact ⟨rfl, rfl⟩
theorem rClaim_any (h : Cs w c 1 g len cap st en hi f) (n : Int) :
    Calls Tryd.prog 23 #[.pointer (some ⟨c, 1, none⟩), .int .i64 n] w fun e w' => e = .returned (.tuple #[.int .i64 (clP len en n), .int .i64 (clE len en n)]) ∧ Cs w' c 1 g len cap st (clN len en n) hi f ∧ Cb c 1 g w w' := by
  have h2 := h.h2
  have h4 := h.h4
  unfold clP clN
  rcases clE_cases len en n with ⟨e, hn⟩ | ⟨e, hn, hr⟩ | ⟨e, hn, hr⟩
  · rw [e]
    have H : Hid (Cs w c 1 g len cap st en hi f) := h
    clear h e
    go_enter Tryd.func23, Tryd.ntmps23
    go_wp2
    go_ret2
    exact ⟨rfl, H.out, Cb.refl _ _ _ _⟩
  · rw [e]
    have H : Hid (Cs w c 1 g len cap st en hi f) := h
    have R := rRoom_any h
    clear h e
    go_enter Tryd.func23, Tryd.ntmps23
    go_wp2_with (go_at_call 12; refine R.mono ?_; rintro e w1 ⟨rfl, m, rfl⟩)
    go_ret2
    exact ⟨rfl, H.out.below dN, Cb.of_below dN H.out.lt⟩
  · rw [e]
    obtain ⟨m, rfl⟩ : ∃ m : Nat, n = m := ⟨n.toNat, by omega⟩
    have R := rRoom_any h
    have c2 := fun k => show (w.drewN k).cell? ⟨c, 3, none⟩ = _ from (h.below (dN (n := k))).to
    have f2 := fun k => show (w.drewN k).frozen? ⟨c, 3, none⟩ = _ from (h.below (dN (n := k))).frz
    have M := fun k => (h.below (dN (n := k))).moved (en + m) (by have := h.h1; omega) (by omega)
    have e1 : ((en + m : Nat) : Int) = (en : Int) + (m : Int) := by omega
    rw [e1] at M
    have hB := fun n => Cb.of_below (o := 1) (g := g) (dN (w := w) (n := n)) h.lt
    clear h e
    go_enter Tryd.func23, Tryd.ntmps23
    go_wp2_with (first
      | (go_at_call 12; refine R.mono ?_; rintro e w1 ⟨rfl, m1, rfl⟩; have c3 := c2 m1; have f3 := f2 m1; have M1 := M m1; have hB1 := hB m1; clear c2 f2 M hB R))
    go_ret2
    exact ⟨rfl, M1.1, hB1.trans M1.2⟩
end
end Go.Proofs.YtgklippjoikadaaDoor
namespace Go.Proofs.YtgklippjoikadaaDoor
open Go.ChangeShapes Go.WideShapes Go.ChangeAt Go.RowKit

theorem only_setCell {g : Nat} {a w : World} (h : Only g a w) (o : Nat) (v : Value) : Only g a (w.setCell ⟨g, o, none⟩ v) := only_setCells [v] o w h
set_option maxHeartbeats 1000000 in
theorem refPut_only (g len cap at' : Nat) (p o x : Int) (hi : Bool) (s : Nat) (f : Nat → Value) (w : World) (R : w.rowIs g 5 cap f)
    (ho : o = if hi then 1 else 0) (hs : sz p = s) (h4 : s = 1 ∨ s = 2 ∨ s = 4 ∨ s = 8) (hx0 : 0 ≤ x) (hx1 : x < 18446744073709551616) (hft : fitsF (sz p) (rd p) x = true)
    (hat : at' + s ≤ len) (hlc : len ≤ cap) (hl : len ≤ 9223372036854775700) :
    Calls Tryd.prog 53 #[.slice (some ⟨g, 0, none⟩) len cap, .int .i64 at', .int .i64 p, .int .i64 o, .int .u64 x] w fun e w' => e = .returned (.int .i64 0) ∧ Only g w w' ∧
      w'.rowIs g 5 cap (fun j => if at' ≤ j ∧ j < at' + s then .int .u8 (byteF hi s x (j - at')) else f j) := by
  have HO : Hid (o = if hi then 1 else 0) := ho
  have ho1 : decide (o = 0 ∨ o = 1) = true := decide_eq_true (by rw [ho]; cases hi <;> simp)
  have hin : inB len at' s = true := inB_yes (by omega)
  have sn0 : ((s : Int) == 0) = false := by simp; omega
  have hft2 : fitsF s (rd p) x = true := by rw [← hs]; exact hft
  clear ho hft
  go_enter Tryd.func53, Tryd.ntmps53
  go_wp2_with (first
    | (go_at_call 49; refine (refSize_any _ _).mono ?_; rintro e w1 ⟨rfl, rfl⟩)
    | (go_at_call 52; refine (refFits_any _ _ _ hx0 hx1).mono ?_; rintro e w1 ⟨rfl, rfl⟩)
    | (go_at_call 69; refine (refOrder_any _ _).mono ?_; rintro e w1 ⟨rfl, rfl⟩)
    | (go_at_call 70; refine (refLies_any _ _ _ _ (by omega) (by omega)).mono ?_; rintro e w1 ⟨rfl, rfl⟩))
  rename World => w0
  go_loopw [4, 12] (fun b i wr => ∃ m : Nat, m ≤ s ∧ i = .int .i64 m ∧ b = .int .u64 (dvF x m) ∧ Only g w0 wr ∧ wr.rowIs g 5 cap (fun j => if at' ≤ j ∧ j < at' + s ∧ placeN hi s (j - at') < m then .int .u8 (byteF hi s x (j - at')) else f j)) (fun _ i _ => s - (intOf i).toNat)
  case atStart => exact ⟨0, by omega, rfl, by rw [dvF_zero], Only.refl _ _, R.congr fun j _ => by rw [if_neg (by omega)]⟩
  case round =>
    obtain ⟨m, hm, rfl, rfl, HB, HR⟩ := hrel
    have db := dvF_bd x m hx0 hx1
    have DS : Hid (dvF x (m + 1) = dvF x m / 256) := dvF_succ x m
    by_cases hlt : m < s
    · have pl := place_lt hi s m hlt
      have cb := HR.cell (i := at' + placeN hi s m) (by omega)
      have fb := HR.frozen (at' + placeN hi s m)
      have lt : (at' : Int) + (placeN hi s m : Int) < (len : Int) := by omega
      have BD : Hid (byteF hi s x (placeN hi s m) = dvF x m % 256) := byte_dv hi s m x hlt
      go_wp2_with (go_at_call 71; refine (refPlace_any _ _ _ _ hi _ HO.out (by omega) (by omega) (by omega)).mono ?_; rintro e w1 ⟨rfl, rfl⟩)
      go_roundw
      case rel =>
        refine ⟨m + 1, by omega, by go_num, by rw [DS.out], only_setCell HB _ _, (HR.set _ _).congr fun j _ => ?_⟩
        by_cases e : j = at' + placeN hi s m
        · subst e
          rw [if_pos rfl, show at' + placeN hi s m - at' = placeN hi s m by omega, if_pos ⟨by omega, by omega, by rw [place_place hi s m hlt]; omega⟩, BD.out]
        · rw [if_neg e]
          by_cases c : at' ≤ j ∧ j < at' + s ∧ placeN hi s (j - at') < m
          · rw [if_pos c, if_pos (by omega)]
          · rw [if_neg c, if_neg]
            intro c2
            have : placeN hi s (j - at') = m := by omega
            have h2 := place_place hi s (j - at') (by omega)
            rw [this] at h2
            omega
      case measure => simp [intOf]; omega
    · obtain rfl : m = s := by omega
      go_wp2
      go_ret
      refine ⟨rfl, HB, HR.congr fun j _ => ?_⟩
      by_cases c : at' ≤ j ∧ j < at' + m
      · rw [if_pos c, if_pos ⟨c.1, c.2, place_lt hi m _ (by omega)⟩]
      · rw [if_neg c, if_neg (by omega)]
theorem rGet_cur {w : World} {c g len cap st en : Nat} {hi : Bool} {f : Nat → Int} (h : Cs w c 1 g len cap st en hi f) (at' p : Int) (hp : sz p ≠ 0) (hin : inC st en at' (sz p) = true) {W : World} (hW : Below w.heap.size w W) :
    Calls Tryd.prog 51 #[.slice (some ⟨g, 0, none⟩) len cap, .int .i64 at', .int .i64 p, .int .i64 (ordV hi)] W fun e w' => e = .returned (.tuple #[.int .u64 (wrd hi f at'.toNat p), .int .i64 0]) ∧ Below W.heap.size W w' := by
  obtain ⟨e1, e2⟩ := sz_toNat hp
  have hb := inC_of hin
  have h2 := h.h2
  have h3 := h.h3
  have h4 := h.h4
  have hh := h.below hW
  obtain ⟨a, rfl⟩ : ∃ a : Nat, at' = a := ⟨at'.toNat, by omega⟩
  have ha : ((a : Int)).toNat = a := by omega
  rw [ha]
  unfold wrd
  rw [e1]
  have e3 : (((sz p).toNat : Int)).toNat = (sz p).toNat := by omega
  rw [e3]
  refine (refGet_ok g len cap a p _ hi (sz p).toNat (fun k => f (a + k)) W rfl e1 e2 (fun j => hh.bd _) (fun j hj => hh.row.cell (by omega)) (by omega) (by omega)).mono fun e w' q => ⟨q.1, by rw [q.2]; exact Below.refl _ _⟩
theorem rPut_cur {w : World} {c g len cap st en : Nat} {hi : Bool} {f : Nat → Int} (h : Cs w c 1 g len cap st en hi f) (at' p x : Int) (hp : sz p ≠ 0) (hx0 : 0 ≤ x) (hx1 : x < 18446744073709551616) (hf : fitsF (sz p) (rd p) x = true) (hin : inC st en at' (sz p) = true) {W : World} (hW : Below w.heap.size w W) :
    Calls Tryd.prog 53 #[.slice (some ⟨g, 0, none⟩) len cap, .int .i64 at', .int .i64 p, .int .i64 (ordV hi), .int .u64 x] W fun e w' => e = .returned (.int .i64 0) ∧ Only g W w' ∧ w'.rowIs g 5 cap (fun j => .int .u8 (pb hi f at'.toNat p x j)) := by
  obtain ⟨e1, e2⟩ := sz_toNat hp
  have hb := inC_of hin
  have h2 := h.h2
  have h3 := h.h3
  have h4 := h.h4
  have hh := h.below hW
  obtain ⟨a, rfl⟩ : ∃ a : Nat, at' = a := ⟨at'.toNat, by omega⟩
  have ha : ((a : Int)).toNat = a := by omega
  rw [ha]
  refine (refPut_only g len cap a p _ x hi (sz p).toNat _ W hh.row rfl e1 e2 hx0 hx1 hf (by omega) h3 (by omega)).mono ?_
  rintro _ w' ⟨rfl, hO, hR⟩
  refine ⟨rfl, hO, hR.congr fun j _ => ?_⟩
  unfold pb
  by_cases c1 : a ≤ j ∧ j < a + (sz p).toNat
  · rw [if_pos c1, if_pos c1]
  · rw [if_neg c1, if_neg c1]
end Go.Proofs.YtgklippjoikadaaDoor
namespace Go.Proofs.YtgklippjoikadaaDoor
open Go.ChangeShapes Go.WideShapes Go.ChangeAt Go.RowKit

theorem rGet_any {w : World} {c g len cap st en : Nat} {hi : Bool} {f : Nat → Int} (h : Cs w c 1 g len cap st en hi f) (at' p : Int) :
    Calls Tryd.prog 24 #[.pointer (some ⟨c, 1, none⟩), .int .i64 at', .int .i64 p] w fun e w' => e = .returned (.tuple #[.int .u64 (getW hi st en f at' p), .int .i64 (getE st en at' p)]) ∧ Below w.heap.size w w' := by
  unfold getW getE
  have S := refSize_any p w
  have hsz := sz_cases p
  have hb1 : Hid (Below w.heap.size w w) := Below.refl _ _
  have hb2 : Hid (Below w.heap.size w w) := Below.refl _ _
  by_cases hp : sz p = 0
  · rw [if_pos hp]
    have hp' : (sz p == 0) = true := by rw [hp]; rfl
    clear hp
    go_enter Tryd.func24, Tryd.ntmps24
    go_wp2_with (go_at_call 49; refine S.mono ?_; rintro e w1 ⟨rfl, he⟩; replace he := he.symm; subst he)
    go_ret2
    exact ⟨rfl, hb1.out⟩
  · rw [if_neg hp]
    have hp' : (sz p == 0) = false := by simpa using hp
    by_cases hin : inC st en at' (sz p) = true
    · rw [if_pos hin]
      have G := fun W hW => rGet_cur h at' p hp hin (W := W) hW
      have HO := fun W hW => rInside_any (h.below (w' := W) hW) at' (sz p) (by omega)
      have B := fun W hW => show W.cell? ⟨c, 1, none⟩ = _ from (h.below (w' := W) hW).buf
      have O := fun W hW => show W.cell? ⟨c, 4, none⟩ = _ from (h.below (w' := W) hW).ord
      have z := h.lt
      rw [hin] at HO
      have B1 := B _ hb1.out
      have O1 := O _ hb1.out
      clear hin h hp
      go_enter Tryd.func24, Tryd.ntmps24
      go_wp2_with (first
        | (go_at_call 49; refine S.mono ?_; rintro e w1 ⟨rfl, he⟩; replace he := he.symm; subst he; skip)
        | (go_at_call 50; refine (HO _ hb1.out).mono ?_; rintro e w2 ⟨rfl, he⟩; replace he := he.symm; subst he))
      go_region_held3 (fun X => X.cell? ⟨c, 1, none⟩ = some (.slice (some ⟨g, 0, none⟩) len cap) ∧ X.cell? ⟨c, 4, none⟩ = some (.int .i64 (ordV hi))) (first | assumption | (refine ⟨?_, ?_⟩ <;> assumption) | go_keep) (first
        | (go_at_call 51; refine (G _ hb1.out.drew).mono ?_; rintro _ w3 ⟨rfl, hb3⟩; have hb4 := hb1.out.drew.trans (hb3.mono hb1.out.drew.size); have B3 := B _ hb4; have O3 := O _ hb4))
      all_goals
        go_wp2_with fail
        go_ret2
        exact ⟨rfl, hb4⟩
    · have hin' : inC st en at' (sz p) = false := by simpa using hin
      rw [if_neg hin]
      have HO := fun W hW => rInside_any (h.below (w' := W) hW) at' (sz p) (by omega)
      rw [hin'] at HO
      clear hin h hp
      go_enter Tryd.func24, Tryd.ntmps24
      go_wp2_with (first
        | (go_at_call 49; refine S.mono ?_; rintro e w1 ⟨rfl, he⟩; replace he := he.symm; subst he)
        | (go_at_call 50; refine (HO _ hb1.out).mono ?_; rintro e w2 ⟨rfl, he⟩; replace he := he.symm; subst he))
      go_ret2
      exact ⟨rfl, hb1.out⟩
end Go.Proofs.YtgklippjoikadaaDoor
namespace Go.Proofs.YtgklippjoikadaaDoor
open Go.ChangeShapes Go.WideShapes Go.ChangeAt Go.RowKit

theorem rPut_any {w : World} {c g len cap st en : Nat} {hi : Bool} {f : Nat → Int} (h : Cs w c 1 g len cap st en hi f) (at' p x : Int) (hx0 : 0 ≤ x) (hx1 : x < 18446744073709551616) :
    Calls Tryd.prog 25 #[.pointer (some ⟨c, 1, none⟩), .int .i64 at', .int .i64 p, .int .u64 x] w fun e w' => e = .returned (.int .i64 (putE st en at' p x)) ∧ Cs w' c 1 g len cap st en hi (putF hi st en f at' p x) ∧ Only g w w' := by
  unfold putF putE
  have S := refSize_any p w
  have hsz := sz_cases p
  have hb1 : Hid (Below w.heap.size w w) := Below.refl _ _
  have hb2 : Hid (Below w.heap.size w w) := Below.refl _ _
  have H : Hid (Cs w c 1 g len cap st en hi f) := h
  by_cases hp : sz p = 0
  · rw [if_pos hp, if_neg (by decide)]
    have hp' : (sz p == 0) = true := by rw [hp]; rfl
    clear hp h
    go_enter Tryd.func25, Tryd.ntmps25
    go_wp2_with (go_at_call 49; refine S.mono ?_; rintro e w1 ⟨rfl, he⟩; replace he := he.symm; subst he)
    go_ret
    exact ⟨rfl, H.out.below hb1.out, Only.of_below hb1.out⟩
  · rw [if_neg hp]
    have hp' : (sz p == 0) = false := by simpa using hp
    have F := fun W (_ : Below w.heap.size w W) => refFits_any p x W hx0 hx1
    by_cases hf : fitsF (sz p) (rd p) x = true
    · rw [if_pos hf]
      have HO := fun W hW => rInside_any (h.below (w' := W) hW) at' (sz p) (by omega)
      by_cases hin : inC st en at' (sz p) = true
      · rw [if_pos hin, if_pos rfl]
        have G := fun W hW => rPut_cur h at' p x hp hx0 hx1 hf hin (W := W) hW
        have B := fun W hW => show W.cell? ⟨c, 1, none⟩ = _ from (h.below (w' := W) hW).buf
        have O := fun W hW => show W.cell? ⟨c, 4, none⟩ = _ from (h.below (w' := W) hW).ord
        have z := h.lt
        have zn := h.ne
        rw [hin] at HO
        rw [hf] at F
        clear hin h hp hf
        have B1 := B _ hb2.out
        have O1 := O _ hb2.out
        go_enter Tryd.func25, Tryd.ntmps25
        go_wp2_with (first
          | (go_at_call 49; refine S.mono ?_; rintro e w1 ⟨rfl, he⟩; replace he := he.symm; subst he)
          | (go_at_call 52; refine (F _ hb1.out).mono ?_; rintro e w2 ⟨rfl, he⟩; replace he := he.symm; subst he)
          | (go_at_call 50; refine (HO _ hb2.out).mono ?_; rintro e w3 ⟨rfl, he⟩; replace he := he.symm; subst he))
        go_region_held3 (fun X => X.cell? ⟨c, 1, none⟩ = some (.slice (some ⟨g, 0, none⟩) len cap) ∧ X.cell? ⟨c, 4, none⟩ = some (.int .i64 (ordV hi))) (first | assumption | (refine ⟨?_, ?_⟩ <;> assumption) | go_keep) (first
          | (go_at_call 53; refine (G _ hb2.out.drew).mono ?_; rintro _ w4 ⟨rfl, hb4, hr4⟩; have B3 := (hb4.cell (p := ⟨c, 1, none⟩) (Nat.lt_of_lt_of_le z hb2.out.size) zn).trans B1; have O3 := (hb4.cell (p := ⟨c, 4, none⟩) (Nat.lt_of_lt_of_le z hb2.out.size) zn).trans O1))
        all_goals
          go_wp2_with fail
          go_ret
          have ho : Only g w w4 := ⟨hb4.os.trans hb2.out.os, hb4.tape.trans hb2.out.tape, hb4.output.trans hb2.out.output, Nat.le_trans hb2.out.size hb4.size, fun k hk hg => (hb4.block k (Nat.lt_of_lt_of_le hk hb2.out.size) hg).trans (hb2.out.block k hk)⟩
          exact ⟨rfl, H.out.only ho hr4 (pb_bd hi H.out.bd _ _ _), ho⟩
      · have hin' : inC st en at' (sz p) = false := by simpa using hin
        rw [if_neg hin, if_neg (by decide)]
        rw [hin'] at HO
        rw [hf] at F
        clear hin h hp hf
        go_enter Tryd.func25, Tryd.ntmps25
        go_wp2_with (first
          | (go_at_call 49; refine S.mono ?_; rintro e w1 ⟨rfl, he⟩; replace he := he.symm; subst he)
          | (go_at_call 52; refine (F _ hb1.out).mono ?_; rintro e w2 ⟨rfl, he⟩; replace he := he.symm; subst he)
          | (go_at_call 50; refine (HO _ hb2.out).mono ?_; rintro e w3 ⟨rfl, he⟩; replace he := he.symm; subst he))
        go_ret
        exact ⟨rfl, H.out.below hb2.out, Only.of_below hb2.out⟩
    · have hf' : fitsF (sz p) (rd p) x = false := by simpa using hf
      rw [if_neg hf, if_neg (by decide)]
      rw [hf'] at F
      clear h hp hf hf'
      go_enter Tryd.func25, Tryd.ntmps25
      go_wp2_with (first
        | (go_at_call 49; refine S.mono ?_; rintro e w1 ⟨rfl, he⟩; replace he := he.symm; subst he)
        | (go_at_call 52; refine (F _ hb1.out).mono ?_; rintro e w2 ⟨rfl, he⟩; replace he := he.symm; subst he))
      go_ret
      exact ⟨rfl, H.out.below hb2.out, Only.of_below hb2.out⟩
end Go.Proofs.YtgklippjoikadaaDoor
namespace Go.Proofs.YtgklippjoikadaaDoor
open Go.ChangeShapes Go.WideShapes Go.ChangeAt Go.RowKit

theorem rSpot_any (size p off : Int) (w : World) (h1 : 1 ≤ size) (h2 : size ≤ 65535) :
    Calls Tryd.prog 76 #[.agg #[.int .i64 p, .int .i64 off], .int .i64 size] w fun e w' => e = .returned (.bool (goodB size p off)) ∧ Below w.heap.size w w' := by
  have S := fun W => refSize_any p W
  have hsz := sz_cases p
  have hw : IntKind.i64.wrap (size - sz p) = size - sz p := by rw [IntKind.wrap_i64]; omega
  by_cases hp : p = 5 ∨ p = 6 ∨ p = 7
  · have hq : ∀ q : Int, (q = 5 ∨ q = 6 ∨ q = 7) → goodB size q off = (decide (0 ≤ off) && decide (off ≤ size - sz q)) := fun q hq => by
      unfold goodB
      by_cases h0 : 0 ≤ off
      · rw [decide_eq_true h0, Bool.true_and]; exact decide_eq_decide.2 (by omega)
      · rw [decide_eq_false h0, Bool.false_and]; exact decide_eq_false (by omega)
    rw [hq p hp]
    clear hq
    rcases hp with rfl | rfl | rfl
    all_goals
      by_cases h0 : 0 ≤ off
      · have hd : decide (0 ≤ off) = true := decide_eq_true h0
        go_enter Tryd.func76, Tryd.ntmps76
        go_wp2_with fail
        go_quiet (first | (go_at_call 49; exact Calls.quiet_of_same (S _)))
        go_wp2_with fail
        go_ret
        exact ⟨by simp [hd], below_drewN (bel1 _ _) _⟩
      · have hd : decide (0 ≤ off) = false := decide_eq_false h0
        go_enter Tryd.func76, Tryd.ntmps76
        go_wp2_with fail
        go_quiet (first | (go_at_call 49; exact Calls.quiet_of_same (S _)))
        go_wp2_with fail
        go_ret
        exact ⟨by simp [hd], below_drewN (bel1 _ _) _⟩
  · have e : goodB size p off = false := by unfold goodB; exact decide_eq_false (by omega)
    rw [e]
    clear e
    have d5 : (p == 5) = false := by simp; omega
    have d6 : (p == 6) = false := by simp; omega
    have d7 : (p == 7) = false := by simp; omega
    have d5' : (p != 5) = true := by simp; omega
    have d6' : (p != 6) = true := by simp; omega
    have d7' : (p != 7) = true := by simp; omega
    go_enter Tryd.func76, Tryd.ntmps76
    go_wp2_with fail
    go_ret
    exact ⟨rfl, bel1 _ _⟩
end Go.Proofs.YtgklippjoikadaaDoor
