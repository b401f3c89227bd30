/- The calls of the law PrimBytes, each in one contract, the program's and the document's. -/
import Derived.Test.YthelmmdbgmdgeaaDoorAppends
namespace Go.Proofs.YthelmmdbgmdgeaaDoor
open Go.ChangeShapes Go.WideShapes Go.ChangeAt Go.RowKit

def getE (L : Nat) (at' p o : Int) : Int := if sz p = 0 ∨ (o < 0 ∨ 2 ≤ o) then 10 else if inB L at' (sz p) = true then 0 else 11
def getV (L : Nat) (bi : Nat → Int) (at' p o : Int) : Int := if sz p = 0 ∨ (o < 0 ∨ 2 ≤ o) then 0 else if inB L at' (sz p) = true then wordF (sz p) (rd p) (accF (decide (o = 1)) (sz p).toNat (fun j => bi (at'.toNat + j)) (sz p).toNat) else 0
def putE (L : Nat) (at' p o x : Int) : Int := if sz p = 0 ∨ (o < 0 ∨ 2 ≤ o) then 10 else if fitsF (sz p) (rd p) x = false then 12 else if inB L at' (sz p) = true then 0 else 11
def putF (L : Nat) (at' p o x : Int) (fi : Nat → Int) (j : Nat) : Int := if putE L at' p o x = 0 ∧ at'.toNat ≤ j ∧ j < at'.toNat + (sz p).toNat then byteF (decide (o = 1)) (sz p).toNat x (j - at'.toNat) else fi j
def getC (L : Nat) (at' n : Int) : Int := if inB L at' n = true then 0 else 11
def getT (L : Nat) (bi : Nat → Int) (at' n : Int) : ByteArray := if inB L at' n = true then textF bi at'.toNat n.toNat else ByteArray.empty
def putC (L : Nat) (at' n : Int) (t : ByteArray) : Int := if inB L at' n = true then (if n < t.size then 13 else 0) else 11
def putT (L : Nat) (at' n : Int) (t : ByteArray) (fi : Nat → Int) (j : Nat) : Int := if putC L at' n t = 0 ∧ at'.toNat ≤ j ∧ j < at'.toNat + n.toNat then chF t (j - at'.toNat) else fi j

theorem textF_congr (f g : Nat → Int) (L at' n : Nat) (h : ∀ j, j < L → f j = g j) (hl : at' + n ≤ L) : textF f at' n = textF g at' n := by
  unfold textF
  congr 1
  apply List.map_congr_left
  intro i hi
  exact h _ (by have := List.mem_range.1 hi; omega)
theorem ord_hi (o : Int) (h : ¬ (o < 0 ∨ 2 ≤ o)) : o = if decide (o = 1) then 1 else 0 := by
  have : o = 0 ∨ o = 1 := by omega
  rcases this with rfl | rfl <;> rfl
theorem sz_nat (p : Int) (h : sz p ≠ 0) : sz p = ((sz p).toNat : Int) ∧ ((sz p).toNat = 1 ∨ (sz p).toNat = 2 ∨ (sz p).toNat = 4 ∨ (sz p).toNat = 8) := by
  have := kok p; unfold KOk at this; omega
theorem inB_of {L : Nat} {at' n : Int} (h : inB L at' n = true) : 0 ≤ at' ∧ 0 ≤ n ∧ at' + n ≤ L := of_decide_eq_true h
theorem Get_all (g L cap : Nat) (at' p o : Int) (fi bi : Nat → Int) (w : World) (h : KT w) (R : w.rowIs g 5 cap (fun j => .int .u8 (fi j))) (hfb : ∀ j, j < L → fi j = bi j) (hbi : ∀ j, 0 ≤ bi j ∧ bi j ≤ 255) (hLc : L ≤ cap) (hL : L ≤ 9223372036854775700) :
    Calls Tryd.prog 14 #[.slice (some ⟨g, 0, none⟩) L cap, .int .i64 at', .int .i64 p, .int .i64 o] w fun e w' => e = .returned (.tuple #[.int .u64 (getV L bi at' p o), .int .i64 (getE L at' p o)]) ∧ Below w.heap.size w w' := by
  unfold getV getE
  by_cases hb : sz p = 0 ∨ (o < 0 ∨ 2 ≤ o)
  · rw [if_pos hb, if_pos hb]
    exact Get_prim _ _ L cap at' p o w h rfl (by by_cases h0 : sz p = 0; exact Or.inl h0; exact Or.inr ⟨h0, by omega⟩)
  · rw [if_neg hb, if_neg hb]
    have hs0 : sz p ≠ 0 := fun k => hb (Or.inl k)
    have ho := ord_hi o (fun k => hb (Or.inr k))
    cases hin : inB L at' (sz p)
    · rw [if_neg (by simp), if_neg (by simp)]
      refine Get_short (some ⟨g, 0, none⟩) L cap at' p o _ w h ho hs0 (by omega) (fun k => ?_)
      have : inB L at' (sz p) = true := inB_yes ⟨k.1, by have := kok p; unfold KOk at this; omega, k.2⟩
      rw [hin] at this; cases this
    · rw [if_pos rfl, if_pos rfl]
      obtain ⟨e1, e4⟩ := sz_nat p hs0
      obtain ⟨i1, i2, i3⟩ := inB_of hin
      have ea : at' = (at'.toNat : Int) := by omega
      have := Get_ok g 0 L cap at'.toNat p o (decide (o = 1)) (sz p).toNat (fun j => bi (at'.toNat + j)) w h ho e1 e4 (fun j => hbi _) (fun j hj => by
        rw [Nat.zero_add, R.cell (i := at'.toNat + j) (by omega), hfb _ (by omega)]) (by omega) (by omega) R.lt
      rw [← ea, ← e1] at this
      exact this
theorem refGet_all (g L cap : Nat) (at' p o : Int) (fi bi : Nat → Int) (w : World) (R : w.rowIs g 5 cap (fun j => .int .u8 (fi j))) (hfb : ∀ j, j < L → fi j = bi j) (hbi : ∀ j, 0 ≤ bi j ∧ bi j ≤ 255) (hLc : L ≤ cap) (hL : L ≤ 9223372036854775700) :
    Calls Tryd.prog 23 #[.slice (some ⟨g, 0, none⟩) L cap, .int .i64 at', .int .i64 p, .int .i64 o] w fun e w' => e = .returned (.tuple #[.int .u64 (getV L bi at' p o), .int .i64 (getE L at' p o)]) ∧ w' = w := by
  unfold getV getE
  by_cases hb : sz p = 0 ∨ (o < 0 ∨ 2 ≤ o)
  · rw [if_pos hb, if_pos hb]
    exact refGet_prim _ L cap at' p o w (by by_cases h0 : sz p = 0; exact Or.inl h0; exact Or.inr ⟨h0, by omega⟩)
  · rw [if_neg hb, if_neg hb]
    have hs0 : sz p ≠ 0 := fun k => hb (Or.inl k)
    have ho := ord_hi o (fun k => hb (Or.inr k))
    cases hin : inB L at' (sz p)
    · rw [if_neg (by simp), if_neg (by simp)]
      exact refGet_short (some ⟨g, 0, none⟩) L cap at' p o w (by omega) hs0 (by omega) hin
    · rw [if_pos rfl, if_pos rfl]
      obtain ⟨e1, e4⟩ := sz_nat p hs0
      obtain ⟨i1, i2, i3⟩ := inB_of hin
      have ea : at' = (at'.toNat : Int) := by omega
      have := refGet_ok g L cap at'.toNat p o (decide (o = 1)) (sz p).toNat (fun j => bi (at'.toNat + j)) w ho e1 e4 (fun j => hbi _) (fun j hj => by
        rw [R.cell (i := at'.toNat + j) (by omega), hfb _ (by omega)]) (by omega) (by omega)
      rw [← ea, ← e1] at this
      exact this
theorem GetChars_all (g L cap : Nat) (at' n : Int) (fi bi : Nat → Int) (w : World) (R : w.rowIs g 5 cap (fun j => .int .u8 (fi j))) (hfb : ∀ j, j < L → fi j = bi j) (hLc : L ≤ cap) (hL : L ≤ 9223372036854775700) (hn : n ≤ 9223372036854775807) :
    Calls Tryd.prog 24 #[.slice (some ⟨g, 0, none⟩) L cap, .int .i64 at', .int .i64 n] w fun e w' => e = .returned (.tuple #[.string (getT L bi at' n), .int .i64 (getC L at' n)]) ∧ w' = w := by
  unfold getT getC
  cases hin : inB L at' n
  · rw [if_neg (by simp), if_neg (by simp)]
    exact GetChars_no (some ⟨g, 0, none⟩) L cap at' n w hn hL hin
  · rw [if_pos rfl, if_pos rfl]
    obtain ⟨i1, i2, i3⟩ := inB_of hin
    have := GetChars_ok g L cap at'.toNat n.toNat fi w R (by omega) hLc hL
    rw [Int.toNat_of_nonneg i1, Int.toNat_of_nonneg i2, textF_congr fi bi L at'.toNat n.toNat hfb (by omega)] at this
    exact this
theorem refGetChars_all (g L cap : Nat) (at' n : Int) (fi bi : Nat → Int) (w : World) (R : w.rowIs g 5 cap (fun j => .int .u8 (fi j))) (hfb : ∀ j, j < L → fi j = bi j) (hLc : L ≤ cap) (hL : L ≤ 9223372036854775700) (hn : n ≤ 9223372036854775807) :
    Calls Tryd.prog 25 #[.slice (some ⟨g, 0, none⟩) L cap, .int .i64 at', .int .i64 n] w fun e w' => e = .returned (.tuple #[.string (getT L bi at' n), .int .i64 (getC L at' n)]) ∧ w' = w := by
  unfold getT getC
  cases hin : inB L at' n
  · rw [if_neg (by simp), if_neg (by simp)]
    exact refGetChars_no (some ⟨g, 0, none⟩) L cap at' n w hn hL hin
  · rw [if_pos rfl, if_pos rfl]
    obtain ⟨i1, i2, i3⟩ := inB_of hin
    have := refGetChars_ok g L cap at'.toNat n.toNat fi w R (by omega) hLc hL
    rw [Int.toNat_of_nonneg i1, Int.toNat_of_nonneg i2, textF_congr fi bi L at'.toNat n.toNat hfb (by omega)] at this
    exact this
theorem Put_all (g L cap : Nat) (at' p o x : Int) (fi : Nat → Int) (w : World) (h : KT w) (R : w.rowIs g 5 cap (fun j => .int .u8 (fi j))) (hLc : L ≤ cap) (hL : L ≤ 9223372036854775700) (hx0 : 0 ≤ x) (hx1 : x < 18446744073709551616) :
    Calls Tryd.prog 13 #[.slice (some ⟨g, 0, none⟩) L cap, .int .i64 at', .int .i64 p, .int .i64 o, .int .u64 x] w fun e w' => e = .returned (.int .i64 (putE L at' p o x)) ∧ Only g w w' ∧ w'.rowIs g 5 cap (fun j => .int .u8 (putF L at' p o x fi j)) := by
  have keep : ∀ w' : World, putE L at' p o x ≠ 0 → Below w.heap.size w w' → w'.rowIs g 5 cap (fun j => .int .u8 (putF L at' p o x fi j)) := fun w' hne hb =>
    (rowIs_below R hb R.lt).congr fun j _ => by unfold putF; rw [if_neg (fun k => hne k.1)]
  by_cases hb : sz p = 0 ∨ (o < 0 ∨ 2 ≤ o)
  · have e : putE L at' p o x = 10 := if_pos hb
    refine (Put_prim (some ⟨g, 0, none⟩) L cap at' p o x w h (by by_cases h0 : sz p = 0; exact Or.inl h0; exact Or.inr ⟨h0, by omega⟩)).mono fun e' w' ⟨h1, h2⟩ => ⟨h1.trans (by rw [e]), Only.of_below h2, keep w' (by rw [e]; decide) h2⟩
  · have hs0 : sz p ≠ 0 := fun k => hb (Or.inl k)
    have ho := ord_hi o (fun k => hb (Or.inr k))
    cases hft : fitsF (sz p) (rd p) x
    · have e : putE L at' p o x = 12 := by unfold putE; rw [if_neg hb, if_pos hft]
      exact (Put_range (some ⟨g, 0, none⟩) L cap at' p o x _ w h ho hs0 hx0 hx1 hft).mono fun e' w' ⟨h1, h2⟩ => ⟨h1.trans (by rw [e]), Only.of_below h2, keep w' (by rw [e]; decide) h2⟩
    · cases hin : inB L at' (sz p)
      · have e : putE L at' p o x = 11 := by unfold putE; rw [if_neg hb, if_neg (by rw [hft]; simp), if_neg (by rw [hin]; simp)]
        refine (Put_short (some ⟨g, 0, none⟩) L cap at' p o x _ w h ho hs0 hx0 hx1 hft (by omega) (fun k => ?_)).mono fun e' w' ⟨h1, h2⟩ => ⟨h1.trans (by rw [e]), Only.of_below h2, keep w' (by rw [e]; decide) h2⟩
        have : inB L at' (sz p) = true := inB_yes ⟨k.1, by have := kok p; unfold KOk at this; omega, k.2⟩
        rw [hin] at this; cases this
      · have e : putE L at' p o x = 0 := by unfold putE; rw [if_neg hb, if_neg (by rw [hft]; simp), if_pos hin]
        obtain ⟨e1, e4⟩ := sz_nat p hs0
        obtain ⟨i1, i2, i3⟩ := inB_of hin
        have ea : at' = (at'.toNat : Int) := by omega
        have := Put_ok g 0 L cap at'.toNat p o x (decide (o = 1)) (sz p).toNat w h ho e1 e4 hx0 hx1 hft (fun j hj => ⟨_, by rw [Nat.zero_add]; exact R.cell (i := at'.toNat + j) (by omega)⟩) (fun j _ => R.frozen _) (by omega) (by omega) R.lt
        rw [← ea] at this
        refine this.mono fun e' w' ⟨h1, h2⟩ => ⟨h1.trans (by rw [e]), ?_, ?_⟩
        · exact Only.trans_below (only_setCells _ _ _ (Only.refl g w)) (by rw [size_setCells]; exact h2)
        · refine (rowIs_below (rowIs_setBytes (decide (o = 1)) (sz p).toNat x (0 + at'.toNat) R (sz p).toNat) h2 R.lt).congr fun j _ => ?_
          unfold putF
          rw [Nat.zero_add]
          by_cases c : at'.toNat ≤ j ∧ j < at'.toNat + (sz p).toNat
          · rw [if_pos c, if_pos ⟨e, c⟩]
          · rw [if_neg c, if_neg (fun k => c k.2)]
theorem refPut_all (g L cap : Nat) (at' p o x : Int) (fi : Nat → Int) (w : World) (R : w.rowIs g 5 cap (fun j => .int .u8 (fi j))) (hLc : L ≤ cap) (hL : L ≤ 9223372036854775700) (hx0 : 0 ≤ x) (hx1 : x < 18446744073709551616) :
    Calls Tryd.prog 26 #[.slice (some ⟨g, 0, none⟩) L cap, .int .i64 at', .int .i64 p, .int .i64 o, .int .u64 x] w fun e w' => e = .returned (.int .i64 (putE L at' p o x)) ∧ Below g w w' ∧ w'.rowIs g 5 cap (fun j => .int .u8 (putF L at' p o x fi j)) := by
  have keep : putE L at' p o x ≠ 0 → w.rowIs g 5 cap (fun j => .int .u8 (putF L at' p o x fi j)) := fun hne =>
    R.congr fun j _ => by unfold putF; rw [if_neg (fun k => hne k.1)]
  by_cases hb : sz p = 0 ∨ (o < 0 ∨ 2 ≤ o)
  · have e : putE L at' p o x = 10 := if_pos hb
    refine (refPut_prim (some ⟨g, 0, none⟩) L cap at' p o x w (by by_cases h0 : sz p = 0; exact Or.inl h0; exact Or.inr ⟨h0, by omega⟩)).mono fun e' w' ⟨h1, h2⟩ => ?_
    subst h2; exact ⟨h1.trans (by rw [e]), Below.refl _ _, keep (by rw [e]; decide)⟩
  · have hs0 : sz p ≠ 0 := fun k => hb (Or.inl k)
    have ho := ord_hi o (fun k => hb (Or.inr k))
    cases hft : fitsF (sz p) (rd p) x
    · have e : putE L at' p o x = 12 := by unfold putE; rw [if_neg hb, if_pos hft]
      refine (refPut_range (some ⟨g, 0, none⟩) L cap at' p o x w (by omega) hs0 hx0 hx1 hft).mono fun e' w' ⟨h1, h2⟩ => ?_
      subst h2; exact ⟨h1.trans (by rw [e]), Below.refl _ _, keep (by rw [e]; decide)⟩
    · cases hin : inB L at' (sz p)
      · have e : putE L at' p o x = 11 := by unfold putE; rw [if_neg hb, if_neg (by rw [hft]; simp), if_neg (by rw [hin]; simp)]
        refine (refPut_short (some ⟨g, 0, none⟩) L cap at' p o x w (by omega) hs0 hx0 hx1 hft (by omega) hin).mono fun e' w' ⟨h1, h2⟩ => ?_
        subst h2; exact ⟨h1.trans (by rw [e]), Below.refl _ _, keep (by rw [e]; decide)⟩
      · have e : putE L at' p o x = 0 := by unfold putE; rw [if_neg hb, if_neg (by rw [hft]; simp), if_pos hin]
        obtain ⟨e1, e4⟩ := sz_nat p hs0
        obtain ⟨i1, i2, i3⟩ := inB_of hin
        have ea : at' = (at'.toNat : Int) := by omega
        have := refPut_ok g L cap at'.toNat p o x (decide (o = 1)) (sz p).toNat _ w R ho e1 e4 hx0 hx1 hft (by omega) hLc hL
        rw [← ea] at this
        refine this.mono fun e' w' ⟨h1, h2, h3⟩ => ⟨h1.trans (by rw [e]), h2, h3.congr fun j _ => ?_⟩
        unfold putF
        by_cases c : at'.toNat ≤ j ∧ j < at'.toNat + (sz p).toNat
        · rw [if_pos c, if_pos ⟨e, c⟩]
        · rw [if_neg c, if_neg (fun k => c k.2)]
theorem PutChars_all (g L cap : Nat) (at' n : Int) (t : ByteArray) (fi : Nat → Int) (w : World) (R : w.rowIs g 5 cap (fun j => .int .u8 (fi j))) (hLc : L ≤ cap) (hL : L ≤ 9223372036854775700) (hn : n ≤ 9223372036854775807) :
    Calls Tryd.prog 27 #[.slice (some ⟨g, 0, none⟩) L cap, .int .i64 at', .int .i64 n, .string t] w fun e w' => e = .returned (.int .i64 (putC L at' n t)) ∧ Only g w w' ∧ w'.rowIs g 5 cap (fun j => .int .u8 (putT L at' n t fi j)) := by
  have keep : putC L at' n t ≠ 0 → w.rowIs g 5 cap (fun j => .int .u8 (putT L at' n t fi j)) := fun hne =>
    R.congr fun j _ => by unfold putT; rw [if_neg (fun k => hne k.1)]
  cases hin : inB L at' n
  · have e : putC L at' n t = 11 := by unfold putC; rw [if_neg (by rw [hin]; simp)]
    refine (PutChars_no (some ⟨g, 0, none⟩) L cap at' n t w hn hL hin).mono fun e' w' ⟨h1, h2⟩ => ?_
    subst h2; exact ⟨h1.trans (by rw [e]), Only.refl _ _, keep (by rw [e]; decide)⟩
  · obtain ⟨i1, i2, i3⟩ := inB_of hin
    by_cases hlt : n < t.size
    · have e : putC L at' n t = 13 := by unfold putC; rw [if_pos hin, if_pos hlt]
      refine (PutChars_long (some ⟨g, 0, none⟩) L cap at' n t w hn hL hin hlt).mono fun e' w' ⟨h1, h2⟩ => ?_
      subst h2; exact ⟨h1.trans (by rw [e]), Only.refl _ _, keep (by rw [e]; decide)⟩
    · have e : putC L at' n t = 0 := by unfold putC; rw [if_pos hin, if_neg hlt]
      have ea : at' = (at'.toNat : Int) := by omega
      have en : n = (n.toNat : Int) := by omega
      have key : Calls Tryd.prog 27 #[.slice (some ⟨g, 0, none⟩) L cap, .int .i64 at', .int .i64 n, .string t] w fun e w' => e = .returned (.int .i64 0) ∧ Only g w w' ∧
          w'.rowIs g 5 cap (fun j => .int .u8 (if at'.toNat ≤ j ∧ j < at'.toNat + n.toNat then chF t (j - at'.toNat) else fi j)) := by
        by_cases heq : t.size = n.toNat
        · have := PutChars_eq g L cap at'.toNat t fi w R (by omega) hLc hL
          rw [← ea, heq, ← en] at this
          exact this
        · have := PutChars_lt g L cap at'.toNat n.toNat t fi w R (by omega) hLc hL (by omega)
          rw [← ea, ← en] at this
          exact this
      refine key.mono fun e' w' ⟨h1, h2, h3⟩ => ⟨h1.trans (by rw [e]), h2, h3.congr fun j _ => ?_⟩
      unfold putT
      by_cases c : at'.toNat ≤ j ∧ j < at'.toNat + n.toNat
      · rw [if_pos c, if_pos ⟨e, c⟩]
      · rw [if_neg c, if_neg (fun k => c k.2)]
theorem refPutChars_all (g L cap : Nat) (at' n : Int) (t : ByteArray) (fi : Nat → Int) (w : World) (R : w.rowIs g 5 cap (fun j => .int .u8 (fi j))) (hLc : L ≤ cap) (hL : L ≤ 9223372036854775700) :
    Calls Tryd.prog 28 #[.slice (some ⟨g, 0, none⟩) L cap, .int .i64 at', .int .i64 n, .string t] w fun e w' => e = .returned (.int .i64 (putC L at' n t)) ∧ Below g w w' ∧ w'.rowIs g 5 cap (fun j => .int .u8 (putT L at' n t fi j)) := by
  have keep : putC L at' n t ≠ 0 → w.rowIs g 5 cap (fun j => .int .u8 (putT L at' n t fi j)) := fun hne =>
    R.congr fun j _ => by unfold putT; rw [if_neg (fun k => hne k.1)]
  cases hin : inB L at' n
  · have e : putC L at' n t = 11 := by unfold putC; rw [if_neg (by rw [hin]; simp)]
    refine (refPutChars_no (some ⟨g, 0, none⟩) L cap at' n t w hL hin).mono fun e' w' ⟨h1, h2⟩ => ?_
    subst h2; exact ⟨h1.trans (by rw [e]), Below.refl _ _, keep (by rw [e]; decide)⟩
  · obtain ⟨i1, i2, i3⟩ := inB_of hin
    by_cases hlt : n < t.size
    · have e : putC L at' n t = 13 := by unfold putC; rw [if_pos hin, if_pos hlt]
      refine (refPutChars_long (some ⟨g, 0, none⟩) L cap at' n t w hL hin hlt).mono fun e' w' ⟨h1, h2⟩ => ?_
      subst h2; exact ⟨h1.trans (by rw [e]), Below.refl _ _, keep (by rw [e]; decide)⟩
    · have e : putC L at' n t = 0 := by unfold putC; rw [if_pos hin, if_neg hlt]
      have := refPutChars_ok g L cap at'.toNat n.toNat t fi w R (by omega) hLc hL (by omega)
      rw [Int.toNat_of_nonneg i1, Int.toNat_of_nonneg i2] at this
      refine this.mono fun e' w' ⟨h1, h2, h3⟩ => ⟨h1.trans (by rw [e]), h2, h3.congr fun j _ => ?_⟩
      unfold putT
      by_cases c : at'.toNat ≤ j ∧ j < at'.toNat + n.toNat
      · rw [if_pos c, if_pos ⟨e, c⟩]
      · rw [if_neg c, if_neg (fun k => c k.2)]
/-- Beyond the buffer nothing turns; within it the same turns of the same. -/
theorem putF_far (L : Nat) (at' p o x : Int) (fi : Nat → Int) (j : Nat) (hj : L ≤ j) : putF L at' p o x fi j = fi j := by
  unfold putF
  by_cases e : putE L at' p o x = 0
  · have hin : inB L at' (sz p) = true := by
      unfold putE at e
      split at e
      · omega
      · split at e
        · omega
        · split at e
          · assumption
          · omega
    obtain ⟨i1, i2, i3⟩ := inB_of hin
    rw [if_neg (by omega)]
  · rw [if_neg (fun k => e k.1)]
theorem putT_far (L : Nat) (at' n : Int) (t : ByteArray) (fi : Nat → Int) (j : Nat) (hj : L ≤ j) : putT L at' n t fi j = fi j := by
  unfold putT
  by_cases e : putC L at' n t = 0
  · have hin : inB L at' n = true := by
      unfold putC at e
      split at e
      · assumption
      · omega
    obtain ⟨i1, i2, i3⟩ := inB_of hin
    rw [if_neg (by omega)]
  · rw [if_neg (fun k => e k.1)]
theorem putF_same (L : Nat) (at' p o x : Int) (f g : Nat → Int) (j : Nat) (h : f j = g j) : putF L at' p o x f j = putF L at' p o x g j := by unfold putF; rw [h]
theorem putT_same (L : Nat) (at' n : Int) (t : ByteArray) (f g : Nat → Int) (j : Nat) (h : f j = g j) : putT L at' n t f j = putT L at' n t g j := by unfold putT; rw [h]
end Go.Proofs.YthelmmdbgmdgeaaDoor
