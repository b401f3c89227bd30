/- A cursor: the mathematics. st, en: where the message begins and ends; f: the buffer's bytes; hi: the order of bytes. -/
import Derived.Test.YtfhphjgcmbneeaaDoorPPc
namespace Go.Proofs.YtfhphjgcmbneeaaDoor
open Go.ChangeShapes Go.WideShapes Go.ChangeAt Go.RowKit

/-- Do n bytes from a place on lie from the start up to the end? -/
def inC (st en : Nat) (at' n : Int) : Bool := decide ((st : Int) ≤ at' ∧ at' + n ≤ en)
theorem inC_yes {st en : Nat} {at' n : Int} (h : (st : Int) ≤ at' ∧ at' + n ≤ en) : inC st en at' n = true := decide_eq_true h
theorem inC_no {st en : Nat} {at' n : Int} (h : ¬ ((st : Int) ≤ at' ∧ at' + n ≤ en)) : inC st en at' n = false := decide_eq_false h
theorem inC_of {st en : Nat} {at' n : Int} (h : inC st en at' n = true) : (st : Int) ≤ at' ∧ at' + n ≤ en := of_decide_eq_true h
def getE (st en : Nat) (at' p : Int) : Int := if sz p = 0 then 10 else if inC st en at' (sz p) then 0 else 171
/-- The word that stands at a place. -/
def wrd (hi : Bool) (f : Nat → Int) (at' : Nat) (p : Int) : Int := wordF (sz p) (rd p) (accF hi (sz p).toNat (fun k => f (at' + k)) (sz p).toNat)
def getW (hi : Bool) (st en : Nat) (f : Nat → Int) (at' p : Int) : Int := if getE st en at' p = 0 then wrd hi f at'.toNat p else 0
def putE (st en : Nat) (at' p x : Int) : Int := if sz p = 0 then 10 else if fitsF (sz p) (rd p) x then (if inC st en at' (sz p) then 0 else 171) else 12
/-- A word's bytes laid at a place. -/
def pb (hi : Bool) (f : Nat → Int) (at' : Nat) (p x : Int) : Nat → Int := fun j => if at' ≤ j ∧ j < at' + (sz p).toNat then byteF hi (sz p).toNat x (j - at') else f j
def putF (hi : Bool) (st en : Nat) (f : Nat → Int) (at' p x : Int) : Nat → Int := if putE st en at' p x = 0 then pb hi f at'.toNat p x else f
def chE (st en : Nat) (at' n : Int) : Int := if n < 0 then 1 else if inC st en at' n then 0 else 171
def chT (st en : Nat) (f : Nat → Int) (at' n : Int) : ByteArray := if chE st en at' n = 0 then textF f at'.toNat n.toNat else ByteArray.empty
def setE (st en : Nat) (at' n : Int) (t : ByteArray) : Int := if n < 0 then 1 else if inC st en at' n then (if (t.size : Int) ≤ n then 0 else 13) else 171
/-- A text laid into n bytes, zeros behind it. -/
def lay (f : Nat → Int) (at' n : Nat) (t : ByteArray) : Nat → Int := fun j => if at' ≤ j ∧ j < at' + n then chF t (j - at') else f j
def setF (st en : Nat) (f : Nat → Int) (at' n : Int) (t : ByteArray) : Nat → Int := if setE st en at' n t = 0 then lay f at'.toNat n.toNat t else f
def clE (len en : Nat) (n : Int) : Int := if n < 0 then 1 else if (len : Int) - en < n then 11 else 0
def clN (len en : Nat) (n : Int) : Nat := if clE len en n = 0 then en + n.toNat else en
def clP (len en : Nat) (n : Int) : Int := if clE len en n = 0 then en else 0
/-- A number of a header, a dimension or a length, and its spot. -/
structure Nb where
  p : Int
  off : Int
  v : Int
def goodB (size p off : Int) : Bool := decide ((p = 5 ∨ p = 6 ∨ p = 7) ∧ 0 ≤ off ∧ off ≤ size - sz p)
def goods (size : Int) (l : List (Int × Int)) : Bool := decide (1 ≤ size ∧ size ≤ 65535) && l.all fun s => goodB size s.1 s.2
def over (ns : List Nb) : Bool := ns.any fun n => decide (mx n.p < n.v)
def wrE (len en : Nat) (size : Int) (ns : List Nb) : Int := if over ns then 12 else clE len en size
/-- The numbers laid, one behind the other. -/
def puts (hi : Bool) (st en : Nat) (b : Nat) (f : Nat → Int) (ns : List Nb) : Nat → Int := ns.foldl (fun f n => putF hi st en f (b + n.off) n.p n.v) f
def wrF (hi : Bool) (len st en : Nat) (f : Nat → Int) (size : Int) (ns : List Nb) : Nat → Int := if wrE len en size ns = 0 then puts hi st (en + size.toNat) en (lay f en size.toNat ByteArray.empty) ns else f
def wrN (len en : Nat) (size : Int) (ns : List Nb) : Nat := if wrE len en size ns = 0 then en + size.toNat else en

theorem size_cases (p : Int) (h : p = 5 ∨ p = 6 ∨ p = 7) : (sz p = 1 ∨ sz p = 2 ∨ sz p = 4) ∧ rd p = 0 := by rcases h with rfl | rfl | rfl <;> exact ⟨by decide, rfl⟩
theorem sz_cases (p : Int) : sz p = 0 ∨ sz p = 1 ∨ sz p = 2 ∨ sz p = 4 ∨ sz p = 8 := by have := kok p; unfold KOk at this; omega
theorem clE_cases (len en : Nat) (n : Int) : (clE len en n = 1 ∧ n < 0) ∨ (clE len en n = 11 ∧ 0 ≤ n ∧ (len : Int) < en + n) ∨ (clE len en n = 0 ∧ 0 ≤ n ∧ (en : Int) + n ≤ len) := by
  unfold clE
  by_cases h : n < 0
  · rw [if_pos h]; exact .inl ⟨rfl, h⟩
  · rw [if_neg h]
    by_cases h2 : (len : Int) - en < n
    · rw [if_pos h2]; exact .inr (.inl ⟨rfl, by omega, by omega⟩)
    · rw [if_neg h2]; exact .inr (.inr ⟨rfl, by omega, by omega⟩)
theorem textF_size (f : Nat → Int) (a n : Nat) : (textF f a n).size = n := by unfold textF; rw [strOfNums_size]; simp
theorem textF_congr {f g : Nat → Int} {a n : Nat} (h : ∀ j, a ≤ j → j < a + n → f j = g j) : textF f a n = textF g a n := by
  unfold textF
  congr 1
  exact List.map_congr_left fun i hi => h _ (by omega) (by have := List.mem_range.1 hi; omega)
theorem accF_congr (hi : Bool) (s : Nat) {f g : Nat → Int} : ∀ k, (∀ j, j < k → f j = g j) → accF hi s f k = accF hi s g k
  | 0, _ => rfl
  | k + 1, h => by
    show accF hi s f k + f k * _ = accF hi s g k + g k * _
    rw [accF_congr hi s k fun j hj => h j (by omega), h k (by omega)]
theorem wrd_congr {hi : Bool} {f g : Nat → Int} {a : Nat} {p : Int} (h : ∀ j, a ≤ j → j < a + (sz p).toNat → f j = g j) : wrd hi f a p = wrd hi g a p := by
  unfold wrd
  rw [accF_congr hi _ _ fun j hj => h (a + j) (by omega) (by omega)]
theorem pb_bd (hi : Bool) {f : Nat → Int} (hf : ∀ j, 0 ≤ f j ∧ f j ≤ 255) (a : Nat) (p x : Int) : ∀ j, 0 ≤ pb hi f a p x j ∧ pb hi f a p x j ≤ 255 := fun j => by
  unfold pb
  split
  · exact byteF_bd _ _ _ _
  · exact hf j
theorem lay_bd {f : Nat → Int} (hf : ∀ j, 0 ≤ f j ∧ f j ≤ 255) (a n : Nat) (t : ByteArray) : ∀ j, 0 ≤ lay f a n t j ∧ lay f a n t j ≤ 255 := fun j => by
  unfold lay
  split
  · exact chF_bd _ _
  · exact hf j
theorem putF_bd (hi : Bool) (st en : Nat) {f : Nat → Int} (hf : ∀ j, 0 ≤ f j ∧ f j ≤ 255) (a p x : Int) : ∀ j, 0 ≤ putF hi st en f a p x j ∧ putF hi st en f a p x j ≤ 255 := fun j => by
  unfold putF
  split
  · exact pb_bd hi hf _ _ _ j
  · exact hf j
theorem puts_bd (hi : Bool) (st en b : Nat) : ∀ (ns : List Nb) {f : Nat → Int} (_ : ∀ j, 0 ≤ f j ∧ f j ≤ 255), ∀ j, 0 ≤ puts hi st en b f ns j ∧ puts hi st en b f ns j ≤ 255
  | [], _, hf => hf
  | _ :: ns, _, hf => puts_bd hi st en b ns (putF_bd hi st en hf _ _ _)
/-- A word laid outside of the message changes nothing there. -/
theorem putF_out {hi : Bool} {st en : Nat} {f : Nat → Int} {a p x : Int} {j : Nat} (h : j < st ∨ en ≤ j) : putF hi st en f a p x j = f j := by
  unfold putF
  split
  · rename_i e
    have : inC st en a (sz p) = true := by
      unfold putE at e
      by_cases h0 : sz p = 0
      · rw [if_pos h0] at e; cases e
      · rw [if_neg h0] at e
        by_cases h1 : fitsF (sz p) (rd p) x = true
        · rw [if_pos h1] at e
          by_cases h2 : inC st en a (sz p) = true
          · exact h2
          · rw [if_neg h2] at e; cases e
        · rw [if_neg h1] at e; cases e
    have h3 := inC_of this
    have := sz_cases p
    unfold pb
    rw [if_neg (by omega)]
  · rfl
theorem puts_out {hi : Bool} {st en b : Nat} {j : Nat} (h : j < st ∨ en ≤ j) : ∀ (ns : List Nb) (f : Nat → Int), puts hi st en b f ns j = f j
  | [], _ => rfl
  | _ :: ns, _ => (puts_out h ns _).trans (putF_out h)
theorem putF_congr {hi : Bool} {st en : Nat} {f g : Nat → Int} {a p x : Int} {N : Nat} (h : ∀ j, j < N → f j = g j) : ∀ j, j < N → putF hi st en f a p x j = putF hi st en g a p x j := fun j hj => by
  unfold putF pb
  split
  · show (if _ then _ else f j) = if _ then _ else g j
    rw [h j hj]
  · exact h j hj
theorem puts_congr {hi : Bool} {st en b : Nat} {N : Nat} : ∀ (ns : List Nb) {f g : Nat → Int} (_ : ∀ j, j < N → f j = g j), ∀ j, j < N → puts hi st en b f ns j = puts hi st en b g ns j
  | [], _, _, h => h
  | _ :: ns, _, _, h => puts_congr ns (putF_congr h)
theorem lay_congr {f g : Nat → Int} {a n : Nat} {t : ByteArray} {N : Nat} (h : ∀ j, j < N → f j = g j) : ∀ j, j < N → lay f a n t j = lay g a n t j := fun j hj => by
  show (if _ then _ else f j) = if _ then _ else g j
  rw [h j hj]
end Go.Proofs.YtfhphjgcmbneeaaDoor
