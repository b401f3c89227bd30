/- Words and their bytes: small lemmas. -/
import Derived.Test.YtfhphjgcmbneeaaDoorPPt
import Derived.Deep.OwnRows
import Derived.Laws.BytesArg
import Derived.Laws.RangeAny
import Derived.Deep.QuietTactic
import Derived.BigQuiet
namespace Go.Proofs.YtfhphjgcmbneeaaDoor
open Go.ChangeShapes Go.WideShapes Go.ChangeAt Go.RowKit

theorem rowIs_below {w w' : World} {b : Nat} {t : TypeId} {n B : Nat} {f : Nat → Value} (h : w.rowIs b t n f) (hb : Below B w w') (hB : b < B) : w'.rowIs b t n f := h.of_block (hb.block b hB)
theorem below_setCells {B b : Nat} {a : World} (hB : B ≤ b) : ∀ (vs : List Value) (o : Nat) (w : World), Below B a w → Below B a (w.setCells b o vs)
  | [], _, _, h => h
  | v :: r, o, _, h => below_setCells hB r (o + 1) _ (h.setCell hB v)
theorem rowIs_setBytes {b : Nat} {t : TypeId} {n : Nat} {f : Nat → Value} (hi : Bool) (s : Nat) (x : Int) (o : Nat) {w : World} (h : w.rowIs b t n f) :
    ∀ k : Nat, (w.setCells b o (bytesV hi s x k)).rowIs b t n (fun j => if o ≤ j ∧ j < o + k then .int .u8 (byteF hi s x (j - o)) else f j)
  | 0 => h.congr fun i _ => by rw [if_neg (by omega)]
  | k + 1 => by
    rw [setBytes_succ]
    refine ((rowIs_setBytes hi s x o h k).set (o + k) _).congr fun i _ => ?_
    by_cases e : i = o + k
    · subst e; rw [if_pos rfl, if_pos (by omega), show o + k - o = k by omega]
    · rw [if_neg e]
      by_cases e2 : o ≤ i ∧ i < o + k
      · rw [if_pos e2, if_pos (by omega)]
      · rw [if_neg e2, if_neg (by omega)]
theorem byteF_bd (hi : Bool) (s : Nat) (x : Int) (k : Nat) : 0 ≤ byteF hi s x k ∧ byteF hi s x k ≤ 255 := by unfold byteF; omega
theorem word_mod (s r : Int) (x : Int) : wordF s r (x % pw s) = wordF s r x := by
  have e : x % pw s % pw s = x % pw s := Int.emod_emod_of_dvd x (Int.dvd_refl _)
  unfold wordF; rw [e]
theorem word_back (s r x : Int) (h : fitsF s r x = true) : wordF s r (x % pw s) = x := by
  rw [word_mod s r]
  unfold fitsF at h
  simp at h
  exact h.2
end Go.Proofs.YtfhphjgcmbneeaaDoor
