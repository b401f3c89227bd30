/- The contract of Escape. -/
import Derived.Test.YtchfphakhmifmabGreatDoorMB
namespace Go.Proofs.YtchfphakhmifmabGreatDoor
open Go.ChangeShapes Go.WideShapes Go.ChangeAt Go.RowKit

def entB (c : Nat) : ByteArray := if c = 38 then ⟨#[38, 97, 109, 112, 59]⟩ else if c = 60 then ⟨#[38, 108, 116, 59]⟩ else if c = 62 then ⟨#[38, 103, 116, 59]⟩ else if c = 13 then ⟨#[38, 35, 49, 51, 59]⟩ else ⟨#[]⟩
def attB (c : Nat) : ByteArray := if c = 34 then ⟨#[38, 113, 117, 111, 116, 59]⟩ else if c = 9 then ⟨#[38, 35, 57, 59]⟩ else if c = 10 then ⟨#[38, 35, 49, 48, 59]⟩ else ⟨#[]⟩
theorem Buf.str {w : World} {B : Nat} {v : Value} {L : List Nat} (h : Buf w B v L) (t : ByteArray) (hl : L.length + t.size ≤ 140737488355328) (hB : B ≤ w.heap.size) :
    ∃ v' w', (∀ ty, (Builtin.append_ #[59, 9] ty #[v, .string t]).run Tryz.prog w = .ok v' w') ∧ (Buf w' B v' (L ++ lOf t) ∧ Below B w w') := by
  have S := Src.ofString (P := Tryz.prog) (tx := 9) w Tryz.underlying9 t
  rw [byteCells_lOf, ← lOf_length] at S
  exact h.append S (by rw [lOf_length]; exact hl) hB
/-- What is written for a byte. -/
def escC (attr : Bool) (c : Nat) : List Nat := if 0 < (entB c).size then lOf (entB c) else if attr = true ∧ 0 < (attB c).size then lOf (attB c) else [c]
theorem entB_size (c : Nat) : (entB c).size ≤ 6 ∧ (attB c).size ≤ 6 := by
  constructor
  · unfold entB
    split; decide
    split; decide
    split; decide
    split <;> decide
  · unfold attB
    split; decide
    split; decide
    split <;> decide
theorem escC_len (attr : Bool) (c : Nat) : (escC attr c).length ≤ 6 ∧ 1 ≤ (escC attr c).length := by
  have := entB_size c
  unfold escC
  split
  · rw [lOf_length]; omega
  · split
    · rw [lOf_length]; omega
    · simp
def escL (attr : Bool) (l : List Nat) : List Nat := l.flatMap (escC attr)
theorem escL_len (attr : Bool) (l : List Nat) : (escL attr l).length ≤ 6 * l.length := by
  unfold escL
  induction l with
  | nil => exact Nat.le_refl _
  | cons a r ih =>
    have := escC_len attr a
    rw [List.flatMap_cons, List.length_append, List.length_cons]
    omega
end Go.Proofs.YtchfphakhmifmabGreatDoor
