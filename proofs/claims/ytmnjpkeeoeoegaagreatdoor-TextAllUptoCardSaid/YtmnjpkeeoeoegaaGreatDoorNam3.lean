/- The contracts of Blank and Trim. -/
import Derived.Test.YtmnjpkeeoeoegaaGreatDoorNam2
import Derived.Ground.NamesProg
import Derived.Shelf.Lay
import Derived.Shelf.Strings.SlTrimAscii
import Derived.Ground.MpProg
import Derived.Shelf.Pu.Clone
namespace Go.Proofs
open Go.Shelf
shelf_lay Lays.n160 Nm 160 at Tryz as Tryz.lays160
shelf_lay LaysPu.n25 Mp 25 at Tryz as Tryz.laysPu25
end Go.Proofs
namespace Go.Proofs.YtmnjpkeeoeoegaaGreatDoor
open Go.ChangeShapes Go.WideShapes Go.ChangeAt Go.RowKit Go.Shelf Go.Lib

abbrev BLs : List UInt8 := [9, 10, 13, 32]
def trimN (s : ByteArray) : ByteArray := ⟨(Lib.trimS s.data.toList BLs).toArray⟩
theorem strTrim (s : ByteArray) (w : World) (hs : s.size ≤ 9223372036854775807) :
    Calls Tryz.prog 41 #[.string s, .string ⟨#[9, 10, 13, 32]⟩] w fun e w' => e = .returned (.string (trimN s)) ∧ Below w.heap.size w w' :=
  Any.strings_Trim_laid Tryz.lays160 (by kernel_rfl) s ⟨#[9, 10, 13, 32]⟩ w hs (by decide) (ascii_of_all (by decide))
def blankB (s : ByteArray) : Bool := decide ((trimN s).size = 0)
theorem Blank_any (s : ByteArray) (hs : s.size ≤ 9223372036854775807) (w : World) : Calls Tryz.prog 16 #[.string s] w fun e w' => e = .returned (.bool (blankB s)) ∧ Below w.heap.size w w' := by
  have hcon := fun w => strTrim s w hs
  have g := nempty (trimN s)
  unfold blankB
  rw [← g]
  clear g
  generalize trimN s = r at hcon ⊢
  go_enter Tryz.func16, Tryz.ntmps16
  go_wp2_with (go_at_call 41; refine (hcon _).mono ?_; rintro e w' ⟨rfl, hB⟩)
  go_ret
  exact ⟨nret (by cases r.toList <;> rfl), hB⟩
theorem strClone0 (s : ByteArray) (w : World) (hs : s.size ≤ 281474976710656) : Calls Tryz.prog 70 #[.string s] w fun e w' => e = .returned (.string s) ∧ Below w.heap.size w w' :=
  AnyPu.stringslite_Clone Tryz.laysPu25 s w hs
theorem strClone (s : ByteArray) (w : World) (hs : s.size ≤ 281474976710656) : Calls Tryz.prog 42 #[.string s] w fun e w' => e = .returned (.string s) ∧ Below w.heap.size w w' := by
  have hcon := fun w => strClone0 s w hs
  go_enter Tryz.func42, Tryz.ntmps42
  go_wp2_with (go_at_call 70; refine (hcon _).mono ?_; rintro e w' ⟨rfl, hB⟩)
  go_ret
  exact ⟨rfl, hB⟩
theorem dropWhile_len {α : Type} (p : α → Bool) (l : List α) : (l.dropWhile p).length ≤ l.length := by
  induction l with
  | nil => exact Nat.le_refl _
  | cons a l ih => rw [List.dropWhile_cons]; split <;> simp <;> omega
theorem trimN_size (s : ByteArray) : (trimN s).size ≤ s.size := by
  have h1 : (trimN s).size = (Lib.trimS s.data.toList BLs).length := by unfold trimN; simp [ByteArray.size]
  rw [h1, ← tl_len]
  unfold Lib.trimS Lib.trimLeftS Lib.trimRightS
  refine Nat.le_trans (dropWhile_len _ _) ?_
  rw [List.length_reverse]
  refine Nat.le_trans (dropWhile_len _ _) ?_
  rw [List.length_reverse]
  exact Nat.le_refl _
theorem Trim_any (s : ByteArray) (hs : s.size ≤ 281474976710656) (w : World) : Calls Tryz.prog 18 #[.string s] w fun e w' => e = .returned (.string (trimN s)) ∧ Below w.heap.size w w' := by
  have hcon := fun w => strTrim s w (by omega)
  have hz := trimN_size s
  have hcl := fun w => strClone (trimN s) w (by omega)
  clear hz
  generalize trimN s = r at hcon hcl ⊢
  go_enter Tryz.func18, Tryz.ntmps18
  go_wp2_with (first | (go_at_call 41; refine (hcon _).mono ?_; rintro e w1 ⟨rfl, hB1⟩) | (go_at_call 42; refine (hcl _).mono ?_; rintro e w2 ⟨rfl, hB2⟩))
  go_ret
  exact ⟨rfl, hB1.trans (hB2.mono hB1.size)⟩
end Go.Proofs.YtmnjpkeeoeoegaaGreatDoor
