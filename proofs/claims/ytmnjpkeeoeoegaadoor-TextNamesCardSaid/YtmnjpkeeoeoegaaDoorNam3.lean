/- The contracts of Blank and Trim. -/
import Derived.Test.YtmnjpkeeoeoegaaDoorNam2
import Derived.Ground.NamesProg
import Derived.Shelf.Strings.SlTrimAscii
import Derived.Ground.MpProg
import Derived.Shelf.Pu.Clone
namespace Go.Proofs
open Go.Shelf
def Tryd.lays160_ren : Go.Shelf.Ren := ⟨fun | 160 => 11 | 232 => 14 | 231 => 13 | 227 => 15 | 234 => 17 | 233 => 16 | 236 => 19 | 235 => 18 | 228 => 21 | 271 => 24 | 151 => 23 | 197 => 22 | 120 => 27 | 152 => 26 | 260 => 25 | 137 => 28 | 119 => 29 | 224 => 30 | 225 => 31 | 217 => 32 | 266 => 33 | n => n, fun | 9 => 9 | 4 => 4 | 3 => 3 | 5 => 5 | 117 => 32 | 116 => 31 | 0 => 0 | 124 => 35 | 21 => 21 | 105 => 36 | 46 => 42 | 119 => 41 | 139 => 45 | 138 => 44 | n => n, fun | 3 => 0 | 4 => 1 | n => n⟩
theorem Tryd.lays160 : Go.Proofs.Lays.n160 Tryd.prog Tryd.lays160_ren := {
  mixed := by kernel_rfl
  f119 := Tryd.func29.trans (congrArg some (by kernel_rfl))
  f120 := Tryd.func27.trans (congrArg some (by kernel_rfl))
  f137 := Tryd.func28.trans (congrArg some (by kernel_rfl))
  f151 := Tryd.func23.trans (congrArg some (by kernel_rfl))
  f152 := Tryd.func26.trans (congrArg some (by kernel_rfl))
  f160 := Tryd.func11.trans (congrArg some (by kernel_rfl))
  f197 := Tryd.func22.trans (congrArg some (by kernel_rfl))
  f217 := Tryd.func32.trans (congrArg some (by kernel_rfl))
  f224 := Tryd.func30.trans (congrArg some (by kernel_rfl))
  f225 := Tryd.func31.trans (congrArg some (by kernel_rfl))
  f227 := Tryd.func15.trans (congrArg some (by kernel_rfl))
  f228 := Tryd.func21.trans (congrArg some (by kernel_rfl))
  f231 := Tryd.func13.trans (congrArg some (by kernel_rfl))
  f232 := Tryd.func14.trans (congrArg some (by kernel_rfl))
  f233 := Tryd.func16.trans (congrArg some (by kernel_rfl))
  f234 := Tryd.func17.trans (congrArg some (by kernel_rfl))
  f235 := Tryd.func18.trans (congrArg some (by kernel_rfl))
  f236 := Tryd.func19.trans (congrArg some (by kernel_rfl))
  f260 := Tryd.func25.trans (congrArg some (by kernel_rfl))
  f266 := Tryd.func33.trans (congrArg some (by kernel_rfl))
  f271 := Tryd.func24.trans (congrArg some (by kernel_rfl))
  t0 := Tryd.underlying0
  a0 := Tryd.isAgg0
  z0 := Tryd.sizeOf0
  v0 := Tryd.zeroValue0
  t3 := Tryd.underlying3
  a3 := Tryd.isAgg3
  z3 := Tryd.sizeOf3
  v3 := Tryd.zeroValue3
  t4 := Tryd.underlying4
  a4 := Tryd.isAgg4
  z4 := Tryd.sizeOf4
  v4 := Tryd.zeroValue4
  t5 := Tryd.underlying5
  a5 := Tryd.isAgg5
  z5 := Tryd.sizeOf5
  v5 := Tryd.zeroValue5
  t9 := Tryd.underlying9
  a9 := Tryd.isAgg9
  z9 := Tryd.sizeOf9
  v9 := Tryd.zeroValue9
  t21 := Tryd.underlying21
  a21 := Tryd.isAgg21
  z21 := Tryd.sizeOf21
  v21 := Tryd.zeroValue21
  t46 := Tryd.underlying42
  a46 := Tryd.isAgg42
  z46 := Tryd.sizeOf42
  v46 := Tryd.zeroValue42
  t105 := Tryd.underlying36
  a105 := Tryd.isAgg36
  z105 := Tryd.sizeOf36
  v105 := Tryd.zeroValue36
  t116 := Tryd.underlying31
  a116 := Tryd.isAgg31
  z116 := Tryd.sizeOf31
  t117 := Tryd.underlying32
  a117 := Tryd.isAgg32
  z117 := Tryd.sizeOf32
  v117 := Tryd.zeroValue32
  t119 := Tryd.underlying41
  a119 := Tryd.isAgg41
  z119 := Tryd.sizeOf41
  t124 := Tryd.underlying35
  a124 := Tryd.isAgg35
  z124 := Tryd.sizeOf35
  v124 := Tryd.zeroValue35
  t138 := Tryd.underlying44
  a138 := Tryd.isAgg44
  z138 := Tryd.sizeOf44
  v138 := Tryd.zeroValue44
  t139 := Tryd.underlying45
  a139 := Tryd.isAgg45
  z139 := Tryd.sizeOf45
  v139 := Tryd.zeroValue45
  g3 := by kernel_rfl
  g4 := by kernel_rfl }
def Tryd.laysPu25_ren : Go.Shelf.Ren := ⟨fun | 25 => 20 | n => n, fun | 9 => 9 | 3 => 3 | 4 => 4 | 37 => 23 | 0 => 0 | 47 => 39 | 5 => 5 | n => n, fun | n => n⟩
theorem Tryd.laysPu25 : Go.Proofs.LaysPu.n25 Tryd.prog Tryd.laysPu25_ren := {
  mixed := by kernel_rfl
  f25 := Tryd.func20.trans (congrArg some (by kernel_rfl))
  t0 := Tryd.underlying0
  a0 := Tryd.isAgg0
  z0 := Tryd.sizeOf0
  v0 := Tryd.zeroValue0
  i0 := by kernel_rfl
  t3 := Tryd.underlying3
  a3 := Tryd.isAgg3
  z3 := Tryd.sizeOf3
  v3 := Tryd.zeroValue3
  i3 := by kernel_rfl
  t4 := Tryd.underlying4
  a4 := Tryd.isAgg4
  z4 := Tryd.sizeOf4
  v4 := Tryd.zeroValue4
  i4 := by kernel_rfl
  t5 := Tryd.underlying5
  a5 := Tryd.isAgg5
  z5 := Tryd.sizeOf5
  v5 := Tryd.zeroValue5
  i5 := by kernel_rfl
  t9 := Tryd.underlying9
  a9 := Tryd.isAgg9
  z9 := Tryd.sizeOf9
  v9 := Tryd.zeroValue9
  i9 := by kernel_rfl
  t37 := Tryd.underlying23
  a37 := Tryd.isAgg23
  z37 := Tryd.sizeOf23
  v37 := Tryd.zeroValue23
  i37 := by kernel_rfl
  t47 := Tryd.underlying39
  a47 := Tryd.isAgg39
  z47 := Tryd.sizeOf39
  v47 := Tryd.zeroValue39
  i47 := by kernel_rfl }
end Go.Proofs
namespace Go.Proofs.YtmnjpkeeoeoegaaDoor
open Go.ChangeShapes Go.WideShapes Go.ChangeAt Go.RowKit Go.Shelf Go.Lib

abbrev BLs : List UInt8 := [9, 10, 13, 32]
def trimN (s : ByteArray) : ByteArray := ⟨(Lib.trimS s.data.toList BLs).toArray⟩
theorem strTrim (s : ByteArray) (w : World) (hs : s.size ≤ 9223372036854775807) :
    Calls Tryd.prog 11 #[.string s, .string ⟨#[9, 10, 13, 32]⟩] w fun e w' => e = .returned (.string (trimN s)) ∧ Below w.heap.size w w' :=
  Any.strings_Trim_laid Tryd.lays160 (by kernel_rfl) s ⟨#[9, 10, 13, 32]⟩ w hs (by decide) (ascii_of_all (by decide))
def blankB (s : ByteArray) : Bool := decide ((trimN s).size = 0)
theorem Blank_any (s : ByteArray) (hs : s.size ≤ 9223372036854775807) (w : World) : Calls Tryd.prog 6 #[.string s] w fun e w' => e = .returned (.bool (blankB s)) ∧ Below w.heap.size w w' := by
  have hcon := fun w => strTrim s w hs
  have g := nempty (trimN s)
  unfold blankB
  rw [← g]
  clear g
  generalize trimN s = r at hcon ⊢
  go_enter Tryd.func6, Tryd.ntmps6
  go_wp2_with (go_at_call 11; refine (hcon _).mono ?_; rintro e w' ⟨rfl, hB⟩)
  go_ret
  exact ⟨nret (by cases r.toList <;> rfl), hB⟩
theorem strClone0 (s : ByteArray) (w : World) (hs : s.size ≤ 281474976710656) : Calls Tryd.prog 20 #[.string s] w fun e w' => e = .returned (.string s) ∧ Below w.heap.size w w' :=
  AnyPu.stringslite_Clone Tryd.laysPu25 s w hs
theorem strClone (s : ByteArray) (w : World) (hs : s.size ≤ 281474976710656) : Calls Tryd.prog 12 #[.string s] w fun e w' => e = .returned (.string s) ∧ Below w.heap.size w w' := by
  have hcon := fun w => strClone0 s w hs
  go_enter Tryd.func12, Tryd.ntmps12
  go_wp2_with (go_at_call 20; refine (hcon _).mono ?_; rintro e w' ⟨rfl, hB⟩)
  go_ret
  exact ⟨rfl, hB⟩
theorem dropWhile_len {α : Type} (p : α → Bool) (l : List α) : (l.dropWhile p).length ≤ l.length := by
  induction l with
  | nil => exact Nat.le_refl _
  | cons a l ih => rw [List.dropWhile_cons]; split <;> simp <;> omega
theorem trimN_size (s : ByteArray) : (trimN s).size ≤ s.size := by
  have h1 : (trimN s).size = (Lib.trimS s.data.toList BLs).length := by unfold trimN; simp [ByteArray.size]
  rw [h1, ← tl_len]
  unfold Lib.trimS Lib.trimLeftS Lib.trimRightS
  refine Nat.le_trans (dropWhile_len _ _) ?_
  rw [List.length_reverse]
  refine Nat.le_trans (dropWhile_len _ _) ?_
  rw [List.length_reverse]
  exact Nat.le_refl _
theorem Trim_any (s : ByteArray) (hs : s.size ≤ 281474976710656) (w : World) : Calls Tryd.prog 7 #[.string s] w fun e w' => e = .returned (.string (trimN s)) ∧ Below w.heap.size w w' := by
  have hcon := fun w => strTrim s w (by omega)
  have hz := trimN_size s
  have hcl := fun w => strClone (trimN s) w (by omega)
  clear hz
  generalize trimN s = r at hcon hcl ⊢
  go_enter Tryd.func7, Tryd.ntmps7
  go_wp2_with (first | (go_at_call 11; refine (hcon _).mono ?_; rintro e w1 ⟨rfl, hB1⟩) | (go_at_call 12; refine (hcl _).mono ?_; rintro e w2 ⟨rfl, hB2⟩))
  go_ret
  exact ⟨rfl, hB1.trans (hB2.mono hB1.size)⟩
end Go.Proofs.YtmnjpkeeoeoegaaDoor
