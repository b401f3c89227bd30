/- TBl, TTx, TAf, TAb, TTk, TAm. -/
import Derived.Test.YtchfphakhmifmabGreatDoorXLib
import Derived.Test.YtchfphakhmifmabGreatDoorXNm
import Derived.Test.YtchfphakhmifmabGreatDoorMR
import Derived.Ground.NamesProg
import Derived.Shelf.Strings.SlTrimAscii
import Derived.Test.YtchfphakhmifmabGreatDoorTA2
import Derived.Test.YtchfphakhmifmabGreatDoorTA1
import Derived.Deep.RegionHeld
namespace Go.Proofs
open Go.Shelf
def Tryz.lays160_ren : Go.Shelf.Ren := ⟨fun | 160 => 92 | 232 => 119 | 231 => 118 | 227 => 120 | 234 => 122 | 233 => 121 | 236 => 124 | 235 => 123 | 228 => 154 | 271 => 157 | 151 => 156 | 197 => 155 | 120 => 175 | 152 => 174 | 260 => 173 | 137 => 185 | 119 => 186 | 224 => 187 | 225 => 188 | 217 => 191 | 266 => 199 | n => n, fun | 9 => 9 | 4 => 4 | 3 => 3 | 5 => 5 | 117 => 154 | 116 => 153 | 0 => 0 | 124 => 157 | 21 => 21 | 105 => 171 | 46 => 148 | 119 => 190 | 139 => 193 | 138 => 192 | n => n, fun | 3 => 1 | 4 => 2 | n => n⟩
theorem Tryz.lays160 : Go.Proofs.Lays.n160 Tryz.prog Tryz.lays160_ren := {
  mixed := by kernel_rfl
  f119 := Tryz.func186.trans (congrArg some (by kernel_rfl))
  f120 := Tryz.func175.trans (congrArg some (by kernel_rfl))
  f137 := Tryz.func185.trans (congrArg some (by kernel_rfl))
  f151 := Tryz.func156.trans (congrArg some (by kernel_rfl))
  f152 := Tryz.func174.trans (congrArg some (by kernel_rfl))
  f160 := Tryz.func92.trans (congrArg some (by kernel_rfl))
  f197 := Tryz.func155.trans (congrArg some (by kernel_rfl))
  f217 := Tryz.func191.trans (congrArg some (by kernel_rfl))
  f224 := Tryz.func187.trans (congrArg some (by kernel_rfl))
  f225 := Tryz.func188.trans (congrArg some (by kernel_rfl))
  f227 := Tryz.func120.trans (congrArg some (by kernel_rfl))
  f228 := Tryz.func154.trans (congrArg some (by kernel_rfl))
  f231 := Tryz.func118.trans (congrArg some (by kernel_rfl))
  f232 := Tryz.func119.trans (congrArg some (by kernel_rfl))
  f233 := Tryz.func121.trans (congrArg some (by kernel_rfl))
  f234 := Tryz.func122.trans (congrArg some (by kernel_rfl))
  f235 := Tryz.func123.trans (congrArg some (by kernel_rfl))
  f236 := Tryz.func124.trans (congrArg some (by kernel_rfl))
  f260 := Tryz.func173.trans (congrArg some (by kernel_rfl))
  f266 := Tryz.func199.trans (congrArg some (by kernel_rfl))
  f271 := Tryz.func157.trans (congrArg some (by kernel_rfl))
  t0 := Tryz.underlying0
  a0 := Tryz.isAgg0
  z0 := Tryz.sizeOf0
  v0 := Tryz.zeroValue0
  t3 := Tryz.underlying3
  a3 := Tryz.isAgg3
  z3 := Tryz.sizeOf3
  v3 := Tryz.zeroValue3
  t4 := Tryz.underlying4
  a4 := Tryz.isAgg4
  z4 := Tryz.sizeOf4
  v4 := Tryz.zeroValue4
  t5 := Tryz.underlying5
  a5 := Tryz.isAgg5
  z5 := Tryz.sizeOf5
  v5 := Tryz.zeroValue5
  t9 := Tryz.underlying9
  a9 := Tryz.isAgg9
  z9 := Tryz.sizeOf9
  v9 := Tryz.zeroValue9
  t21 := Tryz.underlying21
  a21 := Tryz.isAgg21
  z21 := Tryz.sizeOf21
  v21 := Tryz.zeroValue21
  t46 := Tryz.underlying148
  a46 := Tryz.isAgg148
  z46 := Tryz.sizeOf148
  v46 := Tryz.zeroValue148
  t105 := Tryz.underlying171
  a105 := Tryz.isAgg171
  z105 := Tryz.sizeOf171
  v105 := Tryz.zeroValue171
  t116 := Tryz.underlying153
  a116 := Tryz.isAgg153
  z116 := Tryz.sizeOf153
  t117 := Tryz.underlying154
  a117 := Tryz.isAgg154
  z117 := Tryz.sizeOf154
  v117 := Tryz.zeroValue154
  t119 := Tryz.underlying190
  a119 := Tryz.isAgg190
  z119 := Tryz.sizeOf190
  t124 := Tryz.underlying157
  a124 := Tryz.isAgg157
  z124 := Tryz.sizeOf157
  v124 := Tryz.zeroValue157
  t138 := Tryz.underlying192
  a138 := Tryz.isAgg192
  z138 := Tryz.sizeOf192
  v138 := Tryz.zeroValue192
  t139 := Tryz.underlying193
  a139 := Tryz.isAgg193
  z139 := Tryz.sizeOf193
  v139 := Tryz.zeroValue193
  g3 := by kernel_rfl
  g4 := by kernel_rfl }
end Go.Proofs
namespace Go.Proofs.YtchfphakhmifmabGreatDoor
open Go.ChangeShapes Go.WideShapes Go.ChangeAt Go.RowKit Go.Shelf Go.Lib

def trimN (s : ByteArray) : ByteArray := ⟨(Lib.trimS s.data.toList BLs).toArray⟩
theorem strTrim (s : ByteArray) (w : World) (hs : s.size ≤ 9223372036854775807) :
    Calls Tryz.prog 92 #[.string s, .string ⟨#[9, 10, 13, 32]⟩] w fun e w' => e = .returned (.string (trimN s)) ∧ Below w.heap.size w w' :=
  Any.strings_Trim_laid Tryz.lays160 (by kernel_rfl) s ⟨#[9, 10, 13, 32]⟩ w hs (by decide) (ascii_of_all (by decide))
def blankB (s : ByteArray) : Bool := decide ((trimN s).size = 0)
theorem Blank_any (s : ByteArray) (hs : s.size ≤ 9223372036854775807) (w : World) : Calls Tryz.prog 74 #[.string s] w fun e w' => e = .returned (.bool (blankB s)) ∧ Below w.heap.size w w' := by
  have hcon := fun w => strTrim s w hs
  have g := nempty (trimN s)
  unfold blankB
  rw [← g]
  clear g
  generalize trimN s = r at hcon ⊢
  go_enter Tryz.func74, Tryz.ntmps74
  go_wp2_with (go_at_call 92; refine (hcon _).mono ?_; rintro e w' ⟨rfl, hB⟩)
  go_ret
  exact ⟨nret (by cases r.toList <;> rfl), hB⟩
theorem dropWhile_len {α : Type} (p : α → Bool) (l : List α) : (l.dropWhile p).length ≤ l.length := by
  induction l with
  | nil => exact Nat.le_refl _
  | cons a l ih => rw [List.dropWhile_cons]; split <;> simp <;> omega
theorem trimN_size (s : ByteArray) : (trimN s).size ≤ s.size := by
  have h1 : (trimN s).size = (Lib.trimS s.data.toList BLs).length := by unfold trimN; simp [ByteArray.size]
  rw [h1, ← tl_len]
  unfold Lib.trimS Lib.trimLeftS Lib.trimRightS
  refine Nat.le_trans (dropWhile_len _ _) ?_
  rw [List.length_reverse]
  refine Nat.le_trans (dropWhile_len _ _) ?_
  rw [List.length_reverse]
  exact Nat.le_refl _

def oneB (c : Nat) : ByteArray := ⟨#[UInt8.ofNat c]⟩
def wordB (c : Nat) : Bool := nlet c || decide (c = 95)
def inB (c : Nat) : Bool := wordB c || ndig c
set_option maxRecDepth 100000 in
theorem one_facts : ∀ c, c < 256 → symbolB (oneB c) = wordB c ∧ symbolB (⟨#[97]⟩ ++ oneB c) = inB c ∧ xmlNameB (oneB c) = (wordB c || decide (c = 58)) ∧ xmlNameB (⟨#[97]⟩ ++ oneB c) = (inB c || decide (c = 58) || decide (c = 45) || decide (c = 46)) ∧ BLs.contains (UInt8.ofNat c) = blC c := by decide +kernel
theorem sym_xml (s : ByteArray) (h : symbolB s = true) : xmlNameB s = true ∧ s.size ≤ 64 := by
  unfold symbolB at h
  simp only [decide_eq_true_eq] at h
  obtain ⟨h0, h1, h2, h3⟩ := h
  refine ⟨?_, h1⟩
  unfold xmlNameB
  simp only [decide_eq_true_eq]
  refine ⟨h0, fun i hi => ?_⟩
  have h4 := h3 i hi
  by_cases hi0 : i = 0
  · rw [hi0] at h4 ⊢
    unfold nsym at h4
    rw [h2] at h4
    unfold nxml
    simp only [Bool.or_false] at h4
    simp only [Bool.or_eq_true] at h4 ⊢
    rcases h4 with h4 | h4
    · exact Or.inl (Or.inr h4)
    · exact Or.inl (Or.inl (Or.inl (Or.inl h4)))
  · unfold nsym at h4
    unfold nxml
    simp only [hi0, decide_false, Bool.not_false, Bool.and_true]
    simp only [Bool.or_eq_true] at h4 ⊢
    rcases h4 with (h4 | h4) | h4
    · exact Or.inl (Or.inr h4)
    · exact Or.inr h4
    · exact Or.inl (Or.inl (Or.inl (Or.inl h4)))
section
variable {α : Type} (p : α → Bool)
theorem dw_split (l : List α) : l = l.takeWhile p ++ l.dropWhile p := (List.takeWhile_append_dropWhile).symm
theorem tw_all (l : List α) : (l.takeWhile p).all p = true := by
  induction l with
  | nil => rfl
  | cons a l ih => rw [List.takeWhile_cons]; split <;> simp_all
theorem dw_head (l : List α) (a : α) (m : List α) (h : l.dropWhile p = a :: m) : p a = false := by
  induction l with
  | nil => cases h
  | cons b l ih =>
    rw [List.dropWhile_cons] at h
    split at h
    · exact ih h
    · rename_i hb; cases h; simpa using hb
/-- l cut at both ends: what stands ahead and behind, and the ends of the middle. -/
theorem trim_split (l : List α) : ∃ a b, l = a ++ ((l.reverse.dropWhile p).reverse.dropWhile p) ++ b ∧ a.all p = true ∧ b.all p = true ∧
    (∀ x m, (l.reverse.dropWhile p).reverse.dropWhile p = x :: m → p x = false) ∧ (∀ x m, (l.reverse.dropWhile p).reverse.dropWhile p = m ++ [x] → p x = false) := by
  refine ⟨(l.reverse.dropWhile p).reverse.takeWhile p, (l.reverse.takeWhile p).reverse, ?_, tw_all p _, by rw [List.all_reverse]; exact tw_all p _, fun x m h => dw_head p _ x m h, fun x m h => ?_⟩
  · rw [← dw_split p, ← List.reverse_append, ← dw_split p, List.reverse_reverse]
  · have h1 := dw_split p (l.reverse.dropWhile p).reverse
    rw [h] at h1
    have h2 : l.reverse.dropWhile p = x :: (((l.reverse.dropWhile p).reverse.takeWhile p) ++ m).reverse := by
      have := congrArg List.reverse h1
      rw [List.reverse_reverse] at this
      refine this.trans ?_
      generalize (l.reverse.dropWhile p).reverse.takeWhile p = T
      simp
    exact dw_head p _ _ _ h2
end
theorem trimN_list (s : ByteArray) : (trimN s).data.toList = (s.data.toList.reverse.dropWhile (BLs.contains ·)).reverse.dropWhile (BLs.contains ·) := by
  unfold trimN Lib.trimS Lib.trimLeftS Lib.trimRightS
  simp
theorem trimN_split (s : ByteArray) : ∃ a b, s.data.toList = a ++ (trimN s).data.toList ++ b ∧ a.all (BLs.contains ·) = true ∧ b.all (BLs.contains ·) = true ∧
    (∀ x m, (trimN s).data.toList = x :: m → BLs.contains x = false) ∧ (∀ x m, (trimN s).data.toList = m ++ [x] → BLs.contains x = false) := by
  rw [trimN_list]
  exact trim_split _ _
theorem blankB_all (s : ByteArray) : blankB s = s.data.toList.all (BLs.contains ·) := by
  obtain ⟨a, b, h, ha, hb, h1, -⟩ := trimN_split s
  unfold blankB
  have hz : (trimN s).size = (trimN s).data.toList.length := (tl_len _).symm
  rw [h, hz]
  cases hm : (trimN s).data.toList with
  | nil => simp only [List.length_nil, List.append_nil, decide_true, List.all_append, ha, hb, Bool.and_self]
  | cons x m =>
    have := h1 x m hm
    simp only [List.length_cons, List.all_append, List.all_cons, this, Bool.false_and, Bool.and_false]
    simp
theorem blank_app (a b : ByteArray) : blankB (a ++ b) = (blankB a && blankB b) := by
  rw [blankB_all, blankB_all, blankB_all, ← List.all_append]
  congr 1
theorem blank_one (c : Nat) (hc : c < 256) : blankB (oneB c) = blC c := by
  rw [blankB_all]
  show (BLs.contains (UInt8.ofNat c) && true) = _
  rw [(one_facts c hc).2.2.2.2, Bool.and_true]
theorem blank_nil : blankB ⟨#[]⟩ = true := by rw [blankB_all]; rfl
theorem trim_first (s : ByteArray) (h : 0 < (trimN s).size) : blankB ((trimN s).extract 0 1) = false := by
  obtain ⟨a, b, -, -, -, h1, -⟩ := trimN_split s
  rw [blankB_all, list_ext]
  cases hm : (trimN s).data.toList with
  | nil => rw [← tl_len, hm] at h; cases h
  | cons x m => simp only [List.drop_zero, Nat.sub_zero, List.take_succ_cons, List.take_zero, List.all_cons, h1 x m hm, Bool.false_and]
theorem trim_last (s : ByteArray) (h : 0 < (trimN s).size) : blankB ((trimN s).extract ((trimN s).size - 1) (trimN s).size) = false := by
  obtain ⟨a, b, -, -, -, -, h1⟩ := trimN_split s
  rw [blankB_all, list_ext]
  have hne : (trimN s).data.toList ≠ [] := fun e => by rw [← tl_len, e] at h; cases h
  have hm : (trimN s).data.toList = (trimN s).data.toList.dropLast ++ [(trimN s).data.toList.getLast hne] := (List.dropLast_concat_getLast hne).symm
  have hx := h1 _ _ hm
  have hl : (trimN s).size - 1 = (trimN s).data.toList.dropLast.length := by rw [List.length_dropLast, tl_len]
  generalize (trimN s).data.toList.getLast hne = x at hm hx
  rw [hl, hm, List.drop_left' (by simp)]
  have : (trimN s).size - (trimN s).data.toList.dropLast.length = 1 := by rw [← hl]; omega
  simp only [List.dropLast_concat]
  rw [this]
  simp only [List.take_succ_cons, List.take_zero, List.all_cons, hx, Bool.false_and]
/-- Where the middle stands. -/
theorem trim_where (s : ByteArray) : ∃ k, k + (trimN s).size ≤ s.size ∧ s.extract k (k + (trimN s).size) = trimN s ∧ blankB (s.extract 0 k) = true ∧ blankB (s.extract (k + (trimN s).size) s.size) = true := by
  obtain ⟨a, b, h, ha, hb, -, -⟩ := trimN_split s
  have hz := tl_len (trimN s)
  have hs := tl_len s
  have hl : s.size = a.length + (trimN s).size + b.length := by rw [← hs, h, List.length_append, List.length_append, hz]
  refine ⟨a.length, by omega, ?_, ?_, ?_⟩
  · apply ba_ext
    rw [list_ext, h, List.append_assoc, List.drop_left, Nat.add_sub_cancel_left, ← hz, List.take_left]
  · rw [blankB_all, list_ext, h, List.drop_zero, Nat.sub_zero, List.append_assoc, List.take_left, ha]
  · rw [blankB_all, list_ext, h, ← hz, ← List.length_append, List.drop_left, List.take_of_length_le (by rw [List.length_append]; omega), hb]

section
variable {α : Type} (p : α → Bool)
theorem dw_app_all (a b : List α) (h : a.all p = true) : (a ++ b).dropWhile p = b.dropWhile p := by
  induction a with
  | nil => rfl
  | cons x a ih =>
    rw [List.all_cons, Bool.and_eq_true] at h
    rw [List.cons_append, List.dropWhile_cons, if_pos h.1, ih h.2]
theorem trim_unique (a m b : List α) (ha : a.all p = true) (hb : b.all p = true) (h1 : ∀ x t, m = x :: t → p x = false) (h2 : ∀ x t, m = t ++ [x] → p x = false) :
    (((a ++ m ++ b).reverse.dropWhile p).reverse).dropWhile p = m := by
  rw [List.reverse_append, dw_app_all p _ _ (by rw [List.all_reverse]; exact hb)]
  rcases List.eq_nil_or_concat m with rfl | ⟨t, x, rfl⟩
  · have := dw_app_all p a.reverse [] (by rw [List.all_reverse]; exact ha)
    rw [List.append_nil] at this
    rw [List.append_nil, this]; rfl
  · have hx := h2 x t (by simp)
    simp only [List.concat_eq_append] at *
    rw [List.reverse_append, List.reverse_append]
    simp only [List.reverse_cons, List.reverse_nil, List.nil_append, List.cons_append]
    rw [List.dropWhile_cons, hx]
    simp only [Bool.false_eq_true, if_false]
    rw [List.reverse_cons, List.reverse_append, List.reverse_reverse, List.reverse_reverse, List.append_assoc, dw_app_all p _ _ ha]
    cases ht : t ++ [x] with
    | nil => simp at ht
    | cons y r => rw [List.dropWhile_cons, h1 y r ht]; rfl
end
theorem BLs_ch (s : ByteArray) (i : Nat) (h : i < s.data.toList.length) : BLs.contains s.data.toList[i] = blC (ch s i) := by
  have e : ch s i = s.data.toList[i].toNat := by simp [ch, List.getD, List.getElem?_eq_getElem h]
  have := (one_facts (ch s i) (ch_lt s i)).2.2.2.2
  rw [← this, e]
  congr 1
  exact (UInt8.ofNat_toNat).symm
theorem all_of_ch (s : ByteArray) (a b : Nat) (hb : b ≤ s.size) (h : ∀ j, a ≤ j → j < b → blC (ch s j) = true) : (((s.data.toList).drop a).take (b - a)).all (BLs.contains ·) = true := by
  rw [List.all_eq_true]
  intro x hx
  obtain ⟨i, hi, rfl⟩ := List.getElem_of_mem hx
  have hi' := hi
  rw [List.length_take, List.length_drop, tl_len] at hi'
  rw [List.getElem_take, List.getElem_drop]
  rw [BLs_ch s (a + i) (by rw [tl_len]; omega)]
  exact h (a + i) (by omega) (by omega)
theorem trim_is (s : ByteArray) (a b : Nat) (hab : a ≤ b) (hb : b ≤ s.size) (h1 : ∀ j, j < a → blC (ch s j) = true) (h2 : ∀ j, b ≤ j → j < s.size → blC (ch s j) = true)
    (h3 : a < b → blC (ch s a) = false) (h4 : a < b → blC (ch s (b - 1)) = false) : trimN s = s.extract a b := by
  apply ba_ext
  rw [trimN_list, list_ext]
  have hl : s.data.toList = s.data.toList.take a ++ (s.data.toList.drop a).take (b - a) ++ s.data.toList.drop b := by
    rw [← List.take_add, show a + (b - a) = b by omega, List.take_append_drop]
  have A : (s.data.toList.take a).all (BLs.contains ·) = true := by
    have := all_of_ch s 0 a (by omega) (fun j _ hj => h1 j hj)
    simpa using this
  have B : (s.data.toList.drop b).all (BLs.contains ·) = true := by
    have := all_of_ch s b s.size (Nat.le_refl _) (fun j hj hj2 => h2 j hj hj2)
    rwa [List.take_of_length_le (by rw [List.length_drop, tl_len]; exact Nat.le_refl _)] at this
  have len : ((s.data.toList.drop a).take (b - a)).length = b - a := by rw [List.length_take, List.length_drop, tl_len]; omega
  have := trim_unique (BLs.contains ·) (s.data.toList.take a) ((s.data.toList.drop a).take (b - a)) (s.data.toList.drop b) A B
    (fun x t e => by
      have hlt : a < b := by
        have := congrArg List.length e
        rw [len] at this
        simp at this
        omega
      have hx : ((s.data.toList.drop a).take (b - a))[0]'(by rw [len]; omega) = x := by simp only [e, List.getElem_cons_zero]
      rw [List.getElem_take, List.getElem_drop] at hx
      have := BLs_ch s (a + 0) (by rw [tl_len]; omega)
      rw [hx] at this
      rw [this]
      exact h3 hlt)
    (fun x t e => by
      have hln := congrArg List.length e
      rw [len, List.length_append] at hln
      simp at hln
      have hlt : a < b := by omega
      have hx : ((s.data.toList.drop a).take (b - a))[b - a - 1]'(by rw [len]; omega) = x := by
        have : b - a - 1 = t.length := by omega
        simp only [e, this]
        simp
      rw [List.getElem_take, List.getElem_drop] at hx
      have := BLs_ch s (a + (b - a - 1)) (by rw [tl_len]; omega)
      rw [hx] at this
      rw [this, show a + (b - a - 1) = b - 1 by omega]
      exact h4 hlt)
  rw [← hl] at this
  exact this
theorem ext_ext (s : ByteArray) (a b c d : Nat) (_ : b ≤ s.size) (hd : a + d ≤ b) : (s.extract a b).extract c d = s.extract (a + c) (a + d) := by
  apply ba_ext
  rw [list_ext, list_ext, list_ext, List.drop_take, List.drop_drop, List.take_take]
  congr 1
  omega
theorem rsret4 {a b : ByteArray} (h : a = b) : Ending.returned (.string a) = .returned (.string b) := by rw [h]
theorem ext_all (s : ByteArray) : s.extract 0 s.size = s := by
  apply ba_ext
  rw [list_ext, List.drop_zero, Nat.sub_zero, ← tl_len s, List.take_length]
set_option maxHeartbeats 4000000 in
theorem rTrim (s : ByteArray) (hs : s.size ≤ 9223372036854775806) (w : World) : Calls Tryz.prog 53 #[.string s] w fun e w' => e = .returned (.string (trimN s)) ∧ w' = w := by
  go_enter Tryz.func53, Tryz.ntmps53
  go_wp2_with fail
  go_loop [0] (fun v => ∃ (a : Nat) (X : ByteArray), v = .string X ∧ Hid (X = s.extract a s.size ∧ a ≤ s.size ∧ ∀ j, j < a → blC (ch s j) = true)) (fun v => match v with | .string X => X.size | _ => 0)
  case atStart => exact ⟨0, s, rfl, (ext_all s).symm, Nat.zero_le _, fun j hj => absurd hj (Nat.not_lt_zero j)⟩
  case round =>
    obtain ⟨a, X, rfl, hX⟩ := hrel
    have hz : Hid (X.size = s.size - a) := by show _ = _; rw [hX.out.1, size_ext s a s.size (Nat.le_refl _)]
    by_cases hlt : a < s.size
    · have e0 : (X.toList == []) = false := by rw [nempty]; exact decide_eq_false (by have := hz.out; omega)
      obtain ⟨d, hd⟩ : ∃ d, Hid (d = ch s a) := ⟨_, rfl⟩
      have ix : ∀ w : World, (Instr.index 9 (.string X) (.int .i64 0)).run Tryz.prog w = .ok (.int .u8 (d : Int)) w := fun w => by
        have h1 := nidx (w := w) X 0 (by have := hz.out; omega) .i64
        have h2 : ch X 0 = d := by rw [hd.out, hX.out.1, ch_ext s a s.size 0 (by omega), Nat.add_zero]
        rw [h2] at h1
        exact h1
      cases hb0 : blC d
      · have hstop : Hid (blC (ch s a) = false) := by show _ = _; rw [← hd.out]; exact hb0
        go_wp2_with (go_at_call 78; refine (rblank _ _).mono ?_; rintro e w1 ⟨rfl, hw1⟩; subst w1)
        go_loop [0] (fun v => ∃ (b : Nat) (Y : ByteArray), v = .string Y ∧ Hid (Y = s.extract a b ∧ a ≤ b ∧ b ≤ s.size ∧ ∀ j, b ≤ j → j < s.size → blC (ch s j) = true)) (fun v => match v with | .string X => X.size | _ => 0)
        case atStart => exact ⟨s.size, X, rfl, hX.out.1, hX.out.2.1, Nat.le_refl _, fun j h1 h2 => absurd h2 (by omega)⟩
        case round =>
          obtain ⟨b, Y, rfl, hY⟩ := hrel
          have hy : Hid (Y.size = b - a) := by show _ = _; rw [hY.out.1, size_ext s a b hY.out.2.2.1]
          have hyl : Y.size ≤ 9223372036854775806 := by have := hy.out; have := hY.out.2.2.1; omega
          by_cases hab : a < b
          · have hpos : 0 < Y.size := by have := hy.out; omega
            have e1 : (Y.toList == []) = false := by rw [nempty]; exact decide_eq_false (by omega)
            have hwr : wrap64 ((Y.size : Int) - 1) = (Y.size : Int) - 1 := by unfold wrap64; omega
            obtain ⟨c, hc⟩ : ∃ c, Hid (c = ch s (b - 1)) := ⟨_, rfl⟩
            have ix : ∀ w : World, (Instr.index 9 (.string Y) (.int .i64 ((Y.size : Int) - 1))).run Tryz.prog w = .ok (.int .u8 (c : Int)) w := fun w => by
              have := nidx (w := w) Y (Y.size - 1) (by omega) .i64
              have h2 : ch Y (Y.size - 1) = c := by
                rw [hc.out, hy.out, hY.out.1, ch_ext s a b (b - a - 1) (by omega), show a + (b - a - 1) = b - 1 by omega]
              rw [h2, show ((Y.size - 1 : Nat) : Int) = (Y.size : Int) - 1 by omega] at this
              exact this
            cases hb : blC c
            · have hg : Hid (s.extract a b = trimN s) := (trim_is s a b (by omega) hY.out.2.2.1 hX.out.2.2 hY.out.2.2.2 (fun _ => hstop.out) (fun _ => by rw [← hc.out]; exact hb)).symm
              have hY1 : Hid (Y = s.extract a b) := hY.out.1
              go_wp2_with (go_at_call 78; refine (rblank _ _).mono ?_; rintro e w1 ⟨rfl, hw1⟩; subst w1)
              go_ret
              exact ⟨rsret4 (hY1.out.trans hg.out), rfl⟩
            · have sl : ∀ w : World, (Instr.slice 9 (.string Y) none (some (.int .i64 ((Y.size : Int) - 1))) none).run Tryz.prog w = .ok (.string (Y.extract 0 (Y.size - 1))) w := fun w => by
                rw [run_slice_string_h w 9 Y Tryz.underlying9 .i64 ((Y.size : Int) - 1) (by omega) (by omega), show ((Y.size : Int) - 1).toNat = Y.size - 1 by omega]
              have hsz : (Y.extract 0 (Y.size - 1)).size = Y.size - 1 := size_ext Y 0 (Y.size - 1) (by omega)
              have hsz : Hid ((Y.extract 0 (Y.size - 1)).size = Y.size - 1) := hsz
              go_wp2_with (go_at_call 78; refine (rblank _ _).mono ?_; rintro e w1 ⟨rfl, hw1⟩; subst w1)
              go_round
              case rel => exact ⟨b - 1, Y.extract 0 (Y.size - 1), rfl, by
                refine ⟨?_, by omega, by have := hY.out.2.2.1; omega, fun j hj1 hj2 => ?_⟩
                · have := hy.out
                  rw [this, hY.out.1, ext_ext s a b 0 (b - a - 1) hY.out.2.2.1 (by omega), Nat.add_zero, show a + (b - a - 1) = b - 1 by omega]
                · by_cases h : j = b - 1
                  · rw [h, ← hc.out]; exact hb
                  · exact hY.out.2.2.2 j (by omega) hj2⟩
              case measure => simp only [hsz.out]; omega
          · have e1 : (Y.toList == []) = true := by rw [nempty]; exact decide_eq_true (by have := hy.out; omega)
            have hg : Hid (s.extract a b = trimN s) := (trim_is s a b (hY.out.2.1) hY.out.2.2.1 hX.out.2.2 hY.out.2.2.2 (fun h => absurd h hab) (fun h => absurd h hab)).symm
            have hY1 : Hid (Y = s.extract a b) := hY.out.1
            go_wp2_with fail
            go_ret
            exact ⟨rsret4 (hY1.out.trans hg.out), rfl⟩
      · have hp : 0 < X.size := by have := hz.out; omega
        have sl : ∀ w : World, (Instr.slice 9 (.string X) (some (.int .i64 1)) none none).run Tryz.prog w = .ok (.string (X.extract 1 X.size)) w := fun w => run_slice_string_l w 9 X Tryz.underlying9 .i64 1 (by omega) (by omega)
        have hsz : Hid ((X.extract 1 X.size).size = X.size - 1) := size_ext X 1 X.size (Nat.le_refl _)
        go_wp2_with (go_at_call 78; refine (rblank _ _).mono ?_; rintro e w1 ⟨rfl, hw1⟩; subst w1)
        go_round
        case rel => exact ⟨a + 1, X.extract 1 X.size, rfl, by
          refine ⟨?_, by omega, fun j hj => ?_⟩
          · rw [hX.out.1, size_ext s a s.size (Nat.le_refl _), ext_ext s a s.size 1 (s.size - a) (Nat.le_refl _) (by omega), show a + (s.size - a) = s.size by omega]
          · by_cases h : j = a
            · rw [h, ← hd.out]; exact hb0
            · exact hX.out.2.2 j (by omega)⟩
        case measure => simp only [hsz.out]; omega
    · have e0 : (X.toList == []) = true := by rw [nempty]; exact decide_eq_true (by have := hz.out; omega)
      go_wp2_with (go_at_call 78; refine (rblank _ _).mono ?_; rintro e w1 ⟨rfl, hw1⟩; subst w1)
      go_loop [0] (fun v => ∃ (b : Nat) (Y : ByteArray), v = .string Y ∧ Hid (Y = s.extract a b ∧ a ≤ b ∧ b ≤ s.size ∧ ∀ j, b ≤ j → j < s.size → blC (ch s j) = true)) (fun v => match v with | .string X => X.size | _ => 0)
      case atStart => exact ⟨s.size, X, rfl, hX.out.1, hX.out.2.1, Nat.le_refl _, fun j h1 h2 => absurd h2 (by omega)⟩
      case round =>
        obtain ⟨b, Y, rfl, hY⟩ := hrel
        have hy : Hid (Y.size = b - a) := by show _ = _; rw [hY.out.1, size_ext s a b hY.out.2.2.1]
        have hyl : Y.size ≤ 9223372036854775806 := by have := hy.out; have := hY.out.2.2.1; omega
        by_cases hab : a < b
        · have hpos : 0 < Y.size := by have := hy.out; omega
          have e1 : (Y.toList == []) = false := by rw [nempty]; exact decide_eq_false (by omega)
          have hwr : wrap64 ((Y.size : Int) - 1) = (Y.size : Int) - 1 := by unfold wrap64; omega
          obtain ⟨c, hc⟩ : ∃ c, Hid (c = ch s (b - 1)) := ⟨_, rfl⟩
          have ix : ∀ w : World, (Instr.index 9 (.string Y) (.int .i64 ((Y.size : Int) - 1))).run Tryz.prog w = .ok (.int .u8 (c : Int)) w := fun w => by
            have := nidx (w := w) Y (Y.size - 1) (by omega) .i64
            have h2 : ch Y (Y.size - 1) = c := by
              rw [hc.out, hy.out, hY.out.1, ch_ext s a b (b - a - 1) (by omega), show a + (b - a - 1) = b - 1 by omega]
            rw [h2, show ((Y.size - 1 : Nat) : Int) = (Y.size : Int) - 1 by omega] at this
            exact this
          cases hb : blC c
          · have hg : Hid (s.extract a b = trimN s) := (trim_is s a b (by omega) hY.out.2.2.1 hX.out.2.2 hY.out.2.2.2 (fun _ => absurd hab (by have := hY.out.2.2.1; omega)) (fun _ => by rw [← hc.out]; exact hb)).symm
            have hY1 : Hid (Y = s.extract a b) := hY.out.1
            go_wp2_with (go_at_call 78; refine (rblank _ _).mono ?_; rintro e w1 ⟨rfl, hw1⟩; subst w1)
            go_ret
            exact ⟨rsret4 (hY1.out.trans hg.out), rfl⟩
          · have sl : ∀ w : World, (Instr.slice 9 (.string Y) none (some (.int .i64 ((Y.size : Int) - 1))) none).run Tryz.prog w = .ok (.string (Y.extract 0 (Y.size - 1))) w := fun w => by
              rw [run_slice_string_h w 9 Y Tryz.underlying9 .i64 ((Y.size : Int) - 1) (by omega) (by omega), show ((Y.size : Int) - 1).toNat = Y.size - 1 by omega]
            have hsz : (Y.extract 0 (Y.size - 1)).size = Y.size - 1 := size_ext Y 0 (Y.size - 1) (by omega)
            have hsz : Hid ((Y.extract 0 (Y.size - 1)).size = Y.size - 1) := hsz
            go_wp2_with (go_at_call 78; refine (rblank _ _).mono ?_; rintro e w1 ⟨rfl, hw1⟩; subst w1)
            go_round
            case rel => exact ⟨b - 1, Y.extract 0 (Y.size - 1), rfl, by
              refine ⟨?_, by omega, by have := hY.out.2.2.1; omega, fun j hj1 hj2 => ?_⟩
              · have := hy.out
                rw [this, hY.out.1, ext_ext s a b 0 (b - a - 1) hY.out.2.2.1 (by omega), Nat.add_zero, show a + (b - a - 1) = b - 1 by omega]
              · by_cases h : j = b - 1
                · rw [h, ← hc.out]; exact hb
                · exact hY.out.2.2.2 j (by omega) hj2⟩
            case measure => simp only [hsz.out]; omega
        · have e1 : (Y.toList == []) = true := by rw [nempty]; exact decide_eq_true (by have := hy.out; omega)
          have hg : Hid (s.extract a b = trimN s) := (trim_is s a b (hY.out.2.1) hY.out.2.2.1 hX.out.2.2 hY.out.2.2.2 (fun h => absurd h hab) (fun h => absurd h hab)).symm
          have hY1 : Hid (Y = s.extract a b) := hY.out.1
          go_wp2_with fail
          go_ret
          exact ⟨rsret4 (hY1.out.trans hg.out), rfl⟩
theorem rBlank (s : ByteArray) (hs : s.size ≤ 9223372036854775806) (w : World) : Calls Tryz.prog 31 #[.string s] w fun e w' => e = .returned (.bool (blankB s)) ∧ w' = w := by
  have hT := fun w => rTrim s hs w
  have g := nempty (trimN s)
  unfold blankB
  rw [← g]
  clear g
  generalize trimN s = r at hT ⊢
  go_enter Tryz.func31, Tryz.ntmps31
  go_wp2_with (go_at_call 53; refine (hT _).mono ?_; rintro e w' ⟨rfl, hw⟩; subst w')
  go_ret
  exact ⟨nret (by cases r.toList <;> rfl), rfl⟩
end Go.Proofs.YtchfphakhmifmabGreatDoor
namespace Go.Proofs.YtchfphakhmifmabGreatDoor
open Go.ChangeShapes Go.WideShapes Go.ChangeAt Go.RowKit Go.Lib

theorem last_not_mem {op : List Nat} {i : Nat} (hi : op.getLast? = some i) (hup : op.Pairwise (· < ·)) : i ∉ op.dropLast := by
  have hsp := last_split hi
  rw [hsp] at hup
  intro hm
  have := (List.pairwise_append.1 hup).2.2 i hm i (List.mem_singleton.2 rfl)
  omega
theorem opQ_set (es : List El) (i j : Nat) (e : El) (h : j ≠ i) : opQ (es.set i e) j = opQ es j := by
  unfold opQ
  rw [List.getElem?_set_ne (fun x => h x.symm)]
theorem opQ_set_same (es : List El) (i : Nat) (e : El) (h : i < es.length) : opQ (es.set i e) i = (i, e.nm, e.tx) := by
  unfold opQ
  rw [List.getElem?_set_self h]
theorem text_facts {w : World} {R bot : Nat} {v : Nat → Value} {s : PSt} {i : Nat} {e : El} {f : Nat → Rw} {sx : List Opn} {o : Opn} {ex : List Elx} {x : Elx} {g c gE cE : Nat} (h : Rdr w R bot v s) (hi : s.op.getLast? = some i) (he0 : s.es[i]? = some e) (hL : Ls w bot v s i e f sx o ex x g c gE cE) (vl : ByteArray) (h2 : v 2 = .string vl) (hl : e.tx.size + vl.size ≤ 140737488355328) :
    ∃ pt ct p2 c2 w2, w.cell? ⟨g, sx.length * 3 + 2, none⟩ = some (.slice pt (lOf e.tx).length ct) ∧ w.cell? ⟨R, 2, none⟩ = some (.string vl) ∧ (∀ ty, (Builtin.append_ #[59, 9] ty #[.slice pt (lOf e.tx).length ct, .string vl]).run Tryz.prog w.drew = .ok (.slice p2 ((lOf e.tx).length + (lOf vl).length) c2) w2) ∧
    w2.cell? ⟨g, sx.length * 3 + 2, none⟩ = some (.slice pt (lOf e.tx).length ct) ∧ w2.frozen? ⟨g, sx.length * 3 + 2, none⟩ = false ∧ TakePost R bot w v (.ok ⟨s.op, s.es.set i { e with tx := e.tx ++ vl }⟩) (.returned (.tuple #[])) (w2.setCell ⟨g, sx.length * 3 + 2, none⟩ (.slice p2 ((lOf e.tx).length + (lOf vl).length) c2)) := by
  obtain ⟨⟨a0, a1, a2, a2f⟩, -, hg, hgl, -⟩ := hL.cells
  have hc2 := h.r7.c 2 (by decide)
  rw [h2] at hc2
  have hq := hL.hq
  unfold Opn.q at hq
  simp only [Prod.mk.injEq] at hq
  have htx : o.tx = e.tx := hq.2.2
  have hon : (sx ++ [o])[sx.length]? = some o := by rw [List.getElem?_append_right (Nat.le_refl _), Nat.sub_self]; rfl
  have hbuf : Buf w.drew bot o.tv (lOf o.tx) := (hL.tr.ownT hon).below ((Below.refl _ w).drew)
  obtain ⟨v2, w2, hrun, hO, hB2, hk2, hv2⟩ := tbufStr hbuf vl (by rw [lOf_length, htx]; exact hl) h.hB
  obtain ⟨pt, ct, hpt⟩ := own_sl hbuf
  obtain ⟨p2, c2, hp2⟩ := own_sl hO
  rw [List.length_append] at hp2
  have hgt : o.tv.ownBlock ≠ some g := by
    have := hL.tr.pf.apart 0 (2 + 2 * sx.length) (by omega) g (by rw [hL.tr.f0, hL.h5]; rfl)
    rwa [hL.tr.ft _ _ hon] at this
  have hgk : w2.heap[g]? = w.heap[g]? := hk2 g hgl hgt
  have hc : w2.cell? ⟨g, sx.length * 3 + 2, none⟩ = some o.tv := by rw [← a2]; simp only [World.cell?, hgk]
  have hf : w2.frozen? ⟨g, sx.length * 3 + 2, none⟩ = false := by rw [← a2f]; simp only [World.frozen?, hgk]
  have hTr : TR w.drew bot (v 5) (v 6) f (sx ++ [o]) ex := hL.tr.same (W' := w.drew) fun _ _ _ => rfl
  rw [hL.h5, show sx.length + 1 = (sx ++ [o]).length by simp] at hTr
  obtain ⟨f', hT'⟩ := hTr.more hon vl hO hk2 hv2
  have hR2 : w2.heap[R]? = w.heap[R]? := hB2.block R h.hR
  have hKr : Kr R bot w (w2.setCell ⟨g, sx.length * 3 + 2, none⟩ v2) := ((Kr.refl R bot w).drew.trans (Kr.of hB2)).trans (Kr.far v2 hg)
  rw [htx] at hpt hp2
  rw [hpt] at a2 hc hrun
  refine ⟨pt, ct, p2, c2, w2, a2, hc2, fun ty => by rw [← hp2]; exact hrun ty, hc, hf, rfl, by rw [← hp2]; exact hKr, v, fun _ _ => rfl, ?_, rfl⟩
  rw [← hp2]
  have hRg : R ≠ g := by have := h.hR; omega
  refine ⟨(h.r7.same (w' := w2) hR2 (Nat.le_trans (Nat.le_refl _) hB2.size)).same (Below.heap_setCell _ _ _ _ hRg) (by simp [World.setCell]), h.hR, Nat.le_trans h.hB hKr.size, takeT_ok (bl := fun _ => true) (s := s) (t := ⟨5, ⟨#[]⟩, vl, 0⟩) (by
    show (match s.op.getLast? with
     | none => _
     | some i => match s.es[i]? with
       | none => _
       | some e => _) = _
    rw [hi]
    dsimp only
    rw [he0]) h.ok, f', _, ex, (by
      rw [hL.h5, show sx.length + 1 = (sx ++ [o]).length by simp]
      exact hT'), ?_, ?_⟩
  · rw [show (sx ++ [o]).set sx.length { o with tx := o.tx ++ vl, tv := v2 } = sx ++ [{ o with tx := o.tx ++ vl, tv := v2 }] by rw [List.set_append_right _ _ (Nat.le_refl _), Nat.sub_self]; rfl]
    have hsp := last_split hi
    have hni := last_not_mem hi h.ok.up
    have hil := h.ok.lt i (List.mem_of_getLast? hi)
    show List.map Opn.q _ = s.op.map (opQ (s.es.set i { e with tx := e.tx ++ vl }))
    conv => rhs; rw [hsp]
    rw [List.map_append, List.map_append, hL.hs]
    congr 1
    · exact List.map_congr_left fun j hj => (opQ_set s.es i j _ (fun ej => hni (by rw [← ej]; exact hj))).symm
    · simp only [List.map_cons, List.map_nil]
      rw [opQ_set_same _ _ _ hil]
      unfold Opn.q
      dsimp only
      rw [hq.1, hq.2.1, htx]
  · rw [hL.he]
    exact (hide_txt s.op s.es i e he0 (List.mem_of_getLast? hi) _).symm
set_option maxRecDepth 100000 in
set_option maxHeartbeats 4000000 in
theorem tText_any (R bot : Nat) (v : Nat → Value) (s : PSt) (nm vl : ByteArray) (p : Nat) (w : World) (h : Rdr w R bot v s) (h2 : v 2 = .string vl) (hvl : vl.size ≤ 9223372036854775806) (hl : ∀ i e, s.op.getLast? = some i → s.es[i]? = some e → e.tx.size + vl.size ≤ 140737488355328) :
    Calls Tryz.prog 48 #[.pointer (some ⟨R, 0, none⟩)] w (TakePost R bot w v (takeT blankB s ⟨5, nm, vl, p⟩)) := by
  have hz : takeT blankB s ⟨5, nm, vl, p⟩ = (match s.op.getLast? with
     | none => if blankB vl then .ok s else .error 53
     | some i => match s.es[i]? with
       | none => .ok s
       | some e => .ok ⟨s.op, s.es.set i { e with tx := e.tx ++ vl }⟩) := rfl
  rw [hz]
  obtain ⟨pa, ca, h5⟩ := h.sl
  have cD := depth_same R v _ _ _ w h.r7 h5
  cases hi : s.op.getLast? with
  | none =>
    have h0 : s.op = [] := List.getLast?_eq_none_iff.1 hi
    rw [h0] at cD
    have e2 := h.r7.c 2 (by decide)
    rw [h2] at e2
    have cB := Blank_any vl (by omega) w
    dsimp only
    cases hb : blankB vl with
    | true =>
      rw [hb] at cB
      rw [if_pos rfl]
      have HX : Hid (∀ w', Below w.heap.size w w' → TakePost R bot w v (.ok s) (.returned (.tuple #[])) w') := Hid.mkT fun w' hb => ⟨rfl, Kr.of (hb.mono h.hB), v, fun _ _ => rfl, h.below hb, rfl⟩
      clear h hz hi h0 h2 h5 hl
      go_enter Tryz.func48, Tryz.ntmps48
      go_wp2_with (first
        | (go_at_call 68; refine cD.mono ?_; rintro _ w' ⟨rfl, hw'⟩; replace hw' := hw'.symm; subst hw')
        | (go_at_call 74; refine cB.mono ?_; rintro _ w1 ⟨rfl, hb1⟩))
      go_end0
      exact HX.out _ hb1
    | false =>
      rw [hb] at cB
      rw [if_neg (by decide)]
      have cF := fun (w' : World) (hb : Below w.heap.size w w') => refuse_any R v 53 w' (h.r7.below hb)
      have HX : Hid (∀ w', Below w.heap.size w w' → TakePost R bot w v (.error 53) (.returned (.tuple #[])) (w'.setCell ⟨R, 4, none⟩ (.int .i64 53))) := Hid.mkT fun w' hb => ⟨rfl, (Kr.of (hb.mono h.hB)).trans (Kr.set R bot 4 _ _), up7 v 4 (.int .i64 53), fun o ho => up7_ne _ _ (by omega), (h.r7.below hb).set 4 _, up7_same _ _ _⟩
      clear h hz hi h0 h2 h5 hl
      go_enter Tryz.func48, Tryz.ntmps48
      go_wp2_with (first
        | (go_at_call 68; refine cD.mono ?_; rintro _ w' ⟨rfl, hw'⟩; replace hw' := hw'.symm; subst hw')
        | (go_at_call 74; refine cB.mono ?_; rintro _ w1 ⟨rfl, hb1⟩; have cF1 := cF w1 hb1)
        | (go_at_call 51; refine cF1.mono ?_; rintro _ _ ⟨rfl, rfl⟩))
      go_end0
      exact HX.out _ hb1
  | some i =>
    obtain ⟨e, he0, f, sx, o, ex, x, g, c, gE, cE, hL⟩ := h.last hi
    dsimp only
    rw [he0]
    dsimp only
    have hn : sx.length ≤ 16 := by have := hL.ln; have := h.ok.ol; omega
    have cI := innermost_any R v g sx.length c w h.r7 hL.h5 hn
    have F := fun m => text_facts (h.drewN m) hi he0 (⟨hL.h5, hL.h6, hL.hc, hL.tr.same (W' := w.drewN m) (fun _ _ _ => rfl), hL.hs, hL.hq, hL.he, hL.hx, hL.xe, hL.ln, hL.el⟩ : Ls (w.drewN m) bot v s i e f sx o ex x g c gE cE) vl h2 (hl i e hi he0)
    have HP : Hid (∀ m r w', TakePost R bot (w.drewN m) v (.ok ⟨s.op, s.es.set i { e with tx := e.tx ++ vl }⟩) r w' → TakePost R bot w v (.ok ⟨s.op, s.es.set i { e with tx := e.tx ++ vl }⟩) r w') := Hid.mkT fun m r w' ⟨h0, h1, h2⟩ => ⟨h0, ⟨h1.os, h1.tape, h1.output, h1.size, h1.block⟩, h2⟩
    have z0 : (0 : Int) < (s.op.length : Int) := by have := hL.ln; omega
    generalize (Except.ok (⟨s.op, s.es.set i { e with tx := e.tx ++ vl }⟩ : PSt) : Except Nat PSt) = Z at F HP ⊢
    generalize s.op.length = N at cD z0
    generalize (lOf e.tx).length = T at F
    generalize (lOf vl).length = U at F
    clear h hL he0 hi hz h2 h5 hl
    go_enter Tryz.func48, Tryz.ntmps48
    go_wp2_with (first
      | (go_at_call 68; refine cD.mono ?_; rintro _ w' ⟨rfl, hw'⟩; replace hw' := hw'.symm; subst hw')
      | (go_at_call 70; refine cI.mono ?_; rintro _ w0 ⟨rfl, m, hw0⟩; obtain ⟨pt, ct, p2, c2, w2, k2, kR, hrun, kc, kf, hX⟩ := F m; have HP2 := Hid.mkT (HP.out m); rw [← hw0] at k2 kR hrun hX HP2; clear F HP hw0 cI cD))
    replace hX := Hid.mkT hX
    go_region_law (refine step_append_ex ?_ (.tmp 16) (.tmp 23) _ _ ?_ _ _ ?_ ?_ (fun a b => a = _ ∧ b = w2) ⟨_, w2, hrun, rfl, rfl⟩ ?_; rfl; rfl; rfl; rfl; rintro _ _ ⟨rfl, rfl⟩)
    all_goals
      go_wp2_with fail
      go_end0
      exact HP2.out _ _ hX.out
end Go.Proofs.YtchfphakhmifmabGreatDoor
namespace Go.Proofs.YtchfphakhmifmabGreatDoor
open Go.ChangeShapes Go.WideShapes Go.ChangeAt Go.RowKit Go.Lib

theorem hideE_ats (op : List Nat) (i : Nat) (e : El) : (hideE op i e).ats = e.ats := by unfold hideE; split <;> rfl
theorem Ls.arow {W : World} {bot : Nat} {v : Nat → Value} {s : PSt} {i : Nat} {e : El} {f : Nat → Rw} {sx : List Opn} {o : Opn} {ex : List Elx} {x : Elx} {g c gE cE : Nat} (h : Ls W bot v s i e f sx o ex x g c gE cE) : ∃ pa ca, x.av = .slice pa e.ats.length ca ∧ ARow W pa W.heap.size e.ats := by
  have h1 := h.tr.ownA h.hx
  rw [h.xe, hideE_ats] at h1
  rcases h1.2 with ⟨e1, h0⟩ | ⟨g', cap, cur, e1, hb, hg, hn, hm, hs, hx⟩
  · refine ⟨none, 0, by rw [e1, h0], ⟨fun j t ht => ?_⟩⟩
    rw [List.eq_nil_of_length_eq_zero h0] at ht
    cases ht
  · refine ⟨_, cap, e1, ⟨fun j t ht => ?_⟩⟩
    rw [e1] at h1
    have hgl : g' < W.heap.size := (Array.getElem?_eq_some_iff.1 hg).1
    have a0 := own_get h1 (o := j * 3 + 0) (flat_get attC 3 (fun _ => rfl) _ j t ht 0 (by decide))
    have a1 := own_get h1 (o := j * 3 + 1) (flat_get attC 3 (fun _ => rfl) _ j t ht 1 (by decide))
    have a2 := own_get h1 (o := j * 3 + 2) (flat_get attC 3 (fun _ => rfl) _ j t ht 2 (by decide))
    exact ⟨g', 0, rfl, hgl, by rw [Nat.zero_add]; exact a0.1, by rw [Nat.zero_add]; exact a1.1, by rw [Nat.zero_add]; exact a2.1⟩
theorem opQ_att (es : List El) (i : Nat) (e : El) (h : es[i]? = some e) (l : List Att) (j : Nat) : opQ (es.set i { e with ats := l }) j = opQ es j := by
  by_cases hj : j = i
  · subst hj
    have hl := (List.getElem?_eq_some_iff.1 h).1
    rw [opQ_set_same _ _ _ hl]
    unfold opQ
    rw [h]
  · exact opQ_set _ _ _ _ hj
abbrev attL (nm vl : ByteArray) (p : Nat) : Obj := .cells #[.string nm, .string vl, .int .i64 (p : Int)] 54
theorem attr_facts {w : World} {R bot : Nat} {v : Nat → Value} {s : PSt} {i : Nat} {e : El} {f : Nat → Rw} {sx : List Opn} {o : Opn} {ex : List Elx} {x : Elx} {g c gE cE : Nat} (h : Rdr w R bot v s) (hi : s.op.getLast? = some i) (he0 : s.es[i]? = some e) (hL : Ls w bot v s i e f sx o ex x g c gE cE) (nm vl : ByteArray) (p : Nat) (h1 : v 1 = .string nm) (h2 : v 2 = .string vl) (h3 : v 3 = .int .i64 (p : Int))
    (hok' : POk ⟨s.op, s.es.set i { e with ats := e.ats ++ [⟨nm, vl, (p : Int)⟩] }⟩) :
    ∃ pa ca p3 c3 w3, (w.cell? ⟨gE, i * 5 + 2, none⟩ = some (.slice pa e.ats.length ca) ∧ (w.alloc (attL nm vl p)).cell? ⟨gE, i * 5 + 2, none⟩ = some (.slice pa e.ats.length ca) ∧ w3.cell? ⟨gE, i * 5 + 2, none⟩ = some (.slice pa e.ats.length ca) ∧ w3.frozen? ⟨gE, i * 5 + 2, none⟩ = false) ∧
      (w.cell? ⟨R, 1, none⟩ = some (.string nm) ∧ w.cell? ⟨R, 2, none⟩ = some (.string vl) ∧ w.cell? ⟨R, 3, none⟩ = some (.int .i64 (p : Int))) ∧
      ((w.alloc (attL nm vl p)).cell? ⟨R, 1, none⟩ = some (.string nm) ∧ (w.alloc (attL nm vl p)).cell? ⟨R, 2, none⟩ = some (.string vl) ∧ (w.alloc (attL nm vl p)).cell? ⟨R, 3, none⟩ = some (.int .i64 (p : Int))) ∧
      (w3.cell? ⟨R, 1, none⟩ = some (.string nm) ∧ w3.cell? ⟨R, 2, none⟩ = some (.string vl) ∧ w3.cell? ⟨R, 3, none⟩ = some (.int .i64 (p : Int))) ∧
      ((w3.setCell ⟨gE, i * 5 + 2, none⟩ (.slice p3 (e.ats.length + 1) c3)).cell? ⟨R, 1, none⟩ = some (.string nm) ∧ (w3.setCell ⟨gE, i * 5 + 2, none⟩ (.slice p3 (e.ats.length + 1) c3)).cell? ⟨R, 2, none⟩ = some (.string vl) ∧ (w3.setCell ⟨gE, i * 5 + 2, none⟩ (.slice p3 (e.ats.length + 1) c3)).cell? ⟨R, 3, none⟩ = some (.int .i64 (p : Int))) ∧
      (∀ ty, (Builtin.append_ #[30, 30] ty #[.slice pa e.ats.length ca, .slice (some ⟨w.heap.size, 0, none⟩) 1 1]).run Tryz.prog (w.alloc (attL nm vl p)).drew = .ok (.slice p3 (e.ats.length + 1) c3) w3) ∧
      TakePost R bot w v (.ok ⟨s.op, s.es.set i { e with ats := e.ats ++ [⟨nm, vl, (p : Int)⟩] }⟩) (.returned (.tuple #[])) (w3.setCell ⟨gE, i * 5 + 2, none⟩ (.slice p3 (e.ats.length + 1) c3)) := by
  obtain ⟨-, ⟨b2, b2f, -⟩, -, -, hgE, hgEl, -⟩ := hL.cells
  have hats : x.e.ats = e.ats := by rw [hL.xe, hideE_ats]
  have hal := h.ok.al e (List.mem_of_getElem? he0)
  have hB3 : Below w.heap.size w (w.alloc (attL nm vl p)).drew := (bel1 w _).drew
  have hTr := hL.tr
  rw [hL.h6] at hTr
  obtain ⟨v3, w3, hrun, hown, hgr, hbk⟩ := ap1 (t := 30) Tryz.underlying30 infoAt rfl (by decide) ((hTr.keep hB3).ownA hL.hx) (theap_new w (attL nm vl p)) rfl (fun u hu => by simp only [List.mem_cons, List.not_mem_nil, or_false] at hu; rcases hu with rfl | rfl | rfl <;> rfl) (by rw [hats]; omega) (by decide) (Nat.le_trans h.hB hB3.size)
  have hob : ∀ j, x.av.ownBlock = some j → bot ≤ j := fun j hj => (ownLt (hTr.ownA hL.hx) hj).1
  obtain ⟨hK3, hbk3⟩ := kr_grown (R := R) h.hB hB3 hgr hob
  have h73 := h.r7.same (hbk3 R h.hR) hK3.size
  obtain ⟨f3, hT3⟩ := hTr.attr hL.hx hB3 ⟨nm, vl, (p : Int)⟩ hown hgr hbk
  obtain ⟨pa, ca, hpa⟩ := own_sl (hTr.ownA hL.hx)
  obtain ⟨p3, c3, hp3⟩ := own_sl hown
  rw [hats] at hpa hp3
  have hgx : x.av.ownBlock ≠ some gE := by
    have := hTr.pf.apart 1 (3 + 2 * i) (by omega) gE (by rw [hTr.f1]; rfl)
    rwa [hTr.fa _ _ hL.hx] at this
  have hgk : w3.heap[gE]? = w.heap[gE]? := (hgr.block gE (Nat.lt_of_lt_of_le hgEl hB3.size) (fun e => hgx e.symm)).trans (hB3.block gE hgEl)
  have hx2 : w3.cell? ⟨gE, i * 5 + 2, none⟩ = some x.av := by rw [← b2]; simp only [World.cell?, hgk]
  have hf2 : w3.frozen? ⟨gE, i * 5 + 2, none⟩ = false := by rw [← b2f]; simp only [World.frozen?, hgk]
  have hRg : R ≠ gE := by have := h.hR; omega
  have cs : ∀ W : World, R7 W R v → W.cell? ⟨R, 1, none⟩ = some (.string nm) ∧ W.cell? ⟨R, 2, none⟩ = some (.string vl) ∧ W.cell? ⟨R, 3, none⟩ = some (.int .i64 (p : Int)) := fun W h7 => ⟨(h7.c 1 (by decide)).trans (by rw [h1]), (h7.c 2 (by decide)).trans (by rw [h2]), (h7.c 3 (by decide)).trans (by rw [h3])⟩
  have h7s : R7 (w3.setCell ⟨gE, i * 5 + 2, none⟩ v3) R v := h73.same (Below.heap_setCell _ _ _ _ hRg) (by simp [World.setCell])
  have hKr : Kr R bot w (w3.setCell ⟨gE, i * 5 + 2, none⟩ v3) := hK3.trans (Kr.far v3 hgE)
  rw [hpa] at b2 hx2 hrun
  refine ⟨pa, ca, p3, c3, w3, ⟨b2, (hB3.cell (p := ⟨gE, _, none⟩) hgEl).trans b2, hx2, hf2⟩, cs w h.r7, cs _ (h.r7.below (bel1 w _)), cs w3 h73, by rw [← hp3]; exact cs _ h7s, fun ty => by rw [← hp3]; exact hrun ty, rfl, by rw [← hp3]; exact hKr, v, fun _ _ => rfl, ?_, rfl⟩
  rw [← hp3]
  refine ⟨h7s, h.hR, Nat.le_trans h.hB hKr.size, hok', f3, sx ++ [o], _, (by rw [hL.h6]; exact hT3), ?_, ?_⟩
  · show List.map Opn.q (sx ++ [o]) = s.op.map (opQ (s.es.set i { e with ats := e.ats ++ [⟨nm, vl, (p : Int)⟩] }))
    rw [List.map_congr_left (g := opQ s.es) (fun j _ => opQ_att s.es i e he0 _ j)]
    conv => rhs; rw [last_split hi]
    rw [List.map_append, List.map_append, hL.hs]
    congr 1
    simp only [List.map_cons, List.map_nil]
    rw [hL.hq]
    unfold opQ
    rw [he0]
  · show List.map Elx.e (ex.set i _) = hide s.op (s.es.set i _)
    rw [List.map_set, hL.he, hide_att s.op s.es i e he0, ← hL.xe, hats]
end Go.Proofs.YtchfphakhmifmabGreatDoor
namespace Go.Proofs.YtchfphakhmifmabGreatDoor
open Go.ChangeShapes Go.WideShapes Go.ChangeAt Go.RowKit Go.Lib

theorem ent_hasAttr : ∀ ag w, (callFunc 71 ag).run Tryz.prog w = .ok (.enter 71 ag) w := enters_of Tryz.func71 (by kernel_rfl) rfl
set_option maxRecDepth 100000 in
set_option maxHeartbeats 8000000 in
theorem tAttr_any (R bot : Nat) (v : Nat → Value) (s : PSt) (i : Nat) (nm vl : ByteArray) (p : Nat) (bl : ByteArray → Bool) (w : World) (h : Rdr w R bot v s) (hi : s.op.getLast? = some i) (h1 : v 1 = .string nm) (h2 : v 2 = .string vl) (h3 : v 3 = .int .i64 (p : Int)) :
    Calls Tryz.prog 44 #[.pointer (some ⟨R, 0, none⟩)] w (TakePost R bot w v (takeT bl s ⟨1, nm, vl, p⟩)) := by
  obtain ⟨e, he0, f, sx, o, ex, x, g, c, gE, cE, hL⟩ := h.last hi
  have hz : takeT bl s ⟨1, nm, vl, p⟩ = (if hasA e.ats nm then .error 52 else if e.ats.length = 24 then .error 54 else .ok ⟨s.op, s.es.set i { e with ats := e.ats ++ [⟨nm, vl, (p : Int)⟩] }⟩) := by
    show (match s.op.getLast? with
     | none => _
     | some i => match s.es[i]? with
       | none => _
       | some e => _) = _
    rw [hi]
    dsimp only
    rw [he0]
  have hn : sx.length ≤ 16 := by have := hL.ln; have := h.ok.ol; omega
  have cI := fun m => innermost_any R v g sx.length c (w.drewN m) (h.r7.drewN m) hL.h5 hn
  obtain ⟨⟨a0, -, -, -⟩, ⟨b2, b2f, -⟩, -, -, hgE, hgEl, -⟩ := hL.cells
  obtain ⟨pa, ca, hpa, hA⟩ := hL.arow
  rw [hpa] at b2
  have e6 := h.r7.c 6 (by decide)
  have e1 := h.r7.c 1 (by decide)
  rw [hL.h6] at e6
  rw [h1] at e1
  have hxl : i < ex.length := (List.getElem?_eq_some_iff.1 hL.hx).1
  have hxi : (i : Int) < ex.length := by omega
  have hal := h.ok.al e (List.mem_of_getElem? he0)
  have cH := fun m => (hasAttr_any e.ats pa ca nm (w.drewN m).drew (hA.below (w' := (w.drewN m).drew) ⟨rfl, rfl, rfl, Nat.le_refl _, fun _ _ => rfl⟩) (by omega)).mono (R' := fun r w' => ∃ u, r = .returned u ∧ (u = .bool (hasA e.ats nm) ∧ Below w.heap.size w w')) fun r w' q => ⟨_, q.1, rfl, ⟨q.2.os, q.2.tape, q.2.output, q.2.size, q.2.block⟩⟩
  have HBe : Hid (∀ w', Below w.heap.size w w' → w'.cell? ⟨gE, i * 5 + 2, none⟩ = some (.slice pa e.ats.length ca)) := Hid.mkT fun w' hb => (hb.cell (p := ⟨gE, _, none⟩) hgEl).trans b2
  have HR : Hid (∀ er w', Below w.heap.size w w' → TakePost R bot w v (.error er) (.returned (.tuple #[])) (w'.setCell ⟨R, 4, none⟩ (.int .i64 (er : Int)))) := Hid.mkT fun er w' hb => ⟨rfl, (Kr.of (hb.mono h.hB)).trans (Kr.set R bot 4 _ _), up7 v 4 (.int .i64 (er : Int)), fun q hq => up7_ne _ _ (by omega), (h.r7.below hb).set 4 _, up7_same _ _ _⟩
  have HF : Hid (∀ (er : Int) w', Below w.heap.size w w' → Calls Tryz.prog 51 #[.pointer (some ⟨R, 0, none⟩), .int .i64 er] w' fun e w'' => e = .returned (.tuple #[]) ∧ w'' = w'.setCell ⟨R, 4, none⟩ (.int .i64 er)) := Hid.mkT fun er w' hb => refuse_any R v er w' (h.r7.below hb)
  by_cases hh : hasA e.ats nm = true
  · rw [hz, if_pos hh]
    rw [hh] at cH
    clear hz hL he0 hi h1 h2 h3 hpa hA h b2f hh
    go_enter Tryz.func44, Tryz.ntmps44
    go_wp2_with fail
    go_quiet ((go_at_call 70; exact Calls.quiet_of (cI _)))
    go_wp2_with fail
    go_region_law (refine xstep2 ?_ _ (.tmp 50) (.tmp 57) #[30, 9] ?_ ent_hasAttr _ _ ?_ ?_ _ (cH _) ?_; rfl; rfl; rfl; rfl; rintro _ w1 ⟨rfl, hB1⟩)
    all_goals
      go_wp2_with (go_at_call 51; refine (HF.out _ _ hB1).mono ?_; rintro _ _ ⟨rfl, rfl⟩)
      go_end0
      exact HR.out 52 _ hB1
  · rw [hz, if_neg hh]
    rw [Bool.not_eq_true] at hh
    rw [hh] at cH
    by_cases h24 : e.ats.length = 24
    · rw [if_pos h24]
      have z4 : ((e.ats.length : Int) == 24) = true := beq_iff_eq.2 (by omega)
      have z4' : (e.ats.length : Int) = 24 := by omega
      clear hz hL he0 hi h1 h2 h3 hpa hA h b2f hh h24
      go_enter Tryz.func44, Tryz.ntmps44
      go_wp2_with fail
      go_quiet ((go_at_call 70; exact Calls.quiet_of (cI _)))
      go_wp2_with fail
      go_region_law (refine xstep2 ?_ _ (.tmp 50) (.tmp 57) #[30, 9] ?_ ent_hasAttr _ _ ?_ ?_ _ (cH _) ?_; rfl; rfl; rfl; rfl; rintro _ w1 ⟨rfl, hB1⟩)
      all_goals
        have k2 := HBe.out w1 hB1
        go_wp2_with (go_at_call 51; refine (HF.out _ _ hB1).mono ?_; rintro _ _ ⟨rfl, rfl⟩)
        go_end0
        exact HR.out 54 _ hB1
    · rw [if_neg h24]
      have z4' : ¬ (e.ats.length : Int) = 24 := by omega
      have z4 : ((e.ats.length : Int) == 24) = false := beq_eq_false_iff_ne.2 z4'
      have hok' : POk ⟨s.op, s.es.set i { e with ats := e.ats ++ [⟨nm, vl, (p : Int)⟩] }⟩ := takeT_ok (bl := bl) (t := ⟨1, nm, vl, p⟩) (by rw [hz, if_neg (by rw [hh]; decide), if_neg h24]) h.ok
      have F := fun w' (hb : Below w.heap.size w w') => attr_facts (h.below hb) hi he0 (⟨hL.h5, hL.h6, hL.hc, hL.tr.keep hb, hL.hs, hL.hq, hL.he, hL.hx, hL.xe, hL.ln, hL.el⟩ : Ls w' bot v s i e f sx o ex x g c gE cE) nm vl p h1 h2 h3 hok'
      have HP : Hid (∀ w' (hb : Below w.heap.size w w') w'', TakePost R bot w' v (.ok ⟨s.op, s.es.set i { e with ats := e.ats ++ [⟨nm, vl, (p : Int)⟩] }⟩) (.returned (.tuple #[])) w'' → TakePost R bot w v (.ok ⟨s.op, s.es.set i { e with ats := e.ats ++ [⟨nm, vl, (p : Int)⟩] }⟩) (.returned (.tuple #[])) w'') := Hid.mkT fun w' hb w'' ⟨h0, h1, h2⟩ => ⟨h0, (Kr.of (hb.mono h.hB)).trans h1, h2⟩
      generalize (Except.ok (⟨s.op, s.es.set i { e with ats := e.ats ++ [⟨nm, vl, (p : Int)⟩] }⟩ : PSt) : Except Nat PSt) = Z at F HP ⊢
      have HB1 : Hid (∀ w', Below w.heap.size w w' → w'.cell? ⟨R, 1, none⟩ = some (.string nm)) := Hid.mkT fun w' hb => (hb.cell (p := ⟨R, 1, none⟩) h.r7.lt).trans e1
      generalize e.ats.length = N at F b2 z4 z4' cH HBe
      clear hz hL he0 hi h1 h2 h3 hpa hA h b2f hh h24 hok' hal HR HF
      go_enter Tryz.func44, Tryz.ntmps44
      go_wp2_with fail
      go_quiet ((go_at_call 70; exact Calls.quiet_of (cI _)))
      go_wp2_with fail
      refine wp_region_held_drew (S := fun w' => w'.cell? ⟨gE, i * 5 + 2, none⟩ = some (.slice pa N ca) ∧ w'.cell? ⟨R, 1, none⟩ = some (.string nm)) (by kernel_rfl) ⟨b2, e1⟩ (fun hHeld => ?_)
      refine wpAnyH_take (i := 0) (oi := { dst := some 47, op := Op.move (Operand.tmp 2), type := 120, pos := "reader.go:104", after := #[], guard := none }) (v := ?v1) rfl (by kernel_rfl) (by kernel_rfl) (by kernel_rfl) (fun _ _ _ h => h) (Or.inl ⟨by rfl, ?hy1⟩) (by assumption) ?rest1
      case hy1 => (intro w hSw; (try dsimp only at hSw); go_simp <;> with_reducible rfl)
      try simp only [Act.put, List.setIfInBounds_toArray, List.set_cons_zero, List.set_cons_succ]
      refine wpAnyH_take (i := 1) (oi := { dst := some 48, op := Op.nilCheck (Operand.tmp 47), type := 0, pos := "reader.go:104", after := #[{ on := 0, ground := Ground.data }], guard := none }) (v := ?v2) rfl (by kernel_rfl) (by kernel_rfl) (by kernel_rfl) (fun _ _ _ h => h) (Or.inl ⟨by rfl, ?hy2⟩) (by assumption) ?rest2
      case hy2 => (intro w hSw; (try dsimp only at hSw); go_simp <;> with_reducible rfl)
      try simp only [Act.put, List.setIfInBounds_toArray, List.set_cons_zero, List.set_cons_succ]
      refine wpAnyH_take (i := 2) (oi := { dst := some 49, op := Op.fieldAddr 32 (Operand.tmp 48) 2, type := 0, pos := "reader.go:104", after := #[{ on := 1, ground := Ground.data }], guard := none }) (v := ?v3) rfl (by kernel_rfl) (by kernel_rfl) (by kernel_rfl) (fun _ _ _ h => h) (Or.inl ⟨by rfl, ?hy3⟩) (by assumption) ?rest3
      case hy3 => (intro w hSw; (try dsimp only at hSw); go_simp <;> with_reducible rfl)
      try simp only [Act.put, List.setIfInBounds_toArray, List.set_cons_zero, List.set_cons_succ]
      refine wpAnyH_take (i := 3) (oi := { dst := some 50, op := Op.load 30 (Operand.tmp 49), type := 30, pos := "reader.go:104", after := #[{ on := 2, ground := Ground.data }], guard := none }) (v := ?v4) rfl (by kernel_rfl) (by kernel_rfl) (by kernel_rfl) (fun _ _ _ h => h) (Or.inl ⟨by rfl, ?hy4⟩) (by assumption) ?rest4
      case hy4 => (intro w hSw; (try dsimp only at hSw); go_simp <;> with_reducible rfl)
      try simp only [Act.put, List.setIfInBounds_toArray, List.set_cons_zero, List.set_cons_succ]
      refine wpAnyH_take (i := 4) (oi := { dst := some 51, op := Op.move (Operand.tmp 0), type := 95, pos := "reader.go:104", after := #[], guard := none }) (v := ?v5) rfl (by kernel_rfl) (by kernel_rfl) (by kernel_rfl) (fun _ _ _ h => h) (Or.inl ⟨by rfl, ?hy5⟩) (by assumption) ?rest5
      case hy5 => (intro w hSw; (try dsimp only at hSw); go_simp <;> with_reducible rfl)
      try simp only [Act.put, List.setIfInBounds_toArray, List.set_cons_zero, List.set_cons_succ]
      refine wpAnyH_take (i := 5) (oi := { dst := some 52, op := Op.nilCheck (Operand.tmp 51), type := 0, pos := "reader.go:104", after := #[{ on := 4, ground := Ground.data }], guard := none }) (v := ?v6) rfl (by kernel_rfl) (by kernel_rfl) (by kernel_rfl) (fun _ _ _ h => h) (Or.inl ⟨by rfl, ?hy6⟩) (by assumption) ?rest6
      case hy6 => (intro w hSw; (try dsimp only at hSw); go_simp <;> with_reducible rfl)
      try simp only [Act.put, List.setIfInBounds_toArray, List.set_cons_zero, List.set_cons_succ]
      refine wpAnyH_take (i := 6) (oi := { dst := some 53, op := Op.fieldAddr 74 (Operand.tmp 52) 0, type := 0, pos := "reader.go:104", after := #[{ on := 5, ground := Ground.data }], guard := none }) (v := ?v7) rfl (by kernel_rfl) (by kernel_rfl) (by kernel_rfl) (fun _ _ _ h => h) (Or.inl ⟨by rfl, ?hy7⟩) (by assumption) ?rest7
      case hy7 => (intro w hSw; (try dsimp only at hSw); go_simp <;> with_reducible rfl)
      try simp only [Act.put, List.setIfInBounds_toArray, List.set_cons_zero, List.set_cons_succ]
      refine wpAnyH_take (i := 7) (oi := { dst := some 54, op := Op.fieldAddr 72 (Operand.tmp 53) 0, type := 0, pos := "reader.go:104", after := #[{ on := 6, ground := Ground.data }], guard := none }) (v := ?v8) rfl (by kernel_rfl) (by kernel_rfl) (by kernel_rfl) (fun _ _ _ h => h) (Or.inl ⟨by rfl, ?hy8⟩) (by assumption) ?rest8
      case hy8 => (intro w hSw; (try dsimp only at hSw); go_simp <;> with_reducible rfl)
      try simp only [Act.put, List.setIfInBounds_toArray, List.set_cons_zero, List.set_cons_succ]
      refine wpAnyH_take (i := 8) (oi := { dst := some 55, op := Op.fieldAddr 69 (Operand.tmp 54) 0, type := 0, pos := "reader.go:104", after := #[{ on := 7, ground := Ground.data }], guard := none }) (v := ?v9) rfl (by kernel_rfl) (by kernel_rfl) (by kernel_rfl) (fun _ _ _ h => h) (Or.inl ⟨by rfl, ?hy9⟩) (by assumption) ?rest9
      case hy9 => (intro w hSw; (try dsimp only at hSw); go_simp <;> with_reducible rfl)
      try simp only [Act.put, List.setIfInBounds_toArray, List.set_cons_zero, List.set_cons_succ]
      refine wpAnyH_take (i := 9) (oi := { dst := some 56, op := Op.fieldAddr 67 (Operand.tmp 55) 1, type := 0, pos := "reader.go:104", after := #[{ on := 8, ground := Ground.data }], guard := none }) (v := ?v10) rfl (by kernel_rfl) (by kernel_rfl) (by kernel_rfl) (fun _ _ _ h => h) (Or.inl ⟨by rfl, ?hy10⟩) (by assumption) ?rest10
      case hy10 => (intro w hSw; (try dsimp only at hSw); go_simp <;> with_reducible rfl)
      try simp only [Act.put, List.setIfInBounds_toArray, List.set_cons_zero, List.set_cons_succ]
      refine wpAnyH_take (i := 10) (oi := { dst := some 57, op := Op.load 9 (Operand.tmp 56), type := 9, pos := "reader.go:104", after := #[{ on := 9, ground := Ground.data }], guard := none }) (v := ?v11) rfl (by kernel_rfl) (by kernel_rfl) (by kernel_rfl) (fun _ _ _ h => h) (Or.inl ⟨by rfl, ?hy11⟩) (by assumption) ?rest11
      case hy11 => (intro w hSw; (try dsimp only at hSw); go_simp <;> with_reducible rfl)
      try simp only [Act.put, List.setIfInBounds_toArray, List.set_cons_zero, List.set_cons_succ]
      refine wpAnyH_ready (rs := [11]) (by kernel_rfl) (by simp) (AllReadyH.cons (o := { dst := some 58, op := Op.call { callee := Callee.value (Operand.func 71), args := #[Operand.tmp 50, Operand.tmp 57], argTypes := #[30, 9] }, type := 4, pos := "reader.go:104", after := #[{ on := 3, ground := Ground.data }, { on := 10, ground := Ground.data }], guard := none }) rfl (fun K hK => ?_) (AllReadyH.nil))
      refine xstep2 ?_ _ (.tmp 50) (.tmp 57) #[30, 9] ?_ ent_hasAttr _ _ ?_ ?_ _ (cH _) ?_
      · rfl
      · rfl
      · rfl
      · rfl
      rintro _ w1 ⟨rfl, hB1⟩
      refine hK.out _ _ ⟨HBe.out w1 hB1, HB1.out w1 hB1⟩ (fun hHeld => ?_)
      clear hK K
      try simp only [Act.put, List.setIfInBounds_toArray, List.set_cons_zero, List.set_cons_succ]
      refine wpAnyH_take (i := 12) (oi := { dst := some 46, op := Op.assign (Operand.tmp 58), type := 4, pos := "reader.go:104", after := #[{ on := 11, ground := Ground.data }, { on := 11, ground := Ground.chain }], guard := none }) (v := ?v12) rfl (by kernel_rfl) (by kernel_rfl) (by kernel_rfl) (fun _ _ _ h => h) (Or.inl ⟨by rfl, ?hy12⟩) (by assumption) ?rest12
      case hy12 => (intro w hSw; (try dsimp only at hSw); go_simp <;> with_reducible rfl)
      try simp only [Act.put, List.setIfInBounds_toArray, List.set_cons_zero, List.set_cons_succ]
      refine wpAnyH_done (by kernel_rfl) ?_ _
      obtain ⟨pa, ca, p3, c3, w3, ⟨k2, j2, x2, g2⟩, kR, kJ, kX, kY, hrun, hX⟩ := F w1 hB1
      have HP2 := Hid.mkT (HP.out w1 hB1)
      replace hX := Hid.mkT hX
      clear F HP cI cH HBe HB1 hB1 b2 e6 e1 a0 hHeld
      go_wp2_with fail
      refine wp_region_held_drew (S := fun w' => w'.cell? ⟨R, 1, none⟩ = some (.string nm) ∧ w'.cell? ⟨R, 2, none⟩ = some (.string vl) ∧ w'.cell? ⟨R, 3, none⟩ = some (.int .i64 (p : Int))) (by kernel_rfl) kR (fun hHeld => ?_)
      refine wpAnyH_take (i := 0) (oi := { dst := some 15, op := Op.move (Operand.tmp 2), type := 120, pos := "reader.go:109", after := #[], guard := none }) (v := ?v13) rfl (by kernel_rfl) (by kernel_rfl) (by kernel_rfl) (fun _ _ _ h => h) (Or.inl ⟨by rfl, ?hy13⟩) (by assumption) ?rest13
      case hy13 => (intro w hSw; (try dsimp only at hSw); go_simp <;> with_reducible rfl)
      try simp only [Act.put, List.setIfInBounds_toArray, List.set_cons_zero, List.set_cons_succ]
      refine wpAnyH_take (i := 1) (oi := { dst := some 16, op := Op.move (Operand.tmp 2), type := 120, pos := "reader.go:109", after := #[], guard := none }) (v := ?v14) rfl (by kernel_rfl) (by kernel_rfl) (by kernel_rfl) (fun _ _ _ h => h) (Or.inl ⟨by rfl, ?hy14⟩) (by assumption) ?rest14
      case hy14 => (intro w hSw; (try dsimp only at hSw); go_simp <;> with_reducible rfl)
      try simp only [Act.put, List.setIfInBounds_toArray, List.set_cons_zero, List.set_cons_succ]
      refine wpAnyH_take (i := 2) (oi := { dst := some 17, op := Op.nilCheck (Operand.tmp 16), type := 0, pos := "reader.go:109", after := #[{ on := 1, ground := Ground.data }], guard := none }) (v := ?v15) rfl (by kernel_rfl) (by kernel_rfl) (by kernel_rfl) (fun _ _ _ h => h) (Or.inl ⟨by rfl, ?hy15⟩) (by assumption) ?rest15
      case hy15 => (intro w hSw; (try dsimp only at hSw); go_simp <;> with_reducible rfl)
      try simp only [Act.put, List.setIfInBounds_toArray, List.set_cons_zero, List.set_cons_succ]
      refine wpAnyH_take (i := 3) (oi := { dst := some 18, op := Op.fieldAddr 32 (Operand.tmp 17) 2, type := 0, pos := "reader.go:109", after := #[{ on := 2, ground := Ground.data }], guard := none }) (v := ?v16) rfl (by kernel_rfl) (by kernel_rfl) (by kernel_rfl) (fun _ _ _ h => h) (Or.inl ⟨by rfl, ?hy16⟩) (by assumption) ?rest16
      case hy16 => (intro w hSw; (try dsimp only at hSw); go_simp <;> with_reducible rfl)
      try simp only [Act.put, List.setIfInBounds_toArray, List.set_cons_zero, List.set_cons_succ]
      refine wpAnyH_take (i := 5) (oi := { dst := some 20, op := Op.move (Operand.tmp 0), type := 95, pos := "reader.go:109", after := #[], guard := none }) (v := ?v17) rfl (by kernel_rfl) (by kernel_rfl) (by kernel_rfl) (fun _ _ _ h => h) (Or.inl ⟨by rfl, ?hy17⟩) (by assumption) ?rest17
      case hy17 => (intro w hSw; (try dsimp only at hSw); go_simp <;> with_reducible rfl)
      try simp only [Act.put, List.setIfInBounds_toArray, List.set_cons_zero, List.set_cons_succ]
      refine wpAnyH_take (i := 6) (oi := { dst := some 21, op := Op.nilCheck (Operand.tmp 20), type := 0, pos := "reader.go:109", after := #[{ on := 5, ground := Ground.data }], guard := none }) (v := ?v18) rfl (by kernel_rfl) (by kernel_rfl) (by kernel_rfl) (fun _ _ _ h => h) (Or.inl ⟨by rfl, ?hy18⟩) (by assumption) ?rest18
      case hy18 => (intro w hSw; (try dsimp only at hSw); go_simp <;> with_reducible rfl)
      try simp only [Act.put, List.setIfInBounds_toArray, List.set_cons_zero, List.set_cons_succ]
      refine wpAnyH_take (i := 7) (oi := { dst := some 22, op := Op.fieldAddr 74 (Operand.tmp 21) 0, type := 0, pos := "reader.go:109", after := #[{ on := 6, ground := Ground.data }], guard := none }) (v := ?v19) rfl (by kernel_rfl) (by kernel_rfl) (by kernel_rfl) (fun _ _ _ h => h) (Or.inl ⟨by rfl, ?hy19⟩) (by assumption) ?rest19
      case hy19 => (intro w hSw; (try dsimp only at hSw); go_simp <;> with_reducible rfl)
      try simp only [Act.put, List.setIfInBounds_toArray, List.set_cons_zero, List.set_cons_succ]
      refine wpAnyH_take (i := 8) (oi := { dst := some 23, op := Op.fieldAddr 72 (Operand.tmp 22) 0, type := 0, pos := "reader.go:109", after := #[{ on := 7, ground := Ground.data }], guard := none }) (v := ?v20) rfl (by kernel_rfl) (by kernel_rfl) (by kernel_rfl) (fun _ _ _ h => h) (Or.inl ⟨by rfl, ?hy20⟩) (by assumption) ?rest20
      case hy20 => (intro w hSw; (try dsimp only at hSw); go_simp <;> with_reducible rfl)
      try simp only [Act.put, List.setIfInBounds_toArray, List.set_cons_zero, List.set_cons_succ]
      refine wpAnyH_take (i := 9) (oi := { dst := some 24, op := Op.fieldAddr 69 (Operand.tmp 23) 0, type := 0, pos := "reader.go:109", after := #[{ on := 8, ground := Ground.data }], guard := none }) (v := ?v21) rfl (by kernel_rfl) (by kernel_rfl) (by kernel_rfl) (fun _ _ _ h => h) (Or.inl ⟨by rfl, ?hy21⟩) (by assumption) ?rest21
      case hy21 => (intro w hSw; (try dsimp only at hSw); go_simp <;> with_reducible rfl)
      try simp only [Act.put, List.setIfInBounds_toArray, List.set_cons_zero, List.set_cons_succ]
      refine wpAnyH_take (i := 10) (oi := { dst := some 25, op := Op.fieldAddr 67 (Operand.tmp 24) 1, type := 0, pos := "reader.go:109", after := #[{ on := 9, ground := Ground.data }], guard := none }) (v := ?v22) rfl (by kernel_rfl) (by kernel_rfl) (by kernel_rfl) (fun _ _ _ h => h) (Or.inl ⟨by rfl, ?hy22⟩) (by assumption) ?rest22
      case hy22 => (intro w hSw; (try dsimp only at hSw); go_simp <;> with_reducible rfl)
      try simp only [Act.put, List.setIfInBounds_toArray, List.set_cons_zero, List.set_cons_succ]
      refine wpAnyH_take (i := 11) (oi := { dst := some 26, op := Op.load 9 (Operand.tmp 25), type := 9, pos := "reader.go:109", after := #[{ on := 10, ground := Ground.data }], guard := none }) (v := ?v23) rfl (by kernel_rfl) (by kernel_rfl) (by kernel_rfl) (fun _ _ _ h => h) (Or.inl ⟨by rfl, ?hy23⟩) (by assumption) ?rest23
      case hy23 => (intro w hSw; (try dsimp only at hSw); go_simp <;> with_reducible rfl)
      try simp only [Act.put, List.setIfInBounds_toArray, List.set_cons_zero, List.set_cons_succ]
      refine wpAnyH_take (i := 12) (oi := { dst := some 27, op := Op.move (Operand.tmp 0), type := 95, pos := "reader.go:109", after := #[], guard := none }) (v := ?v24) rfl (by kernel_rfl) (by kernel_rfl) (by kernel_rfl) (fun _ _ _ h => h) (Or.inl ⟨by rfl, ?hy24⟩) (by assumption) ?rest24
      case hy24 => (intro w hSw; (try dsimp only at hSw); go_simp <;> with_reducible rfl)
      try simp only [Act.put, List.setIfInBounds_toArray, List.set_cons_zero, List.set_cons_succ]
      refine wpAnyH_take (i := 13) (oi := { dst := some 28, op := Op.nilCheck (Operand.tmp 27), type := 0, pos := "reader.go:109", after := #[{ on := 12, ground := Ground.data }], guard := none }) (v := ?v25) rfl (by kernel_rfl) (by kernel_rfl) (by kernel_rfl) (fun _ _ _ h => h) (Or.inl ⟨by rfl, ?hy25⟩) (by assumption) ?rest25
      case hy25 => (intro w hSw; (try dsimp only at hSw); go_simp <;> with_reducible rfl)
      try simp only [Act.put, List.setIfInBounds_toArray, List.set_cons_zero, List.set_cons_succ]
      refine wpAnyH_take (i := 14) (oi := { dst := some 29, op := Op.fieldAddr 74 (Operand.tmp 28) 0, type := 0, pos := "reader.go:109", after := #[{ on := 13, ground := Ground.data }], guard := none }) (v := ?v26) rfl (by kernel_rfl) (by kernel_rfl) (by kernel_rfl) (fun _ _ _ h => h) (Or.inl ⟨by rfl, ?hy26⟩) (by assumption) ?rest26
      case hy26 => (intro w hSw; (try dsimp only at hSw); go_simp <;> with_reducible rfl)
      try simp only [Act.put, List.setIfInBounds_toArray, List.set_cons_zero, List.set_cons_succ]
      refine wpAnyH_take (i := 15) (oi := { dst := some 30, op := Op.fieldAddr 72 (Operand.tmp 29) 0, type := 0, pos := "reader.go:109", after := #[{ on := 14, ground := Ground.data }], guard := none }) (v := ?v27) rfl (by kernel_rfl) (by kernel_rfl) (by kernel_rfl) (fun _ _ _ h => h) (Or.inl ⟨by rfl, ?hy27⟩) (by assumption) ?rest27
      case hy27 => (intro w hSw; (try dsimp only at hSw); go_simp <;> with_reducible rfl)
      try simp only [Act.put, List.setIfInBounds_toArray, List.set_cons_zero, List.set_cons_succ]
      refine wpAnyH_take (i := 16) (oi := { dst := some 31, op := Op.fieldAddr 69 (Operand.tmp 30) 0, type := 0, pos := "reader.go:109", after := #[{ on := 15, ground := Ground.data }], guard := none }) (v := ?v28) rfl (by kernel_rfl) (by kernel_rfl) (by kernel_rfl) (fun _ _ _ h => h) (Or.inl ⟨by rfl, ?hy28⟩) (by assumption) ?rest28
      case hy28 => (intro w hSw; (try dsimp only at hSw); go_simp <;> with_reducible rfl)
      try simp only [Act.put, List.setIfInBounds_toArray, List.set_cons_zero, List.set_cons_succ]
      refine wpAnyH_take (i := 17) (oi := { dst := some 32, op := Op.fieldAddr 67 (Operand.tmp 31) 2, type := 0, pos := "reader.go:109", after := #[{ on := 16, ground := Ground.data }], guard := none }) (v := ?v29) rfl (by kernel_rfl) (by kernel_rfl) (by kernel_rfl) (fun _ _ _ h => h) (Or.inl ⟨by rfl, ?hy29⟩) (by assumption) ?rest29
      case hy29 => (intro w hSw; (try dsimp only at hSw); go_simp <;> with_reducible rfl)
      try simp only [Act.put, List.setIfInBounds_toArray, List.set_cons_zero, List.set_cons_succ]
      refine wpAnyH_take (i := 18) (oi := { dst := some 33, op := Op.load 9 (Operand.tmp 32), type := 9, pos := "reader.go:109", after := #[{ on := 17, ground := Ground.data }], guard := none }) (v := ?v30) rfl (by kernel_rfl) (by kernel_rfl) (by kernel_rfl) (fun _ _ _ h => h) (Or.inl ⟨by rfl, ?hy30⟩) (by assumption) ?rest30
      case hy30 => (intro w hSw; (try dsimp only at hSw); go_simp <;> with_reducible rfl)
      try simp only [Act.put, List.setIfInBounds_toArray, List.set_cons_zero, List.set_cons_succ]
      refine wpAnyH_take (i := 19) (oi := { dst := some 34, op := Op.move (Operand.tmp 0), type := 95, pos := "reader.go:109", after := #[], guard := none }) (v := ?v31) rfl (by kernel_rfl) (by kernel_rfl) (by kernel_rfl) (fun _ _ _ h => h) (Or.inl ⟨by rfl, ?hy31⟩) (by assumption) ?rest31
      case hy31 => (intro w hSw; (try dsimp only at hSw); go_simp <;> with_reducible rfl)
      try simp only [Act.put, List.setIfInBounds_toArray, List.set_cons_zero, List.set_cons_succ]
      refine wpAnyH_take (i := 20) (oi := { dst := some 35, op := Op.nilCheck (Operand.tmp 34), type := 0, pos := "reader.go:109", after := #[{ on := 19, ground := Ground.data }], guard := none }) (v := ?v32) rfl (by kernel_rfl) (by kernel_rfl) (by kernel_rfl) (fun _ _ _ h => h) (Or.inl ⟨by rfl, ?hy32⟩) (by assumption) ?rest32
      case hy32 => (intro w hSw; (try dsimp only at hSw); go_simp <;> with_reducible rfl)
      try simp only [Act.put, List.setIfInBounds_toArray, List.set_cons_zero, List.set_cons_succ]
      refine wpAnyH_take (i := 21) (oi := { dst := some 36, op := Op.fieldAddr 74 (Operand.tmp 35) 0, type := 0, pos := "reader.go:109", after := #[{ on := 20, ground := Ground.data }], guard := none }) (v := ?v33) rfl (by kernel_rfl) (by kernel_rfl) (by kernel_rfl) (fun _ _ _ h => h) (Or.inl ⟨by rfl, ?hy33⟩) (by assumption) ?rest33
      case hy33 => (intro w hSw; (try dsimp only at hSw); go_simp <;> with_reducible rfl)
      try simp only [Act.put, List.setIfInBounds_toArray, List.set_cons_zero, List.set_cons_succ]
      refine wpAnyH_take (i := 22) (oi := { dst := some 37, op := Op.fieldAddr 72 (Operand.tmp 36) 0, type := 0, pos := "reader.go:109", after := #[{ on := 21, ground := Ground.data }], guard := none }) (v := ?v34) rfl (by kernel_rfl) (by kernel_rfl) (by kernel_rfl) (fun _ _ _ h => h) (Or.inl ⟨by rfl, ?hy34⟩) (by assumption) ?rest34
      case hy34 => (intro w hSw; (try dsimp only at hSw); go_simp <;> with_reducible rfl)
      try simp only [Act.put, List.setIfInBounds_toArray, List.set_cons_zero, List.set_cons_succ]
      refine wpAnyH_take (i := 23) (oi := { dst := some 38, op := Op.fieldAddr 69 (Operand.tmp 37) 0, type := 0, pos := "reader.go:109", after := #[{ on := 22, ground := Ground.data }], guard := none }) (v := ?v35) rfl (by kernel_rfl) (by kernel_rfl) (by kernel_rfl) (fun _ _ _ h => h) (Or.inl ⟨by rfl, ?hy35⟩) (by assumption) ?rest35
      case hy35 => (intro w hSw; (try dsimp only at hSw); go_simp <;> with_reducible rfl)
      try simp only [Act.put, List.setIfInBounds_toArray, List.set_cons_zero, List.set_cons_succ]
      refine wpAnyH_take (i := 24) (oi := { dst := some 39, op := Op.fieldAddr 67 (Operand.tmp 38) 3, type := 0, pos := "reader.go:109", after := #[{ on := 23, ground := Ground.data }], guard := none }) (v := ?v36) rfl (by kernel_rfl) (by kernel_rfl) (by kernel_rfl) (fun _ _ _ h => h) (Or.inl ⟨by rfl, ?hy36⟩) (by assumption) ?rest36
      case hy36 => (intro w hSw; (try dsimp only at hSw); go_simp <;> with_reducible rfl)
      try simp only [Act.put, List.setIfInBounds_toArray, List.set_cons_zero, List.set_cons_succ]
      refine wpAnyH_take (i := 25) (oi := { dst := some 40, op := Op.load 3 (Operand.tmp 39), type := 3, pos := "reader.go:109", after := #[{ on := 24, ground := Ground.data }], guard := none }) (v := ?v37) rfl (by kernel_rfl) (by kernel_rfl) (by kernel_rfl) (fun _ _ _ h => h) (Or.inl ⟨by rfl, ?hy37⟩) (by assumption) ?rest37
      case hy37 => (intro w hSw; (try dsimp only at hSw); go_simp <;> with_reducible rfl)
      try simp only [Act.put, List.setIfInBounds_toArray, List.set_cons_zero, List.set_cons_succ]
      refine wpAnyH_take (i := 26) (oi := { dst := some 41, op := Op.build 54 #[(0, Operand.tmp 26), (1, Operand.tmp 33), (2, Operand.tmp 40)], type := 54, pos := "reader.go:109", after := #[{ on := 11, ground := Ground.data }, { on := 18, ground := Ground.data }, { on := 25, ground := Ground.data }], guard := none }) (v := ?v38) rfl (by kernel_rfl) (by kernel_rfl) (by kernel_rfl) (fun _ _ _ h => h) (Or.inl ⟨by rfl, ?hy38⟩) (by assumption) ?rest38
      case hy38 => (intro w hSw; (try dsimp only at hSw); go_simp <;> with_reducible rfl)
      try simp only [Act.put, List.setIfInBounds_toArray, List.set_cons_zero, List.set_cons_succ]
      refine wpAnyH_ready (rs := [4, 27]) (by kernel_rfl) (by simp) (AllReadyH.cons (o := { dst := some 19, op := Op.load 30 (Operand.tmp 18), type := 30, pos := "reader.go:109", after := #[{ on := 3, ground := Ground.data }], guard := none }) rfl (fun K hK => ?_) (AllReadyH.cons (o := { dst := some 42, op := Op.buildSlice 30 1 #[(0, Operand.tmp 41)], type := 30, pos := "reader.go:109", after := #[{ on := 26, ground := Ground.data }], guard := none }) rfl (fun K hK => ?_) (AllReadyH.nil)))
      · go_simp
        refine hK.out _ _ (by assumption) (fun hHeld => ?_)
        clear hK K
        try simp only [Act.put, List.setIfInBounds_toArray, List.set_cons_zero, List.set_cons_succ]
        refine wpAnyH_ready (rs := [27]) (by kernel_rfl) (by simp) (AllReadyH.cons (o := { dst := some 42, op := Op.buildSlice 30 1 #[(0, Operand.tmp 41)], type := 30, pos := "reader.go:109", after := #[{ on := 26, ground := Ground.data }], guard := none }) rfl (fun K hK => ?_) (AllReadyH.nil))
        go_simp
        refine hK.out _ _ kJ (fun hHeld => ?_)
        clear hK K
        try simp only [Act.put, List.setIfInBounds_toArray, List.set_cons_zero, List.set_cons_succ]
        refine wpAnyH_ready (rs := [28]) (by kernel_rfl) (by simp) (AllReadyH.cons (o := { dst := some 43, op := Op.call { callee := Callee.builtin Builtin.append, args := #[Operand.tmp 19, Operand.tmp 42], argTypes := #[30, 30] }, type := 30, pos := "reader.go:109", after := #[{ on := 4, ground := Ground.data }, { on := 27, ground := Ground.data }], guard := none }) rfl (fun K hK => ?_) (AllReadyH.nil))
        refine step_append_ex ?_ (.tmp 19) (.tmp 42) _ _ ?_ _ _ ?_ ?_ (fun a b => a = _ ∧ b = w3) ⟨_, w3, hrun, rfl, rfl⟩ ?_
        · rfl
        · rfl
        · rfl
        · rfl
        rintro _ _ ⟨rfl, rfl⟩
        refine hK.out _ _ kX (fun hHeld => ?_)
        clear hK K
        try simp only [Act.put, List.setIfInBounds_toArray, List.set_cons_zero, List.set_cons_succ]
        refine wpAnyH_take (i := 29) (oi := { dst := some 44, op := Op.nilCheck (Operand.tmp 15), type := 0, pos := "reader.go:109", after := #[{ on := 0, ground := Ground.data }, { on := 0, ground := Ground.phase }, { on := 1, ground := Ground.phase }, { on := 2, ground := Ground.phase }, { on := 3, ground := Ground.phase }, { on := 4, ground := Ground.phase }, { on := 5, ground := Ground.phase }, { on := 6, ground := Ground.phase }, { on := 7, ground := Ground.phase }, { on := 8, ground := Ground.phase }, { on := 9, ground := Ground.phase }, { on := 10, ground := Ground.phase }, { on := 11, ground := Ground.phase }, { on := 12, ground := Ground.phase }, { on := 13, ground := Ground.phase }, { on := 14, ground := Ground.phase }, { on := 15, ground := Ground.phase }, { on := 16, ground := Ground.phase }, { on := 17, ground := Ground.phase }, { on := 18, ground := Ground.phase }, { on := 19, ground := Ground.phase }, { on := 20, ground := Ground.phase }, { on := 21, ground := Ground.phase }, { on := 22, ground := Ground.phase }, { on := 23, ground := Ground.phase }, { on := 24, ground := Ground.phase }, { on := 25, ground := Ground.phase }, { on := 26, ground := Ground.phase }, { on := 27, ground := Ground.phase }, { on := 28, ground := Ground.phase }], guard := none }) (v := ?v39) rfl (by kernel_rfl) (by kernel_rfl) (by kernel_rfl) (fun _ _ _ h => h) (Or.inl ⟨by rfl, ?hy39⟩) (by assumption) ?rest39
        case hy39 => (intro w hSw; (try dsimp only at hSw); go_simp <;> with_reducible rfl)
        try simp only [Act.put, List.setIfInBounds_toArray, List.set_cons_zero, List.set_cons_succ]
        refine wpAnyH_take (i := 30) (oi := { dst := some 45, op := Op.fieldAddr 32 (Operand.tmp 44) 2, type := 0, pos := "reader.go:109", after := #[{ on := 29, ground := Ground.data }, { on := 0, ground := Ground.phase }, { on := 1, ground := Ground.phase }, { on := 2, ground := Ground.phase }, { on := 3, ground := Ground.phase }, { on := 4, ground := Ground.phase }, { on := 5, ground := Ground.phase }, { on := 6, ground := Ground.phase }, { on := 7, ground := Ground.phase }, { on := 8, ground := Ground.phase }, { on := 9, ground := Ground.phase }, { on := 10, ground := Ground.phase }, { on := 11, ground := Ground.phase }, { on := 12, ground := Ground.phase }, { on := 13, ground := Ground.phase }, { on := 14, ground := Ground.phase }, { on := 15, ground := Ground.phase }, { on := 16, ground := Ground.phase }, { on := 17, ground := Ground.phase }, { on := 18, ground := Ground.phase }, { on := 19, ground := Ground.phase }, { on := 20, ground := Ground.phase }, { on := 21, ground := Ground.phase }, { on := 22, ground := Ground.phase }, { on := 23, ground := Ground.phase }, { on := 24, ground := Ground.phase }, { on := 25, ground := Ground.phase }, { on := 26, ground := Ground.phase }, { on := 27, ground := Ground.phase }, { on := 28, ground := Ground.phase }], guard := none }) (v := ?v40) rfl (by kernel_rfl) (by kernel_rfl) (by kernel_rfl) (fun _ _ _ h => h) (Or.inl ⟨by rfl, ?hy40⟩) (by assumption) ?rest40
        case hy40 => (intro w hSw; (try dsimp only at hSw); go_simp <;> with_reducible rfl)
        try simp only [Act.put, List.setIfInBounds_toArray, List.set_cons_zero, List.set_cons_succ]
        refine wpAnyH_ready (rs := [31]) (by kernel_rfl) (by simp) (AllReadyH.cons (o := { dst := none, op := Op.store 30 (Operand.tmp 45) (Operand.tmp 43), type := 0, pos := "reader.go:109", after := #[{ on := 30, ground := Ground.data }, { on := 28, ground := Ground.data }, { on := 28, ground := Ground.chain }, { on := 0, ground := Ground.phase }, { on := 1, ground := Ground.phase }, { on := 2, ground := Ground.phase }, { on := 3, ground := Ground.phase }, { on := 4, ground := Ground.phase }, { on := 5, ground := Ground.phase }, { on := 6, ground := Ground.phase }, { on := 7, ground := Ground.phase }, { on := 8, ground := Ground.phase }, { on := 9, ground := Ground.phase }, { on := 10, ground := Ground.phase }, { on := 11, ground := Ground.phase }, { on := 12, ground := Ground.phase }, { on := 13, ground := Ground.phase }, { on := 14, ground := Ground.phase }, { on := 15, ground := Ground.phase }, { on := 16, ground := Ground.phase }, { on := 17, ground := Ground.phase }, { on := 18, ground := Ground.phase }, { on := 19, ground := Ground.phase }, { on := 20, ground := Ground.phase }, { on := 21, ground := Ground.phase }, { on := 22, ground := Ground.phase }, { on := 23, ground := Ground.phase }, { on := 24, ground := Ground.phase }, { on := 25, ground := Ground.phase }, { on := 26, ground := Ground.phase }, { on := 27, ground := Ground.phase }, { on := 28, ground := Ground.phase }], guard := none }) rfl (fun K hK => ?_) (AllReadyH.nil))
        go_simp
        refine hK.out _ _ kY (fun hHeld => ?_)
        clear hK K
        try simp only [Act.put, List.setIfInBounds_toArray, List.set_cons_zero, List.set_cons_succ]
        refine wpAnyH_done (by kernel_rfl) ?_ _
        go_wp2_with fail
        go_end0
        exact HP2.out _ hX.out
      · go_simp
        refine hK.out _ _ kJ (fun hHeld => ?_)
        clear hK K
        try simp only [Act.put, List.setIfInBounds_toArray, List.set_cons_zero, List.set_cons_succ]
        refine wpAnyH_ready (rs := [4]) (by kernel_rfl) (by simp) (AllReadyH.cons (o := { dst := some 19, op := Op.load 30 (Operand.tmp 18), type := 30, pos := "reader.go:109", after := #[{ on := 3, ground := Ground.data }], guard := none }) rfl (fun K hK => ?_) (AllReadyH.nil))
        go_simp
        refine hK.out _ _ (by assumption) (fun hHeld => ?_)
        clear hK K
        try simp only [Act.put, List.setIfInBounds_toArray, List.set_cons_zero, List.set_cons_succ]
        refine wpAnyH_ready (rs := [28]) (by kernel_rfl) (by simp) (AllReadyH.cons (o := { dst := some 43, op := Op.call { callee := Callee.builtin Builtin.append, args := #[Operand.tmp 19, Operand.tmp 42], argTypes := #[30, 30] }, type := 30, pos := "reader.go:109", after := #[{ on := 4, ground := Ground.data }, { on := 27, ground := Ground.data }], guard := none }) rfl (fun K hK => ?_) (AllReadyH.nil))
        refine step_append_ex ?_ (.tmp 19) (.tmp 42) _ _ ?_ _ _ ?_ ?_ (fun a b => a = _ ∧ b = w3) ⟨_, w3, hrun, rfl, rfl⟩ ?_
        · rfl
        · rfl
        · rfl
        · rfl
        rintro _ _ ⟨rfl, rfl⟩
        refine hK.out _ _ kX (fun hHeld => ?_)
        clear hK K
        try simp only [Act.put, List.setIfInBounds_toArray, List.set_cons_zero, List.set_cons_succ]
        refine wpAnyH_take (i := 29) (oi := { dst := some 44, op := Op.nilCheck (Operand.tmp 15), type := 0, pos := "reader.go:109", after := #[{ on := 0, ground := Ground.data }, { on := 0, ground := Ground.phase }, { on := 1, ground := Ground.phase }, { on := 2, ground := Ground.phase }, { on := 3, ground := Ground.phase }, { on := 4, ground := Ground.phase }, { on := 5, ground := Ground.phase }, { on := 6, ground := Ground.phase }, { on := 7, ground := Ground.phase }, { on := 8, ground := Ground.phase }, { on := 9, ground := Ground.phase }, { on := 10, ground := Ground.phase }, { on := 11, ground := Ground.phase }, { on := 12, ground := Ground.phase }, { on := 13, ground := Ground.phase }, { on := 14, ground := Ground.phase }, { on := 15, ground := Ground.phase }, { on := 16, ground := Ground.phase }, { on := 17, ground := Ground.phase }, { on := 18, ground := Ground.phase }, { on := 19, ground := Ground.phase }, { on := 20, ground := Ground.phase }, { on := 21, ground := Ground.phase }, { on := 22, ground := Ground.phase }, { on := 23, ground := Ground.phase }, { on := 24, ground := Ground.phase }, { on := 25, ground := Ground.phase }, { on := 26, ground := Ground.phase }, { on := 27, ground := Ground.phase }, { on := 28, ground := Ground.phase }], guard := none }) (v := ?v41) rfl (by kernel_rfl) (by kernel_rfl) (by kernel_rfl) (fun _ _ _ h => h) (Or.inl ⟨by rfl, ?hy41⟩) (by assumption) ?rest41
        case hy41 => (intro w hSw; (try dsimp only at hSw); go_simp <;> with_reducible rfl)
        try simp only [Act.put, List.setIfInBounds_toArray, List.set_cons_zero, List.set_cons_succ]
        refine wpAnyH_take (i := 30) (oi := { dst := some 45, op := Op.fieldAddr 32 (Operand.tmp 44) 2, type := 0, pos := "reader.go:109", after := #[{ on := 29, ground := Ground.data }, { on := 0, ground := Ground.phase }, { on := 1, ground := Ground.phase }, { on := 2, ground := Ground.phase }, { on := 3, ground := Ground.phase }, { on := 4, ground := Ground.phase }, { on := 5, ground := Ground.phase }, { on := 6, ground := Ground.phase }, { on := 7, ground := Ground.phase }, { on := 8, ground := Ground.phase }, { on := 9, ground := Ground.phase }, { on := 10, ground := Ground.phase }, { on := 11, ground := Ground.phase }, { on := 12, ground := Ground.phase }, { on := 13, ground := Ground.phase }, { on := 14, ground := Ground.phase }, { on := 15, ground := Ground.phase }, { on := 16, ground := Ground.phase }, { on := 17, ground := Ground.phase }, { on := 18, ground := Ground.phase }, { on := 19, ground := Ground.phase }, { on := 20, ground := Ground.phase }, { on := 21, ground := Ground.phase }, { on := 22, ground := Ground.phase }, { on := 23, ground := Ground.phase }, { on := 24, ground := Ground.phase }, { on := 25, ground := Ground.phase }, { on := 26, ground := Ground.phase }, { on := 27, ground := Ground.phase }, { on := 28, ground := Ground.phase }], guard := none }) (v := ?v42) rfl (by kernel_rfl) (by kernel_rfl) (by kernel_rfl) (fun _ _ _ h => h) (Or.inl ⟨by rfl, ?hy42⟩) (by assumption) ?rest42
        case hy42 => (intro w hSw; (try dsimp only at hSw); go_simp <;> with_reducible rfl)
        try simp only [Act.put, List.setIfInBounds_toArray, List.set_cons_zero, List.set_cons_succ]
        refine wpAnyH_ready (rs := [31]) (by kernel_rfl) (by simp) (AllReadyH.cons (o := { dst := none, op := Op.store 30 (Operand.tmp 45) (Operand.tmp 43), type := 0, pos := "reader.go:109", after := #[{ on := 30, ground := Ground.data }, { on := 28, ground := Ground.data }, { on := 28, ground := Ground.chain }, { on := 0, ground := Ground.phase }, { on := 1, ground := Ground.phase }, { on := 2, ground := Ground.phase }, { on := 3, ground := Ground.phase }, { on := 4, ground := Ground.phase }, { on := 5, ground := Ground.phase }, { on := 6, ground := Ground.phase }, { on := 7, ground := Ground.phase }, { on := 8, ground := Ground.phase }, { on := 9, ground := Ground.phase }, { on := 10, ground := Ground.phase }, { on := 11, ground := Ground.phase }, { on := 12, ground := Ground.phase }, { on := 13, ground := Ground.phase }, { on := 14, ground := Ground.phase }, { on := 15, ground := Ground.phase }, { on := 16, ground := Ground.phase }, { on := 17, ground := Ground.phase }, { on := 18, ground := Ground.phase }, { on := 19, ground := Ground.phase }, { on := 20, ground := Ground.phase }, { on := 21, ground := Ground.phase }, { on := 22, ground := Ground.phase }, { on := 23, ground := Ground.phase }, { on := 24, ground := Ground.phase }, { on := 25, ground := Ground.phase }, { on := 26, ground := Ground.phase }, { on := 27, ground := Ground.phase }, { on := 28, ground := Ground.phase }], guard := none }) rfl (fun K hK => ?_) (AllReadyH.nil))
        go_simp
        refine hK.out _ _ kY (fun hHeld => ?_)
        clear hK K
        try simp only [Act.put, List.setIfInBounds_toArray, List.set_cons_zero, List.set_cons_succ]
        refine wpAnyH_done (by kernel_rfl) ?_ _
        go_wp2_with fail
        go_end0
        exact HP2.out _ hX.out
end Go.Proofs.YtchfphakhmifmabGreatDoor
namespace Go.Proofs.YtchfphakhmifmabGreatDoor
open Go.ChangeShapes Go.WideShapes Go.ChangeAt Go.RowKit Go.Lib

/-- Which method takes a piece of a Kind. -/
def fnT : Nat → Nat
  | 0 => 43
  | 1 => 44
  | 3 => 46
  | 4 => 47
  | 5 => 48
  | _ => 45
theorem ent_T : ∀ k ag w, (callFunc (fnT k) ag).run Tryz.prog w = .ok (.enter (fnT k) ag) w := by
  have e0 : ∀ ag w, (callFunc 43 ag).run Tryz.prog w = .ok (.enter 43 ag) w := enters_of Tryz.func43 (by kernel_rfl) rfl
  have e1 : ∀ ag w, (callFunc 44 ag).run Tryz.prog w = .ok (.enter 44 ag) w := enters_of Tryz.func44 (by kernel_rfl) rfl
  have e2 : ∀ ag w, (callFunc 45 ag).run Tryz.prog w = .ok (.enter 45 ag) w := enters_of Tryz.func45 (by kernel_rfl) rfl
  have e3 : ∀ ag w, (callFunc 46 ag).run Tryz.prog w = .ok (.enter 46 ag) w := enters_of Tryz.func46 (by kernel_rfl) rfl
  have e4 : ∀ ag w, (callFunc 47 ag).run Tryz.prog w = .ok (.enter 47 ag) w := enters_of Tryz.func47 (by kernel_rfl) rfl
  have e5 : ∀ ag w, (callFunc 48 ag).run Tryz.prog w = .ok (.enter 48 ag) w := enters_of Tryz.func48 (by kernel_rfl) rfl
  intro k
  match k with
  | 0 => exact e0
  | 1 => exact e1
  | 2 => exact e2
  | 3 => exact e3
  | 4 => exact e4
  | 5 => exact e5
  | n + 6 => exact e2
theorem tTake_any (R bot : Nat) (v : Nat → Value) (s : PSt) (t : Tok) (w : World) (h : Rdr w R bot v s) (h1 : v 1 = .string t.nm) (h2 : v 2 = .string t.vl) (h3 : v 3 = .int .i64 (t.p : Int)) (h4 : v 4 = .int .i64 0) (ho : (t.k = 1 ∨ t.k = 3) → s.op ≠ []) (hvl : t.vl.size ≤ 16777216) (htx : ∀ e ∈ s.es, e.tx.size ≤ 100000000000000) :
    Calls Tryz.prog (fnT t.k) #[.pointer (some ⟨R, 0, none⟩)] w (TakePost R bot w v (takeT blankB s t)) := by
  obtain ⟨k, nm, vl, p⟩ := t
  have hpass : Calls Tryz.prog 45 #[.pointer (some ⟨R, 0, none⟩)] w (TakePost R bot w v (.ok s)) := (pass_any _ w).mono fun r w' ⟨hr, hw⟩ => by subst hw; exact ⟨hr, Kr.refl _ _ _, v, fun _ _ => rfl, h, rfl⟩
  match k with
  | 0 => exact open_any R bot v s nm vl p blankB w h h1 h3
  | 1 =>
    obtain ⟨i, hi⟩ : ∃ i, s.op.getLast? = some i := by
      cases hi : s.op.getLast? with
      | none => exact absurd (List.getLast?_eq_none_iff.1 hi) (ho (.inl rfl))
      | some i => exact ⟨i, rfl⟩
    exact tAttr_any R bot v s i nm vl p blankB w h hi h1 h2 h3
  | 2 => exact hpass
  | 3 =>
    obtain ⟨i, hi⟩ : ∃ i, s.op.getLast? = some i := by
      cases hi : s.op.getLast? with
      | none => exact absurd (List.getLast?_eq_none_iff.1 hi) (ho (.inr rfl))
      | some i => exact ⟨i, rfl⟩
    exact shut_any R bot v s i w h hi
  | 4 => exact tEnd_any R bot v s nm vl p blankB w h h1 h4
  | 5 => exact tText_any R bot v s nm vl p w h h2 (Nat.le_trans hvl (by decide)) (fun i e _ he => by have := htx e (List.mem_of_getElem? he); have : vl.size ≤ 16777216 := hvl; omega)
  | n + 6 => exact hpass
end Go.Proofs.YtchfphakhmifmabGreatDoor
namespace Go.Proofs.YtchfphakhmifmabGreatDoor
open Go.Lib Go

theorem ba_size_append (a b : ByteArray) : (a ++ b).size = a.size + b.size := by simp
theorem takeT_tx {bl : ByteArray → Bool} {s s' : PSt} {t : Tok} {B : Nat} (h : takeT bl s t = .ok s') (hs : ∀ e ∈ s.es, e.tx.size ≤ B) : ∀ e ∈ s'.es, e.tx.size ≤ B + t.vl.size := by
  have hs2 : ∀ e ∈ s.es, e.tx.size ≤ B + t.vl.size := fun e he => Nat.le_trans (hs e he) (Nat.le_add_right _ _)
  unfold takeT at h
  split at h
  · split at h
    · cases h
    · split at h
      · cases h
      · split at h
        · cases h
        · cases h
          intro e he
          rcases List.mem_append.1 he with he | he
          · exact hs2 e he
          · rw [List.mem_singleton] at he; subst he; exact Nat.zero_le _
  · split at h
    · split at h
      · cases h; exact hs2
      · split at h
        · cases h; exact hs2
        · rename_i e he
          split at h
          · cases h
          · split at h
            · cases h
            · cases h
              intro x hx
              rcases List.mem_or_eq_of_mem_set hx with hx | hx
              · exact hs2 x hx
              · subst hx; exact hs2 e (List.mem_of_getElem? he)
    · split at h
      · cases h; exact hs2
      · split at h
        · split at h
          · cases h
          · split at h
            · cases h
            · split at h
              · cases h; exact hs2
              · cases h
        · split at h
          · split at h
            · split at h
              · cases h; exact hs2
              · cases h
            · split at h
              · cases h; exact hs2
              · rename_i e he
                cases h
                intro x hx
                rcases List.mem_or_eq_of_mem_set hx with hx | hx
                · exact hs2 x hx
                · subst hx
                  show (e.tx ++ t.vl).size ≤ _
                  rw [ba_size_append]
                  have := hs e (List.mem_of_getElem? he)
                  omega
          · cases h; exact hs2
theorem takeT_op {bl : ByteArray → Bool} {s s' : PSt} {t : Tok} (h : takeT bl s t = .ok s') (hk : t.k = 0 ∨ t.k = 1) (ho : t.k = 1 → s.op ≠ []) : s'.op ≠ [] := by
  unfold takeT at h
  rcases hk with hk | hk
  · rw [if_pos hk] at h
    split at h
    · cases h
    · split at h
      · cases h
      · split at h
        · cases h
        · cases h
          simp
  · rw [if_neg (by omega), if_pos hk] at h
    split at h
    · cases h; exact ho hk
    · split at h
      · cases h; exact ho hk
      · split at h
        · cases h
        · split at h
          · cases h
          · cases h; exact ho hk
/-- Where the pieces may go on from. -/
structure Go1 (bl : ByteArray → Bool) (toks : List Tok) (j : Nat) (s : PSt) : Prop where
  eq : takeL bl (toks.drop j) s = takeL bl toks ⟨[], []⟩
  sq : ∃ b, SeqT b (toks.drop j) ∧ (b = true → s.op ≠ [])
  tx : ∀ e ∈ s.es, e.tx.size ≤ j * 16777216
theorem Go1.start (bl : ByteArray → Bool) (toks : List Tok) (h : SeqT false toks) : Go1 bl toks 0 ⟨[], []⟩ := ⟨rfl, ⟨false, h, fun h => (by cases h)⟩, fun e he => (by cases he)⟩
theorem drop_get {α : Type} {l : List α} {j : Nat} {t : α} (h : l[j]? = some t) : l.drop j = t :: l.drop (j + 1) := by
  have hl := (List.getElem?_eq_some_iff.1 h).1
  rw [List.drop_eq_getElem_cons hl, (List.getElem?_eq_some_iff.1 h).2]
theorem Go1.op {bl : ByteArray → Bool} {toks : List Tok} {j : Nat} {s : PSt} {t : Tok} (h : Go1 bl toks j s) (ht : toks[j]? = some t) : ((t.k = 1 ∨ t.k = 3) → s.op ≠ []) ∧ t.k < 8 := by
  obtain ⟨b, h1, h2⟩ := h.sq
  rw [drop_get ht] at h1
  exact ⟨fun hk => h2 (h1.1 hk), h1.2.1⟩
theorem Go1.bad {bl : ByteArray → Bool} {toks : List Tok} {j er : Nat} {s : PSt} {t : Tok} (h : Go1 bl toks j s) (ht : toks[j]? = some t) (hz : takeT bl s t = .error er) : takeL bl toks ⟨[], []⟩ = .error (er, t.p) := by
  rw [← h.eq, drop_get ht]
  simp only [takeL, hz]
theorem Go1.next {bl : ByteArray → Bool} {toks : List Tok} {j : Nat} {s s' : PSt} {t : Tok} (h : Go1 bl toks j s) (ht : toks[j]? = some t) (hz : takeT bl s t = .ok s') (hv : t.vl.size ≤ 16777216) : Go1 bl toks (j + 1) s' := by
  have ho := h.op ht
  obtain ⟨b, h1, h2⟩ := h.sq
  have he := h.eq
  rw [drop_get ht] at h1 he
  refine ⟨?_, ⟨_, h1.2.2, fun hb => takeT_op hz (of_decide_eq_true hb) (fun hk => ho.1 (.inl hk))⟩, fun e hm => ?_⟩
  · rw [← he]; simp only [takeL, hz]
  · have := takeT_tx hz h.tx e hm
    rw [Nat.add_mul, Nat.one_mul]
    omega
theorem Go1.fin {bl : ByteArray → Bool} {toks : List Tok} {s : PSt} (h : Go1 bl toks toks.length s) : takeL bl toks ⟨[], []⟩ = .ok s := by
  rw [← h.eq, List.drop_length]
  rfl
end Go.Proofs.YtchfphakhmifmabGreatDoor
