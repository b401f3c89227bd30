/- The mathematics of names and blanks. -/
import Derived.Test.YtmnjpkeeoeoegaaGreatDoorNam3
namespace Go.Proofs.YtmnjpkeeoeoegaaGreatDoor

def oneB (c : Nat) : ByteArray := ⟨#[UInt8.ofNat c]⟩
def wordB (c : Nat) : Bool := nlet c || decide (c = 95)
def inB (c : Nat) : Bool := wordB c || ndig c
def blC (c : Nat) : Bool := decide (c = 9) || decide (c = 10) || decide (c = 13) || decide (c = 32)
set_option maxRecDepth 100000 in
theorem one_facts : ∀ c, c < 256 → symbolB (oneB c) = wordB c ∧ symbolB (⟨#[97]⟩ ++ oneB c) = inB c ∧ xmlNameB (oneB c) = (wordB c || decide (c = 58)) ∧ xmlNameB (⟨#[97]⟩ ++ oneB c) = (inB c || decide (c = 58) || decide (c = 45) || decide (c = 46)) ∧ BLs.contains (UInt8.ofNat c) = blC c := by decide +kernel
theorem sym_xml (s : ByteArray) (h : symbolB s = true) : xmlNameB s = true ∧ s.size ≤ 64 := by
  unfold symbolB at h
  simp only [decide_eq_true_eq] at h
  obtain ⟨h0, h1, h2, h3⟩ := h
  refine ⟨?_, h1⟩
  unfold xmlNameB
  simp only [decide_eq_true_eq]
  refine ⟨h0, fun i hi => ?_⟩
  have h4 := h3 i hi
  by_cases hi0 : i = 0
  · rw [hi0] at h4 ⊢
    unfold nsym at h4
    rw [h2] at h4
    unfold nxml
    simp only [Bool.or_false] at h4
    simp only [Bool.or_eq_true] at h4 ⊢
    rcases h4 with h4 | h4
    · exact Or.inl (Or.inr h4)
    · exact Or.inl (Or.inl (Or.inl (Or.inl h4)))
  · unfold nsym at h4
    unfold nxml
    simp only [hi0, decide_false, Bool.not_false, Bool.and_true]
    simp only [Bool.or_eq_true] at h4 ⊢
    rcases h4 with (h4 | h4) | h4
    · exact Or.inl (Or.inr h4)
    · exact Or.inr h4
    · exact Or.inl (Or.inl (Or.inl (Or.inl h4)))
section
variable {α : Type} (p : α → Bool)
theorem dw_split (l : List α) : l = l.takeWhile p ++ l.dropWhile p := (List.takeWhile_append_dropWhile).symm
theorem tw_all (l : List α) : (l.takeWhile p).all p = true := by
  induction l with
  | nil => rfl
  | cons a l ih => rw [List.takeWhile_cons]; split <;> simp_all
theorem dw_head (l : List α) (a : α) (m : List α) (h : l.dropWhile p = a :: m) : p a = false := by
  induction l with
  | nil => cases h
  | cons b l ih =>
    rw [List.dropWhile_cons] at h
    split at h
    · exact ih h
    · rename_i hb; cases h; simpa using hb
/-- l cut at both ends: what stands ahead and behind, and the ends of the middle. -/
theorem trim_split (l : List α) : ∃ a b, l = a ++ ((l.reverse.dropWhile p).reverse.dropWhile p) ++ b ∧ a.all p = true ∧ b.all p = true ∧
    (∀ x m, (l.reverse.dropWhile p).reverse.dropWhile p = x :: m → p x = false) ∧ (∀ x m, (l.reverse.dropWhile p).reverse.dropWhile p = m ++ [x] → p x = false) := by
  refine ⟨(l.reverse.dropWhile p).reverse.takeWhile p, (l.reverse.takeWhile p).reverse, ?_, tw_all p _, by rw [List.all_reverse]; exact tw_all p _, fun x m h => dw_head p _ x m h, fun x m h => ?_⟩
  · rw [← dw_split p, ← List.reverse_append, ← dw_split p, List.reverse_reverse]
  · have h1 := dw_split p (l.reverse.dropWhile p).reverse
    rw [h] at h1
    have h2 : l.reverse.dropWhile p = x :: (((l.reverse.dropWhile p).reverse.takeWhile p) ++ m).reverse := by
      have := congrArg List.reverse h1
      rw [List.reverse_reverse] at this
      refine this.trans ?_
      generalize (l.reverse.dropWhile p).reverse.takeWhile p = T
      simp
    exact dw_head p _ _ _ h2
end
theorem trimN_list (s : ByteArray) : (trimN s).data.toList = (s.data.toList.reverse.dropWhile (BLs.contains ·)).reverse.dropWhile (BLs.contains ·) := by
  unfold trimN Lib.trimS Lib.trimLeftS Lib.trimRightS
  simp
theorem trimN_split (s : ByteArray) : ∃ a b, s.data.toList = a ++ (trimN s).data.toList ++ b ∧ a.all (BLs.contains ·) = true ∧ b.all (BLs.contains ·) = true ∧
    (∀ x m, (trimN s).data.toList = x :: m → BLs.contains x = false) ∧ (∀ x m, (trimN s).data.toList = m ++ [x] → BLs.contains x = false) := by
  rw [trimN_list]
  exact trim_split _ _
theorem blankB_all (s : ByteArray) : blankB s = s.data.toList.all (BLs.contains ·) := by
  obtain ⟨a, b, h, ha, hb, h1, -⟩ := trimN_split s
  unfold blankB
  have hz : (trimN s).size = (trimN s).data.toList.length := (tl_len _).symm
  rw [h, hz]
  cases hm : (trimN s).data.toList with
  | nil => simp only [List.length_nil, List.append_nil, decide_true, List.all_append, ha, hb, Bool.and_self]
  | cons x m =>
    have := h1 x m hm
    simp only [List.length_cons, List.all_append, List.all_cons, this, Bool.false_and, Bool.and_false]
    simp
theorem blank_app (a b : ByteArray) : blankB (a ++ b) = (blankB a && blankB b) := by
  rw [blankB_all, blankB_all, blankB_all, ← List.all_append]
  congr 1
theorem blank_one (c : Nat) (hc : c < 256) : blankB (oneB c) = blC c := by
  rw [blankB_all]
  show (BLs.contains (UInt8.ofNat c) && true) = _
  rw [(one_facts c hc).2.2.2.2, Bool.and_true]
theorem blank_nil : blankB ⟨#[]⟩ = true := by rw [blankB_all]; rfl
theorem trim_first (s : ByteArray) (h : 0 < (trimN s).size) : blankB ((trimN s).extract 0 1) = false := by
  obtain ⟨a, b, -, -, -, h1, -⟩ := trimN_split s
  rw [blankB_all, list_ext]
  cases hm : (trimN s).data.toList with
  | nil => rw [← tl_len, hm] at h; cases h
  | cons x m => simp only [List.drop_zero, Nat.sub_zero, List.take_succ_cons, List.take_zero, List.all_cons, h1 x m hm, Bool.false_and]
theorem trim_last (s : ByteArray) (h : 0 < (trimN s).size) : blankB ((trimN s).extract ((trimN s).size - 1) (trimN s).size) = false := by
  obtain ⟨a, b, -, -, -, -, h1⟩ := trimN_split s
  rw [blankB_all, list_ext]
  have hne : (trimN s).data.toList ≠ [] := fun e => by rw [← tl_len, e] at h; cases h
  have hm : (trimN s).data.toList = (trimN s).data.toList.dropLast ++ [(trimN s).data.toList.getLast hne] := (List.dropLast_concat_getLast hne).symm
  have hx := h1 _ _ hm
  have hl : (trimN s).size - 1 = (trimN s).data.toList.dropLast.length := by rw [List.length_dropLast, tl_len]
  generalize (trimN s).data.toList.getLast hne = x at hm hx
  rw [hl, hm, List.drop_left' (by simp)]
  have : (trimN s).size - (trimN s).data.toList.dropLast.length = 1 := by rw [← hl]; omega
  simp only [List.dropLast_concat]
  rw [this]
  simp only [List.take_succ_cons, List.take_zero, List.all_cons, hx, Bool.false_and]
/-- Where the middle stands. -/
theorem trim_where (s : ByteArray) : ∃ k, k + (trimN s).size ≤ s.size ∧ s.extract k (k + (trimN s).size) = trimN s ∧ blankB (s.extract 0 k) = true ∧ blankB (s.extract (k + (trimN s).size) s.size) = true := by
  obtain ⟨a, b, h, ha, hb, -, -⟩ := trimN_split s
  have hz := tl_len (trimN s)
  have hs := tl_len s
  have hl : s.size = a.length + (trimN s).size + b.length := by rw [← hs, h, List.length_append, List.length_append, hz]
  refine ⟨a.length, by omega, ?_, ?_, ?_⟩
  · apply ba_ext
    rw [list_ext, h, List.append_assoc, List.drop_left, Nat.add_sub_cancel_left, ← hz, List.take_left]
  · rw [blankB_all, list_ext, h, List.drop_zero, Nat.sub_zero, List.append_assoc, List.take_left, ha]
  · rw [blankB_all, list_ext, h, ← hz, ← List.length_append, List.drop_left, List.take_of_length_le (by rw [List.length_append]; omega), hb]
end Go.Proofs.YtmnjpkeeoeoegaaGreatDoor
