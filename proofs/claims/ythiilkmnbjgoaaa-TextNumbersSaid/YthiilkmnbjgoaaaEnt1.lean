/- The contracts of IndexByte, Cut and body. -/
import Derived.Test.YthiilkmnbjgoaaaQuo4
import Derived.Lib.Bytealg
import Derived.BigCall
import Derived.BigGuard
namespace Go.Proofs.Ythiilkmnbjgoaaa
open Go.ChangeShapes Go.WideShapes Go.ChangeAt Go.RowKit

/-- The first place of a byte; the text's length where it isn't in it. -/
def fstN (s : ByteArray) (c : Nat) : Nat := (lOf s).findIdx (· == c)
theorem fst_le (s : ByteArray) (c : Nat) : fstN s c ≤ s.size := by unfold fstN; rw [← lOf_length]; exact List.findIdx_le_length
theorem index_list (c : UInt8) : ∀ l : List UInt8, Lib.indexByte l c = if (l.map UInt8.toNat).findIdx (· == c.toNat) < l.length then (((l.map UInt8.toNat).findIdx (· == c.toNat) : Nat) : Int) else -1
  | [] => rfl
  | b :: l => by
    have ih := index_list c l
    unfold Lib.indexByte
    simp only [List.map_cons, List.findIdx_cons, List.length_cons]
    by_cases h : b = c
    · subst h
      simp
    · have h1 : (b == c) = false := by simp [h]
      have h2 : (b.toNat == c.toNat) = false := by
        rw [beq_eq_false_iff_ne]
        exact fun e => h (UInt8.toNat_inj.1 e)
      rw [h1, h2, if_neg (by decide)]
      simp only [cond_false]
      generalize (l.map UInt8.toNat).findIdx (· == c.toNat) = k at ih ⊢
      rw [ih]
      by_cases hk : k < l.length
      · rw [if_pos hk, if_pos (show k + 1 < l.length + 1 by omega)]
        have : ((k : Int) == -1) = false := by rw [beq_eq_false_iff_ne]; omega
        rw [this]
        simp
      · rw [if_neg hk, if_neg (show ¬ k + 1 < l.length + 1 by omega)]
        rfl
theorem index_fst (s : ByteArray) (c : UInt8) : Lib.indexByte s.data.toList c = if fstN s c.toNat < s.size then ((fstN s c.toNat : Nat) : Int) else -1 := by
  rw [index_list, tl_len]; rfl
set_option maxHeartbeats 1000000 in
set_option maxRecDepth 100000 in
theorem IndexByte_any (s : ByteArray) (c : UInt8) (w : World) : Calls Try.prog 52 #[.string s, .int .u8 (c.toNat : Int)] w fun e w' => e = .returned (.int .i64 (if fstN s c.toNat < s.size then ((fstN s c.toNat : Nat) : Int) else -1)) ∧ w' = w := by
  rw [← index_fst]
  go_enter Try.func52, Try.ntmps52
  go_wp2
  rw [run_callFunc_extern Try.func56 (by kernel_rfl) (by kernel_rfl) (by kernel_rfl) (e := Extern.BytealgIndexByte.indexByte) (by kernel_rfl), Lib.run_indexByteString]
  simp only [Result.andThen]
  rw [Oper.upon_value]
  go_wp2
  go_ret
  exact ⟨by simp, rfl⟩
def cutV (s : ByteArray) (c : Nat) : Value := .tuple #[.string (s.extract 0 (fstN s c)), .string (if fstN s c < s.size then s.extract (fstN s c + 1) s.size else ⟨#[]⟩), .bool (decide (fstN s c < s.size))]
theorem extract_all (s : ByteArray) : s.extract 0 s.size = s := by
  apply ba_ext
  rw [list_ext, List.drop_zero, Nat.sub_zero, ← tl_len, List.take_length]
theorem toList_beq (s t : ByteArray) (h : s.size = t.size → False) : (s.toList == t.toList) = false := by
  rw [beq_eq_false_iff_ne]
  intro e
  rw [ByteArray.toList_eq, ByteArray.toList_eq] at e
  exact h (by rw [← tl_len, e, tl_len])
set_option maxHeartbeats 2000000 in
set_option maxRecDepth 100000 in
theorem Index_one (s : ByteArray) (x : UInt8) (w : World) : Calls Try.prog 50 #[.string s, .string ⟨#[x]⟩] w fun e w' => e = .returned (.int .i64 (if fstN s x.toNat < s.size then ((fstN s x.toNat : Nat) : Int) else -1)) ∧ w' = w := by
  have hz : (ByteArray.mk #[x]).size = 1 := rfl
  have ix : ∀ w : World, (Instr.index 9 (.string ⟨#[x]⟩) (.int .i64 0)).run Try.prog w = .ok (.int .u8 (x.toNat : Int)) w := fun w => idx (w := w) ⟨#[x]⟩ 0 (show 0 < 1 by decide) .i64
  have el : (ByteArray.mk #[x]).toList = [x] := by rw [ByteArray.toList_eq]
  cases he : ([x] == s.toList)
  · go_enter Try.func50, Try.ntmps50
    go_wp2_with (go_at_call 52; refine (IndexByte_any _ _ _).mono ?_; rintro e w1 ⟨rfl, hw1⟩; subst w1)
    all_goals
      go_ret
      exact ⟨rfl, rfl⟩
  · obtain rfl : s = ⟨#[x]⟩ := by
      rw [beq_iff_eq, ByteArray.toList_eq] at he
      exact (ba_ext (show (ByteArray.mk #[x]).data.toList = s.data.toList from he)).symm
    have hf : fstN ⟨#[x]⟩ x.toNat = 0 := by unfold fstN lOf; simp
    rw [hf]
    go_enter Try.func50, Try.ntmps50
    go_wp2
    go_ret
    exact ⟨by simp, rfl⟩
theorem ret_cut {a b c d : ByteArray} {p q : Bool} (h1 : a = b) (h2 : c = d) (h3 : p = q) : Ending.returned (.tuple #[.string a, .string c, .bool p]) = .returned (.tuple #[.string b, .string d, .bool q]) := by rw [h1, h2, h3]
set_option maxHeartbeats 1000000 in
theorem Cut_lite (s : ByteArray) (x : UInt8) (w : World) (hs : s.size ≤ 9223372036854775800) : Calls Try.prog 47 #[.string s, .string ⟨#[x]⟩] w fun e w' => e = .returned (cutV s x.toNat) ∧ ∃ n, w' = w.drewN n := by
  have hz : (ByteArray.mk #[x]).size = 1 := rfl
  have hle := fst_le s x.toNat
  unfold cutV
  generalize hk : fstN s x.toNat = k at hle ⊢
  by_cases h : k < s.size
  · rw [if_pos h]
    have CI : ∀ w : World, Calls Try.prog 50 #[.string s, .string ⟨#[x]⟩] w fun e w' => e = .returned (.int .i64 (k : Int)) ∧ w' = w := fun w => by
      have := Index_one s x w
      rw [hk, if_pos h] at this
      exact this
    have s1 : ∀ w : World, (Instr.slice 9 (.string s) none (some (.int .i64 (k : Int))) none).run Try.prog w = .ok (.string (s.extract 0 k)) w := fun w => by
      rw [run_slice_string_to_if w 9 s .i64 _ Try.underlying9, if_pos ⟨by omega, by omega⟩, Int.toNat_natCast]
    have s2 : ∀ w : World, (Instr.slice 9 (.string s) (some (.int .i64 ((k : Int) + 1))) none none).run Try.prog w = .ok (.string (s.extract (k + 1) s.size)) w := fun w => slice_from s (k + 1) (by omega) w
    clear hk
    go_enter Try.func47, Try.ntmps47
    go_wp2_with (go_at_call 50; refine (CI _).mono ?_; rintro e w1 ⟨rfl, hw1⟩; subst w1)
    go_quiet (fail)
    go_wp2
    exact bodyPost_ret (v := .tuple #[.string (s.extract 0 k), .string (s.extract (k + 1) s.size), .bool true]) (by simp [results, Try.results47, go_sem]) rfl ⟨ret_cut rfl rfl (by simp [h]), nq, rfl⟩
  · rw [if_neg h]
    obtain rfl : k = s.size := by omega
    have CI : ∀ w : World, Calls Try.prog 50 #[.string s, .string ⟨#[x]⟩] w fun e w' => e = .returned (.int .i64 (-1)) ∧ w' = w := fun w => by
      have := Index_one s x w
      rw [hk, if_neg h] at this
      exact this
    clear hk
    go_enter Try.func47, Try.ntmps47
    go_wp2_with (go_at_call 50; refine (CI _).mono ?_; rintro e w1 ⟨rfl, hw1⟩; subst w1)
    exact bodyPost_ret (v := .tuple #[.string s, .string ⟨#[]⟩, .bool false]) (by simp [results, Try.results47, go_sem]) rfl ⟨ret_cut (extract_all s).symm rfl (by simp), 0, rfl⟩
theorem Cut_any (s : ByteArray) (x : UInt8) (w : World) (hs : s.size ≤ 9223372036854775800) : Calls Try.prog 43 #[.string s, .string ⟨#[x]⟩] w fun e w' => e = .returned (cutV s x.toNat) ∧ ∃ n, w' = w.drewN n := by
  obtain ⟨A, B, C, hABC⟩ : ∃ A B C, cutV s x.toNat = .tuple #[.string A, .string B, .bool C] := ⟨_, _, _, rfl⟩
  have CC := fun w => Cut_lite s x w hs
  rw [hABC] at CC ⊢
  clear hABC
  go_enter Try.func43, Try.ntmps43
  go_wp2_with (go_at_call 47; refine (CC _).mono ?_; rintro e w1 ⟨rfl, n1, rfl⟩)
  exact bodyPost_ret (v := .tuple #[.string A, .string B, .bool C]) (by simp [results, Try.results43, go_sem]) rfl ⟨rfl, n1, rfl⟩
theorem Cut_quiet (s : ByteArray) (x : UInt8) (w : World) (n : Nat) (hs : s.size ≤ 9223372036854775800) : Calls Try.prog 43 #[.string s, .string ⟨#[x]⟩] (w.drewN n) fun e w' => e = .returned (cutV s x.toNat) ∧ ∃ m, w' = w.drewN m :=
  (Cut_any s x (w.drewN n) hs).mono fun _ _ ⟨h1, m, h2⟩ => ⟨h1, n + m, by rw [h2]; simp [World.drewN, Nat.add_assoc]⟩
end Go.Proofs.Ythiilkmnbjgoaaa
