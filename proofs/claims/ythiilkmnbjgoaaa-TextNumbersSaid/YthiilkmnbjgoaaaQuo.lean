/- The contracts of Unquote's reader. -/
import Derived.Test.YthiilkmnbjgoaaaRd
namespace Go.Proofs.Ythiilkmnbjgoaaa
open Go.ChangeShapes Go.WideShapes Go.ChangeAt Go.RowKit

def prefB (s p : ByteArray) : Bool := decide (p.size ≤ s.size) && ((s.extract 0 p.size).toList == p.toList)
theorem lOf_toList (s : ByteArray) : lOf s = s.toList.map UInt8.toNat := by unfold lOf; rw [ByteArray.toList_eq]
theorem toNat_map_inj : ∀ (a b : List UInt8), (a.map UInt8.toNat = b.map UInt8.toNat) → a = b
  | [], [], _ => rfl
  | [], _ :: _, h => by simp at h
  | _ :: _, [], h => by simp at h
  | x :: a, y :: b, h => by
    simp only [List.map_cons, List.cons.injEq] at h
    rw [toNat_map_inj a b h.2, UInt8.toNat_inj.1 h.1]
theorem prefB_iff (s p : ByteArray) : prefB s p = true ↔ (lOf p) = (lOf s).take p.size := by
  unfold prefB
  rw [Bool.and_eq_true, decide_eq_true_eq, beq_iff_eq]
  constructor
  · rintro ⟨_, h⟩
    rw [lOf_toList p, ← h, ← lOf_toList, lOf_extract, List.drop_zero, Nat.sub_zero]
  · intro h
    have hl : (lOf p).length = p.size := lOf_length p
    have h2 : p.size ≤ s.size := by
      rw [h, List.length_take, lOf_length] at hl; omega
    refine ⟨h2, toNat_map_inj _ _ ?_⟩
    rw [← lOf_toList, ← lOf_toList, lOf_extract, List.drop_zero, Nat.sub_zero, h]
theorem take1 (s : ByteArray) (h : 1 ≤ s.size) : (lOf s).take 1 = [ch s 0] := by rw [take_succ_ch s 0 h]; rfl
theorem take2 (s : ByteArray) (h : 2 ≤ s.size) : (lOf s).take 2 = [ch s 0, ch s 1] := by rw [take_succ_ch s 1 h, take1 s (by omega)]; rfl
theorem take3 (s : ByteArray) (h : 3 ≤ s.size) : (lOf s).take 3 = [ch s 0, ch s 1, ch s 2] := by rw [take_succ_ch s 2 h, take2 s (by omega)]; rfl
theorem prefB_1 (s : ByteArray) (x : UInt8) : prefB s ⟨#[x]⟩ = (decide (1 ≤ s.size) && decide (ch s 0 = x.toNat)) := by
  rw [Bool.eq_iff_iff, prefB_iff, Bool.and_eq_true, decide_eq_true_eq, decide_eq_true_eq]
  show [x.toNat] = (lOf s).take 1 ↔ _
  by_cases h : 1 ≤ s.size
  · rw [take1 s h]; simp [h, eq_comm]
  · have : (lOf s).take 1 = [] := by
      have : (lOf s).length = 0 := by rw [lOf_length]; omega
      rw [List.length_eq_zero_iff.1 this]; rfl
    rw [this]; simp [h]
theorem prefB_2 (s : ByteArray) (x y : UInt8) : prefB s ⟨#[x, y]⟩ = (decide (2 ≤ s.size) && decide (ch s 0 = x.toNat) && decide (ch s 1 = y.toNat)) := by
  rw [Bool.eq_iff_iff, prefB_iff, Bool.and_eq_true, Bool.and_eq_true, decide_eq_true_eq, decide_eq_true_eq, decide_eq_true_eq]
  show [x.toNat, y.toNat] = (lOf s).take 2 ↔ _
  by_cases h : 2 ≤ s.size
  · rw [take2 s h]; simp [h, eq_comm]
  · have hl : ((lOf s).take 2).length < 2 := by rw [List.length_take, lOf_length]; omega
    constructor
    · intro e; rw [← e] at hl; simp at hl
    · rintro ⟨⟨h2, _⟩, _⟩; omega
theorem prefB_3 (s : ByteArray) (x y z : UInt8) : prefB s ⟨#[x, y, z]⟩ = (decide (3 ≤ s.size) && decide (ch s 0 = x.toNat) && decide (ch s 1 = y.toNat) && decide (ch s 2 = z.toNat)) := by
  rw [Bool.eq_iff_iff, prefB_iff, Bool.and_eq_true, Bool.and_eq_true, Bool.and_eq_true, decide_eq_true_eq, decide_eq_true_eq, decide_eq_true_eq, decide_eq_true_eq]
  show [x.toNat, y.toNat, z.toNat] = (lOf s).take 3 ↔ _
  by_cases h : 3 ≤ s.size
  · rw [take3 s h]; simp [h, eq_comm, and_assoc]
  · have hl : ((lOf s).take 3).length < 3 := by rw [List.length_take, lOf_length]; omega
    constructor
    · intro e; rw [← e] at hl; simp at hl
    · rintro ⟨⟨⟨h2, _⟩, _⟩, _⟩; omega
theorem HasPrefix_any (s p : ByteArray) (w : World) : Calls Try.prog 20 #[.string s, .string p] w fun e w' => e = .returned (.bool (prefB s p)) ∧ w' = w := by
  unfold prefB
  by_cases h : p.size ≤ s.size
  · have d : decide ((p.size : Int) ≤ (s.size : Int)) = true := by simp; omega
    have hsl : ∀ w : World, (Instr.slice 9 (.string s) none (some (.int .i64 (p.size : Int))) none).run Try.prog w = .ok (.string (s.extract 0 p.size)) w := fun w => by
      rw [run_slice_string_to_if w 9 s .i64 _ Try.underlying9, if_pos ⟨by omega, by omega⟩, Int.toNat_natCast]
    go_enter Try.func20, Try.ntmps20
    go_wp2_with (go_at_call 29; go_in)
    go_ret
    exact ⟨ret_bool (by simp [h]), rfl⟩
  · have d : decide ((p.size : Int) ≤ (s.size : Int)) = false := by simp; omega
    go_enter Try.func20, Try.ntmps20
    go_wp2_with (go_at_call 29; go_in)
    go_ret
    exact ⟨ret_bool (by simp [h]), rfl⟩
def plainB (c : Nat) : Bool := decide (32 ≤ c) && !decide (c = 34) && !decide (c = 92)
theorem isPlain_any (c : Nat) (w : World) : Calls Try.prog 41 #[.int .u8 (c : Int)] w fun e w' => e = .returned (.bool (plainB c)) ∧ w' = w := by
  unfold plainB
  by_cases h : 32 ≤ c
  · have d : decide (32 ≤ (c : Int)) = true := by simp; omega
    by_cases h2 : c = 34
    · have e1 : ((c : Int) == 34) = true := by simp; omega
      have e2 : ((c : Int) != 34) = false := by simp; omega
      go_enter Try.func41, Try.ntmps41
      go_wp2
      go_ret
      exact ⟨ret_bool (by simp [h2]), rfl⟩
    · have e1 : ((c : Int) == 34) = false := by simp; omega
      have e2 : ((c : Int) != 34) = true := by simp; omega
      go_enter Try.func41, Try.ntmps41
      go_wp2
      go_ret
      refine ⟨ret_bool ?_, rfl⟩
      rw [Bool.eq_iff_iff]
      simp
      omega
  · have d : decide (32 ≤ (c : Int)) = false := by simp; omega
    go_enter Try.func41, Try.ntmps41
    go_wp2
    go_ret
    exact ⟨ret_bool (by simp [h]), rfl⟩
end Go.Proofs.Ythiilkmnbjgoaaa
