/- The contract of AppendRune. -/
import Derived.Test.YthiilkmnbjgoaaaEnt5
import Derived.Deep.DeepCutAuto
namespace Go.Proofs.Ythiilkmnbjgoaaa
open Go.ChangeShapes Go.WideShapes Go.ChangeAt Go.RowKit

/-- The sequence of a character's number. -/
def encN (n : Nat) : List Nat := if n < 128 then [n] else if n < 2048 then [192 + n / 64, 128 + n % 64] else if n < 65536 then [224 + n / 4096, 128 + n / 64 % 64, 128 + n % 64] else [240 + n / 262144, 128 + n / 4096 % 64, 128 + n / 64 % 64, 128 + n % 64]
theorem buf_lit_nil (w : World) (M : List Nat) (n c : Nat) (hn : M.length = n) (hl : M.length ≤ 140737488355328) :
    ∃ v' w', (∀ ty, (Builtin.append_ #[22, 22] ty #[.slice none 0 0, .slice (some ⟨w.heap.size, 0, none⟩) n c]).run Try.prog (w.alloc (.cells (M.map cU).toArray 5)) = .ok v' w') ∧ (Buf w' w.heap.size v' M ∧ Below w.heap.size w w') := by
  have := (Buf.nil w w.heap.size).lit M n c hn (by simpa using hl) (Nat.le_refl _)
  simpa using this
set_option maxHeartbeats 1000000 in
theorem nonASCII_2 (n : Nat) (h1 : 128 ≤ n) (h2 : n ≤ 2047) (w : World) :
    Calls Try.prog 51 #[.slice none 0 0, .int .i32 (n : Int)] w fun e w' => ∃ v', e = .returned v' ∧ Buf w' w.heap.size v' [192 + n / 64, 128 + n % 64] ∧ Below w.heap.size w w' := by
  have d0 : decide ((n : Int) ≤ 2047) = true := by simp; omega
  have hi : (n : Int) < 2048 := by omega
  have hi0 : (127 : Int) < (n : Int) := by omega
  obtain ⟨v', w', hrun, hbuf, hbel⟩ := buf_lit_nil w [192 + n / 64, 128 + n % 64] 2 2 rfl (by simp)
  have hrun : ∀ ty, (Builtin.append_ #[22, 22] ty #[.slice none 0 0, .slice (some ⟨w.heap.size, 0, none⟩) 2 2]).run Try.prog (w.alloc (.cells #[.int .u8 (192 + (n : Int) / 64), .int .u8 (128 + (n : Int) % 64)] 5)) = .ok v' w' := hrun
  clear h1 h2
  go_enter Try.func51, Try.ntmps51
  go_wp2_with (at_builtin; refine (wpList_append_ex (by rfl) _ _ _ _ (by rfl) _ _ (by rfl) (by rfl) (fun a b => a = v' ∧ b = w') ⟨v', w', hrun, rfl, rfl⟩ ?_); rintro _ _ ⟨rfl, rfl⟩)
  go_ret
  exact ⟨_, rfl, hbuf, hbel⟩
set_option maxHeartbeats 1000000 in
theorem nonASCII_3a (n : Nat) (h1 : 2048 ≤ n) (h2 : n < 55296) (w : World) :
    Calls Try.prog 51 #[.slice none 0 0, .int .i32 (n : Int)] w fun e w' => ∃ v', e = .returned v' ∧ Buf w' w.heap.size v' [224 + n / 4096, 128 + n / 64 % 64, 128 + n % 64] ∧ Below w.heap.size w w' := by
  have d0 : decide ((n : Int) ≤ 2047) = false := by simp; omega
  have d1 : decide ((n : Int) < 55296) = true := by simp; omega
  have hi : (n : Int) < 55296 := by omega
  have hi0 : (2047 : Int) < (n : Int) := by omega
  obtain ⟨v', w', hrun, hbuf, hbel⟩ := buf_lit_nil w [224 + n / 4096, 128 + n / 64 % 64, 128 + n % 64] 3 3 rfl (by simp)
  have hrun : ∀ ty, (Builtin.append_ #[22, 22] ty #[.slice none 0 0, .slice (some ⟨w.heap.size, 0, none⟩) 3 3]).run Try.prog (w.alloc (.cells #[.int .u8 (224 + (n : Int) / 4096), .int .u8 (128 + (n : Int) / 64 % 64), .int .u8 (128 + (n : Int) % 64)] 5)) = .ok v' w' := hrun
  clear h1 h2
  go_enter Try.func51, Try.ntmps51
  go_wp2_with (at_builtin; refine (wpList_append_ex (by rfl) _ _ _ _ (by rfl) _ _ (by rfl) (by rfl) (fun a b => a = v' ∧ b = w') ⟨v', w', hrun, rfl, rfl⟩ ?_); rintro _ _ ⟨rfl, rfl⟩)
  go_ret
  exact ⟨_, rfl, hbuf, hbel⟩
set_option maxHeartbeats 1000000 in
theorem nonASCII_3b (n : Nat) (h1 : 57344 ≤ n) (h2 : n ≤ 65535) (w : World) :
    Calls Try.prog 51 #[.slice none 0 0, .int .i32 (n : Int)] w fun e w' => ∃ v', e = .returned v' ∧ Buf w' w.heap.size v' [224 + n / 4096, 128 + n / 64 % 64, 128 + n % 64] ∧ Below w.heap.size w w' := by
  have d0 : decide ((n : Int) ≤ 2047) = false := by simp; omega
  have d1 : decide ((n : Int) < 55296) = false := by simp; omega
  have d2 : decide (57343 < (n : Int)) = true := by simp; omega
  have d3 : decide ((n : Int) ≤ 65535) = true := by simp; omega
  have hi : (n : Int) < 65536 := by omega
  have hi0 : (57343 : Int) < (n : Int) := by omega
  obtain ⟨v', w', hrun, hbuf, hbel⟩ := buf_lit_nil w [224 + n / 4096, 128 + n / 64 % 64, 128 + n % 64] 3 3 rfl (by simp)
  have hrun : ∀ ty, (Builtin.append_ #[22, 22] ty #[.slice none 0 0, .slice (some ⟨w.heap.size, 0, none⟩) 3 3]).run Try.prog (w.alloc (.cells #[.int .u8 (224 + (n : Int) / 4096), .int .u8 (128 + (n : Int) / 64 % 64), .int .u8 (128 + (n : Int) % 64)] 5)) = .ok v' w' := hrun
  clear h1 h2
  go_enter Try.func51, Try.ntmps51
  go_wp2_with (at_builtin; refine (wpList_append_ex (by rfl) _ _ _ _ (by rfl) _ _ (by rfl) (by rfl) (fun a b => a = v' ∧ b = w') ⟨v', w', hrun, rfl, rfl⟩ ?_); rintro _ _ ⟨rfl, rfl⟩)
  go_ret
  exact ⟨_, rfl, hbuf, hbel⟩
set_option maxHeartbeats 1000000 in
theorem nonASCII_4 (n : Nat) (h1 : 65536 ≤ n) (h2 : n ≤ 1114111) (w : World) :
    Calls Try.prog 51 #[.slice none 0 0, .int .i32 (n : Int)] w fun e w' => ∃ v', e = .returned v' ∧ Buf w' w.heap.size v' [240 + n / 262144, 128 + n / 4096 % 64, 128 + n / 64 % 64, 128 + n % 64] ∧ Below w.heap.size w w' := by
  have d0 : decide ((n : Int) ≤ 2047) = false := by simp; omega
  have d1 : decide ((n : Int) < 55296) = false := by simp; omega
  have d2 : decide (57343 < (n : Int)) = true := by simp; omega
  have d3 : decide ((n : Int) ≤ 65535) = false := by simp; omega
  have d4 : decide (65535 < (n : Int)) = true := by simp; omega
  have d5 : decide ((n : Int) ≤ 1114111) = true := by simp; omega
  have hi : (n : Int) < 1114112 := by omega
  have hi0 : (65535 : Int) < (n : Int) := by omega
  obtain ⟨v', w', hrun, hbuf, hbel⟩ := buf_lit_nil w [240 + n / 262144, 128 + n / 4096 % 64, 128 + n / 64 % 64, 128 + n % 64] 4 4 rfl (by simp)
  have hrun : ∀ ty, (Builtin.append_ #[22, 22] ty #[.slice none 0 0, .slice (some ⟨w.heap.size, 0, none⟩) 4 4]).run Try.prog (w.alloc (.cells #[.int .u8 (240 + (n : Int) / 262144), .int .u8 (128 + (n : Int) / 4096 % 64), .int .u8 (128 + (n : Int) / 64 % 64), .int .u8 (128 + (n : Int) % 64)] 5)) = .ok v' w' := hrun
  clear h1 h2
  go_enter Try.func51, Try.ntmps51
  go_wp2_with (at_builtin; refine (wpList_append_ex (by rfl) _ _ _ _ (by rfl) _ _ (by rfl) (by rfl) (fun a b => a = v' ∧ b = w') ⟨v', w', hrun, rfl, rfl⟩ ?_); rintro _ _ ⟨rfl, rfl⟩)
  go_ret
  exact ⟨_, rfl, hbuf, hbel⟩
set_option maxHeartbeats 1000000 in
theorem AppendRune_any (n : Nat) (h : xmlB n = true) (w : World) :
    Calls Try.prog 49 #[.slice none 0 0, .int .i32 (n : Int)] w fun e w' => ∃ v', e = .returned v' ∧ Buf w' w.heap.size v' (encN n) ∧ Below w.heap.size w w' := by
  have hr : n ≤ 55295 ∨ (57344 ≤ n ∧ n ≤ 65535) ∨ (65536 ≤ n ∧ n ≤ 1114111) := by unfold xmlB at h; simp at h; omega
  unfold encN
  by_cases k1 : n < 128
  · rw [if_pos k1]
    have d1 : decide ((n : Int) ≤ 127) = true := by simp; omega
    have hi : (n : Int) < 128 := by omega
    obtain ⟨v', w', hrun, hbuf, hbel⟩ := buf_lit_nil w [n] 1 1 rfl (by simp)
    have hrun : ∀ ty, (Builtin.append_ #[22, 22] ty #[.slice none 0 0, .slice (some ⟨w.heap.size, 0, none⟩) 1 1]).run Try.prog (w.alloc (.cells #[.int .u8 (n : Int)] 5)) = .ok v' w' := hrun
    clear hr h
    go_enter Try.func49, Try.ntmps49
    go_wp2_with (at_builtin; refine (wpList_append_ex (by rfl) _ _ _ _ (by rfl) _ _ (by rfl) (by rfl) (fun a b => a = v' ∧ b = w') ⟨v', w', hrun, rfl, rfl⟩ ?_); rintro _ _ ⟨rfl, rfl⟩)
    go_ret
    exact ⟨_, rfl, hbuf, hbel⟩
  · rw [if_neg k1]
    have d1 : decide ((n : Int) ≤ 127) = false := by simp; omega
    have hi : (n : Int) < 1114112 := by omega
    have hi0 : (127 : Int) < (n : Int) := by omega
    have CN : Calls Try.prog 51 #[.slice none 0 0, .int .i32 (n : Int)] w fun e w' => ∃ v', e = .returned v' ∧ Buf w' w.heap.size v' (if n < 2048 then [192 + n / 64, 128 + n % 64] else if n < 65536 then [224 + n / 4096, 128 + n / 64 % 64, 128 + n % 64] else [240 + n / 262144, 128 + n / 4096 % 64, 128 + n / 64 % 64, 128 + n % 64]) ∧ Below w.heap.size w w' := by
      by_cases k2 : n < 2048
      · rw [if_pos k2]; exact nonASCII_2 n (by omega) (by omega) w
      · rw [if_neg k2]
        by_cases k3 : n < 65536
        · rw [if_pos k3]
          by_cases k4 : n < 55296
          · exact nonASCII_3a n (by omega) k4 w
          · exact nonASCII_3b n (by omega) (by omega) w
        · rw [if_neg k3]; exact nonASCII_4 n (by omega) (by omega) w
    generalize (if n < 2048 then [192 + n / 64, 128 + n % 64] else if n < 65536 then [224 + n / 4096, 128 + n / 64 % 64, 128 + n % 64] else [240 + n / 262144, 128 + n / 4096 % 64, 128 + n / 64 % 64, 128 + n % 64]) = M at CN ⊢
    clear hr h k1
    go_enter Try.func49, Try.ntmps49
    go_wp2_with (go_at_call 51; refine CN.mono ?_; rintro e w1 ⟨v1, rfl, hB1, hb1⟩)
    go_ret
    exact ⟨_, rfl, hB1, hb1⟩
end Go.Proofs.Ythiilkmnbjgoaaa
