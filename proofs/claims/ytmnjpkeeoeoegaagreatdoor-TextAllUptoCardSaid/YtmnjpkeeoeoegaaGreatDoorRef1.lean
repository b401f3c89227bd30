/- The document's answer: the small functions of bytes and numbers. -/
import Derived.Test.YtmnjpkeeoeoegaaGreatDoorNamMath
import Derived.Test.YtmnjpkeeoeoegaaGreatDoorHex
namespace Go.Proofs.YtmnjpkeeoeoegaaGreatDoor
open Go.ChangeShapes Go.WideShapes Go.ChangeAt Go.RowKit

theorem rdigit (c : Nat) (w : World) : Calls Tryz.prog 62 #[.int .u8 (c : Int)] w fun e w' => e = .returned (.bool (ndig c)) ∧ w' = w := by
  unfold ndig
  by_cases h : 48 ≤ c
  · go_enter Tryz.func62, Tryz.ntmps62
    go_wp2
    go_ret
    exact ⟨nret (by simp [h]; omega), rfl⟩
  · have d : decide (48 ≤ (c : Int)) = false := by simp; omega
    go_enter Tryz.func62, Tryz.ntmps62
    go_wp2
    go_ret
    exact ⟨nret (by simp; omega), rfl⟩
theorem rletter (c : Nat) (w : World) : Calls Tryz.prog 61 #[.int .u8 (c : Int)] w fun e w' => e = .returned (.bool (nlet c)) ∧ w' = w := by
  have : (c < 65) ∨ (65 ≤ c ∧ c ≤ 90) ∨ (90 < c ∧ c < 97) ∨ (97 ≤ c ∧ c ≤ 122) ∨ 122 < c := by omega
  rcases this with h | h | h | h | h
  · have d1 : decide (65 ≤ (c : Int)) = false := by simp; omega
    have d3 : decide (97 ≤ (c : Int)) = false := by simp; omega
    have g : nlet c = false := by unfold nlet; simp; omega
    rw [g]
    go_enter Tryz.func61, Tryz.ntmps61
    go_wp2
    go_ret
    exact ⟨rfl, rfl⟩
  · have d1 : decide (65 ≤ (c : Int)) = true := by simp; omega
    have d2 : decide ((c : Int) ≤ 90) = true := by simp; omega
    have d3 : decide (97 ≤ (c : Int)) = false := by simp; omega
    have g : nlet c = true := by unfold nlet; simp; omega
    rw [g]
    go_enter Tryz.func61, Tryz.ntmps61
    go_wp2
    go_ret
    exact ⟨rfl, rfl⟩
  · have d1 : decide (65 ≤ (c : Int)) = true := by simp; omega
    have d2 : decide ((c : Int) ≤ 90) = false := by simp; omega
    have d3 : decide (97 ≤ (c : Int)) = false := by simp; omega
    have g : nlet c = false := by unfold nlet; simp; omega
    rw [g]
    go_enter Tryz.func61, Tryz.ntmps61
    go_wp2
    go_ret
    exact ⟨rfl, rfl⟩
  · have d3 : decide (97 ≤ (c : Int)) = true := by simp; omega
    have d4 : decide ((c : Int) ≤ 122) = true := by simp; omega
    have g : nlet c = true := by unfold nlet; simp; omega
    rw [g]
    go_enter Tryz.func61, Tryz.ntmps61
    go_wp2
    go_ret
    exact ⟨rfl, rfl⟩
  · have d1 : decide (65 ≤ (c : Int)) = true := by simp; omega
    have d2 : decide ((c : Int) ≤ 90) = false := by simp; omega
    have d3 : decide (97 ≤ (c : Int)) = true := by simp; omega
    have d4 : decide ((c : Int) ≤ 122) = false := by simp; omega
    have g : nlet c = false := by unfold nlet; simp; omega
    rw [g]
    go_enter Tryz.func61, Tryz.ntmps61
    go_wp2
    go_ret
    exact ⟨rfl, rfl⟩
theorem rblank (c : Nat) (w : World) : Calls Tryz.prog 43 #[.int .u8 (c : Int)] w fun e w' => e = .returned (.bool (blC c)) ∧ w' = w := by
  have : (c = 9) ∨ (c = 10) ∨ (c = 13) ∨ (c = 32) ∨ (¬ c = 9 ∧ ¬ c = 10 ∧ ¬ c = 13 ∧ ¬ c = 32) := by omega
  rcases this with rfl | rfl | rfl | rfl | h
  · go_enter Tryz.func43, Tryz.ntmps43
    go_wp2
    go_ret
    exact ⟨rfl, rfl⟩
  · go_enter Tryz.func43, Tryz.ntmps43
    go_wp2
    go_ret
    exact ⟨rfl, rfl⟩
  · go_enter Tryz.func43, Tryz.ntmps43
    go_wp2
    go_ret
    exact ⟨rfl, rfl⟩
  · go_enter Tryz.func43, Tryz.ntmps43
    go_wp2
    go_ret
    exact ⟨rfl, rfl⟩
  · have e9 : ((c : Int) == 9) = false := by simp; omega
    have e10 : ((c : Int) == 10) = false := by simp; omega
    have e13 : ((c : Int) == 13) = false := by simp; omega
    have e32 : ((c : Int) == 32) = false := by simp; omega
    have g : blC c = false := by unfold blC; simp; omega
    rw [g]
    go_enter Tryz.func43, Tryz.ntmps43
    go_wp2
    go_ret
    exact ⟨rfl, rfl⟩
/-- What worth answers. -/
def wrI (c : Nat) : Int := match worth c with | some d => (d : Int) | none => -1
def wrD (c : Nat) : Int := if 48 ≤ c ∧ c ≤ 57 then (c : Int) - 48 else -1
theorem wrI_bd (c : Nat) : -1 ≤ wrI c ∧ wrI c < 16 := by
  unfold wrI
  cases h : worth c with
  | none => simp
  | some d => have := worth_lt h; simp only; omega
theorem rret {a b : Int} (h : a = b) : Ending.returned (.int .i64 a) = .returned (.int .i64 b) := by rw [h]
theorem rworth (c : Nat) (hc : c < 256) (w : World) : Calls Tryz.prog 56 #[.int .u8 (c : Int), .bool true] w fun e w' => e = .returned (.int .i64 (wrI c)) ∧ w' = w := by
  have : (c < 48) ∨ (48 ≤ c ∧ c ≤ 57) ∨ (58 ≤ c ∧ c ≤ 64) ∨ (65 ≤ c ∧ c ≤ 70) ∨ (71 ≤ c ∧ c ≤ 96) ∨ (97 ≤ c ∧ c ≤ 102) ∨ 103 ≤ c := by omega
  rcases this with h | h | h | h | h | h | h
  · have g : wrI c = -1 := by unfold wrI worth; rw [if_neg (by omega), if_neg (by omega), if_neg (by omega)]
    rw [g]
    have d1 : decide (48 ≤ (c : Int)) = false := by simp; omega
    have d3 : decide (97 ≤ (c : Int)) = false := by simp; omega
    have d5 : decide (65 ≤ (c : Int)) = false := by simp; omega
    clear g h
    go_enter Tryz.func56, Tryz.ntmps56
    go_wp2
    go_ret
    exact ⟨rfl, rfl⟩
  · have g : wrI c = (c : Int) - 48 := by unfold wrI worth; rw [if_pos (by omega)]; simp only; omega
    rw [g]
    have d1 : decide (48 ≤ (c : Int)) = true := by simp; omega
    have d2 : decide ((c : Int) ≤ 57) = true := by simp; omega
    have sb : IntKind.u8.wrap ((c : Int) - 48) = (c : Int) - 48 := by rw [IntKind.wrap_u8']; omega
    clear g
    go_enter Tryz.func56, Tryz.ntmps56
    go_wp2
    go_ret
    exact ⟨rfl, rfl⟩
  · have g : wrI c = -1 := by unfold wrI worth; rw [if_neg (by omega), if_neg (by omega), if_neg (by omega)]
    rw [g]
    have d1 : decide (48 ≤ (c : Int)) = true := by simp; omega
    have d2 : decide ((c : Int) ≤ 57) = false := by simp; omega
    have d3 : decide (97 ≤ (c : Int)) = false := by simp; omega
    have d5 : decide (65 ≤ (c : Int)) = false := by simp; omega
    clear g h
    go_enter Tryz.func56, Tryz.ntmps56
    go_wp2
    go_ret
    exact ⟨rfl, rfl⟩
  · have g : wrI c = (c : Int) - 65 + 10 := by unfold wrI worth; rw [if_neg (by omega), if_neg (by omega), if_pos (by omega)]; simp only; omega
    rw [g]
    have d1 : decide (48 ≤ (c : Int)) = true := by simp; omega
    have d2 : decide ((c : Int) ≤ 57) = false := by simp; omega
    have d3 : decide (97 ≤ (c : Int)) = false := by simp; omega
    have d5 : decide (65 ≤ (c : Int)) = true := by simp; omega
    have d6 : decide ((c : Int) ≤ 70) = true := by simp; omega
    clear g
    go_enter Tryz.func56, Tryz.ntmps56
    go_wp2
    go_ret
    exact ⟨rfl, rfl⟩
  · have g : wrI c = -1 := by unfold wrI worth; rw [if_neg (by omega), if_neg (by omega), if_neg (by omega)]
    rw [g]
    have d1 : decide (48 ≤ (c : Int)) = true := by simp; omega
    have d2 : decide ((c : Int) ≤ 57) = false := by simp; omega
    have d3 : decide (97 ≤ (c : Int)) = false := by simp; omega
    have d5 : decide (65 ≤ (c : Int)) = true := by simp; omega
    have d6 : decide ((c : Int) ≤ 70) = false := by simp; omega
    clear g h
    go_enter Tryz.func56, Tryz.ntmps56
    go_wp2
    go_ret
    exact ⟨rfl, rfl⟩
  · have g : wrI c = (c : Int) - 97 + 10 := by unfold wrI worth; rw [if_neg (by omega), if_pos (by omega)]; simp only; omega
    rw [g]
    have d1 : decide (48 ≤ (c : Int)) = true := by simp; omega
    have d2 : decide ((c : Int) ≤ 57) = false := by simp; omega
    have d3 : decide (97 ≤ (c : Int)) = true := by simp; omega
    have d4 : decide ((c : Int) ≤ 102) = true := by simp; omega
    clear g
    go_enter Tryz.func56, Tryz.ntmps56
    go_wp2
    go_ret
    exact ⟨rfl, rfl⟩
  · have g : wrI c = -1 := by unfold wrI worth; rw [if_neg (by omega), if_neg (by omega), if_neg (by omega)]
    rw [g]
    have d1 : decide (48 ≤ (c : Int)) = true := by simp; omega
    have d2 : decide ((c : Int) ≤ 57) = false := by simp; omega
    have d3 : decide (97 ≤ (c : Int)) = true := by simp; omega
    have d4 : decide ((c : Int) ≤ 102) = false := by simp; omega
    have d5 : decide (65 ≤ (c : Int)) = true := by simp; omega
    have d6 : decide ((c : Int) ≤ 70) = false := by simp; omega
    clear g h
    go_enter Tryz.func56, Tryz.ntmps56
    go_wp2
    go_ret
    exact ⟨rfl, rfl⟩
theorem rworthD (c : Nat) (w : World) : Calls Tryz.prog 56 #[.int .u8 (c : Int), .bool false] w fun e w' => e = .returned (.int .i64 (wrD c)) ∧ w' = w := by
  have : (c < 48) ∨ (48 ≤ c ∧ c ≤ 57) ∨ 58 ≤ c := by omega
  rcases this with h | h | h
  · have g : wrD c = -1 := by unfold wrD; rw [if_neg (by omega)]
    rw [g]
    have d1 : decide (48 ≤ (c : Int)) = false := by simp; omega
    clear g h
    go_enter Tryz.func56, Tryz.ntmps56
    go_wp2
    go_ret
    exact ⟨rfl, rfl⟩
  · have g : wrD c = (c : Int) - 48 := by unfold wrD; rw [if_pos h]
    rw [g]
    have d1 : decide (48 ≤ (c : Int)) = true := by simp; omega
    have d2 : decide ((c : Int) ≤ 57) = true := by simp; omega
    have sb : IntKind.u8.wrap ((c : Int) - 48) = (c : Int) - 48 := by rw [IntKind.wrap_u8']; omega
    clear g
    go_enter Tryz.func56, Tryz.ntmps56
    go_wp2
    go_ret
    exact ⟨rfl, rfl⟩
  · have g : wrD c = -1 := by unfold wrD; rw [if_neg (by omega)]
    rw [g]
    have d1 : decide (48 ≤ (c : Int)) = true := by simp; omega
    have d2 : decide ((c : Int) ≤ 57) = false := by simp; omega
    clear g h
    go_enter Tryz.func56, Tryz.ntmps56
    go_wp2
    go_ret
    exact ⟨rfl, rfl⟩
theorem rret8 {a b : Int} (h : a = b) : Ending.returned (.int .u8 a) = .returned (.int .u8 b) := by rw [h]
theorem rsmall (n : Nat) (hn : n < 16) (w : World) : Calls Tryz.prog 54 #[.int .u8 (n : Int)] w fun e w' => e = .returned (.int .u8 ((if n < 10 then 48 + n else 87 + n : Nat) : Int)) ∧ w' = w := by
  by_cases h : n < 10
  · rw [if_pos h]
    have d1 : decide ((n : Int) < 10) = true := by simp; omega
    go_enter Tryz.func54, Tryz.ntmps54
    go_wp2
    go_ret
    refine ⟨rret8 ?_, rfl⟩
    first | omega | (simp only [IntKind.wrap_u8']; omega)
  · rw [if_neg h]
    have d1 : decide ((n : Int) < 10) = false := by simp; omega
    go_enter Tryz.func54, Tryz.ntmps54
    go_wp2
    go_ret
    refine ⟨rret8 ?_, rfl⟩
    first | omega | (simp only [IntKind.wrap_u8']; omega)
theorem rxml (n : Int) (w : World) : Calls Tryz.prog 36 #[.int .i64 n] w fun e w' => e = .returned (.bool (xmlB n)) ∧ w' = w := by
  unfold xmlB
  have : n = 9 ∨ n = 10 ∨ n = 13 ∨ (¬ n = 9 ∧ ¬ n = 10 ∧ ¬ n = 13) := by omega
  rcases this with rfl | rfl | rfl | ⟨h1, h2, h3⟩
  · go_enter Tryz.func36, Tryz.ntmps36
    go_wp2
    go_ret
    exact ⟨rfl, rfl⟩
  · go_enter Tryz.func36, Tryz.ntmps36
    go_wp2
    go_ret
    exact ⟨rfl, rfl⟩
  · go_enter Tryz.func36, Tryz.ntmps36
    go_wp2
    go_ret
    exact ⟨rfl, rfl⟩
  · have e9 : (n == 9) = false := by simp [h1]
    have e10 : (n == 10) = false := by simp [h2]
    have e13 : (n == 13) = false := by simp [h3]
    have f9 : decide (n = 9) = false := by simp [h1]
    have f10 : decide (n = 10) = false := by simp [h2]
    have f13 : decide (n = 13) = false := by simp [h3]
    rw [f9, f10, f13]
    clear h1 h2 h3 f9 f10 f13
    have : n < 32 ∨ (32 ≤ n ∧ n ≤ 55295) ∨ (55296 ≤ n ∧ n < 57344) ∨ (57344 ≤ n ∧ n ≤ 65533) ∨ (65534 ≤ n ∧ n < 65536) ∨ (65536 ≤ n ∧ n ≤ 1114111) ∨ 1114111 < n := by omega
    have q : ∃ a b c d e f : Bool, decide (32 ≤ n) = a ∧ decide (n ≤ 55295) = b ∧ decide (57344 ≤ n) = c ∧ decide (n ≤ 65533) = d ∧ decide (65536 ≤ n) = e ∧ decide (n ≤ 1114111) = f := ⟨_, _, _, _, _, _, rfl, rfl, rfl, rfl, rfl, rfl⟩
    obtain ⟨a, b, c, d, e, f, ha, hb, hc, hd, he, hf⟩ := q
    rw [ha, hb, hc, hd, he, hf]
    clear this
    cases a <;> cases b <;> cases c <;> cases d <;> cases e <;> cases f <;>
    (go_enter Tryz.func36, Tryz.ntmps36
     go_wp2
     go_ret
     exact ⟨rfl, rfl⟩)
end Go.Proofs.YtmnjpkeeoeoegaaGreatDoor
