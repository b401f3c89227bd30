/- The contracts of names: isLetter, isDigit, inXMLName, XMLName, Symbol. -/
import Derived.Test.YtfikmlckcbnppaaDoorProg
import Derived.Test.YtfikmlckcbnppaaDoorMath
import Derived.WalkKit
import Derived.WalkSpells
import Derived.WalkLawsBesides
import Derived.ProofKit
import Derived.OpenShut
import Derived.Laws.BitsAllLaws
import Derived.Laws.DeepStrings4
import Derived.Deep.RegionWith
import Derived.Deep.QuietTactic
import Derived.BigQuiet
namespace Go.Proofs.YtfikmlckcbnppaaDoor
open Go.ChangeShapes Go.WideShapes Go.ChangeAt Go.RowKit

theorem nret {a b : Bool} (h : a = b) : Ending.returned (.bool a) = .returned (.bool b) := by rw [h]
theorem nidx {w : World} (s : ByteArray) (i : Nat) (h : i < s.size) (k : IntKind) : (Instr.index 9 (.string s) (.int k (i : Int))).run Tryd.prog w = .ok (.int .u8 (ch s i : Int)) w := by
  rw [run_index_string w 9 s k i Tryd.underlying9, dif_pos ⟨by omega, by omega⟩]
  simp only [Int.toNat_natCast, ch_get]
def nlet (c : Nat) : Bool := (decide (65 ≤ c) && decide (c ≤ 90)) || (decide (97 ≤ c) && decide (c ≤ 122))
def ndig (c : Nat) : Bool := decide (48 ≤ c) && decide (c ≤ 57)
def nxml (c : Nat) (first : Bool) : Bool := decide (c = 95) || decide (c = 58) || ((decide (c = 45) || decide (c = 46)) && !first) || nlet c || (ndig c && !first)
def nsym (c : Nat) : Bool := nlet c || ndig c || decide (c = 95)
def xmlNameB (s : ByteArray) : Bool := decide (0 < s.size ∧ ∀ i, i < s.size → nxml (ch s i) (decide (i = 0)) = true)
def symbolB (s : ByteArray) : Bool := decide (0 < s.size ∧ s.size ≤ 64 ∧ ndig (ch s 0) = false ∧ ∀ i, i < s.size → nsym (ch s i) = true)
theorem nisDigit (c : Nat) (w : World) : Calls Tryd.prog 35 #[.int .u8 (c : Int)] w fun e w' => e = .returned (.bool (ndig c)) ∧ w' = w := by
  unfold ndig
  by_cases h : 48 ≤ c
  · go_enter Tryd.func35, Tryd.ntmps35
    go_wp2
    go_ret
    exact ⟨nret (by simp [h]; omega), rfl⟩
  · have d : decide (48 ≤ (c : Int)) = false := by simp; omega
    go_enter Tryd.func35, Tryd.ntmps35
    go_wp2
    go_ret
    exact ⟨nret (by simp; omega), rfl⟩
theorem nisLetter (c : Nat) (w : World) : Calls Tryd.prog 36 #[.int .u8 (c : Int)] w fun e w' => e = .returned (.bool (nlet c)) ∧ w' = w := by
  have : (c < 65) ∨ (65 ≤ c ∧ c ≤ 90) ∨ (90 < c ∧ c < 97) ∨ (97 ≤ c ∧ c ≤ 122) ∨ 122 < c := by omega
  rcases this with h | h | h | h | h
  · have d1 : decide (65 ≤ (c : Int)) = false := by simp; omega
    have d3 : decide (97 ≤ (c : Int)) = false := by simp; omega
    have g : nlet c = false := by unfold nlet; simp; omega
    rw [g]
    go_enter Tryd.func36, Tryd.ntmps36
    go_wp2
    go_ret
    exact ⟨rfl, rfl⟩
  · have d1 : decide (65 ≤ (c : Int)) = true := by simp; omega
    have d2 : decide ((c : Int) ≤ 90) = true := by simp; omega
    have g : nlet c = true := by unfold nlet; simp; omega
    rw [g]
    go_enter Tryd.func36, Tryd.ntmps36
    go_wp2
    go_ret
    exact ⟨rfl, rfl⟩
  · have d1 : decide (65 ≤ (c : Int)) = true := by simp; omega
    have d2 : decide ((c : Int) ≤ 90) = false := by simp; omega
    have d3 : decide (97 ≤ (c : Int)) = false := by simp; omega
    have g : nlet c = false := by unfold nlet; simp; omega
    rw [g]
    go_enter Tryd.func36, Tryd.ntmps36
    go_wp2
    go_ret
    exact ⟨rfl, rfl⟩
  · have d1 : decide (65 ≤ (c : Int)) = true := by simp; omega
    have d2 : decide ((c : Int) ≤ 90) = false := by simp; omega
    have d3 : decide (97 ≤ (c : Int)) = true := by simp; omega
    have d4 : decide ((c : Int) ≤ 122) = true := by simp; omega
    have g : nlet c = true := by unfold nlet; simp; omega
    rw [g]
    go_enter Tryd.func36, Tryd.ntmps36
    go_wp2
    go_ret
    exact ⟨rfl, rfl⟩
  · have d1 : decide (65 ≤ (c : Int)) = true := by simp; omega
    have d2 : decide ((c : Int) ≤ 90) = false := by simp; omega
    have d3 : decide (97 ≤ (c : Int)) = true := by simp; omega
    have d4 : decide ((c : Int) ≤ 122) = false := by simp; omega
    have g : nlet c = false := by unfold nlet; simp; omega
    rw [g]
    go_enter Tryd.func36, Tryd.ntmps36
    go_wp2
    go_ret
    exact ⟨rfl, rfl⟩
end Go.Proofs.YtfikmlckcbnppaaDoor
