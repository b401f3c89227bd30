/- The contracts below Get and Put: shift, shiftOf, within; what the bytes of a word are. -/
import Derived.Test.YtfhphjgcmbneeaaDoorPFace
import Derived.Deep.RegionWith
namespace Go.Proofs.YtfhphjgcmbneeaaDoor
open Go.ChangeShapes Go.WideShapes Go.ChangeAt Go.RowKit

/-- How many bits lie below the byte at place k. -/
def shI (hi : Bool) (s k : Int) : Int := if hi then 8 * (s - 1 - k) else 8 * k
theorem shI_bd (hi : Bool) (s k : Int) (h0 : 0 ≤ k) (h1 : k < s) (h2 : s ≤ 8) : 0 ≤ shI hi s k ∧ shI hi s k ≤ 56 := by unfold shI; split <;> omega
/-- The number that the first k of s bytes make. -/
def accF (hi : Bool) (s : Nat) (f : Nat → Int) : Nat → Int
  | 0 => 0
  | k + 1 => accF hi s f k + f k * 2 ^ (shI hi s k).toNat
/-- The byte at place k of a word. -/
def byteF (hi : Bool) (s : Nat) (x : Int) (k : Nat) : Int := x / 2 ^ (shI hi s k).toNat % 256
theorem shift_any (hi : Bool) (i s : Int) (w : World) (h0 : 0 ≤ i) (h1 : i < s) (h2 : s ≤ 8) :
    Calls Tryd.prog 70 #[.agg #[.bool hi], .int .i64 i, .int .i64 s] w fun e w' => e = .returned (.int .i64 (shI hi s i)) ∧ Below w.heap.size w w' := by
  cases hi
  · go_enter Tryd.func70, Tryd.ntmps70
    go_wp2
    go_ret
    exact ⟨rfl, bel1 _ _⟩
  · go_enter Tryd.func70, Tryd.ntmps70
    go_wp2
    go_ret
    exact ⟨rfl, bel1 _ _⟩
theorem shiftOf_0 (w : World) : Calls Tryd.prog 52 #[.int .i64 0] w fun e w' => e = .returned (.func (Fn.func 70) #[.agg #[.bool false]] #[]) ∧ w' = w := by
  have hmf : ∀ (fn : Fn) (first cap : Array Value) (w : World), (Instr.makeFunc fn first cap).run Tryd.prog w = .ok (.func fn first cap) w := fun _ _ _ _ => rfl
  go_enter Tryd.func52, Tryd.ntmps52
  go_wp2
  go_ret
  exact ⟨rfl, rfl⟩
theorem shiftOf_1 (w : World) : Calls Tryd.prog 52 #[.int .i64 1] w fun e w' => e = .returned (.func (Fn.func 70) #[.agg #[.bool true]] #[]) ∧ w' = w := by
  have hmf : ∀ (fn : Fn) (first cap : Array Value) (w : World), (Instr.makeFunc fn first cap).run Tryd.prog w = .ok (.func fn first cap) w := fun _ _ _ _ => rfl
  go_enter Tryd.func52, Tryd.ntmps52
  go_wp2
  go_ret
  exact ⟨rfl, rfl⟩
theorem shiftOf_out (o : Int) (w : World) (h : o < 0 ∨ 2 ≤ o) : Calls Tryd.prog 52 #[.int .i64 o] w fun e w' => e = .returned .nilFunc ∧ w' = w := by
  have g0 : (o == 0) = false := by simp; omega
  have g1 : (o == 1) = false := by simp; omega
  go_enter Tryd.func52, Tryd.ntmps52
  go_wp2
  go_ret
  exact ⟨rfl, rfl⟩
theorem within_any (a : Option Addr) (len cap : Nat) (at' n : Int) (w : World) (hl : len ≤ 9223372036854775807) (hn : n ≤ 9223372036854775807):
    Calls Tryd.prog 54 #[.slice a len cap, .int .i64 at', .int .i64 n] w fun e w' => e = .returned (.bool (decide (0 ≤ at') && decide (0 ≤ n) && decide (at' ≤ len - n))) ∧ w' = w := by
  by_cases h0 : 0 ≤ at'
  · by_cases h1 : 0 ≤ n
    · rw [decide_eq_true h0, decide_eq_true h1]
      go_enter Tryd.func54, Tryd.ntmps54
      go_wp2
      go_ret
      exact ⟨rfl, rfl⟩
    · rw [decide_eq_true h0, decide_eq_false h1]
      have h1' : decide (0 ≤ n) = false := decide_eq_false h1
      go_enter Tryd.func54, Tryd.ntmps54
      go_wp2
      go_ret
      exact ⟨rfl, rfl⟩
  · rw [decide_eq_false h0]
    have h0' : decide (0 ≤ at') = false := decide_eq_false h0
    go_enter Tryd.func54, Tryd.ntmps54
    go_wp2
    go_ret
    exact ⟨rfl, rfl⟩
end Go.Proofs.YtfhphjgcmbneeaaDoor
