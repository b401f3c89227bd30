/- GetChars, the program's and the document's. -/
import Derived.Test.YtfhphjgcmbneeaaDoorPRp
namespace Go.Proofs.YtfhphjgcmbneeaaDoor
open Go.ChangeShapes Go.WideShapes Go.ChangeAt Go.RowKit

/-- The text of n bytes from a place on. -/
def textF (fi : Nat → Int) (at' n : Nat) : ByteArray := strOfNums ((List.range n).map fun i => fi (at' + i))
theorem text_conv (w : World) (g cap : Nat) (fi : Nat → Int) (R : w.rowIs g 5 cap (fun j => .int .u8 (fi j))) (at' n c : Nat) (h : at' + n ≤ cap) :
    (convert 22 9 (.slice (some ⟨g, at', none⟩) n c)).run Tryd.prog w = .ok (.string (textF fi at' n)) w :=
  run_convert_bytes_arg w 22 5 Tryd.underlying22 Tryd.underlying5 g at' n c _ (by simp) (fun i hi => by
    rw [R.cell (i := at' + i) (by omega)]; simp [hi]) 9 Tryd.underlying9
theorem text_none (w : World) (g : Nat) (fi : Nat → Int) (at' a c : Nat) : (convert 22 9 (.slice (some ⟨g, a, none⟩) 0 c)).run Tryd.prog w = .ok (.string (textF fi at' 0)) w :=
  run_convert_bytes_arg w 22 5 Tryd.underlying22 Tryd.underlying5 g a 0 c [] rfl (fun i hi => by omega) 9 Tryd.underlying9
set_option maxHeartbeats 1000000 in
theorem GetChars_ok (g len cap at' n : Nat) (fi : Nat → Int) (w : World) (R : w.rowIs g 5 cap (fun j => .int .u8 (fi j))) (hat : at' + n ≤ len) (hlc : len ≤ cap) (hl : len ≤ 9223372036854775700) :
    Calls Tryd.prog 57 #[.slice (some ⟨g, 0, none⟩) len cap, .int .i64 at', .int .i64 n] w fun e w' => e = .returned (.tuple #[.string (textF fi at' n), .int .i64 0]) ∧ w' = w := by
  have hin : inB len at' n = true := inB_yes (by omega)
  by_cases hce : at' = cap
  · obtain rfl : n = 0 := by omega
    obtain rfl : len = cap := by omega
    have hcv := fun a c => text_none w g fi at' a c
    subst hce
    have hin2 : inB at' at' 0 = true := inB_yes (by omega)
    go_enter Tryd.func57, Tryd.ntmps57
    go_wp2_with (go_at_call 54; refine (within_in _ _ _ _ _ _ (by omega) (by omega)).mono ?_; rintro e w1 ⟨rfl, rfl⟩)
    go_ret2
    exact ⟨rfl, rfl⟩
  · have hcv := fun c => text_conv w g cap fi R at' n c (by omega)
    have l1 : (at' : Int) + (n : Int) ≤ (cap : Int) := by omega
    go_enter Tryd.func57, Tryd.ntmps57
    go_wp2_with (go_at_call 54; refine (within_in _ _ _ _ _ _ (by omega) (by omega)).mono ?_; rintro e w1 ⟨rfl, rfl⟩)
    go_ret2
    exact ⟨rfl, rfl⟩
theorem GetChars_no (a : Option Addr) (len cap : Nat) (at' n : Int) (w : World) (_hn : n ≤ 9223372036854775807) (hl : len ≤ 9223372036854775700) (hin : inB len at' n = false) :
    Calls Tryd.prog 57 #[.slice a len cap, .int .i64 at', .int .i64 n] w fun e w' => e = .returned (.tuple #[.string ByteArray.empty, .int .i64 11]) ∧ w' = w := by
  go_enter Tryd.func57, Tryd.ntmps57
  go_wp2_with (go_at_call 54; refine (within_in _ _ _ _ _ _ (by omega) (by omega)).mono ?_; rintro e w1 ⟨rfl, rfl⟩)
  go_ret2
  exact ⟨rfl, rfl⟩
end Go.Proofs.YtfhphjgcmbneeaaDoor
