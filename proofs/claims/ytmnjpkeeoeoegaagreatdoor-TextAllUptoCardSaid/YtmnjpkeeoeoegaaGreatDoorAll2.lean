/- The law TextAll: the walk. -/
import Derived.Test.YtmnjpkeeoeoegaaGreatDoorAll1
namespace Go.Proofs.YtmnjpkeeoeoegaaGreatDoor
open Go.ChangeShapes Go.WideShapes Go.ChangeAt Go.RowKit

set_option maxRecDepth 100000 in
set_option maxHeartbeats 4000000 in
theorem all_some (a : Addr) (n cap : Nat) (S : Nat → ByteArray) (hn : n ≤ 1048576) (hS : ∀ i, i < n → (S i).size ≤ 1048576) (w : World) (hcell : ∀ i, i < n → w.cell? (a.add i) = some (.string (S i))) (hlt : 0 < n → a.block < w.heap.size) :
    Calls Tryz.prog 3 #[.slice (some a) n cap] w fun e w' => e = .returned (.bool true) ∧ Below w.heap.size w w' := by
  go_enter Tryz.func3, Tryz.ntmps3
  go_wp2_with fail
  go_loopw [3] (fun v wr => ∃ i : Nat, i ≤ 80 ∧ v = .int .i64 (i : Int) ∧ Below w.heap.size w wr) (fun v _ => 80 - (intOf v).toNat)
  case atStart => exact ⟨0, by omega, rfl, Below.refl _ _⟩
  case round =>
    obtain ⟨i, hi, rfl, HB⟩ := hrel
    by_cases h1 : i < 2 * n
    · have d1 : decide ((i : Int) < 2 * (n : Int)) = true := by simp; omega
      by_cases h2 : i < 80
      · have d2 : decide ((i : Int) < 80) = true := by simp; omega
        have hpos : 0 < n := by omega
        obtain ⟨r, hr⟩ : ∃ r, Hid (r = i % n) := ⟨_, rfl⟩
        have hrn : r < n := by rw [hr.out]; exact Nat.mod_lt _ hpos
        have hmod : (i : Int) % (n : Int) = (r : Int) := by rw [hr.out]; omega
        have hc : wr.cell? (a.add r) = some (.string (S r)) := (HB.cell (p := a.add r) (by unfold Addr.add; split <;> exact hlt hpos)).trans (hcell r hrn)
        have hz := hS r hrn
        have l1 := fun w => lchecks (S r) hz w
        have l2 := fun w => lentities (S r) hz w
        have l3 := fun w => lquotes (S r) hz w
        clear hcell hS
        generalize S r = s at hc l1 l2 l3
        go_wp2_with (first
          | (go_at_call 4; refine (l1 _).mono ?_; rintro e w1 ⟨rfl, hb1⟩; have HB := upB HB hb1; clear hb1)
          | (go_at_call 5; refine (l2 _).mono ?_; rintro e w1 ⟨rfl, hb1⟩; have HB := upB HB hb1; clear hb1)
          | (go_at_call 6; refine (l3 _).mono ?_; rintro e w1 ⟨rfl, hb1⟩; have HB := upB HB hb1; clear hb1))
        go_roundw
        case rel => exact ⟨i + 1, by omega, by go_num, HB⟩
        case measure => simp [intOf]; omega
      · have d2 : decide ((i : Int) < 80) = false := by simp; omega
        go_wp2_with fail
        go_ret
        exact ⟨rfl, HB⟩
    · have d1 : decide ((i : Int) < 2 * (n : Int)) = false := by simp; omega
      go_wp2_with fail
      go_ret
      exact ⟨rfl, HB⟩
theorem all_none (w : World) : Calls Tryz.prog 3 #[.slice none 0 0] w fun e w' => e = .returned (.bool true) ∧ Below w.heap.size w w' := by
  go_enter Tryz.func3, Tryz.ntmps3
  go_wp2_with fail
  refine wp_loop_rounds 1 ?_
  rw [rounds_succ]
  go_wp2_with fail
  go_ret
  exact ⟨rfl, Below.refl _ _⟩
end Go.Proofs.YtmnjpkeeoeoegaaGreatDoor
