/- A new cursor. -/
import Derived.Test.YtfhphjgcmbneeaaDoorCuN
namespace Go.Proofs.YtfhphjgcmbneeaaDoor
open Go.ChangeShapes Go.WideShapes Go.ChangeAt Go.RowKit

theorem New_ok {w : World} {g len cap : Nat} {f : Nat → Int} (row : w.rowIs g 5 cap (fun j => .int .u8 (f j))) (bd : ∀ j, 0 ≤ f j ∧ f j ≤ 255) (h3 : len ≤ cap) (h4 : len ≤ 140737488355328) (a : Nat) (ha : a ≤ len) (hi : Bool) :
    Calls Tryd.prog 6 #[.slice (some ⟨g, 0, none⟩) len cap, .int .i64 a, .int .i64 (ordV hi)] w fun e w' => ∃ c, e = .returned (.tuple #[.pointer (some ⟨c, 0, none⟩), .int .i64 0]) ∧ w.heap.size ≤ c ∧ Cs w' c 0 g len cap a a hi f ∧ Below w.heap.size w w' := by
  have h1 : (ordV hi != 0 && ordV hi != 1) = false := by cases hi <;> rfl
  have hd1 : ¬ (a : Int) < 0 := by omega
  have hd2 : ¬ (len : Int) < (a : Int) := by omega
  have lt := row.lt
  have FIN : Hid (∀ ty, Cs (w.alloc (.cells #[.slice (some ⟨g, 0, none⟩) len cap, .int .i64 a, .int .i64 a, .int .i64 (ordV hi)] ty)) w.heap.size 0 g len cap a a hi f) := fun ty => by
    have hh := heap_al w (.cells #[.slice (some ⟨g, 0, none⟩) len cap, .int .i64 a, .int .i64 a, .int .i64 (ordV hi)] ty)
    exact ⟨by simp, cell_at hh 0, cell_at hh 1, cell_at hh 2, cell_at hh 3, by simp only [World.frozen?, hh]; rfl, rowIs_below row (bel1 _ _) lt, bd, by omega, Nat.le_refl _, ha, h3, h4⟩
  clear row
  cases hi
  · have o0 : ordV false = 0 := rfl
    rw [o0] at FIN ⊢
    go_enter Tryd.func6, Tryd.ntmps6
    go_wp2_with fail
    go_ret2
    exact ⟨_, rfl, Nat.le_refl _, FIN.out _, bel1 _ _⟩
  · have o0 : ordV true = 1 := rfl
    rw [o0] at FIN ⊢
    go_enter Tryd.func6, Tryd.ntmps6
    go_wp2_with fail
    go_ret2
    exact ⟨_, rfl, Nat.le_refl _, FIN.out _, bel1 _ _⟩
theorem New_none {w : World} {p : Option Addr} {len cap : Nat} (a : Int) (o : Int) (h : (o = 0 ∨ o = 1) ∧ (a < 0 ∨ (len : Int) < a)) :
    Calls Tryd.prog 6 #[.slice p len cap, .int .i64 a, .int .i64 o] w fun e w' => e = .returned (.tuple #[.pointer none, .int .i64 170]) ∧ Below w.heap.size w w' := by
  obtain ⟨h1, h2⟩ := h
  by_cases h3 : a < 0
  · rcases h1 with rfl | rfl
    all_goals
      go_enter Tryd.func6, Tryd.ntmps6
      go_wp2_with fail
      go_ret2
      exact ⟨rfl, Below.refl _ _⟩
  · have h4 : (len : Int) < a := by omega
    have h5 : ¬ a ≤ (len : Int) := by omega
    rcases h1 with rfl | rfl
    all_goals
      go_enter Tryd.func6, Tryd.ntmps6
      go_wp2_with fail
      go_ret2
      exact ⟨rfl, Below.refl _ _⟩
theorem New_prim {w : World} {p : Option Addr} {len cap : Nat} (a : Int) :
    Calls Tryd.prog 6 #[.slice p len cap, .int .i64 a, .int .i64 2] w fun e w' => e = .returned (.tuple #[.pointer none, .int .i64 10]) ∧ Below w.heap.size w w' := by
  go_enter Tryd.func6, Tryd.ntmps6
  go_wp2_with fail
  go_ret2
  exact ⟨rfl, Below.refl _ _⟩
end Go.Proofs.YtfhphjgcmbneeaaDoor
