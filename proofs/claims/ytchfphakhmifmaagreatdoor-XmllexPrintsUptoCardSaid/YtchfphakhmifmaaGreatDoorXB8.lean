/- The document's answer: how a piece is written. -/
import Derived.Test.YtchfphakhmifmaaGreatDoorXWr
import Derived.Test.YtchfphakhmifmaaGreatDoorMR
namespace Go.Proofs.YtchfphakhmifmaaGreatDoor
open Go.ChangeShapes Go.WideShapes Go.ChangeAt Go.RowKit Go.Shelf Go.Lib

set_option maxHeartbeats 4000000 in
theorem rwritten (k : Nat) (nm vl : ByteArray) (p : Int) (w : World) (hk : k < 8) (hn : nm.size ≤ 16777216) (hv : vl.size ≤ 16777216) :
    Calls Tryz.prog 39 #[.agg #[.int .i64 (k : Int), .string nm, .string vl, .int .i64 p]] w fun e w' => e = .returned (.string (wrB k nm vl)) ∧ Below w.heap.size w w' := by
  have hb := bel1 w (.cells #[.int .i64 (k : Int), .string nm, .string vl, .int .i64 p] 39)
  have HB : Hid (Below w.heap.size w _) := hb
  have hk8 : k = 0 ∨ k = 1 ∨ k = 2 ∨ k = 3 ∨ k = 4 ∨ k = 5 ∨ k = 6 ∨ k = 7 := by omega
  rcases hk8 with rfl | rfl | rfl | rfl | rfl | rfl | rfl | rfl
  · go_enter Tryz.func39, Tryz.ntmps39
    go_wp2_with fail
    go_ret
    exact ⟨rfl, HB.out⟩
  · have cE := fun w => rEscape vl true w (by omega)
    have hz := escB_size true vl
    unfold escB at hz
    have HW : Hid (wrB 1 nm vl = ⟨#[32]⟩ ++ nm ++ ⟨#[61, 34]⟩ ++ sOf (escL true (lOf vl)) ++ ⟨#[34]⟩) := rfl
    have hTK := TK.of (heap_new w (.cells #[.int .i64 1, .string nm, .string vl, .int .i64 p] 39))
    have hTl := hTK.lt
    have z1 := hTK.c1
    generalize sOf (escL true (lOf vl)) = E at *
    go_enter Tryz.func39, Tryz.ntmps39
    go_wp2_with fail
    go_region_with (go_at_call 46; refine (cE _).mono ?_; rintro e w1 ⟨rfl, hb1⟩; have z2 := (hb1.cell (p := ⟨w.heap.size, 1, none⟩) hTl).trans z1)
    all_goals
      go_wp2_with fail
      go_ret
      exact ⟨by rw [HW.out]; rfl, HB.out.trans ((Below.refl _ _).drew.trans (hb1.mono HB.out.size))⟩
  · go_enter Tryz.func39, Tryz.ntmps39
    go_wp2_with fail
    go_ret
    exact ⟨rfl, HB.out⟩
  · go_enter Tryz.func39, Tryz.ntmps39
    go_wp2_with fail
    go_ret
    exact ⟨rfl, HB.out⟩
  · go_enter Tryz.func39, Tryz.ntmps39
    go_wp2_with fail
    go_ret
    exact ⟨rfl, HB.out⟩
  · have cE := fun w => rEscape vl false w (by omega)
    have HW : Hid (wrB 5 nm vl = escB false vl) := rfl
    go_enter Tryz.func39, Tryz.ntmps39
    go_wp2_with (go_at_call 46; refine (cE _).mono ?_; rintro e w1 ⟨rfl, hb1⟩)
    go_ret
    exact ⟨rfl, HB.out.trans (hb1.mono HB.out.size)⟩
  · go_enter Tryz.func39, Tryz.ntmps39
    go_wp2_with fail
    go_ret
    exact ⟨rfl, HB.out⟩
  · go_enter Tryz.func39, Tryz.ntmps39
    go_wp2_with fail
    go_ret
    exact ⟨rfl, HB.out⟩
end Go.Proofs.YtchfphakhmifmaaGreatDoor
