/- The law PrimWords, walked. -/
import Derived.Test.YthelmmdbgmdgeaaDoorCompare
import Derived.Test.YthelmmdbgmdgeaaDoorRefCmp
namespace Go.Proofs.YthelmmdbgmdgeaaDoor
open Go.ChangeShapes Go.WideShapes Go.ChangeAt Go.RowKit

set_option maxHeartbeats 1000000 in
theorem words_any (p a b : Int) (w : World) (h : KT w) (ha0 : 0 ≤ a) (ha1 : a < 18446744073709551616) (hb0 : 0 ≤ b) (hb1 : b < 18446744073709551616) :
    Calls Tryd.prog 5 #[.int .i64 p, .int .u64 a, .int .u64 b] w fun e w' => e = .returned (.bool true) ∧ Below w.heap.size w w' := by
  have B := Below.refl w.heap.size w
  have c1 : sz 3 = 4 := rfl
  go_enter Tryd.func5, Tryd.ntmps5
  go_wp2_with (first
    | (go_at_call 7; refine (Compare_any _ _ _ _ h (by assumption) (by assumption) (by assumption) (by assumption)).mono ?_; rintro e w' ⟨rfl, hbl⟩; have B := B.trans (hbl.mono B.size); have h := h.below h.pos hbl)
    | (go_at_call 8; refine (Fits_any _ _ _ h (by assumption) (by assumption)).mono ?_; rintro e w' ⟨rfl, hbl⟩; have B := B.trans (hbl.mono B.size); have h := h.below h.pos hbl)
    | (go_at_call 9; refine (size_any _ _ h).mono ?_; rintro e w' ⟨rfl, hbl⟩; have B := B.trans (hbl.mono B.size); have h := h.below h.pos hbl)
    | (go_at_call 10; refine (null_any _ _ h).mono ?_; rintro e w' ⟨rfl, hbl⟩; have B := B.trans (hbl.mono B.size); have h := h.below h.pos hbl)
    | (go_at_call 11; refine (min_any _ _ h).mono ?_; rintro e w' ⟨rfl, hbl⟩; have B := B.trans (hbl.mono B.size); have h := h.below h.pos hbl)
    | (go_at_call 12; refine (max_any _ _ h).mono ?_; rintro e w' ⟨rfl, hbl⟩; have B := B.trans (hbl.mono B.size); have h := h.below h.pos hbl)
    | (go_at_call 16; refine (signed_any _ _ h).mono ?_; rintro e w' ⟨rfl, hbl⟩; have B := B.trans (hbl.mono B.size); have h := h.below h.pos hbl)
    | (go_at_call 15; refine (refSize_any _ _).mono ?_; rintro e w' ⟨rfl, rfl⟩)
    | (go_at_call 17; refine (refSigned_any _ _).mono ?_; rintro e w' ⟨rfl, rfl⟩)
    | (go_at_call 18; refine (refNull_any _ _).mono ?_; rintro e w' ⟨rfl, rfl⟩)
    | (go_at_call 19; refine (refMin_any _ _).mono ?_; rintro e w' ⟨rfl, rfl⟩)
    | (go_at_call 20; refine (refMax_any _ _).mono ?_; rintro e w' ⟨rfl, rfl⟩)
    | (go_at_call 21; refine (refFits_any _ _ _ (by assumption) (by assumption)).mono ?_; rintro e w' ⟨rfl, rfl⟩)
    | (go_at_call 22; refine (refCompare_any _ _ _ _ (by assumption) (by assumption) (by assumption) (by assumption)).mono ?_; rintro e w' ⟨rfl, rfl⟩))
  go_ret
  exact ⟨rfl, B⟩
end Go.Proofs.YthelmmdbgmdgeaaDoor
