/- The contracts of package prim's plain calls: fits, rank, cmp.Compare, and Size, Signed, Null, Min, Max, Fits, Compare. -/
import Derived.Test.YtfhphjgcmbneeaaDoorPKind
namespace Go.Proofs.YtfhphjgcmbneeaaDoor
open Go.ChangeShapes Go.WideShapes Go.ChangeAt Go.RowKit

theorem fits_any (s r n m x b : Int) (w : World) (hk : KOk s r) (hb : 0 ≤ b) (hb' : b < 18446744073709551616) :
    Calls Tryd.prog 51 #[kV s r n m x, .int .u64 b] w fun e w' => e = .returned (.bool (fitsF s r b)) ∧ Below w.heap.size w w' := by
  by_cases hs : s = 0
  · subst hs
    go_enter Tryd.func51, Tryd.ntmps51
    go_wp2
    go_ret
    exact ⟨ret_bool rfl, (bel1 _ _).alloc (by simp) _⟩
  · have hpos : 0 < s := by unfold KOk at hk; omega
    have e : fitsF s r b = (wordF s r b == b) := by unfold fitsF; rw [decide_eq_true hpos]; rfl
    rw [e]
    have hk' : Hid (KOk s r) := hk
    clear hk e
    go_enter Tryd.func51, Tryd.ntmps51
    go_wp2_with (first | (go_at_call 56; refine (word_any _ _ _ _ _ _ _ hk'.out hs hb hb').mono ?_; rintro e w' ⟨rfl, hbl⟩) | (go_at_call 53; go_in))
    go_ret
    exact ⟨rfl, ((bel1 _ _).alloc (by simp) _).trans (hbl.mono (by simp; omega))⟩

theorem field0 (s r n m x : Int) (w : World) : (Instr.field 103 (kV s r n m x) 0).run Tryd.prog w = .ok (.int .i64 s) w := by kernel_rfl
theorem field1 (s r n m x : Int) (w : World) : (Instr.field 103 (kV s r n m x) 1).run Tryd.prog w = .ok (.int .i64 r) w := by kernel_rfl
theorem field2 (s r n m x : Int) (w : World) : (Instr.field 103 (kV s r n m x) 2).run Tryd.prog w = .ok (.int .u64 n) w := by kernel_rfl
theorem field3 (s r n m x : Int) (w : World) : (Instr.field 103 (kV s r n m x) 3).run Tryd.prog w = .ok (.int .u64 m) w := by kernel_rfl
theorem field4 (s r n m x : Int) (w : World) : (Instr.field 103 (kV s r n m x) 4).run Tryd.prog w = .ok (.int .u64 x) w := by kernel_rfl
theorem Fits_any (p b : Int) (w : World) (h : KT w) (hb : 0 ≤ b) (hb' : b < 18446744073709551616) : Calls Tryd.prog 27 #[.int .i64 p, .int .u64 b] w fun e w' => e = .returned (.bool (fitsF (sz p) (rd p) b)) ∧ Below w.heap.size w w' := by
  go_enter Tryd.func27, Tryd.ntmps27
  go_wp2_with (first | (go_at_call 50; refine (kindOf_any _ _ h).mono ?_; rintro e w' ⟨rfl, hbl⟩) | (go_at_call 51; refine (fits_any _ _ _ _ _ _ _ (kok p) hb hb').mono ?_; rintro e w1 ⟨rfl, hbl1⟩))
  go_ret
  exact ⟨rfl, hbl.trans (hbl1.mono hbl.size)⟩

end Go.Proofs.YtfhphjgcmbneeaaDoor
