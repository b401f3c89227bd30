/- The law PrimOrder, walked. -/
import Derived.Test.YthelmmdbgmdgeaaDoorCompare
namespace Go.Proofs.YthelmmdbgmdgeaaDoor
open Go.ChangeShapes Go.WideShapes Go.ChangeAt Go.RowKit

theorem nl_bd (p : Int) : 0 ≤ nl p ∧ nl p < 18446744073709551616 := by
  rcases prim_cases p with h | rfl | rfl | rfl | rfl | rfl | rfl | rfl | rfl | rfl | rfl | rfl
  · unfold nl; rw [kRow_out p h]; decide
  all_goals decide
theorem mn_bd (p : Int) : 0 ≤ mn p ∧ mn p < 18446744073709551616 := by
  rcases prim_cases p with h | rfl | rfl | rfl | rfl | rfl | rfl | rfl | rfl | rfl | rfl | rfl
  · unfold mn; rw [kRow_out p h]; decide
  all_goals decide
theorem mx_bd (p : Int) : 0 ≤ mx p ∧ mx p < 18446744073709551616 := by
  rcases prim_cases p with h | rfl | rfl | rfl | rfl | rfl | rfl | rfl | rfl | rfl | rfl | rfl
  · unfold mx; rw [kRow_out p h]; decide
  all_goals decide
theorem fit3 (p : Int) (hs : sz p ≠ 0) : fitsF (sz p) (rd p) (nl p) = true ∧ fitsF (sz p) (rd p) (mn p) = true ∧ fitsF (sz p) (rd p) (mx p) = true := by
  rcases prim_cases p with h | rfl | rfl | rfl | rfl | rfl | rfl | rfl | rfl | rfl | rfl | rfl
  · exact absurd (show sz p = 0 by unfold sz; rw [kRow_out p h]) hs
  all_goals decide
theorem nl_out (p : Int) (hs : sz p = 0) : nl p = 0 := by
  rcases prim_cases p with h | rfl | rfl | rfl | rfl | rfl | rfl | rfl | rfl | rfl | rfl | rfl
  · unfold nl; rw [kRow_out p h]
  all_goals exact absurd hs (by decide)

/-- Of what is no type. -/
theorem order_none (p a b c : Int) (w : World) (h : KT w) (ha0 : 0 ≤ a) (ha1 : a < 18446744073709551616) (hb0 : 0 ≤ b) (hb1 : b < 18446744073709551616)
    (hs : sz p = 0) :
    Calls Tryd.prog 3 #[.int .i64 p, .int .u64 a, .int .u64 b, .int .u64 c] w fun e w' => e = .returned (.bool true) ∧ Below w.heap.size w w' := by
  have B := Below.refl w.heap.size w
  have c1 : cmpF (sz 1) (rd 1) 18446744073709551615 1 = -1 := by decide
  have c2 : fitsF (sz 0) (rd 0) 255 = true := by decide
  have f1 : fitsF (sz p) (rd p) a = false := by rw [hs]; rfl
  have x1 : cmpF (sz p) (rd p) a b = 0 := cmpF_no _ _ _ _ (by rw [f1]; rfl)
  have n1 := nl_out p hs
  have q0 : (0 : Int) ≤ 18446744073709551615 := by decide
  have q1 : (18446744073709551615 : Int) < 18446744073709551616 := by decide
  have q2 : (0 : Int) ≤ 1 := by decide
  have q3 : (1 : Int) < 18446744073709551616 := by decide
  have q4 : (0 : Int) ≤ 255 := by decide
  have q5 : (255 : Int) < 18446744073709551616 := by decide
  go_enter Tryd.func3, Tryd.ntmps3
  go_wp2_with (first
    | (go_at_call 7; refine (Compare_any _ _ _ _ h (by assumption) (by assumption) (by assumption) (by assumption)).mono ?_; rintro e w' ⟨rfl, hbl⟩; have B := B.trans (hbl.mono B.size); have h := h.below h.pos hbl)
    | (go_at_call 8; refine (Fits_any _ _ _ h (by assumption) (by assumption)).mono ?_; rintro e w' ⟨rfl, hbl⟩; have B := B.trans (hbl.mono B.size); have h := h.below h.pos hbl)
    | (go_at_call 9; refine (size_any _ _ h).mono ?_; rintro e w' ⟨rfl, hbl⟩; have B := B.trans (hbl.mono B.size); have h := h.below h.pos hbl)
    | (go_at_call 10; refine (null_any _ _ h).mono ?_; rintro e w' ⟨rfl, hbl⟩; have B := B.trans (hbl.mono B.size); have h := h.below h.pos hbl))
  go_ret
  exact ⟨rfl, B⟩

set_option maxHeartbeats 1000000 in
/-- The first word is none of the type. -/
theorem order_no1 (p a b c : Int) (w : World) (h : KT w) (ha0 : 0 ≤ a) (ha1 : a < 18446744073709551616) (hb0 : 0 ≤ b) (hb1 : b < 18446744073709551616) (hc0 : 0 ≤ c) (hc1 : c < 18446744073709551616) (hs : sz p ≠ 0)
    (f1 : fitsF (sz p) (rd p) a = false) :
    Calls Tryd.prog 3 #[.int .i64 p, .int .u64 a, .int .u64 b, .int .u64 c] w fun e w' => e = .returned (.bool true) ∧ Below w.heap.size w w' := by
  have B := Below.refl w.heap.size w
  have c1 : cmpF (sz 1) (rd 1) 18446744073709551615 1 = -1 := by decide
  have c2 : fitsF (sz 0) (rd 0) 255 = true := by decide
  have q0 : (0 : Int) ≤ 18446744073709551615 := by decide
  have q1 : (18446744073709551615 : Int) < 18446744073709551616 := by decide
  have q2 : (0 : Int) ≤ 1 := by decide
  have q3 : (1 : Int) < 18446744073709551616 := by decide
  have q4 : (0 : Int) ≤ 255 := by decide
  have q5 : (255 : Int) < 18446744073709551616 := by decide
  have s0 : (sz p == 0) = false := by simpa using hs
  obtain ⟨n1, n2, n3⟩ := fit3 p hs
  obtain ⟨b1, b2⟩ := nl_bd p
  obtain ⟨b3, b4⟩ := mn_bd p
  obtain ⟨b5, b6⟩ := mx_bd p
  clear hs
  have x1 : cmpF (sz p) (rd p) a b = 0 := cmpF_no _ _ _ _ (by rw [f1]; rfl)
  have x2 : cmpF (sz p) (rd p) b a = 0 := by rw [cmpF_turn, x1]; rfl
  go_enter Tryd.func3, Tryd.ntmps3
  go_wp2_with (first
    | (go_at_call 7; refine (Compare_any _ _ _ _ h (by assumption) (by assumption) (by assumption) (by assumption)).mono ?_; rintro e w' ⟨rfl, hbl⟩; have B := B.trans (hbl.mono B.size); have h := h.below h.pos hbl)
    | (go_at_call 8; refine (Fits_any _ _ _ h (by assumption) (by assumption)).mono ?_; rintro e w' ⟨rfl, hbl⟩; have B := B.trans (hbl.mono B.size); have h := h.below h.pos hbl)
    | (go_at_call 9; refine (size_any _ _ h).mono ?_; rintro e w' ⟨rfl, hbl⟩; have B := B.trans (hbl.mono B.size); have h := h.below h.pos hbl)
    | (go_at_call 10; refine (null_any _ _ h).mono ?_; rintro e w' ⟨rfl, hbl⟩; have B := B.trans (hbl.mono B.size); have h := h.below h.pos hbl)
    | (go_at_call 11; refine (min_any _ _ h).mono ?_; rintro e w' ⟨rfl, hbl⟩; have B := B.trans (hbl.mono B.size); have h := h.below h.pos hbl)
    | (go_at_call 12; refine (max_any _ _ h).mono ?_; rintro e w' ⟨rfl, hbl⟩; have B := B.trans (hbl.mono B.size); have h := h.below h.pos hbl))
  all_goals go_ret
  all_goals exact ⟨rfl, B⟩

set_option maxHeartbeats 1000000 in
/-- The second word is none of the type. -/
theorem order_no2 (p a b c : Int) (w : World) (h : KT w) (ha0 : 0 ≤ a) (ha1 : a < 18446744073709551616) (hb0 : 0 ≤ b) (hb1 : b < 18446744073709551616) (hc0 : 0 ≤ c) (hc1 : c < 18446744073709551616) (hs : sz p ≠ 0)
    (f1 : fitsF (sz p) (rd p) a = true) (f2 : fitsF (sz p) (rd p) b = false) :
    Calls Tryd.prog 3 #[.int .i64 p, .int .u64 a, .int .u64 b, .int .u64 c] w fun e w' => e = .returned (.bool true) ∧ Below w.heap.size w w' := by
  have B := Below.refl w.heap.size w
  have c1 : cmpF (sz 1) (rd 1) 18446744073709551615 1 = -1 := by decide
  have c2 : fitsF (sz 0) (rd 0) 255 = true := by decide
  have q0 : (0 : Int) ≤ 18446744073709551615 := by decide
  have q1 : (18446744073709551615 : Int) < 18446744073709551616 := by decide
  have q2 : (0 : Int) ≤ 1 := by decide
  have q3 : (1 : Int) < 18446744073709551616 := by decide
  have q4 : (0 : Int) ≤ 255 := by decide
  have q5 : (255 : Int) < 18446744073709551616 := by decide
  have s0 : (sz p == 0) = false := by simpa using hs
  obtain ⟨n1, n2, n3⟩ := fit3 p hs
  obtain ⟨b1, b2⟩ := nl_bd p
  obtain ⟨b3, b4⟩ := mn_bd p
  obtain ⟨b5, b6⟩ := mx_bd p
  clear hs
  have x1 : cmpF (sz p) (rd p) a b = 0 := cmpF_no _ _ _ _ (by rw [f1, f2]; rfl)
  have x2 : cmpF (sz p) (rd p) b a = 0 := by rw [cmpF_turn, x1]; rfl
  go_enter Tryd.func3, Tryd.ntmps3
  go_wp2_with (first
    | (go_at_call 7; refine (Compare_any _ _ _ _ h (by assumption) (by assumption) (by assumption) (by assumption)).mono ?_; rintro e w' ⟨rfl, hbl⟩; have B := B.trans (hbl.mono B.size); have h := h.below h.pos hbl)
    | (go_at_call 8; refine (Fits_any _ _ _ h (by assumption) (by assumption)).mono ?_; rintro e w' ⟨rfl, hbl⟩; have B := B.trans (hbl.mono B.size); have h := h.below h.pos hbl)
    | (go_at_call 9; refine (size_any _ _ h).mono ?_; rintro e w' ⟨rfl, hbl⟩; have B := B.trans (hbl.mono B.size); have h := h.below h.pos hbl)
    | (go_at_call 10; refine (null_any _ _ h).mono ?_; rintro e w' ⟨rfl, hbl⟩; have B := B.trans (hbl.mono B.size); have h := h.below h.pos hbl)
    | (go_at_call 11; refine (min_any _ _ h).mono ?_; rintro e w' ⟨rfl, hbl⟩; have B := B.trans (hbl.mono B.size); have h := h.below h.pos hbl)
    | (go_at_call 12; refine (max_any _ _ h).mono ?_; rintro e w' ⟨rfl, hbl⟩; have B := B.trans (hbl.mono B.size); have h := h.below h.pos hbl))
  all_goals go_ret
  all_goals exact ⟨rfl, B⟩

set_option maxHeartbeats 1000000 in
/-- The first is greater. -/
theorem order_one (p a b c : Int) (w : World) (h : KT w) (ha0 : 0 ≤ a) (ha1 : a < 18446744073709551616) (hb0 : 0 ≤ b) (hb1 : b < 18446744073709551616) (hc0 : 0 ≤ c) (hc1 : c < 18446744073709551616) (hs : sz p ≠ 0)
    (f1 : fitsF (sz p) (rd p) a = true) (f2 : fitsF (sz p) (rd p) b = true) (x1 : cmpF (sz p) (rd p) a b = 1) (ne : (a == b) = false) :
    Calls Tryd.prog 3 #[.int .i64 p, .int .u64 a, .int .u64 b, .int .u64 c] w fun e w' => e = .returned (.bool true) ∧ Below w.heap.size w w' := by
  have B := Below.refl w.heap.size w
  have c1 : cmpF (sz 1) (rd 1) 18446744073709551615 1 = -1 := by decide
  have c2 : fitsF (sz 0) (rd 0) 255 = true := by decide
  have q0 : (0 : Int) ≤ 18446744073709551615 := by decide
  have q1 : (18446744073709551615 : Int) < 18446744073709551616 := by decide
  have q2 : (0 : Int) ≤ 1 := by decide
  have q3 : (1 : Int) < 18446744073709551616 := by decide
  have q4 : (0 : Int) ≤ 255 := by decide
  have q5 : (255 : Int) < 18446744073709551616 := by decide
  have s0 : (sz p == 0) = false := by simpa using hs
  obtain ⟨n1, n2, n3⟩ := fit3 p hs
  obtain ⟨b1, b2⟩ := nl_bd p
  obtain ⟨b3, b4⟩ := mn_bd p
  obtain ⟨b5, b6⟩ := mx_bd p
  clear hs
  have x2 : cmpF (sz p) (rd p) b a = -1 := by rw [cmpF_turn, x1]
  go_enter Tryd.func3, Tryd.ntmps3
  go_wp2_with (first
    | (go_at_call 7; refine (Compare_any _ _ _ _ h (by assumption) (by assumption) (by assumption) (by assumption)).mono ?_; rintro e w' ⟨rfl, hbl⟩; have B := B.trans (hbl.mono B.size); have h := h.below h.pos hbl)
    | (go_at_call 8; refine (Fits_any _ _ _ h (by assumption) (by assumption)).mono ?_; rintro e w' ⟨rfl, hbl⟩; have B := B.trans (hbl.mono B.size); have h := h.below h.pos hbl)
    | (go_at_call 9; refine (size_any _ _ h).mono ?_; rintro e w' ⟨rfl, hbl⟩; have B := B.trans (hbl.mono B.size); have h := h.below h.pos hbl)
    | (go_at_call 10; refine (null_any _ _ h).mono ?_; rintro e w' ⟨rfl, hbl⟩; have B := B.trans (hbl.mono B.size); have h := h.below h.pos hbl)
    | (go_at_call 11; refine (min_any _ _ h).mono ?_; rintro e w' ⟨rfl, hbl⟩; have B := B.trans (hbl.mono B.size); have h := h.below h.pos hbl)
    | (go_at_call 12; refine (max_any _ _ h).mono ?_; rintro e w' ⟨rfl, hbl⟩; have B := B.trans (hbl.mono B.size); have h := h.below h.pos hbl))
  all_goals go_ret
  all_goals exact ⟨rfl, B⟩

set_option maxHeartbeats 1000000 in
/-- The first is less. -/
theorem order_less1 (p a b c : Int) (w : World) (h : KT w) (ha0 : 0 ≤ a) (ha1 : a < 18446744073709551616) (hb0 : 0 ≤ b) (hb1 : b < 18446744073709551616) (hc0 : 0 ≤ c) (hc1 : c < 18446744073709551616) (hs : sz p ≠ 0)
    (f1 : fitsF (sz p) (rd p) a = true) (f2 : fitsF (sz p) (rd p) b = true) (x1 : cmpF (sz p) (rd p) a b = -1) (ne : (a == b) = false)
    (f3 : fitsF (sz p) (rd p) c = false) :
    Calls Tryd.prog 3 #[.int .i64 p, .int .u64 a, .int .u64 b, .int .u64 c] w fun e w' => e = .returned (.bool true) ∧ Below w.heap.size w w' := by
  have B := Below.refl w.heap.size w
  have c1 : cmpF (sz 1) (rd 1) 18446744073709551615 1 = -1 := by decide
  have c2 : fitsF (sz 0) (rd 0) 255 = true := by decide
  have q0 : (0 : Int) ≤ 18446744073709551615 := by decide
  have q1 : (18446744073709551615 : Int) < 18446744073709551616 := by decide
  have q2 : (0 : Int) ≤ 1 := by decide
  have q3 : (1 : Int) < 18446744073709551616 := by decide
  have q4 : (0 : Int) ≤ 255 := by decide
  have q5 : (255 : Int) < 18446744073709551616 := by decide
  have s0 : (sz p == 0) = false := by simpa using hs
  obtain ⟨n1, n2, n3⟩ := fit3 p hs
  obtain ⟨b1, b2⟩ := nl_bd p
  obtain ⟨b3, b4⟩ := mn_bd p
  obtain ⟨b5, b6⟩ := mx_bd p
  clear hs
  have x2 : cmpF (sz p) (rd p) b a = 1 := by rw [cmpF_turn, x1]; rfl
  go_enter Tryd.func3, Tryd.ntmps3
  go_wp2_with (first
    | (go_at_call 7; refine (Compare_any _ _ _ _ h (by assumption) (by assumption) (by assumption) (by assumption)).mono ?_; rintro e w' ⟨rfl, hbl⟩; have B := B.trans (hbl.mono B.size); have h := h.below h.pos hbl)
    | (go_at_call 8; refine (Fits_any _ _ _ h (by assumption) (by assumption)).mono ?_; rintro e w' ⟨rfl, hbl⟩; have B := B.trans (hbl.mono B.size); have h := h.below h.pos hbl)
    | (go_at_call 9; refine (size_any _ _ h).mono ?_; rintro e w' ⟨rfl, hbl⟩; have B := B.trans (hbl.mono B.size); have h := h.below h.pos hbl)
    | (go_at_call 10; refine (null_any _ _ h).mono ?_; rintro e w' ⟨rfl, hbl⟩; have B := B.trans (hbl.mono B.size); have h := h.below h.pos hbl)
    | (go_at_call 11; refine (min_any _ _ h).mono ?_; rintro e w' ⟨rfl, hbl⟩; have B := B.trans (hbl.mono B.size); have h := h.below h.pos hbl)
    | (go_at_call 12; refine (max_any _ _ h).mono ?_; rintro e w' ⟨rfl, hbl⟩; have B := B.trans (hbl.mono B.size); have h := h.below h.pos hbl))
  all_goals go_ret
  all_goals exact ⟨rfl, B⟩

set_option maxHeartbeats 1000000 in
/-- The first is less. -/
theorem order_less2 (p a b c : Int) (w : World) (h : KT w) (ha0 : 0 ≤ a) (ha1 : a < 18446744073709551616) (hb0 : 0 ≤ b) (hb1 : b < 18446744073709551616) (hc0 : 0 ≤ c) (hc1 : c < 18446744073709551616) (hs : sz p ≠ 0)
    (f1 : fitsF (sz p) (rd p) a = true) (f2 : fitsF (sz p) (rd p) b = true) (x1 : cmpF (sz p) (rd p) a b = -1) (ne : (a == b) = false)
    (f3 : fitsF (sz p) (rd p) c = true) (y : cmpF (sz p) (rd p) b c < 0) (z : cmpF (sz p) (rd p) a c < 0) :
    Calls Tryd.prog 3 #[.int .i64 p, .int .u64 a, .int .u64 b, .int .u64 c] w fun e w' => e = .returned (.bool true) ∧ Below w.heap.size w w' := by
  have B := Below.refl w.heap.size w
  have c1 : cmpF (sz 1) (rd 1) 18446744073709551615 1 = -1 := by decide
  have c2 : fitsF (sz 0) (rd 0) 255 = true := by decide
  have q0 : (0 : Int) ≤ 18446744073709551615 := by decide
  have q1 : (18446744073709551615 : Int) < 18446744073709551616 := by decide
  have q2 : (0 : Int) ≤ 1 := by decide
  have q3 : (1 : Int) < 18446744073709551616 := by decide
  have q4 : (0 : Int) ≤ 255 := by decide
  have q5 : (255 : Int) < 18446744073709551616 := by decide
  have s0 : (sz p == 0) = false := by simpa using hs
  obtain ⟨n1, n2, n3⟩ := fit3 p hs
  obtain ⟨b1, b2⟩ := nl_bd p
  obtain ⟨b3, b4⟩ := mn_bd p
  obtain ⟨b5, b6⟩ := mx_bd p
  clear hs
  have x2 : cmpF (sz p) (rd p) b a = 1 := by rw [cmpF_turn, x1]; rfl
  have z' : decide (0 ≤ cmpF (sz p) (rd p) a c) = false := decide_eq_false (by omega)
  go_enter Tryd.func3, Tryd.ntmps3
  go_wp2_with (first
    | (go_at_call 7; refine (Compare_any _ _ _ _ h (by assumption) (by assumption) (by assumption) (by assumption)).mono ?_; rintro e w' ⟨rfl, hbl⟩; have B := B.trans (hbl.mono B.size); have h := h.below h.pos hbl)
    | (go_at_call 8; refine (Fits_any _ _ _ h (by assumption) (by assumption)).mono ?_; rintro e w' ⟨rfl, hbl⟩; have B := B.trans (hbl.mono B.size); have h := h.below h.pos hbl)
    | (go_at_call 9; refine (size_any _ _ h).mono ?_; rintro e w' ⟨rfl, hbl⟩; have B := B.trans (hbl.mono B.size); have h := h.below h.pos hbl)
    | (go_at_call 10; refine (null_any _ _ h).mono ?_; rintro e w' ⟨rfl, hbl⟩; have B := B.trans (hbl.mono B.size); have h := h.below h.pos hbl)
    | (go_at_call 11; refine (min_any _ _ h).mono ?_; rintro e w' ⟨rfl, hbl⟩; have B := B.trans (hbl.mono B.size); have h := h.below h.pos hbl)
    | (go_at_call 12; refine (max_any _ _ h).mono ?_; rintro e w' ⟨rfl, hbl⟩; have B := B.trans (hbl.mono B.size); have h := h.below h.pos hbl))
  all_goals go_ret
  all_goals exact ⟨rfl, B⟩

set_option maxHeartbeats 1000000 in
/-- The first is less. -/
theorem order_less3 (p a b c : Int) (w : World) (h : KT w) (ha0 : 0 ≤ a) (ha1 : a < 18446744073709551616) (hb0 : 0 ≤ b) (hb1 : b < 18446744073709551616) (hc0 : 0 ≤ c) (hc1 : c < 18446744073709551616) (hs : sz p ≠ 0)
    (f1 : fitsF (sz p) (rd p) a = true) (f2 : fitsF (sz p) (rd p) b = true) (x1 : cmpF (sz p) (rd p) a b = -1) (ne : (a == b) = false)
    (f3 : fitsF (sz p) (rd p) c = true) (y : ¬ cmpF (sz p) (rd p) b c < 0) :
    Calls Tryd.prog 3 #[.int .i64 p, .int .u64 a, .int .u64 b, .int .u64 c] w fun e w' => e = .returned (.bool true) ∧ Below w.heap.size w w' := by
  have B := Below.refl w.heap.size w
  have c1 : cmpF (sz 1) (rd 1) 18446744073709551615 1 = -1 := by decide
  have c2 : fitsF (sz 0) (rd 0) 255 = true := by decide
  have q0 : (0 : Int) ≤ 18446744073709551615 := by decide
  have q1 : (18446744073709551615 : Int) < 18446744073709551616 := by decide
  have q2 : (0 : Int) ≤ 1 := by decide
  have q3 : (1 : Int) < 18446744073709551616 := by decide
  have q4 : (0 : Int) ≤ 255 := by decide
  have q5 : (255 : Int) < 18446744073709551616 := by decide
  have s0 : (sz p == 0) = false := by simpa using hs
  obtain ⟨n1, n2, n3⟩ := fit3 p hs
  obtain ⟨b1, b2⟩ := nl_bd p
  obtain ⟨b3, b4⟩ := mn_bd p
  obtain ⟨b5, b6⟩ := mx_bd p
  clear hs
  have x2 : cmpF (sz p) (rd p) b a = 1 := by rw [cmpF_turn, x1]; rfl
  go_enter Tryd.func3, Tryd.ntmps3
  go_wp2_with (first
    | (go_at_call 7; refine (Compare_any _ _ _ _ h (by assumption) (by assumption) (by assumption) (by assumption)).mono ?_; rintro e w' ⟨rfl, hbl⟩; have B := B.trans (hbl.mono B.size); have h := h.below h.pos hbl)
    | (go_at_call 8; refine (Fits_any _ _ _ h (by assumption) (by assumption)).mono ?_; rintro e w' ⟨rfl, hbl⟩; have B := B.trans (hbl.mono B.size); have h := h.below h.pos hbl)
    | (go_at_call 9; refine (size_any _ _ h).mono ?_; rintro e w' ⟨rfl, hbl⟩; have B := B.trans (hbl.mono B.size); have h := h.below h.pos hbl)
    | (go_at_call 10; refine (null_any _ _ h).mono ?_; rintro e w' ⟨rfl, hbl⟩; have B := B.trans (hbl.mono B.size); have h := h.below h.pos hbl)
    | (go_at_call 11; refine (min_any _ _ h).mono ?_; rintro e w' ⟨rfl, hbl⟩; have B := B.trans (hbl.mono B.size); have h := h.below h.pos hbl)
    | (go_at_call 12; refine (max_any _ _ h).mono ?_; rintro e w' ⟨rfl, hbl⟩; have B := B.trans (hbl.mono B.size); have h := h.below h.pos hbl))
  all_goals go_ret
  all_goals exact ⟨rfl, B⟩

set_option maxHeartbeats 1000000 in
/-- The two are one. -/
theorem order_same (p b c : Int) (w : World) (h : KT w) (hb0 : 0 ≤ b) (hb1 : b < 18446744073709551616) (hc0 : 0 ≤ c) (hc1 : c < 18446744073709551616) (hs : sz p ≠ 0) (f2 : fitsF (sz p) (rd p) b = true) :
    Calls Tryd.prog 3 #[.int .i64 p, .int .u64 b, .int .u64 b, .int .u64 c] w fun e w' => e = .returned (.bool true) ∧ Below w.heap.size w w' := by
  have B := Below.refl w.heap.size w
  have c1 : cmpF (sz 1) (rd 1) 18446744073709551615 1 = -1 := by decide
  have c2 : fitsF (sz 0) (rd 0) 255 = true := by decide
  have q0 : (0 : Int) ≤ 18446744073709551615 := by decide
  have q1 : (18446744073709551615 : Int) < 18446744073709551616 := by decide
  have q2 : (0 : Int) ≤ 1 := by decide
  have q3 : (1 : Int) < 18446744073709551616 := by decide
  have q4 : (0 : Int) ≤ 255 := by decide
  have q5 : (255 : Int) < 18446744073709551616 := by decide
  have s0 : (sz p == 0) = false := by simpa using hs
  obtain ⟨n1, n2, n3⟩ := fit3 p hs
  obtain ⟨b1, b2⟩ := nl_bd p
  obtain ⟨b3, b4⟩ := mn_bd p
  obtain ⟨b5, b6⟩ := mx_bd p
  clear hs
  have x1 : cmpF (sz p) (rd p) b b = 0 := cmpF_self _ _ _
  go_enter Tryd.func3, Tryd.ntmps3
  go_wp2_with (first
    | (go_at_call 7; refine (Compare_any _ _ _ _ h (by assumption) (by assumption) (by assumption) (by assumption)).mono ?_; rintro e w' ⟨rfl, hbl⟩; have B := B.trans (hbl.mono B.size); have h := h.below h.pos hbl)
    | (go_at_call 8; refine (Fits_any _ _ _ h (by assumption) (by assumption)).mono ?_; rintro e w' ⟨rfl, hbl⟩; have B := B.trans (hbl.mono B.size); have h := h.below h.pos hbl)
    | (go_at_call 9; refine (size_any _ _ h).mono ?_; rintro e w' ⟨rfl, hbl⟩; have B := B.trans (hbl.mono B.size); have h := h.below h.pos hbl)
    | (go_at_call 10; refine (null_any _ _ h).mono ?_; rintro e w' ⟨rfl, hbl⟩; have B := B.trans (hbl.mono B.size); have h := h.below h.pos hbl)
    | (go_at_call 11; refine (min_any _ _ h).mono ?_; rintro e w' ⟨rfl, hbl⟩; have B := B.trans (hbl.mono B.size); have h := h.below h.pos hbl)
    | (go_at_call 12; refine (max_any _ _ h).mono ?_; rintro e w' ⟨rfl, hbl⟩; have B := B.trans (hbl.mono B.size); have h := h.below h.pos hbl))
  all_goals go_ret
  all_goals exact ⟨rfl, B⟩

theorem order_any (p a b c : Int) (w : World) (h : KT w) (ha0 : 0 ≤ a) (ha1 : a < 18446744073709551616) (hb0 : 0 ≤ b) (hb1 : b < 18446744073709551616) (hc0 : 0 ≤ c) (hc1 : c < 18446744073709551616) :
    Calls Tryd.prog 3 #[.int .i64 p, .int .u64 a, .int .u64 b, .int .u64 c] w fun e w' => e = .returned (.bool true) ∧ Below w.heap.size w w' := by
  by_cases hs : sz p = 0
  · exact order_none p a b c w h ha0 ha1 hb0 hb1 hs
  · cases f1 : fitsF (sz p) (rd p) a
    · exact order_no1 p a b c w h ha0 ha1 hb0 hb1 hc0 hc1 hs f1
    · cases f2 : fitsF (sz p) (rd p) b
      · exact order_no2 p a b c w h ha0 ha1 hb0 hb1 hc0 hc1 hs f1 f2
      · by_cases e : a = b
        · subst e; exact order_same p a c w h ha0 ha1 hc0 hc1 hs f1
        · have z := cmpF_zero (sz p) (rd p) a b (kok p) ha0 ha1 hb0 hb1 f1 f2
          have bd := cmpF_bd (sz p) (rd p) a b
          have ne : (a == b) = false := by simpa using e
          by_cases x : cmpF (sz p) (rd p) a b = 1
          · exact order_one p a b c w h ha0 ha1 hb0 hb1 hc0 hc1 hs f1 f2 x ne
          · have x' : cmpF (sz p) (rd p) a b = -1 := by have : ¬ cmpF (sz p) (rd p) a b = 0 := fun k => e (z.1 k); omega
            cases f3 : fitsF (sz p) (rd p) c
            · exact order_less1 p a b c w h ha0 ha1 hb0 hb1 hc0 hc1 hs f1 f2 x' ne f3
            · by_cases y : cmpF (sz p) (rd p) b c < 0
              · exact order_less2 p a b c w h ha0 ha1 hb0 hb1 hc0 hc1 hs f1 f2 x' ne f3 y (cmpF_trans _ _ _ _ _ f1 f2 f3 (by omega) y)
              · exact order_less3 p a b c w h ha0 ha1 hb0 hb1 hc0 hc1 hs f1 f2 x' ne f3 y
end Go.Proofs.YthelmmdbgmdgeaaDoor
