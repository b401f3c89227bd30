/- The contracts of body, plain and named. -/
import Derived.Test.YthiilkmnbjgoaaaEnt2
namespace Go.Proofs.Ythiilkmnbjgoaaa
open Go.ChangeShapes Go.WideShapes Go.ChangeAt Go.RowKit
open Go.Maps
open Go.WideMaps

/-- What stands behind a place up to the first ; and whether there is one. -/
def bodyS (s : ByteArray) (a : Nat) : ByteArray := (s.extract a s.size).extract 0 (fstN (s.extract a s.size) 59)
def endB (s : ByteArray) (a : Nat) : Bool := decide (fstN (s.extract a s.size) 59 < (s.extract a s.size).size)
theorem ret_sb {a b : ByteArray} {p q : Bool} (h1 : a = b) (h3 : p = q) : Ending.returned (.tuple #[.string a, .bool p]) = .returned (.tuple #[.string b, .bool q]) := by rw [h1, h3]
set_option maxHeartbeats 1000000 in
theorem body_any (g : Nat) (s mark : ByteArray) (a : Nat) (v : Value) (L : List Nat) (x : Option Value) (w : World) (h : Rd w g s a v L x) (ha : a + mark.size ≤ s.size) (hs : s.size ≤ 140737488355328) :
    Calls Try.prog 45 #[.pointer (some ⟨g, 0, none⟩), .string mark] w fun r w' => r = .returned (.tuple #[.string (bodyS s (a + mark.size)), .bool (endB s (a + mark.size))]) ∧ ∃ n, w' = w.drewN n := by
  have c0 := h.h0
  have c1 := h.h1
  have hsl : ∀ w : World, (Instr.slice 9 (.string s) (some (.int .i64 ((a : Int) + (mark.size : Int)))) none none).run Try.prog w = .ok (.string (s.extract (a + mark.size) s.size)) w := fun w => slice_from s (a + mark.size) ha w
  have ez : (s.extract (a + mark.size) s.size).size = s.size - (a + mark.size) := size_ext s _ _ (Nat.le_refl _)
  have CQ := fun (w : World) (n : Nat) => Cut_quiet (s.extract (a + mark.size) s.size) 59 w n (by rw [ez]; omega)
  unfold bodyS endB
  unfold cutV at CQ
  rw [show (59 : UInt8).toNat = 59 from rfl] at CQ
  generalize (if fstN (s.extract (a + mark.size) s.size) 59 < (s.extract (a + mark.size) s.size).size then (s.extract (a + mark.size) s.size).extract (fstN (s.extract (a + mark.size) s.size) 59 + 1) (s.extract (a + mark.size) s.size).size else ⟨#[]⟩) = C at CQ
  generalize decide (fstN (s.extract (a + mark.size) s.size) 59 < (s.extract (a + mark.size) s.size).size) = D at CQ ⊢
  generalize (s.extract (a + mark.size) s.size).extract 0 (fstN (s.extract (a + mark.size) s.size) 59) = E at CQ ⊢
  clear h
  go_enter Try.func45, Try.ntmps45
  go_wp2
  go_quiet ((go_at_call 43; exact CQ _ _))
  go_wp2
  go_ret2
  exact ⟨rfl, nq, rfl⟩
set_option maxHeartbeats 1000000 in
theorem eplain_any (g : Nat) (s : ByteArray) (a : Nat) (v : Value) (L : List Nat) (x : Option Value) (w : World) (h : Rd w g s a v L x) (ha : a ≤ s.size) (hl : L.length + s.size ≤ 140737488355328) :
    Calls Try.prog 34 #[.pointer (some ⟨g, 0, none⟩)] w fun r w' => r = .returned (.bool true) ∧ (∃ v', Rd w' g s (a + fstN (s.extract a s.size) 38) v' (L ++ lOf ((s.extract a s.size).extract 0 (fstN (s.extract a s.size) 38))) x) ∧ Below g w w' := by
  have c0 := h.h0
  have c1 := h.h1
  have hsl := fun w => slice_from s a ha w
  have ez : (s.extract a s.size).size = s.size - a := size_ext s _ _ (Nat.le_refl _)
  have hle := fst_le (s.extract a s.size) 38
  have CQ := fun (w : World) (n : Nat) => Cut_quiet (s.extract a s.size) 38 w n (by rw [ez]; omega)
  unfold cutV at CQ
  rw [show (38 : UInt8).toNat = 38 from rfl] at CQ
  generalize (if fstN (s.extract a s.size) 38 < (s.extract a s.size).size then (s.extract a s.size).extract (fstN (s.extract a s.size) 38 + 1) (s.extract a s.size).size else ⟨#[]⟩) = C at CQ
  generalize decide (fstN (s.extract a s.size) 38 < (s.extract a s.size).size) = D at CQ
  have ey : ((s.extract a s.size).extract 0 (fstN (s.extract a s.size) 38)).size = fstN (s.extract a s.size) 38 := by rw [size_ext _ 0 _ hle]; omega
  generalize (s.extract a s.size).extract 0 (fstN (s.extract a s.size) 38) = E at CQ ey ⊢
  generalize fstN (s.extract a s.size) 38 = k at CQ ey hle ⊢
  have hcv := fun W => conv_bytes E W
  go_enter Try.func34, Try.ntmps34
  go_wp2
  go_quiet ((go_at_call 43; exact CQ _ _))
  go_wp2_with (go_at_call 40; refine (take_str g s a k v L x E _ _ _ (w.drewN nq) rfl ey (h.drewN nq) (by omega) (by omega)).mono ?_; rintro e w1 ⟨rfl, ⟨v', hR⟩, hb1⟩)
  go_ret
  exact ⟨rfl, ⟨v', hR⟩, (bdN (Below.refl _ _) nq).trans hb1⟩
end Go.Proofs.Ythiilkmnbjgoaaa
