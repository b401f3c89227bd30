/- The contracts of hex and item. -/
import Derived.Test.YthiilkmnbjgoaaaQuo3
namespace Go.Proofs.Ythiilkmnbjgoaaa
open Go.ChangeShapes Go.WideShapes Go.ChangeAt Go.RowKit

set_option maxHeartbeats 1000000 in
theorem qhex_no (g : Nat) (s : ByteArray) (a : Nat) (v : Value) (L : List Nat) (x : Option Value) (w : World) (h : Rd w g s a v L x) (hs : a + 4 ≤ 9223372036854775807) (hp : (pairN s (a + 2)).2 < a + 4) :
    Calls Try.prog 30 #[.pointer (some ⟨g, 0, none⟩)] w fun r w' => r = .returned (.bool false) ∧ Rd w' g s (pairN s (a + 2)).2 v L x ∧ Below g w w' := by
  have R1 : Rd (w.setCell ⟨g, 1, none⟩ (.int .i64 ((a : Int) + 2))) g s (a + 2) v L x := by
    have := h.move (a + 2)
    rwa [Int.natCast_add] at this
  have c1 := h.h1
  have f1 := h.fz 1
  have c0 := R1.h0
  have c11 := R1.h1
  have d : decide (((pairN s (a + 2)).2 : Int) < (a : Int) + 2 + 2) = true := by simp; omega
  have HB : Hid (Below g w (w.setCell ⟨g, 1, none⟩ (.int .i64 ((a : Int) + 2)))) := below_set (Nat.le_refl g) w _
  have R2 : Hid (Rd (w.setCell ⟨g, 1, none⟩ (.int .i64 ((a : Int) + 2))) g s (a + 2) v L x) := R1
  have f11 := R1.fz 1
  clear R1 h
  go_enter Try.func30, Try.ntmps30
  go_wp2
  go_quiet ((go_at_call 23; refine Calls.quiet_of_same (hexPair_any s (a + 2) _ (by omega))))
  go_wp2
  go_ret
  exact ⟨rfl, (R2.out.drewN nq).move _, (bdN HB.out nq).trans (below_set (Nat.le_refl g) _ _)⟩
set_option maxHeartbeats 1000000 in
theorem qhex_yes (g : Nat) (s : ByteArray) (a : Nat) (v : Value) (L : List Nat) (x : Option Value) (w : World) (h : Rd w g s a v L x) (hs : a + 4 ≤ 9223372036854775807) (hp : (pairN s (a + 2)).2 = a + 4) (hl : L.length + 1 ≤ 140737488355328) :
    Calls Try.prog 30 #[.pointer (some ⟨g, 0, none⟩)] w fun r w' => r = .returned (.bool true) ∧ (∃ v', Rd w' g s (a + 4) v' (L ++ [(pairN s (a + 2)).1]) x) ∧ Below g w w' := by
  have R1 : Rd (w.setCell ⟨g, 1, none⟩ (.int .i64 ((a : Int) + 2))) g s (a + 2) v L x := by
    have := h.move (a + 2)
    rwa [Int.natCast_add] at this
  have c1 := h.h1
  have f1 := h.fz 1
  have c0 := R1.h0
  have c11 := R1.h1
  have d : decide (((pairN s (a + 2)).2 : Int) < (a : Int) + 2 + 2) = false := by simp; omega
  have HB : Hid (Below g w (w.setCell ⟨g, 1, none⟩ (.int .i64 ((a : Int) + 2)))) := below_set (Nat.le_refl g) w _
  have R2 : Hid (Rd (w.setCell ⟨g, 1, none⟩ (.int .i64 ((a : Int) + 2))) g s (a + 2) v L x) := R1
  clear R1 h hp
  go_enter Try.func30, Try.ntmps30
  go_wp2
  go_quiet ((go_at_call 23; refine Calls.quiet_of_same (hexPair_any s (a + 2) _ (by omega))))
  go_wp2_with (go_at_call 40; refine (take_byte g s (a + 2) 2 v L x (pairN s (a + 2)).1 _ _ ((w.setCell ⟨g, 1, none⟩ (.int .i64 ((a : Int) + 2))).drewN nq) (by simp [World.setCell]) (R2.out.drewN _) hl (by omega)).mono ?_; rintro e w1 ⟨rfl, ⟨v', hR⟩, hb1⟩)
  go_ret
  exact ⟨rfl, ⟨v', hR⟩, (bdN HB.out _).trans hb1⟩
theorem slice_from (s : ByteArray) (a : Nat) (ha : a ≤ s.size) (w : World) : (Instr.slice 9 (.string s) (some (.int .i64 (a : Int))) none none).run Try.prog w = .ok (.string (s.extract a s.size)) w := by
  rw [run_slice_string_from_if w 9 s .i64 a Try.underlying9, if_pos ⟨by omega, by omega⟩, Int.toNat_natCast]
theorem pre1 (s : ByteArray) (a : Nat) (x : UInt8) : prefB (s.extract a s.size) ⟨#[x]⟩ = (decide (a < s.size) && decide (ch s a = x.toNat)) := by
  rw [prefB_1, size_ext s a s.size (Nat.le_refl _)]
  by_cases h : a < s.size
  · rw [ch_ext s a s.size 0 (by omega)]
    simp [h]
    intro _; omega
  · simp [h]; omega
theorem pre2 (s : ByteArray) (a : Nat) (x y : UInt8) : prefB (s.extract a s.size) ⟨#[x, y]⟩ = (decide (a + 1 < s.size) && decide (ch s a = x.toNat) && decide (ch s (a + 1) = y.toNat)) := by
  rw [prefB_2, size_ext s a s.size (Nat.le_refl _)]
  by_cases h : a + 1 < s.size
  · rw [ch_ext s a s.size 0 (by omega), ch_ext s a s.size 1 (by omega)]
    rw [decide_eq_true (show 2 ≤ s.size - a by omega)]
    simp [h]
  · simp [h]; omega
theorem pre3 (s : ByteArray) (a : Nat) (x y z : UInt8) : prefB (s.extract a s.size) ⟨#[x, y, z]⟩ = (decide (a + 2 < s.size) && decide (ch s a = x.toNat) && decide (ch s (a + 1) = y.toNat) && decide (ch s (a + 2) = z.toNat)) := by
  rw [prefB_3, size_ext s a s.size (Nat.le_refl _)]
  by_cases h : a + 2 < s.size
  · rw [ch_ext s a s.size 0 (by omega), ch_ext s a s.size 1 (by omega), ch_ext s a s.size 2 (by omega)]
    rw [decide_eq_true (show 3 ≤ s.size - a by omega)]
    simp [h]
  · simp [h]; omega
theorem pairN_le (s : ByteArray) (a : Nat) (ha : a ≤ s.size) : (pairN s a).2 ≤ s.size := by
  unfold pairN
  split
  · exact ha
  · split
    · exact ha
    · split
      · show a + 1 ≤ _; omega
      · split
        · show a + 1 ≤ _; omega
        · show a + 2 ≤ _; omega
theorem pairN_le2 (s : ByteArray) (a : Nat) : (pairN s a).2 ≤ a + 2 := by
  unfold pairN
  split
  · show a ≤ _; omega
  · split
    · show a ≤ _; omega
    · split
      · show a + 1 ≤ _; omega
      · split
        · show a + 1 ≤ _; omega
        · show a + 2 ≤ _; omega
def itemK (s : ByteArray) (a : Nat) : Nat := if a + 1 < s.size ∧ ch s a = 92 ∧ ch s (a + 1) = 120 then 30 else if a < s.size ∧ ch s a = 92 then 31 else 32
theorem qitem_any (g : Nat) (s : ByteArray) (a : Nat) (v : Value) (L : List Nat) (x : Option Value) (w : World) (h : Rd w g s a v L x) (ha : a ≤ s.size) :
    Calls Try.prog 21 #[.pointer (some ⟨g, 0, none⟩)] w fun r w' => r = .returned (.func (Fn.func (itemK s a)) #[.pointer (some ⟨g, 0, none⟩)] #[]) ∧ ∃ n, w' = w.drewN n := by
  have hmf : ∀ (fn : Fn) (first cap : Array Value) (w : World), (Instr.makeFunc fn first cap).run Try.prog w = .ok (.func fn first cap) w := fun _ _ _ _ => rfl
  have c0 := h.h0
  have c1 := h.h1
  have hsl := fun w => slice_from s a ha w
  have p1 := pre2 s a 92 120
  have p2 := pre1 s a 92
  rw [show (92 : UInt8).toNat = 92 from rfl, show (120 : UInt8).toNat = 120 from rfl] at p1
  rw [show (92 : UInt8).toNat = 92 from rfl] at p2
  clear h
  by_cases k1 : a + 1 < s.size ∧ ch s a = 92 ∧ ch s (a + 1) = 120
  · have q1 : prefB (s.extract a s.size) { data := #[92, 120] } = true := by rw [p1]; simp [k1]
    have e : itemK s a = 30 := by unfold itemK; rw [if_pos k1]
    rw [e]
    clear p1 p2
    go_enter Try.func21, Try.ntmps21
    go_wp2
    go_quiet (fail)
    go_wp2_with (go_at_call 20; refine (HasPrefix_any _ _ _).mono ?_; rintro e w1 ⟨rfl, hw1⟩; subst w1)
    go_ret
    exact ⟨rfl, nq, rfl⟩
  · have q1 : prefB (s.extract a s.size) { data := #[92, 120] } = false := by
      rw [p1, Bool.eq_false_iff]
      simp
      intro h1 h2 h3
      exact k1 ⟨h1, h2, h3⟩
    by_cases k2 : a < s.size ∧ ch s a = 92
    · have q2 : prefB (s.extract a s.size) { data := #[92] } = true := by rw [p2]; simp [k2]
      have e : itemK s a = 31 := by unfold itemK; rw [if_neg k1, if_pos k2]
      rw [e]
      clear p1 p2
      go_enter Try.func21, Try.ntmps21
      go_wp2
      go_quiet (fail)
      go_wp2_with (go_at_call 20; refine (HasPrefix_any _ _ _).mono ?_; rintro e w1 ⟨rfl, hw1⟩; subst w1)
      go_ret
      exact ⟨rfl, nq, rfl⟩
    · have q2 : prefB (s.extract a s.size) { data := #[92] } = false := by
        rw [p2, Bool.eq_false_iff]
        simp
        intro h1 h2
        exact k2 ⟨h1, h2⟩
      have e : itemK s a = 32 := by unfold itemK; rw [if_neg k1, if_neg k2]
      rw [e]
      clear p1 p2
      go_enter Try.func21, Try.ntmps21
      go_wp2
      go_quiet (fail)
      go_wp2_with (go_at_call 20; refine (HasPrefix_any _ _ _).mono ?_; rintro e w1 ⟨rfl, hw1⟩; subst w1)
      go_ret
      exact ⟨rfl, nq, rfl⟩
end Go.Proofs.Ythiilkmnbjgoaaa
