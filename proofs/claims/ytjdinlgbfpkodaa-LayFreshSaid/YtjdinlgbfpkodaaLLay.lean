/- How one room is laid. -/
import Derived.Test.YtjdinlgbfpkodaaLMem
namespace Go.Proofs.Ytjdinlgbfpkodaa
open Go.ChangeShapes Go.WideShapes Go.ChangeAt Go.RowKit

theorem said_any (n e : Int) (w : World) : Calls Try.prog 41 #[.int .i64 n, .int .i64 e] w fun r w' => r = .returned (.int .i64 (if n = -1 then e else n)) ∧ w' = w := by
  by_cases h : n = -1
  · rw [if_pos h]
    go_enter Try.func41, Try.ntmps41
    go_wp2_with fail
    go_ret
    exact ⟨rfl, rfl⟩
  · rw [if_neg h]
    have hb : (n == -1) = false := beq_eq_false_iff_ne.2 h
    go_enter Try.func41, Try.ntmps41
    go_wp2_with fail
    go_ret
    exact ⟨rfl, rfl⟩
theorem unsaid_any (n e : Int) (w : World) : Calls Try.prog 32 #[.int .i64 n, .int .i64 e] w fun r w' => r = .returned (.int .i64 (if n = e then -1 else n)) ∧ w' = w := by
  by_cases h : n = e
  · rw [if_pos h]
    subst h
    go_enter Try.func32, Try.ntmps32
    go_wp2_with fail
    go_ret
    exact ⟨rfl, rfl⟩
  · rw [if_neg h]
    have hb : (n == e) = false := beq_eq_false_iff_ne.2 h
    go_enter Try.func32, Try.ntmps32
    go_wp2_with fail
    go_ret
    exact ⟨rfl, rfl⟩
def blkErr (b : Int) : Int := if b < -1 then 73 else if 65535 < b then 72 else 0
theorem blockFault_any (b : Int) (w : World) : Calls Try.prog 38 #[.int .i64 b] w fun r w' => r = .returned (.int .i64 (blkErr b)) ∧ w' = w := by
  unfold blkErr
  by_cases h : b < -1
  · rw [if_pos h]
    go_enter Try.func38, Try.ntmps38
    go_wp2_with fail
    go_ret
    exact ⟨rfl, rfl⟩
  · rw [if_neg h]
    by_cases h2 : 65535 < b
    · rw [if_pos h2]
      go_enter Try.func38, Try.ntmps38
      go_wp2_with fail
      go_ret
      exact ⟨rfl, rfl⟩
    · rw [if_neg h2]
      go_enter Try.func38, Try.ntmps38
      go_wp2_with fail
      go_ret
      exact ⟨rfl, rfl⟩
def layV (v : Nat → Value) (x : Rm) (e : Int) : Nat → Value := if layErr x e = 0 then upd v 0 (.int .i64 (layFrom x e + x.sz)) else v
set_option maxHeartbeats 2000000 in
theorem lay_any (R : Nat) (x : Rm) (e : Int) (v : Nat → Value) (w : World) (hC : RC w R v) (h0 : v 0 = .int .i64 e) (he : 0 ≤ e ∧ e ≤ 65535) (hx : x.ok) :
    Calls Try.prog 40 #[.pointer (some ⟨R, 0, none⟩), rmV x] w fun r w' => r = .returned (.int .i64 (layErr x e)) ∧ Kp R w.heap.size w w' ∧ RC w' R (layV v x e) := by
  obtain ⟨⟨hs1, hs2⟩, ho1, ho2⟩ := hx
  obtain ⟨sz, of⟩ := x
  simp only at hs1 hs2 ho1 ho2
  have hB := bel1 w (.cells #[.int .i64 sz, .int .i64 of] 35)
  have hC1 := hC.below hB
  have c0 := hC1.c 0 (by decide)
  rw [h0] at c0
  have f0 := hC1.fz 0
  have hlt := hC.lt
  have hne : R ≠ w.heap.size := by omega
  have n0 : (⟨w.heap.size, 0, none⟩ : Addr) ≠ ⟨R, 0, none⟩ := fun e => hne (by injection e with e; exact e.symm)
  have hsd := fun W => said_any of e W
  obtain ⟨F, hF⟩ : ∃ F, layFrom ⟨sz, of⟩ e = F := ⟨_, rfl⟩
  have hsd2 : ∀ W, Calls Try.prog 41 #[.int .i64 of, .int .i64 e] W fun r w' => r = .returned (.int .i64 F) ∧ w' = W := fun W => by rw [← hF]; exact hsd W
  have hFb : -9223372036854775808 ≤ F ∧ F ≤ 9223372036854775807 := by rw [← hF]; unfold layFrom; simp only; split <;> omega
  unfold layV layErr
  rw [hF]
  clear hsd hF
  dsimp only
  by_cases k1 : sz < 0
  · rw [if_pos (.inl k1), if_neg (by decide)]
    go_enter Try.func40, Try.ntmps40
    go_wp2_with fail
    go_quiet ((go_at_call 41; exact Calls.quiet_of_same (hsd2 _)))
    go_wp2_with fail
    go_ret
    exact ⟨rfl, (Kp.of hB).drewN _, hC1.drewN _⟩
  by_cases k2 : F < 0
  · rw [if_pos (.inr k2), if_neg (by decide)]
    go_enter Try.func40, Try.ntmps40
    go_wp2_with fail
    go_quiet ((go_at_call 41; exact Calls.quiet_of_same (hsd2 _)))
    go_wp2_with fail
    go_ret
    exact ⟨rfl, (Kp.of hB).drewN _, hC1.drewN _⟩
  rw [if_neg (by omega)]
  by_cases k3 : F < e
  · rw [if_pos k3, if_neg (by decide)]
    go_enter Try.func40, Try.ntmps40
    go_wp2_with fail
    go_quiet ((go_at_call 41; exact Calls.quiet_of_same (hsd2 _)))
    go_wp2_with fail
    go_ret
    exact ⟨rfl, (Kp.of hB).drewN _, hC1.drewN _⟩
  rw [if_neg k3]
  have hsu : 65535 - sz ≤ 65535 ∧ -9223372036854775808 ≤ 65535 - sz := by omega
  by_cases k4 : 65535 - sz < F
  · rw [if_pos k4, if_neg (by decide)]
    go_enter Try.func40, Try.ntmps40
    go_wp2_with fail
    go_quiet ((go_at_call 41; exact Calls.quiet_of_same (hsd2 _)))
    go_wp2_with fail
    go_ret
    exact ⟨rfl, (Kp.of hB).drewN _, hC1.drewN _⟩
  rw [if_neg k4, if_pos rfl]
  go_enter Try.func40, Try.ntmps40
  go_wp2_with fail
  go_quiet ((go_at_call 41; exact Calls.quiet_of_same (hsd2 _)))
  go_wp2_with fail
  go_ret
  exact ⟨rfl, ((Kp.of hB).drewN _).trans (Kp.set R _ 0 _ _), (hC1.drewN _).set 0 _⟩
end Go.Proofs.Ytjdinlgbfpkodaa
