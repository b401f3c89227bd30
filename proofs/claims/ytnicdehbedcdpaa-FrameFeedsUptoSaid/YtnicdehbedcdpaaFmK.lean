/- holds. -/
import Derived.Test.YtnicdehbedcdpaaFmJ
namespace Go.Proofs.Ytnicdehbedcdpaa
open Go.ChangeShapes Go.WideShapes Go.ChangeAt Go.RowKit

set_option maxHeartbeats 2000000 in
theorem holds_any (n : Nat) (m : Int) (pa pb : Option Addr) (ca cb H : Nat) (w : World) (ha : PRow w pa H (List.replicate n (mkP m))) (hb : PRow w pb H (List.replicate (n + 1) (mkP m))) (hH : H ≤ w.heap.size) (hl : n ≤ 9223372036854770000) (hm : 0 ≤ m ∧ m ≤ 9223372036854775000) :
    Calls Try.prog 18 #[.agg #[.slice pa n ca, .slice pb (n + 1) cb, .int .i64 m]] w fun r w' => r = .returned (.bool true) ∧ Below w.heap.size w w' := by
  have s1 : IntKind.i64.wrap (-m) = -m := by rw [IntKind.wrap_i64]; omega
  have s2 : IntKind.i64.wrap (-m - 1) = -m - 1 := by rw [IntKind.wrap_i64]; omega
  have hb0 := bel1 w (.cells #[.slice pa n ca, .slice pb (n + 1) cb, .int .i64 m] 43)
  have hN := heap_nw w (.cells #[.slice pa n ca, .slice pb (n + 1) cb, .int .i64 m] 43)
  have hz : (w.alloc (.cells #[.slice pa n ca, .slice pb (n + 1) cb, .int .i64 m] 43)).heap.size = w.heap.size + 1 := by rw [World.size_alloc]
  replace ha := ha.below (hb0.mono hH)
  replace hb := hb.below (hb0.mono hH)
  have fin : ∀ d, Below w.heap.size w ((w.alloc (.cells #[.slice pa n ca, .slice pb (n + 1) cb, .int .i64 m] 43)).drewN d) := fun d => below_drewN hb0 d
  go_enter Try.func18, Try.ntmps18
  go_wp2_with fail
  generalize w.alloc (.cells #[.slice pa n ca, .slice pb (n + 1) cb, .int .i64 m] 43) = w0 at *
  go_loopw [3] (fun i wr => ∃ (j d : Nat), j ≤ n ∧ i = .int .i64 j ∧ Hid (wr = w0.drewN d)) (fun i _ => n - (RowKit.intOf i).toNat)
  case atStart => exact ⟨0, 0, Nat.zero_le _, by go_num, rfl⟩
  case round =>
    obtain ⟨j, d, hj, rfl, hd⟩ := hrel
    have hcd : ∀ a, wr.cell? a = w0.cell? a := fun a => by rw [show wr = w0.drewN d from hd]; rfl
    have y0 := (hcd ⟨w.heap.size, 0, none⟩).trans (cellA hN 0)
    have y1 := (hcd ⟨w.heap.size, 1, none⟩).trans (cellA hN 1)
    have y2 := (hcd ⟨w.heap.size, 2, none⟩).trans (cellA hN 2)
    by_cases hlt : j < n
    · obtain ⟨g, o, rfl, _, q0, _⟩ := ha.c j (mkP m) (by rw [List.getElem?_replicate, if_pos hlt])
      have r0 := (hcd _).trans q0
      have hlti : (j : Int) < n := by omega
      have r1 : (mkP m).t = -m - 1 := rfl
      rw [r1] at r0
      clear q0 ha hb hcd
      go_wp2_with fail
      go_quiet (fail)
      go_wp2_with fail
      go_roundw
      case rel => exact ⟨j + 1, d + nq, by omega, by go_num, by rw [show wr = w0.drewN d from hd]; exact drewN_add _ _ _⟩
      case measure => simp [RowKit.intOf]; omega
    · obtain rfl : j = n := by omega
      have hlti : ¬ (j : Int) < j := by omega
      clear hcd
      go_wp2_with fail
      have hd0 : wr = w0.drewN d := hd
      subst hd0
      go_loopw [4] (fun i wr => ∃ (k d : Nat), k ≤ j + 1 ∧ i = .int .i64 k ∧ Hid (wr = w0.drewN d)) (fun i _ => j + 1 - (RowKit.intOf i).toNat)
      case atStart => exact ⟨0, d, Nat.zero_le _, by go_num, rfl⟩
      case round =>
        obtain ⟨k, d, hk, rfl, hd⟩ := hrel
        have hcd : ∀ a, wr.cell? a = w0.cell? a := fun a => by rw [show wr = w0.drewN d from hd]; rfl
        have y0 := (hcd ⟨w.heap.size, 0, none⟩).trans (cellA hN 0)
        have y1 := (hcd ⟨w.heap.size, 1, none⟩).trans (cellA hN 1)
        have y2 := (hcd ⟨w.heap.size, 2, none⟩).trans (cellA hN 2)
        by_cases hlt : k < j + 1
        · obtain ⟨g, o, rfl, _, q0, _⟩ := hb.c k (mkP m) (by rw [List.getElem?_replicate, if_pos hlt])
          have r0 := (hcd _).trans q0
          have hlti : (k : Int) < (j : Int) + 1 := by omega
          have r1 : (mkP m).t = -m - 1 := rfl
          rw [r1] at r0
          have rel : ∀ q, Hid (wr.drewN q = w0.drewN (d + q)) := fun q => by rw [show wr = w0.drewN d from hd]; exact drewN_add _ _ _
          clear q0 ha hb hcd
          go_wp2_with fail
          go_quiet (fail)
          go_wp2_with fail
          go_roundw
          case rel => exact ⟨k + 1, d + nq, by omega, by go_num, rel _⟩
          case measure => simp [RowKit.intOf]; omega
        · obtain rfl : k = j + 1 := by omega
          have hlti : ¬ ((j + 1 : Nat) : Int) < (j : Int) + 1 := by omega
          have s3 : IntKind.i64.wrap ((j : Int) + 1) = (j : Int) + 1 := by rw [IntKind.wrap_i64]; omega
          clear hcd
          have hd0 : wr = w0.drewN d := hd
          subst hd0
          have fd := fin d
          go_wp2_with fail
          go_ret
          exact ⟨by simp, fd⟩
end Go.Proofs.Ytnicdehbedcdpaa
