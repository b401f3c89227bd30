/- marked, sized. -/
import Derived.Test.YtjdinlgbfpkodaaLFr2
namespace Go.Proofs.Ytjdinlgbfpkodaa
open Go.ChangeShapes Go.WideShapes Go.ChangeAt Go.RowKit Go.Shelf

set_option maxHeartbeats 2000000 in
theorem marked_any (n : Nat) (m : Int) (pa pb : Option Addr) (ca cb : Nat) (w : World) (ha : ZRow w pa w.heap.size (List.replicate n m)) (hb : ZRow w pb w.heap.size (List.replicate (n + 1) m)) (hl : n ≤ 17592186043905) :
    Calls Try.prog 26 #[.slice pa n ca, .slice pb (n + 1) cb, .int .i64 m] w fun r w' => r = .returned (.bool true) ∧ ∃ k, w' = w.drewN k := by
  go_enter Try.func26, Try.ntmps26
  go_wp2_with fail
  go_loopw [7] (fun i wr => ∃ (j d : Nat), j ≤ n + 1 ∧ i = .int .i64 j ∧ Hid (wr = w.drewN d)) (fun i _ => n + 1 - (RowKit.intOf i).toNat)
  case atStart => exact ⟨0, 0, Nat.zero_le _, by go_num, ⟨rfl⟩⟩
  case round =>
    obtain ⟨j, d, hj, rfl, hd⟩ := hrel
    by_cases hlt : j < n
    · have x1 : (List.replicate n m)[j]? = some m := by rw [List.getElem?_replicate, if_pos hlt]
      have x2 : (List.replicate (n + 1) m)[j]? = some m := by rw [List.getElem?_replicate, if_pos (by omega)]
      obtain ⟨g, o, rfl, _, q0⟩ := ha.c j m x1
      obtain ⟨g2, o2, rfl, _, q1⟩ := hb.c j m x2
      have r0 : wr.cell? ⟨g, o + j, none⟩ = some (.int .i64 m) := by rw [hd.out]; exact q0
      have r1 : wr.cell? ⟨g2, o2 + j, none⟩ = some (.int .i64 m) := by rw [hd.out]; exact q1
      have hlti : (j : Int) < n := by omega
      have hlti2 : (j : Int) < n + 1 := by omega
      clear q0 q1 ha hb x1 x2
      go_wp2_with fail
      go_roundw
      case rel => exact ⟨j + 1, d, by omega, by go_num, hd⟩
      case measure => simp [RowKit.intOf]; omega
    · by_cases he : j = n
      · have x2 : (List.replicate (n + 1) m)[j]? = some m := by rw [List.getElem?_replicate, if_pos (by omega)]
        obtain ⟨g2, o2, rfl, _, q1⟩ := hb.c j m x2
        have r1 : wr.cell? ⟨g2, o2 + j, none⟩ = some (.int .i64 m) := by rw [hd.out]; exact q1
        have hlti : ¬ (j : Int) < n := by omega
        have hlti2 : (j : Int) < n + 1 := by omega
        clear q1 ha hb x2 he
        go_wp2_with fail
        go_roundw
        case rel => exact ⟨j + 1, d, by omega, by go_num, hd⟩
        case measure => simp [RowKit.intOf]; omega
      · have he : j = n + 1 := by omega
        have hlti2 : ¬ (j : Int) < n + 1 := by omega
        clear he
        go_wp2_with fail
        go_ret
        exact ⟨rfl, d, hd.out⟩
set_option maxHeartbeats 2000000 in
theorem sized_any (n : Nat) (m : Int) (pa pb : Option Addr) (ca cb : Nat) (w : World) (ha : RmRow w pa w.heap.size (List.replicate n ⟨m, 0⟩)) (hb : RmRow w pb w.heap.size (List.replicate (n + 1) ⟨m, 0⟩)) (hl : n ≤ 8796093021953) :
    Calls Try.prog 27 #[.slice pa n ca, .slice pb (n + 1) cb, .int .i64 m] w fun r w' => r = .returned (.bool true) ∧ ∃ k, w' = w.drewN k := by
  go_enter Try.func27, Try.ntmps27
  go_wp2_with fail
  go_loopw [7] (fun i wr => ∃ (j d : Nat), j ≤ n + 1 ∧ i = .int .i64 j ∧ Hid (wr = w.drewN d)) (fun i _ => n + 1 - (RowKit.intOf i).toNat)
  case atStart => exact ⟨0, 0, Nat.zero_le _, by go_num, ⟨rfl⟩⟩
  case round =>
    obtain ⟨j, d, hj, rfl, hd⟩ := hrel
    by_cases hlt : j < n
    · have x1 : (List.replicate n (⟨m, 0⟩ : Rm))[j]? = some ⟨m, 0⟩ := by rw [List.getElem?_replicate, if_pos hlt]
      have x2 : (List.replicate (n + 1) (⟨m, 0⟩ : Rm))[j]? = some ⟨m, 0⟩ := by rw [List.getElem?_replicate, if_pos (by omega)]
      obtain ⟨g, o, rfl, _, q0, q2⟩ := ha.c j ⟨m, 0⟩ x1
      obtain ⟨g2, o2, rfl, _, q1, q3⟩ := hb.c j ⟨m, 0⟩ x2
      have r0 : wr.cell? ⟨g, o + j * 2, none⟩ = some (.int .i64 m) := by rw [hd.out]; exact q0
      have r1 : wr.cell? ⟨g2, o2 + j * 2, none⟩ = some (.int .i64 m) := by rw [hd.out]; exact q1
      have r2 : wr.cell? ⟨g, o + j * 2 + 1, none⟩ = some (.int .i64 0) := by rw [hd.out]; exact q2
      have r3 : wr.cell? ⟨g2, o2 + j * 2 + 1, none⟩ = some (.int .i64 0) := by rw [hd.out]; exact q3
      have hlti : (j : Int) < n := by omega
      have hlti2 : (j : Int) < n + 1 := by omega
      clear q0 q1 q2 q3 ha hb x1 x2
      go_wp2_with fail
      go_roundw
      case rel => exact ⟨j + 1, d, by omega, by go_num, hd⟩
      case measure => simp [RowKit.intOf]; omega
    · by_cases he : j = n
      · have x2 : (List.replicate (n + 1) (⟨m, 0⟩ : Rm))[j]? = some ⟨m, 0⟩ := by rw [List.getElem?_replicate, if_pos (by omega)]
        obtain ⟨g2, o2, rfl, _, q1, q3⟩ := hb.c j ⟨m, 0⟩ x2
        have r1 : wr.cell? ⟨g2, o2 + j * 2, none⟩ = some (.int .i64 m) := by rw [hd.out]; exact q1
        have r3 : wr.cell? ⟨g2, o2 + j * 2 + 1, none⟩ = some (.int .i64 0) := by rw [hd.out]; exact q3
        have hlti : ¬ (j : Int) < n := by omega
        have hlti2 : (j : Int) < n + 1 := by omega
        clear q1 q3 ha hb x2 he
        go_wp2_with fail
        go_roundw
        case rel => exact ⟨j + 1, d, by omega, by go_num, hd⟩
        case measure => simp [RowKit.intOf]; omega
      · have he : j = n + 1 := by omega
        have hlti2 : ¬ (j : Int) < n + 1 := by omega
        clear he
        go_wp2_with fail
        go_ret
        exact ⟨rfl, d, hd.out⟩
end Go.Proofs.Ytjdinlgbfpkodaa
