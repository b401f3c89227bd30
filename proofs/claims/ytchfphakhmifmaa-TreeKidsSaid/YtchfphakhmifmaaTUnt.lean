/- The law's own: untouched. -/
import Derived.Test.YtchfphakhmifmaaTSam
namespace Go.Proofs.Ytchfphakhmifmaa
open Go.ChangeShapes Go.WideShapes Go.ChangeAt Go.RowKit

set_option maxRecDepth 100000 in
set_option maxHeartbeats 4000000 in
theorem untouched_any (pb : Option Addr) (base g cap cb : Nat) (es : List El) (w : World) (ha : CRow w base g cap es) (hb : ERow w pb w.heap.size es) (hl : es.length * 72 ≤ 140737488351232) (ht : ∀ e ∈ es, e.ats.length * 40 ≤ 140737488351232) :
    Calls Try.prog 7 #[.slice (some ⟨g, 0, none⟩) es.length cap, .slice pb es.length cb] w fun e w' => e = .returned (.bool true) ∧ Below w.heap.size w w' := by
  have hS := sameElems_eq (some ⟨g, 0, none⟩) pb cap cb es w ha.er hb hl ht
  have hroom := ha.room
  have hr2 : (es.length : Int) + 1 ≤ cap := by omega
  have hF : Hid (1 = 1) := rfl
  go_enter Try.func7, Try.ntmps7
  go_wp2_with (go_at_call 10; refine hS.mono ?_; rintro e w1 ⟨rfl, hB1⟩; have hC1 := ha.below hB1; have hsp := hC1.sp)
  go_loopw [6] (fun i wr => ∃ k : Nat, k ≤ es.length ∧ i = .int .i64 k ∧ Below w.heap.size w wr) (fun i _ => es.length - (RowKit.intOf i).toNat)
  case atStart => exact ⟨0, Nat.zero_le _, rfl, hB1⟩
  case round =>
    obtain ⟨k, hk, rfl, hB⟩ := hrel
    by_cases hlt : k < es.length
    · obtain ⟨x, hx⟩ : ∃ x, es[k]? = some x := ⟨es[k], List.getElem?_eq_getElem hlt⟩
      obtain ⟨g2, o2, pb1, cb1, rfl, hg2, r0, r1, r2, r3, r4, hA2⟩ := (hb.below hB).c k x hx
      obtain ⟨ga, ca, m2, hca, hga, ms⟩ := (ha.below hB).at_ k x hx
      have hlt2 : (k : Int) < es.length := by omega
      have hxa := ht x (List.mem_of_getElem? hx)
      have hca2 : (x.ats.length : Int) + 1 ≤ ca := by omega
      clear hx ht ha hb hS hA2 r0 r1 r3 r4 hC1
      go_wp2_with fail
      go_roundw
      case rel => exact ⟨k + 1, by omega, by go_num, hB⟩
      case measure => simp [RowKit.intOf]; omega
    · obtain rfl : k = es.length := by omega
      go_wp2_with fail
      go_ret
      exact ⟨rfl, hB⟩
end Go.Proofs.Ytchfphakhmifmaa
