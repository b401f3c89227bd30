/- The document's Same, the law's sameElems and untouched, where both lists are the same. -/
import Derived.Test.YtchfphakhmifmaaTCop2
namespace Go.Proofs.Ytchfphakhmifmaa
open Go.ChangeShapes Go.WideShapes Go.ChangeAt Go.RowKit

set_option maxRecDepth 100000 in
set_option maxHeartbeats 4000000 in
theorem refSame_eq (pa pb : Option Addr) (ca cb : Nat) (es : List El) (w : World) (ha : ERow w pa w.heap.size es) (hb : ERow w pb w.heap.size es) (hl : es.length * 72 ≤ 140737488351232) (ht : ∀ e ∈ es, e.ats.length * 40 ≤ 140737488351232) :
    Calls Try.prog 12 #[.slice pa es.length ca, .slice pb es.length cb] w fun e w' => e = .returned (.bool true) ∧ Below w.heap.size w w' := by
  have b0 : ((es.length : Int) == es.length) = true := by simp
  go_enter Try.func12, Try.ntmps12
  go_wp2_with fail
  go_loopw [5] (fun i wr => ∃ k : Nat, k ≤ es.length ∧ i = .int .i64 k ∧ Below w.heap.size w wr) (fun i _ => es.length - (RowKit.intOf i).toNat)
  case atStart => exact ⟨0, Nat.zero_le _, rfl, Below.refl _ _⟩
  case round =>
    rename World => wo
    obtain ⟨k, hk, rfl, hB⟩ := hrel
    by_cases hlt : k < es.length
    · obtain ⟨x, hx⟩ : ∃ x, es[k]? = some x := ⟨es[k], List.getElem?_eq_getElem hlt⟩
      obtain ⟨g, o, pa1, ca1, rfl, hg, q0, q1, q2, q3, q4, hA⟩ := (ha.below hB).c k x hx
      obtain ⟨g2, o2, pb1, cb1, rfl, hg2, r0, r1, r2, r3, r4, hA2⟩ := (hb.below hB).c k x hx
      have hlt2 : (k : Int) < es.length := by omega
      have hxa := ht x (List.mem_of_getElem? hx)
      have b1 : (x.d == x.d) = true := by simp
      have b2 : ((x.ats.length : Int) == x.ats.length) = true := by simp
      clear hx ht ha hb
      have hg' : g < wo.heap.size := Nat.lt_of_lt_of_le hg hB.size
      have hg2' : g2 < wo.heap.size := Nat.lt_of_lt_of_le hg2 hB.size
      have hb1 : Below wo.heap.size wo (wo.alloc (elO x (.slice pa1 x.ats.length ca1))) := (Below.refl _ _).alloc (Nat.le_refl _) _
      have s0 := (hb1.cell (p := ⟨g2, _, none⟩) hg2').trans r0
      have s1 := (hb1.cell (p := ⟨g2, _, none⟩) hg2').trans r1
      have s2 := (hb1.cell (p := ⟨g2, _, none⟩) hg2').trans r2
      have s3 := (hb1.cell (p := ⟨g2, _, none⟩) hg2').trans r3
      have s4 := (hb1.cell (p := ⟨g2, _, none⟩) hg2').trans r4
      have hb2 : Below wo.heap.size wo ((wo.alloc (elO x (.slice pa1 x.ats.length ca1))).alloc (elO x (.slice pb1 x.ats.length cb1))) := hb1.alloc (by simp) _
      have hX := (((Below.refl _ (wo.alloc (elO x (.slice pa1 x.ats.length ca1)))).alloc (Nat.le_refl _) (elO x (.slice pb1 x.ats.length cb1))).block wo.heap.size (by simp)).trans (thn wo (elO x (.slice pa1 x.ats.length ca1)))
      have hY := thn (wo.alloc (elO x (.slice pa1 x.ats.length ca1))) (elO x (.slice pb1 x.ats.length cb1))
      rw [World.size_alloc] at hY
      obtain ⟨c0, c1, c2, c3, c4, cf⟩ := elO_cell hX
      obtain ⟨d0, d1, d2, d3, d4, df⟩ := elO_cell hY
      generalize hW2 : (wo.alloc (elO x (.slice pa1 x.ats.length ca1))).alloc (elO x (.slice pb1 x.ats.length cb1)) = W2 at *
      have hsz : W2.heap.size = wo.heap.size + 2 := by rw [← hW2]; simp
      have HW2 : Hid ((wo.alloc (elO x (.slice pa1 x.ats.length ca1))).alloc (elO x (.slice pb1 x.ats.length cb1)) = W2) := hW2
      have hA' := ((hA.mono hB.size).below hb2).mono hb2.size
      have hA2' := ((hA2.mono hB.size).below hb2).mono hb2.size
      clear hA hA2
      have hBW : Below w.heap.size w W2 := hB.trans (hb2.mono hB.size)
      go_wp2_with fail
      clear HW2 hW2 q0 q1 q2 q3 q4 r0 r1 r2 r3 r4 s0 s1 s2 s3 s4 hb1 hb2 cf df hX hY c0 c1 c3 c4 d0 d1 d3 d4
      go_loopw [8] (fun i wr => ∃ j : Nat, j ≤ x.ats.length ∧ i = .int .i64 j ∧ Below W2.heap.size W2 wr) (fun i _ => x.ats.length - (RowKit.intOf i).toNat)
      case atStart => exact ⟨0, Nat.zero_le _, rfl, Below.refl _ _⟩
      case round =>
        obtain ⟨j, hj, rfl, hBi⟩ := hrel
        have c2' := (hBi.cell (p := ⟨wo.heap.size, 2, none⟩) (by show wo.heap.size < _; omega)).trans c2
        have d2' := (hBi.cell (p := ⟨wo.heap.size + 1, 2, none⟩) (by show wo.heap.size + 1 < _; omega)).trans d2
        by_cases hjl : j < x.ats.length
        · obtain ⟨y, hy⟩ : ∃ y, x.ats[j]? = some y := ⟨x.ats[j], List.getElem?_eq_getElem hjl⟩
          obtain ⟨ga, oa, rfl, _, m0, m1, m2⟩ := (hA'.below hBi).c j y hy
          obtain ⟨gb, ob, rfl, _, n0, n1, n2⟩ := (hA2'.below hBi).c j y hy
          have hjl2 : (j : Int) < x.ats.length := by omega
          clear hy
          go_wp2_with fail
          go_quiet (fail)
          go_wp2_with fail
          go_roundw
          case rel => exact ⟨j + 1, by omega, by go_num, tdr hBi⟩
          case measure => simp [RowKit.intOf]; omega
        · obtain rfl : j = x.ats.length := by omega
          go_wp2_with fail
          go_roundw
          case rel => exact ⟨k + 1, by omega, by go_num, hBW.trans (hBi.mono hBW.size)⟩
          case measure => simp [RowKit.intOf]; omega
    · obtain rfl : k = es.length := by omega
      go_wp2_with fail
      go_ret
      exact ⟨rfl, hB⟩
set_option maxRecDepth 100000 in
set_option maxHeartbeats 4000000 in
theorem sameElems_eq (pa pb : Option Addr) (ca cb : Nat) (es : List El) (w : World) (ha : ERow w pa w.heap.size es) (hb : ERow w pb w.heap.size es) (hl : es.length * 72 ≤ 140737488351232) (ht : ∀ e ∈ es, e.ats.length * 40 ≤ 140737488351232) :
    Calls Try.prog 10 #[.slice pa es.length ca, .slice pb es.length cb] w fun e w' => e = .returned (.bool true) ∧ Below w.heap.size w w' := by
  have hS := refSame_eq pa pb ca cb es w ha hb hl ht
  go_enter Try.func10, Try.ntmps10
  go_wp2_with (go_at_call 12; refine hS.mono ?_; rintro e w1 ⟨rfl, hB1⟩)
  go_loopw [5] (fun i wr => ∃ k : Nat, k ≤ es.length ∧ i = .int .i64 k ∧ Below w.heap.size w wr) (fun i _ => es.length - (RowKit.intOf i).toNat)
  case atStart => exact ⟨0, Nat.zero_le _, rfl, hB1⟩
  case round =>
    rename World => wo
    obtain ⟨k, hk, rfl, hB⟩ := hrel
    by_cases hlt : k < es.length
    · obtain ⟨x, hx⟩ : ∃ x, es[k]? = some x := ⟨es[k], List.getElem?_eq_getElem hlt⟩
      obtain ⟨g, o, pa1, ca1, rfl, hg, q0, q1, q2, q3, q4, hA⟩ := (ha.below hB).c k x hx
      obtain ⟨g2, o2, pb1, cb1, rfl, hg2, r0, r1, r2, r3, r4, hA2⟩ := (hb.below hB).c k x hx
      have hlt2 : (k : Int) < es.length := by omega
      have hxa := ht x (List.mem_of_getElem? hx)
      have hA' := hA.mono hB.size
      have hA2' := hA2.mono hB.size
      have hg' : g < wo.heap.size := Nat.lt_of_lt_of_le hg hB.size
      have hg2' : g2 < wo.heap.size := Nat.lt_of_lt_of_le hg2 hB.size
      clear hx ht ha hb hS hA hA2 q0 q1 q3 r0 r1 r3
      go_wp2_with fail
      go_quiet (fail)
      go_wp2_with fail
      go_loopw [6] (fun i wr => ∃ j : Nat, j ≤ x.ats.length ∧ i = .int .i64 j ∧ Below wo.heap.size wo wr) (fun i _ => x.ats.length - (RowKit.intOf i).toNat)
      case atStart => exact ⟨0, Nat.zero_le _, rfl, tdr (Below.refl _ _)⟩
      case round =>
        obtain ⟨j, hj, rfl, hBi⟩ := hrel
        have c2' := (hBi.cell (p := ⟨g, _, none⟩) hg').trans q2
        have d2' := (hBi.cell (p := ⟨g2, _, none⟩) hg2').trans r2
        by_cases hjl : j < x.ats.length
        · obtain ⟨y, hy⟩ : ∃ y, x.ats[j]? = some y := ⟨x.ats[j], List.getElem?_eq_getElem hjl⟩
          obtain ⟨ga, oa, rfl, _, m0, m1, m2⟩ := (hA'.below hBi).c j y hy
          obtain ⟨gb, ob, rfl, _, n0, n1, n2⟩ := (hA2'.below hBi).c j y hy
          have hjl2 : (j : Int) < x.ats.length := by omega
          clear hy
          go_wp2_with fail
          go_quiet (fail)
          go_wp2_with fail
          go_roundw
          case rel => exact ⟨j + 1, by omega, by go_num, tdr hBi⟩
          case measure => simp [RowKit.intOf]; omega
        · obtain rfl : j = x.ats.length := by omega
          go_wp2_with fail
          go_roundw
          case rel => exact ⟨k + 1, by omega, by go_num, hB.trans (hBi.mono hB.size)⟩
          case measure => simp [RowKit.intOf]; omega
    · obtain rfl : k = es.length := by omega
      go_wp2_with fail
      go_ret
      exact ⟨rfl, hB⟩
end Go.Proofs.Ytchfphakhmifmaa
