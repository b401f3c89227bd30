/- The document's answer: hyphens, a piece's shape. -/
import Derived.Test.YtchfphakhmifmaaGreatDoorXB5
namespace Go.Proofs.YtchfphakhmifmaaGreatDoor
open Go.ChangeShapes Go.WideShapes Go.ChangeAt Go.RowKit Go.Shelf Go.Lib

theorem has_two (t : ByteArray) (p : Nat) : hasN t p ⟨#[45, 45]⟩ = decide (p + 1 < t.size ∧ ch t p = 45 ∧ ch t (p + 1) = 45) := by
  rw [← has_pre]
  by_cases h : p < t.size
  · obtain ⟨b, r, e, hc, hr⟩ := ch_drop t p h
    rw [e, ← hc]
    by_cases h2 : p + 1 < t.size
    · obtain ⟨b2, r2, e2, hc2, hr2⟩ := ch_drop t (p + 1) h2
      rw [hr, e2, ← hc2]
      unfold Lib.hasPrefix
      rw [Bool.eq_iff_iff]
      simp [h2, ← UInt8.toNat_inj]
      omega
    · rw [hr, List.drop_eq_nil_of_le (by rw [tl_len]; omega), decide_eq_false (fun hh => h2 hh.1)]
      unfold Lib.hasPrefix
      simp [List.isPrefixOf]
  · rw [List.drop_eq_nil_of_le (by rw [tl_len]; omega), decide_eq_false (fun hh => h (by omega))]
    rfl
theorem com_yes {v : ByteArray} {k : Nat} (h : k + 1 < v.size) (h1 : ch v k = 45) (h2 : ch v (k + 1) = 45) : comB v = false := by
  have ho : Lib.occAt v.data.toList bHH.data.toList k = true := by
    have := has_two v k
    rw [← has_pre, decide_eq_true ⟨h, h1, h2⟩] at this
    exact this
  have hc : Lib.contains v.data.toList bHH.data.toList = true := by
    unfold Lib.contains
    rcases Lib.index_spec v.data.toList bHH.data.toList with ⟨_, hn⟩ | ⟨i, hi, _⟩
    · rw [hn k (by rw [tl_len]; omega)] at ho
      exact absurd ho (by decide)
    · rw [hi]; simp
  unfold comB
  rw [hc]
  rfl
theorem com_no {v : ByteArray} (h : ∀ j, j + 1 < v.size → ¬ (ch v j = 45 ∧ ch v (j + 1) = 45)) : comB v = !Lib.hasSuffix v.data.toList [45] := by
  have hc : Lib.contains v.data.toList bHH.data.toList = false := by
    unfold Lib.contains
    rcases Lib.index_spec v.data.toList bHH.data.toList with ⟨hi, _⟩ | ⟨i, _, _, ho, _⟩
    · rw [hi]; rfl
    · have := has_two v i
      rw [← has_pre] at this
      have h3 : decide (i + 1 < v.size ∧ ch v i = 45 ∧ ch v (i + 1) = 45) = true := this.symm.trans ho
      rw [decide_eq_true_eq] at h3
      exact absurd h3.2 (h i h3.1)
  unfold comB
  rw [hc]
  rfl
theorem suf_45 (v : ByteArray) : Lib.hasSuffix v.data.toList [45] = decide (0 < v.size ∧ ch v (v.size - 1) = 45) := by
  unfold Lib.hasSuffix
  rw [Bool.eq_iff_iff, List.isSuffixOf_iff_suffix, decide_eq_true_eq]
  by_cases h : 0 < v.size
  · obtain ⟨b, r, e, hc, hr⟩ := ch_drop v (v.size - 1) (by omega)
    rw [List.drop_eq_nil_of_le (by rw [tl_len]; omega)] at hr
    subst hr
    rw [List.suffix_iff_eq_drop, tl_len]
    show [45] = v.data.toList.drop (v.size - 1) ↔ _
    rw [e, ← hc]
    simp [h, ← UInt8.toNat_inj]
    exact eq_comm
  · have : v.data.toList = [] := List.length_eq_zero_iff.1 (by rw [tl_len]; omega)
    rw [this]
    simp [h]
set_option maxHeartbeats 1000000 in
theorem rhyphens (v : ByteArray) (w : World) (hs : v.size ≤ 4611686018427387904) : Calls Tryz.prog 61 #[.string v] w fun e w' => e = .returned (.bool (!comB v)) ∧ w' = w := by
  go_enter Tryz.func61, Tryz.ntmps61
  go_wp2_with fail
  go_loop [3] (fun i => ∃ k : Nat, k ≤ v.size ∧ i = .int .i64 k ∧ Hid (∀ j, j < k → ¬ (ch v j = 45 ∧ ch v (j + 1) = 45))) (fun i => v.size - (RowKit.intOf i).toNat)
  case atStart => exact ⟨0, Nat.zero_le _, rfl, fun j hj => absurd hj (Nat.not_lt_zero _)⟩
  case round =>
    obtain ⟨k, hk, rfl, hN⟩ := hrel
    by_cases hlt : k + 1 < v.size
    · have hlt2 : (k : Int) + 1 < v.size := by omega
      have i1 : ∀ w : World, (Instr.index 9 (.string v) (.int .i64 (k : Int))).run Tryz.prog w = .ok (.int .u8 (ch v k : Int)) w := fun w => idx (w := w) v k (by omega) .i64
      have i2 : ∀ w : World, (Instr.index 9 (.string v) (.int .i64 ((k : Int) + 1))).run Tryz.prog w = .ok (.int .u8 (ch v (k + 1) : Int)) w := fun w => idx (w := w) v (k + 1) hlt .i64
      by_cases h1 : ch v k = 45
      · rw [h1] at i1
        by_cases h2 : ch v (k + 1) = 45
        · rw [h2] at i2
          have hz : Hid (comB v = false) := com_yes hlt h1 h2
          clear h1 h2
          go_wp2_with fail
          go_ret
          exact ⟨by rw [hz.out]; rfl, rfl⟩
        · have q1 : ((ch v (k + 1) : Int) == 45) = false := beq_eq_false_iff_ne.2 (by omega)
          have q2 : ¬ (ch v (k + 1) : Int) = 45 := by omega
          have hN2 : Hid (∀ j, j < k + 1 → ¬ (ch v j = 45 ∧ ch v (j + 1) = 45)) := fun j hj e => by
            by_cases ej : j = k
            · subst ej; exact h2 e.2
            · exact hN.out j (by omega) e
          clear h1 h2
          generalize ch v (k + 1) = d at *
          go_wp2_with fail
          go_round
          case rel => exact ⟨k + 1, by omega, by go_num, hN2⟩
          case measure => simp [RowKit.intOf]; omega
      · have q1 : ((ch v k : Int) == 45) = false := beq_eq_false_iff_ne.2 (by omega)
        have q2 : ¬ (ch v k : Int) = 45 := by omega
        have hN2 : Hid (∀ j, j < k + 1 → ¬ (ch v j = 45 ∧ ch v (j + 1) = 45)) := fun j hj e => by
          by_cases ej : j = k
          · subst ej; exact h1 e.1
          · exact hN.out j (by omega) e
        clear h1
        generalize ch v k = d at *
        go_wp2_with fail
        go_round
        case rel => exact ⟨k + 1, by omega, by go_num, hN2⟩
        case measure => simp [RowKit.intOf]; omega
    · have hlt2 : ¬ (k : Int) + 1 < v.size := by omega
      have hz : Hid ((!comB v) = decide (0 < v.size ∧ ch v (v.size - 1) = 45)) := by
        show _ = _
        rw [com_no (fun j hj => hN.out j (by omega)), suf_45, Bool.not_not]
      have e0 := nempty v
      by_cases h0 : v.size = 0
      · rw [decide_eq_true h0] at e0
        have hz2 : Hid ((!comB v) = false) := hz.out.trans (decide_eq_false (by omega))
        clear h0
        go_wp2_with fail
        go_ret
        exact ⟨ret_bool hz2.out.symm, rfl⟩
      · rw [decide_eq_false h0] at e0
        have i3 : ∀ w : World, (Instr.index 9 (.string v) (.int .i64 ((v.size : Int) - 1))).run Tryz.prog w = .ok (.int .u8 (ch v (v.size - 1) : Int)) w := fun w => by
          have := idx (w := w) v (v.size - 1) (by omega) .i64
          rwa [show ((v.size - 1 : Nat) : Int) = (v.size : Int) - 1 by omega] at this
        have hpos : 0 < v.size := by omega
        by_cases h1 : ch v (v.size - 1) = 45
        · have hz2 : Hid ((!comB v) = true) := hz.out.trans (decide_eq_true ⟨hpos, h1⟩)
          rw [h1] at i3
          clear h1 h0
          go_wp2_with fail
          go_ret
          exact ⟨ret_bool hz2.out.symm, rfl⟩
        · have hz2 : Hid ((!comB v) = false) := hz.out.trans (decide_eq_false (fun h => h1 h.2))
          have q1 : ((ch v (v.size - 1) : Int) == 45) = false := beq_eq_false_iff_ne.2 (by omega)
          clear h1 h0
          generalize ch v (v.size - 1) = d at *
          go_wp2_with fail
          go_ret
          exact ⟨ret_bool hz2.out.symm, rfl⟩
/-- May a piece have this name and value? -/
def shpB (k : Int) (nm vl : ByteArray) : Bool :=
  if k = 0 ∨ k = 4 then decide (vl.size = 0)
  else if k = 1 then true
  else if k = 2 ∨ k = 3 then decide (nm.size = 0) && decide (vl.size = 0)
  else if k = 5 then decide (nm.size = 0) && !decide (vl.size = 0)
  else if k = 6 ∨ k = 7 then decide (nm.size = 0)
  else false
set_option maxHeartbeats 4000000 in
theorem rshape (k : Int) (nm vl : ByteArray) (p : Int) (w : World) : Calls Tryz.prog 60 #[.agg #[.int .i64 k, .string nm, .string vl, .int .i64 p]] w fun e w' => e = .returned (.bool (shpB k nm vl)) ∧ Below w.heap.size w w' := by
  have HB : Hid (Below w.heap.size w _) := bel1 w (.cells #[.int .i64 k, .string nm, .string vl, .int .i64 p] 39)
  have e1 := nempty nm
  have e2 := nempty vl
  unfold shpB
  generalize decide (nm.size = 0) = A at *
  generalize decide (vl.size = 0) = B at *
  by_cases ho : k < 0 ∨ 8 ≤ k
  · have q : ∀ n : Nat, n < 8 → (k == (n : Int)) = false := fun n hn => beq_eq_false_iff_ne.2 (by omega)
    have q0 : (k == 0) = false := q 0 (by decide)
    have q1 : (k == 1) = false := q 1 (by decide)
    have q2 : (k == 2) = false := q 2 (by decide)
    have q3 : (k == 3) = false := q 3 (by decide)
    have q4 : (k == 4) = false := q 4 (by decide)
    have q5 : (k == 5) = false := q 5 (by decide)
    have q6 : (k == 6) = false := q 6 (by decide)
    have q7 : (k == 7) = false := q 7 (by decide)
    rw [if_neg (by omega), if_neg (by omega), if_neg (by omega), if_neg (by omega), if_neg (by omega)]
    clear q ho
    go_enter Tryz.func60, Tryz.ntmps60
    go_wp2_with fail
    go_ret
    exact ⟨rfl, HB.out⟩
  · have hk : k = 0 ∨ k = 1 ∨ k = 2 ∨ k = 3 ∨ k = 4 ∨ k = 5 ∨ k = 6 ∨ k = 7 := by omega
    clear ho
    rcases hk with rfl | rfl | rfl | rfl | rfl | rfl | rfl | rfl
    all_goals
      cases A
      all_goals
        cases B
        all_goals
          go_enter Tryz.func60, Tryz.ntmps60
          go_wp2_with fail
          go_ret
          exact ⟨rfl, HB.out⟩
end Go.Proofs.YtchfphakhmifmaaGreatDoor
