/- append of made zeros. -/
import Derived.Test.YtfhphjgcmbneeaaDoorCuBm
import Derived.Lib.AppendZeros
namespace Go.Proofs.YtfhphjgcmbneeaaDoor
open Go.ChangeShapes Go.WideShapes Go.ChangeAt Go.RowKit

theorem wpList_append_ex2 {P : Program} {w : World} {ops : Array Oper} {rest : List Oper} {o : Oper} {a : Act} {Q : Exit → Act → World → Prop} (hgd : o.guard = none) (s x : Operand) (t tn : TypeId)
    (ho : o.op = .call { callee := .builtin .append, args := #[s, x], argTypes := #[t, tn] }) (sv xv : Value) (hs : a.eval s = sv) (hx : a.eval x = xv) (Post : Value → World → Prop)
    (hrun : ∃ v w', (∀ ty, (Builtin.append_ #[t, tn] ty #[sv, xv]).run P w = .ok v w') ∧ Post v w')
    (h : ∀ v w', Post v w' → wpList P ops Q rest (a.put o.dst v) w') : wpList P ops Q (o :: rest) a w := by
  obtain ⟨v, w', hr, hp⟩ := hrun
  exact Lib.wpList_append_run w hgd s x t tn ho sv xv hs hx v w' (hr _) (h v w' hp)
theorem zc300 (n : Nat) : (Builtin.zeroCells (Value.int .u8 0).cells n).toList = List.replicate n (.int .u8 0) := zeros_eq _ rfl n
set_option maxRecDepth 4000 in
theorem app_zeros (W : World) (g cap L n : Nat) (fi : Nat → Int) (R : W.rowIs g 5 cap (fun j => .int .u8 (fi j))) (hfi : ∀ j, 0 ≤ fi j ∧ fi j ≤ 255) (hLc : L ≤ cap) (hL : L + n ≤ 1000) (hn : 0 < n) :
    ∃ v w', (∀ ty, (Builtin.append_ #[22, 3] ty #[.slice (some ⟨g, 0, none⟩) L cap, .int .i64 (n : Int)]).run Tryd.prog W = .ok v w') ∧
      ∃ (g' cap' : Nat) (h : Nat → Int), v = .slice (some ⟨g', 0, none⟩) (L + n) cap' ∧ (∀ B, B ≤ g → B ≤ W.heap.size → Below B W w') ∧ w'.rowIs g' 5 cap' (fun j => .int .u8 (h j)) ∧ (∀ j, j < L → h j = fi j) ∧ (∀ j, 0 ≤ h j ∧ h j ≤ 255) ∧ L + n ≤ cap' ∧ (g' = g ∨ g' = W.heap.size) := by
  obtain ⟨i, hi, hz, hsz, hby⟩ := info5'
  have hw : IntKind.i64.wrap (n : Int) = n := by rw [IntKind.wrap_i64]; omega
  have hneg : ¬ ((n : Int) < 0) := by omega
  have h48i : ¬ (281474976710656 < (n : Int)) := by omega
  have hn0 : n ≠ 0 := by omega
  by_cases hroom : L + n ≤ cap
  · have hst := run_storeCells_cells (P := Tryd.prog) g L (List.replicate n (.int .u8 0)) 0 W (fun j hj => by rw [Nat.add_zero, R.cell (i := L + j) (by simp at hj; omega)]; rfl) (fun j _ => R.frozen _) (fun u hu => by rw [List.eq_of_mem_replicate hu]; rfl)
    simp only [Nat.add_zero] at hst
    have hadd : (⟨g, 0, none⟩ : Addr).add L = ⟨g, L, none⟩ := by unfold Addr.add; split <;> simp_all
    refine ⟨_, W.setCells g L (List.replicate n (.int .u8 0)), fun ty => ?_, g, cap, fun j => if L ≤ j ∧ j < L + n then 0 else fi j, rfl, ?_, ?_, ?_, ?_, hroom, .inl rfl⟩
    · simp [Builtin.append_, run_underlying Tryd.underlying22, run_underlying Tryd.underlying3, sizeOf, typeInfo, zeroValue, hi, hz, asInt, asIntOf, hw, hsz, hby, hroom, hneg, h48i, hn0, zc300, hadd, hst]
    · intro B hB hB2
      exact below_setCells hB _ _ _ (Below.refl _ _)
    · refine (rowIs_setCells _ L _ W R).congr fun j hj => ?_
      rw [List.length_replicate]
      dsimp only
      by_cases c : L ≤ j ∧ j < L + n
      · rw [if_pos c, if_pos c]
        simp [List.getD, show j - L < n by omega]
      · rw [if_neg c, if_neg c]
    · intro j hj
      dsimp only
      rw [if_neg (by omega)]
    · intro j
      show 0 ≤ (if L ≤ j ∧ j < L + n then (0 : Int) else fi j) ∧ (if L ≤ j ∧ j < L + n then (0 : Int) else fi j) ≤ 255
      split
      · omega
      · exact hfi j
  · have hold : (Builtin.firstCells i.size L (.slice (some ⟨g, 0, none⟩) L cap)).run Tryd.prog W.drew = .ok ((List.range L).map fun j => Value.int .u8 (fi j)).toArray W.drew :=
      run_firstCells_some W.drew i.size L ⟨g, 0, none⟩ L cap _ (by simp [hsz]) (fun j u hu => by
        have hj : j < L := by
          have := (List.getElem?_eq_some_iff.1 hu).1
          simpa using this
        simp [hj] at hu
        have hadd : (⟨g, 0, none⟩ : Addr).add j = ⟨g, j, none⟩ := by unfold Addr.add; split <;> simp_all
        rw [hadd, ← hu]; exact R.cell (i := j) (by omega))
    rw [hsz] at hold
    have hfit : Builtin.nextslicecap (L + n) cap ≤ 281474976710656 := by
      have := growslice_fits (bytes := 1) (show cap < L + n by omega) (by omega)
      omega
    have h48' : ¬ (281474976710656 < Builtin.nextslicecap (L + n) cap) := by omega
    have h63' : ¬ (9223372036854775807 < ((L : Int) + (n : Int))) := by omega
    have ge := grownCap_ge W (L + n) cap 5
    refine ⟨.slice (some ⟨W.heap.size, 0, none⟩) (L + n) (grownCap W (L + n) cap 5), W.drew.alloc (.cells ((((List.range L).map fun j => Value.int .u8 (fi j)) ++ List.replicate n (Value.int .u8 0)).toArray ++ Builtin.zeroCells (Value.int .u8 0).cells (grownCap W (L + n) cap 5 - (L + n))) 5), fun ty => ?_, W.heap.size, grownCap W (L + n) cap 5, fun j => if j < L then fi j else 0, rfl, ?_, ?_, ?_, ?_, ge, .inr rfl⟩
    · simp [Builtin.append_, run_underlying Tryd.underlying22, run_underlying Tryd.underlying3, sizeOf, typeInfo, zeroValue, hi, hz, asInt, asIntOf, hw, hsz, hby, hroom, hneg, h48i, hn0, h48', h63', Question.forced, hold, newRow, grownCap]
      try (congr 2; apply Array.ext'; simp [zc300, List.append_assoc])
    · intro B hB hB2
      exact (Below.refl _ _).drew.alloc hB2 _
    · have := new_row W.drew (((List.range L).map fun j => Value.int .u8 (fi j)) ++ List.replicate n (.int .u8 0)) (grownCap W (L + n) cap 5 - (L + n))
      simp only [List.length_append, List.length_map, List.length_range, List.length_replicate] at this
      rw [show L + n + (grownCap W (L + n) cap 5 - (L + n)) = grownCap W (L + n) cap 5 by omega] at this
      refine World.rowIs.congr this fun j hj => ?_
      dsimp only
      by_cases h1 : j < L
      · rw [if_pos h1]; simp [List.getD, List.getElem?_append, h1]
      · rw [if_neg h1]
        by_cases h2 : j < L + n
        · simp [List.getD, List.getElem?_append, h1, show j - L < n by omega]
        · simp [List.getD, List.getElem?_append, h1, show ¬ j - L < n by omega]
    · intro j hj
      dsimp only
      rw [if_pos hj]
    · intro j
      show 0 ≤ (if j < L then fi j else 0) ∧ (if j < L then fi j else 0) ≤ 255
      split
      · exact hfi j
      · omega
end Go.Proofs.YtfhphjgcmbneeaaDoor
