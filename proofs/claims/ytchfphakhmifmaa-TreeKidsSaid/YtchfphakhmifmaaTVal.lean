/- slices.Values, as a caller meets it (after the guide's worked text on slices.Values). -/
import Derived.Test.YtchfphakhmifmaaTKid2
import Derived.RangeFuncNested
import Derived.RangeFuncBox
import Derived.RangeFuncLeaves
import Derived.Shelf.Abstract
import Derived.OwnWalkIn
import Derived.TacticsInMore
import Derived.LoopNIn
import Derived.LoopIn
namespace Go.Proofs.Ytchfphakhmifmaa
open Go.ChangeShapes Go.WideShapes Go.ChangeAt Go.RowKit Go.Shelf
attribute [local go_sem] Oper.semAt_some

set_option maxRecDepth 100000 in
set_option maxHeartbeats 2000000 in
theorem vals_in (n l Bs n₀ : Nat) (zs : List Nat) (hreach : zs.length * 8 ≤ 140737488351232) (J Jx : List Nat → World → Prop)
    (hY : ∀ pre (x : Nat) W, J pre W → pre.length < zs.length → YieldAt Fence.wide (n - 1) Try.prog l #[.int .i64 (x : Int)] W fun e W' =>
      (e = .returned (.bool true) ∧ J (pre ++ [x]) W' ∧ Below n₀ W W') ∨ (e = .returned (.bool false) ∧ Jx (pre ++ [x]) W'))
    (W : World) (pp : Option Addr) (cp : Nat) (hBs : W.cell? ⟨Bs, 0, none⟩ = some (.slice pp zs.length cp)) (hc : ∀ (j x : Nat), zs[j]? = some x → ∃ g, pp = some ⟨g, 0, none⟩ ∧ g < n₀ ∧ W.cell? ⟨g, j, none⟩ = some (.int .i64 (x : Int))) (h0 : J [] W) :
    CallsIn Fence.wide n Try.prog 11 #[.func (.yield l) #[] #[], .pointer (some ⟨Bs, 0, none⟩)] W fun e W' => (∃ v, e = .returned v) ∧
      ((∃ ys, ys = zs ∧ J ys W') ∨ (∃ pre, pre <+: zs ∧ Jx pre W')) := by
  refine callsIn_of_wp Try.func11 rfl trivial ?_ rfl
  simp only [Try.ntmps11, List.size_toArray, List.length_cons, List.length_nil, Nat.reduceAdd, Nat.reduceSub, Array.replicate_succ, Array.replicate_zero, List.push_toArray, List.append_toArray, List.nil_append, List.cons_append]
  gi_wp2
  gi_loopw [7] (fun i wr => ∃ k : Nat, k ≤ zs.length ∧ i = .int .i64 k ∧ J (zs.take k) wr ∧ Below n₀ W wr)
    (fun i _ => zs.length - (intOf i).toNat)
  case atStart => exact ⟨0, Nat.zero_le _, rfl, h0, Below.refl _ _⟩
  case round =>
    obtain ⟨k, hk, rfl, hJs, hnx⟩ := hrel
    by_cases hlt : k < zs.length
    · obtain ⟨x, hx⟩ : ∃ x, zs[k]? = some x := ⟨zs[k], List.getElem?_eq_getElem hlt⟩
      obtain ⟨g, rfl, hg, hcx0⟩ := hc k x hx
      have hcx := (hnx.cell (p := ⟨g, k, none⟩) hg).trans hcx0
      obtain ⟨fn, tmps, assign, body, hy, hR⟩ := hY _ x wr hJs (by rw [List.length_take]; omega)
      have hsn : zs.take k ++ [x] = zs.take (k + 1) := by rw [List.take_add_one, hx]; rfl
      rw [hsn] at hR
      gi_wp2
      refine ⟨fun h => absurd h (by decide), hR.mono ?_⟩
      rintro e W3 (⟨rfl, hJ3, hk3⟩ | ⟨rfl, hJx3⟩)
      · gi_wp2
        go_roundw
        case rel => exact ⟨k + 1, by omega, by simp, hJ3, hnx.trans hk3⟩
        case measure => simp [intOf]; omega
      · gi_wp2
        refine bodyPost_ret (results_none rfl _ _ _) rfl ?_
        exact ⟨⟨_, rfl⟩, .inr ⟨_, List.take_prefix _ _, hJx3⟩⟩
    · obtain rfl : k = zs.length := by omega
      rw [List.take_length] at hJs
      gi_wp2
      go_end0
      exact ⟨⟨_, rfl⟩, .inl ⟨_, rfl, hJs⟩⟩
/-- The list that a box holds, ahead of block n₀. -/
def NBox (n₀ Bs : Nat) (zs : List Nat) (W : World) : Prop := ∃ pp cp, W.cell? ⟨Bs, 0, none⟩ = some (.slice pp zs.length cp) ∧ ∀ (j x : Nat), zs[j]? = some x → ∃ g, pp = some ⟨g, 0, none⟩ ∧ g < n₀ ∧ W.cell? ⟨g, j, none⟩ = some (.int .i64 (x : Int))
theorem NBox.below {n₀ Bs : Nat} {zs : List Nat} {W W' : World} (h : NBox n₀ Bs zs W) (hb : Below n₀ W W') (hB : Bs < n₀) : NBox n₀ Bs zs W' := by
  obtain ⟨pp, cp, h1, h2⟩ := h
  refine ⟨pp, cp, (hb.cell (p := ⟨Bs, 0, none⟩) hB).trans h1, fun j x hx => ?_⟩
  obtain ⟨g, e, hg, hc⟩ := h2 j x hx
  exact ⟨g, e, hg, (hb.cell (p := ⟨g, j, none⟩) hg).trans hc⟩
theorem vals_stops (n Bs n₀ : Nat) (zs : List Nat) (hreach : zs.length * 8 ≤ 140737488351232) (w : World) (hBs : Bs < n₀) (hn₀ : n₀ ≤ w.heap.size) (h : NBox n₀ Bs zs w) :
    SeqStopsK Fence.wide n Try.prog 11 #[.pointer (some ⟨Bs, 0, none⟩)] (fun x : Nat => #[Value.int .i64 (x : Int)]) (Below n₀) (fun ys => ys = zs) (fun pre => pre <+: zs) zs.length w := fun l J Jx W hW _ _ hY h0 => by
  obtain ⟨pp, cp, h1, h2⟩ := h.below (hW.mono hn₀) hBs
  exact vals_in n l Bs n₀ zs hreach J Jx hY W pp cp h1 h2 h0
end Go.Proofs.Ytchfphakhmifmaa
