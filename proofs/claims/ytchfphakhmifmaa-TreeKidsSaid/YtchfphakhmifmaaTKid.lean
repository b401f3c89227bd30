/- The kids of an element: the document's list, the program's list. -/
import Derived.Test.YtchfphakhmifmaaTMem
namespace Go.Proofs.Ytchfphakhmifmaa
open Go.ChangeShapes Go.WideShapes Go.ChangeAt Go.RowKit

theorem tdr {B n : Nat} {a w : World} (h : Below B a w) : Below B a (w.drewN n) := by
  exact ⟨h.os, h.tape, h.output, h.size, h.block⟩
theorem thn (w : World) (o : Obj) : (w.alloc o).heap[w.heap.size]? = some o := by
  show (w.heap.push o)[w.heap.size]? = some o
  simp
theorem kidsN_at {es : List El} {k : Nat} {e : El} (he : es[k]? = some e) : kidsN es (k : Int) = kidsG e.d (es.drop (k + 1)) (k + 1) := by
  unfold kidsN
  rw [if_pos (by omega), Int.toNat_natCast, he]
theorem drop_at {α : Type} {l : List α} {n : Nat} {x : α} (h : l[n]? = some x) : l.drop n = x :: l.drop (n + 1) := by
  obtain ⟨hl, e⟩ := List.getElem?_eq_some_iff.1 h
  rw [List.drop_eq_getElem_cons hl, e]
theorem NRow.snoc {W' : World} {base : Nat} {v' : Value} {ns : List Nat} {n : Nat} (h : W'.ownsRow base 3 1 v' (ns.length + 1) (ns.map cI ++ [.int .i64 (n : Int)])) : NRow W' base v' (ns ++ [n]) := by
  unfold NRow
  rw [List.length_append, List.map_append]
  exact h
theorem own_ge {w : World} {base : Nat} {e : TypeId} {size : Nat} {v : Value} {n : Nat} {xs : List Value} (h : w.ownsRow base e size v n xs) : ∀ k, v.ownBlock = some k → base ≤ k := fun k hk => (h.lt k hk).1
set_option maxRecDepth 100000 in
set_option maxHeartbeats 2000000 in
theorem refKids_any (pp : Option Addr) (cp : Nat) (es : List El) (i : Int) (w : World) (hr : ERow w pp w.heap.size es) (hl : es.length * 72 ≤ 140737488351232) (hd : ∀ e ∈ es, -9223372036854775808 ≤ e.d ∧ e.d ≤ 9223372036854775807) (hi : i ≤ 9223372036854775807) :
    Calls Try.prog 4 #[.slice pp es.length cp, .int .i64 i] w fun e w' => ∃ v, e = .returned v ∧ NRow w' w.heap.size v (kidsN es i) ∧ Below w.heap.size w w' := by
  by_cases h0 : 0 ≤ i ∧ i < es.length
  · obtain ⟨k, rfl⟩ : ∃ k : Nat, i = k := ⟨i.toNat, by omega⟩
    have hk : k < es.length := by omega
    obtain ⟨x, hx⟩ : ∃ x, es[k]? = some x := ⟨es[k], List.getElem?_eq_getElem hk⟩
    have hN := kidsN_at hx
    have hlen := kidsN_length es k
    obtain ⟨i0, hi0, hz0, hz1, hz2⟩ := infoI
    generalize kidsN es (k : Int) = KN at *
    have b1 : decide ((k : Int) < 0) = false := by simp
    have b2 : decide ((es.length : Int) ≤ k) = false := by simp; omega
    have b3 : decide (es.length ≤ k) = false := by simp; omega
    go_enter Try.func4, Try.ntmps4
    go_wp2_with fail
    go_loopw [5, 6] (fun l n wr => ∃ (m : Nat) (ns : List Nat), k + 1 ≤ m ∧ m ≤ es.length ∧ n = .int .i64 m ∧ NRow wr w.heap.size l ns ∧ Below w.heap.size w wr ∧ ns ++ kidsG x.d (es.drop m) m = KN) (fun _ n _ => es.length - (RowKit.intOf n).toNat)
    case atStart => exact ⟨k + 1, [], Nat.le_refl _, hk, by go_num, World.ownsRow_nil _ _ _ 1, Below.refl _ _, hN.symm⟩
    case round =>
      obtain ⟨m, ns, hkm, hm, rfl, hR, hB, hZ⟩ := hrel
      have hr' := hr.below hB
      obtain ⟨g, o, pa, ca, rfl, hg, q0, -⟩ := hr'.c k x hx
      by_cases hlt : m < es.length
      · obtain ⟨y, hy⟩ : ∃ y, es[m]? = some y := ⟨es[m], List.getElem?_eq_getElem hlt⟩
        obtain ⟨g2, o2, pa2, ca2, e2, hg2, r0, -⟩ := hr'.c m y hy
        injection e2 with e2
        injection e2 with e2 e3
        subst e2 e3
        rw [drop_at hy] at hZ
        simp only [kidsG] at hZ
        have hym := hd y (List.mem_of_getElem? hy)
        have hxm := hd x (List.mem_of_getElem? hx)
        clear hN hr hr' hx hy hd
        obtain ⟨yd, _, _, _, _⟩ := y
        obtain ⟨xd, _, _, _, _⟩ := x
        simp only at q0 r0 hZ hym hxm
        have hlt2 : (m : Int) < es.length := by omega
        by_cases h1 : xd < yd
        · rw [if_pos h1] at hZ
          have hwr : IntKind.i64.wrap (xd + 1) = xd + 1 := by rw [IntKind.wrap_i64]; omega
          by_cases h2 : yd = xd + 1
          · rw [if_pos h2] at hZ
            subst h2
            have hns : ns.length + 1 ≤ es.length := by rw [← hZ] at hlen; rw [List.length_append, List.length_cons] at hlen; omega
            have hR1 : ∀ n, NRow ((wr.drewN n).alloc (.cells #[.int .i64 (m : Int)] 3)) w.heap.size u5 ns := fun n => hR.below (tdr (Below.refl _ wr) |>.alloc (Nat.le_refl _) _)
            go_wp2_with fail
            go_quiet (fail)
            go_wp2_with fail
            go_quiet (fail)
            go_wp2_with (at_builtin; refine wpList_append_own _ rfl _ _ 23 rfl w.heap.size 3 i0 (.int .i64 0) 1 8 Try.underlying23 hi0 hz0 hz1 hz2 rfl (by decide) _ ns.length (ns.map cI) rfl (hR1 _) ⟨wr.heap.size, 0, none⟩ 1 1 [.int .i64 (m : Int)] rfl rfl (cell_one_new _ _ _) (fun u hu => by cases hu with | head => rfl | tail _ h => cases h) (by simp only [maxLen]; omega) (by omega) (by have := hB.size; simp; omega) ?_; intro v' w2 hown' hgrow _)
            have hbe : Below w.heap.size wr w2 := (tdr (Below.refl _ wr) |>.alloc hB.size _).grown hgrow (by have := hB.size; simp; omega) (own_ge hR)
            go_roundw
            case rel => exact ⟨m + 1, ns ++ [m], by omega, by omega, by go_num, NRow.snoc hown', hB.trans hbe, by rw [List.append_assoc]; exact hZ⟩
            case measure => simp [RowKit.intOf]; omega
          · rw [if_neg h2] at hZ
            have h3 : (yd == xd + 1) = false := beq_eq_false_iff_ne.2 h2
            go_wp2_with fail
            go_quiet (fail)
            go_wp2_with fail
            go_quiet (fail)
            go_wp2_with fail
            go_roundw
            case rel => exact ⟨m + 1, ns, by omega, by omega, by go_num, hR, tdr hB, hZ⟩
            case measure => simp [RowKit.intOf]; omega
        · rw [if_neg h1, List.append_nil] at hZ
          go_wp2_with fail
          go_quiet (fail)
          go_wp2_with fail
          go_ret
          exact ⟨_, rfl, by rw [← hZ]; exact hR, tdr hB⟩
      · obtain rfl : m = es.length := by omega
        go_wp2_with fail
        go_quiet (fail)
        go_wp2_with fail
        rw [List.drop_length] at hZ
        simp only [kidsG, List.append_nil] at hZ
        go_ret
        exact ⟨_, rfl, by rw [← hZ]; exact hR, tdr hB⟩
  · have hN : kidsN es i = [] := by
      unfold kidsN
      split
      · rw [List.getElem?_eq_none (by omega)]
      · rfl
    rw [hN]
    by_cases h1 : 0 ≤ i
    · obtain ⟨k, rfl⟩ : ∃ k : Nat, i = k := ⟨i.toNat, by omega⟩
      have b1 : decide ((k : Int) < 0) = false := by simp
      have b2 : decide ((es.length : Int) ≤ k) = true := by simp; omega
      have b3 : decide (es.length ≤ k) = true := by simp; omega
      have b4 : es.length ≤ k := by omega
      go_enter Try.func4, Try.ntmps4
      go_wp2_with fail
      go_ret
      exact ⟨_, rfl, World.ownsRow_nil _ _ _ 1, Below.refl _ _⟩
    · have b1 : decide (i < 0) = true := by simp; omega
      have b2 : i < 0 := by omega
      go_enter Try.func4, Try.ntmps4
      go_wp2_with fail
      go_ret
      exact ⟨_, rfl, World.ownsRow_nil _ _ _ 1, Below.refl _ _⟩
end Go.Proofs.Ytchfphakhmifmaa
