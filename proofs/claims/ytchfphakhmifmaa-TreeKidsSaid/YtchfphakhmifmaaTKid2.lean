/- The kids of an element: the program's list. -/
import Derived.Test.YtchfphakhmifmaaTKid
namespace Go.Proofs.Ytchfphakhmifmaa
open Go.ChangeShapes Go.WideShapes Go.ChangeAt Go.RowKit

set_option maxRecDepth 100000 in
set_option maxHeartbeats 2000000 in
theorem kidsAt_any (pp : Option Addr) (cp : Nat) (es : List El) (i : Int) (w : World) (hr : ERow w pp w.heap.size es) (hl : es.length * 72 ≤ 140737488351232) (hd : ∀ e ∈ es, -9223372036854775808 ≤ e.d ∧ e.d ≤ 9223372036854775807) (hi : i ≤ 9223372036854775807) :
    Calls Try.prog 9 #[.slice pp es.length cp, .int .i64 i] w fun e w' => ∃ v, e = .returned v ∧ NRow w' w.heap.size v (kidsN es i) ∧ Below w.heap.size w w' := by
  by_cases h0 : 0 ≤ i ∧ i < es.length
  · obtain ⟨k, rfl⟩ : ∃ k : Nat, i = k := ⟨i.toNat, by omega⟩
    have hk : k < es.length := by omega
    obtain ⟨x, hx⟩ : ∃ x, es[k]? = some x := ⟨es[k], List.getElem?_eq_getElem hk⟩
    have hN := kidsN_at hx
    have hlen := kidsN_length es k
    obtain ⟨i0, hi0, hz0, hz1, hz2⟩ := infoI
    generalize kidsN es (k : Int) = KN at *
    obtain ⟨g', o', pa', ca', ep', -, qk, -⟩ := hr.c k x hx
    have b1 : decide ((k : Int) < 0) = false := by simp
    have b2 : decide ((es.length : Int) ≤ k) = false := by simp; omega
    have b3 : decide (es.length ≤ k) = false := by simp; omega
    subst ep'
    go_enter Try.func9, Try.ntmps9
    go_wp2_with fail
    go_loopw [5, 7] (fun l n wr => ∃ (m : Nat) (ns : List Nat), k + 1 ≤ m ∧ m ≤ es.length ∧ n = .int .i64 m ∧ NRow wr w.heap.size l ns ∧ Below w.heap.size w wr ∧ ns ++ kidsG x.d (es.drop m) m = KN) (fun _ n _ => es.length - (RowKit.intOf n).toNat)
    case atStart => exact ⟨k + 1, [], Nat.le_refl _, hk, by go_num, World.ownsRow_nil _ _ _ 1, Below.refl _ _, hN.symm⟩
    case round =>
      obtain ⟨m, ns, hkm, hm, rfl, hR, hB, hZ⟩ := hrel
      have hr' := hr.below hB
      by_cases hlt : m < es.length
      · obtain ⟨y, hy⟩ : ∃ y, es[m]? = some y := ⟨es[m], List.getElem?_eq_getElem hlt⟩
        obtain ⟨g2, o2, pa2, ca2, e2, hg2, r0, -⟩ := hr'.c m y hy
        injection e2 with e2
        injection e2 with e2 e3
        subst e2 e3
        rw [drop_at hy] at hZ
        simp only [kidsG] at hZ
        have hym := hd y (List.mem_of_getElem? hy)
        have hxm := hd x (List.mem_of_getElem? hx)
        clear hN hr hr' hx hy hd
        obtain ⟨yd, _, _, _, _⟩ := y
        obtain ⟨xd, _, _, _, _⟩ := x
        simp only at r0 hZ hym hxm qk
        have hlt2 : (m : Int) < es.length := by omega
        by_cases h1 : xd < yd
        · rw [if_pos h1] at hZ
          have hwr : IntKind.i64.wrap (xd + 1) = xd + 1 := by rw [IntKind.wrap_i64]; omega
          by_cases h2 : yd = xd + 1
          · rw [if_pos h2] at hZ
            subst h2
            have hns : ns.length + 1 ≤ es.length := by rw [← hZ] at hlen; rw [List.length_append, List.length_cons] at hlen; omega
            have hR1 : NRow (wr.alloc (.cells #[.int .i64 (m : Int)] 3)) w.heap.size u5 ns := hR.below ((Below.refl _ wr).alloc (Nat.le_refl _) _)
            go_wp2_with (at_builtin; go_must (refine wpList_append_own _ rfl _ _ 23 rfl w.heap.size 3 i0 (.int .i64 0) 1 8 Try.underlying23 hi0 hz0 hz1 hz2 rfl (by decide) _ ns.length (ns.map cI) rfl hR1 ⟨wr.heap.size, 0, none⟩ 1 1 [.int .i64 (m : Int)] rfl rfl (cell_one_new _ _ _) (fun u hu => by cases hu with | head => rfl | tail _ h => cases h) (by simp only [maxLen]; omega) (by omega) (by have := hB.size; simp; omega) ?_); intro v' w2 hown' hgrow _)
            have hbe : Below w.heap.size wr w2 := ((Below.refl _ wr).alloc hB.size _).grown hgrow (by have := hB.size; simp; omega) (own_ge hR)
            go_roundw
            case rel => exact ⟨m + 1, ns ++ [m], by omega, by omega, by go_num, NRow.snoc hown', hB.trans hbe, by rw [List.append_assoc]; exact hZ⟩
            case measure => simp [RowKit.intOf]; omega
          · rw [if_neg h2] at hZ
            have h3 : (yd == xd + 1) = false := beq_eq_false_iff_ne.2 h2
            go_wp2_with fail
            go_wp2_with fail
            go_roundw
            case rel => exact ⟨m + 1, ns, by omega, by omega, by go_num, hR, hB, hZ⟩
            case measure => simp [RowKit.intOf]; omega
        · rw [if_neg h1, List.append_nil] at hZ
          go_wp2_with fail
          go_ret
          exact ⟨_, rfl, by rw [← hZ]; exact hR, hB⟩
      · obtain rfl : m = es.length := by omega
        go_wp2_with fail
        rw [List.drop_length] at hZ
        simp only [kidsG, List.append_nil] at hZ
        go_ret
        exact ⟨_, rfl, by rw [← hZ]; exact hR, hB⟩
  · have hN : kidsN es i = [] := by
      unfold kidsN
      split
      · rw [List.getElem?_eq_none (by omega)]
      · rfl
    rw [hN]
    by_cases h1 : 0 ≤ i
    · obtain ⟨k, rfl⟩ : ∃ k : Nat, i = k := ⟨i.toNat, by omega⟩
      have b1 : decide ((k : Int) < 0) = false := by simp
      have b2 : decide ((es.length : Int) ≤ k) = true := by simp; omega
      have b3 : decide (es.length ≤ k) = true := by simp; omega
      have b4 : es.length ≤ k := by omega
      go_enter Try.func9, Try.ntmps9
      go_wp2_with fail
      go_ret
      exact ⟨_, rfl, World.ownsRow_nil _ _ _ 1, Below.refl _ _⟩
    · have b1 : decide (i < 0) = true := by simp; omega
      have b2 : i < 0 := by omega
      go_enter Try.func9, Try.ntmps9
      go_wp2_with fail
      go_ret
      exact ⟨_, rfl, World.ownsRow_nil _ _ _ 1, Below.refl _ _⟩
/-- Kids: a function value; its box holds the list of places. -/
theorem Kids_any (pp : Option Addr) (cp : Nat) (es : List El) (i : Int) (w : World) (hr : ERow w pp w.heap.size es) (hl : es.length * 72 ≤ 140737488351232) (hd : ∀ e ∈ es, -9223372036854775808 ≤ e.d ∧ e.d ≤ 9223372036854775807) (hi : i ≤ 9223372036854775807) :
    Calls Try.prog 6 #[.slice pp es.length cp, .int .i64 i] w fun e w' => ∃ Bs v, e = .returned (.func (.func 11) #[] #[.pointer (some ⟨Bs, 0, none⟩)]) ∧ w.heap.size ≤ Bs ∧ w'.heap[Bs]? = some (.cells #[v] 23) ∧ NRow w' w.heap.size v (kidsN es i) ∧ Below w.heap.size w w' := by
  have hK := kidsAt_any pp cp es i w hr hl hd hi
  have hV : ∀ (a : Option Addr) (len cap : Nat) (w : World), Calls Try.prog 8 #[.slice a len cap] w fun e w' => e = .returned (.func (.func 11) #[] #[.pointer (some ⟨w.heap.size, 0, none⟩)]) ∧ w' = w.alloc (.cells #[.slice a len cap] 23) := by
    intro a len cap w
    go_enter Try.func8, Try.ntmps8
    go_wp2_with fail
    go_ret
    exact ⟨rfl, rfl⟩
  go_enter Try.func6, Try.ntmps6
  go_wp2_with (first
    | (go_at_call 9; refine hK.mono ?_; rintro e w1 ⟨v, rfl, hR, hB⟩; obtain ⟨pq, cq, rfl, -⟩ := hR.shape)
    | (go_at_call 8; refine (hV _ _ _ _).mono ?_; rintro e w2 ⟨rfl, rfl⟩))
  go_ret
  exact ⟨_, _, rfl, hB.size, thn w1 _, hR.below ((Below.refl _ _).alloc (Nat.le_refl _) _), hB.alloc hB.size _⟩
end Go.Proofs.Ytchfphakhmifmaa
