/- The law TreeKids. -/
import Derived.Test.YtchfphakhmifmaaTLp
import Derived.Deep.CutBlock
import Derived.Deep.CutRange
import Derived.Laws.EntriesVeiled
namespace Go.Proofs.Ytchfphakhmifmaa
open Go.ChangeShapes Go.WideShapes Go.ChangeAt Go.RowKit Go.Shelf
attribute [local go_sem] Oper.semAt_some

theorem eq_seq_some (fuel : Nat) (fn : Fn) (a b : Array Value) (w : World) : (Op.equalIn (fuel + 1) 27 (.func fn a b) .nilFunc).run Try.prog w = .ok false w := by
  simp [Op.equalIn, run_underlying Try.underlying27]
theorem eq_seq_nil (fn : Fn) (a b : Array Value) (w : World) : (binOp .eql 27 (.func fn a b) .nilFunc).run Try.prog w = .ok (.bool false) w := by
  simp only [binOp]
  simp [show Op.equal 27 (.func fn a b) .nilFunc = Op.equalIn (9999 + 1) 27 (.func fn a b) .nilFunc from rfl, eq_seq_some 9999 fn a b w]
theorem NRow.box {W W' : World} {base : Nat} {v : Value} {ns : List Nat} {Bs : Nat} (h : NRow W base v ns) (hb : Below W.heap.size W W') (hc : W'.cell? ⟨Bs, 0, none⟩ = some v) : NBox W'.heap.size Bs ns W' := by
  obtain ⟨pp, cp, rfl, h2⟩ := (h.below hb).shape
  exact ⟨pp, cp, hc, h2⟩
/-- How often the law goes on at most. -/
def mostN (most : Int) (len : Nat) : Nat := if most < 1 ∨ (len : Int) < most then len + 1 else most.toNat
set_option maxRecDepth 100000 in
set_option maxHeartbeats 8000000 in
theorem TreeKids_in (pp : Option Addr) (cp : Nat) (es : List El) (i most : Int) (w : World) (hr : ERow w pp w.heap.size es) (hl : es.length * 72 ≤ 140737488351232) (ha : ∀ e ∈ es, e.ats.length * 40 ≤ 140737488351232) (hd : ∀ e ∈ es, -9223372036854775808 ≤ e.d ∧ e.d ≤ 9223372036854775807)
    (hi : i ≤ 9223372036854775807) (hm : most ≤ 9223372036854775807) :
    CallsIn Fence.wide 9 Try.prog 3 #[.slice pp es.length cp, .int .i64 i, .int .i64 most] w fun e w' => e = .returned (.bool true) ∧ Below w.heap.size w w' := by
  have hbA : Below w.heap.size w ((w.alloc (.cells #[.int .i64 most] 3)).alloc (.cells #[.bool false] 4)) := ((Below.refl _ w).alloc (Nat.le_refl _) _).alloc (by simp) _
  have c4 := refKids_any pp cp es i _ ((hr.below hbA).mono hbA.size) hl hd hi
  refine callsIn_of_wp_marks Try.func3 rfl trivial ?_ rfl
  simp only [Try.ntmps3, List.size_toArray, List.length_cons, List.length_nil, Nat.reduceAdd, Nat.reduceSub, Array.replicate_succ, Array.replicate_zero, List.push_toArray, List.append_toArray, List.nil_append, List.cons_append]
  refine wpIn_wide.2 ?_
  go_upto_region 2 with (go_at_call 4; refine c4.mono ?_; rintro e w1 ⟨v, rfl, hR1, hB1⟩; obtain ⟨pq, cq, rfl, -⟩ := hR1.shape)
  have hB2 : Below w.heap.size w (w1.alloc (.cells #[.slice pq (kidsN es i).length cq] 23)) := (hbA.trans (hB1.mono hbA.size)).alloc (Nat.le_trans hbA.size hB1.size) _
  have hsz1 := hB1.size
  simp only [World.size_alloc] at hsz1
  have d0 : (w1.alloc (.cells #[.slice pq (kidsN es i).length cq] 23)).heap[w.heap.size]? = some (.cells #[.int .i64 most] 3) := by
    refine (((Below.refl _ w1).alloc (Nat.le_refl _) _).block _ (by omega)).trans ((hB1.block _ (by simp only [World.size_alloc]; omega)).trans ?_)
    refine (((Below.refl _ (w.alloc (.cells #[.int .i64 most] 3))).alloc (Nat.le_refl _) _).block _ (by simp)).trans (thn w _)
  have d1 : (w1.alloc (.cells #[.slice pq (kidsN es i).length cq] 23)).heap[w.heap.size + 1]? = some (.cells #[.bool false] 4) := by
    refine (((Below.refl _ w1).alloc (Nat.le_refl _) _).block _ (by omega)).trans ((hB1.block _ (by simp only [World.size_alloc]; omega)).trans ?_)
    have := thn (w.alloc (.cells #[.int .i64 most] 3)) (.cells #[.bool false] 4)
    rwa [World.size_alloc] at this
  have d2 := thn w1 (.cells #[.slice pq (kidsN es i).length cq] 23)
  have hR2 := hR1.below ((Below.refl _ w1).alloc (Nat.le_refl _) (.cells #[.slice pq (kidsN es i).length cq] 23))
  clear c4 hR1 hB1 hbA
  generalize w1.alloc (.cells #[.slice pq (kidsN es i).length cq] 23) = w2 at *
  go_cut [26] from 19 to 26 (fun s wx => s = .bool (decide (most < 1 ∨ ((kidsN es i).length : Int) < most)) ∧ wx = w2)
  case first =>
    have e0 : w2.cell? ⟨w.heap.size, 0, none⟩ = some (.int .i64 most) := by simp only [World.cell?, d0]; rfl
    have e2 : w2.cell? ⟨w1.heap.size, 0, none⟩ = some (.slice pq (kidsN es i).length cq) := by simp only [World.cell?, d2]; rfl
    clear d0 d1 d2 hR2 hB2
    by_cases h1 : most < 1
    · have b1 : decide (most < 1) = true := by simp [h1]
      have HB : Hid (decide (most < 1 ∨ ((kidsN es i).length : Int) < most) = true) := by simp [Hid, h1]
      go_wp2_with fail
      go_meet
      case rel => exact ⟨by rw [HB.out], rfl⟩
    · have b1 : decide (most < 1) = false := by simp [h1]
      by_cases h2 : ((kidsN es i).length : Int) < most
      · have b2 : decide (((kidsN es i).length : Int) < most) = true := by simp [h2]
        have HB : Hid (decide (most < 1 ∨ ((kidsN es i).length : Int) < most) = true) := by simp [Hid, h2]
        go_wp2_with fail
        go_meet
        case rel => exact ⟨by rw [HB.out], rfl⟩
      · have b2 : decide (((kidsN es i).length : Int) < most) = false := by simp [h2]
        have HB : Hid (decide (most < 1 ∨ ((kidsN es i).length : Int) < most) = false) := by simp [Hid, h1]; omega
        go_wp2_with fail
        go_meet
        case rel => exact ⟨by rw [HB.out], rfl⟩
  obtain ⟨rfl, rfl⟩ := hcut
  go_upto_if 26 with fail
  go_cut [5] from 27 to 29 (fun s wx => s = .pointer (some ⟨w.heap.size, 0, none⟩) ∧ wx.heap[w.heap.size]? = some (.cells #[.int .i64 (mostN most (kidsN es i).length : Int)] 3) ∧ wx.heap[w.heap.size + 1]? = some (.cells #[.bool false] 4) ∧ wx.heap[w1.heap.size]? = some (.cells #[.slice pq (kidsN es i).length cq] 23) ∧ NRow wx (w.heap.size + 2) (.slice pq (kidsN es i).length cq) (kidsN es i) ∧ Below w.heap.size w wx)
  case first =>
    have hlen := kidsN_length es i
    by_cases h1 : most < 1 ∨ ((kidsN es i).length : Int) < most
    · have b1 : decide (most < 1 ∨ ((kidsN es i).length : Int) < most) = true := by simp only [decide_eq_true_eq]; exact h1
      have hM : Hid (mostN most (kidsN es i).length = (kidsN es i).length + 1) := if_pos h1
      have e2 : wc.cell? ⟨w1.heap.size, 0, none⟩ = some (.slice pq (kidsN es i).length cq) := by simp only [World.cell?, d2]; rfl
      have e0 : wc.cell? ⟨w.heap.size, 0, none⟩ = some (.int .i64 most) := by simp only [World.cell?, d0]; rfl
      have f0 : wc.frozen? ⟨w.heap.size, 0, none⟩ = false := by simp only [World.frozen?, d0]; simp
      have HH : Hid (NRow wc (w.heap.size + 2) (.slice pq (kidsN es i).length cq) (kidsN es i)) := by
        show NRow wc (w.heap.size + 2) (.slice pq (kidsN es i).length cq) (kidsN es i)
        simpa only [World.size_alloc] using hR2
      have HD0 : Hid (wc.heap[w.heap.size]? = some (.cells #[.int .i64 most] 3)) := d0
      have HD1 : Hid (wc.heap[w.heap.size + 1]? = some (.cells #[.bool false] 4)) := d1
      have HD2 : Hid (wc.heap[w1.heap.size]? = some (.cells #[.slice pq (kidsN es i).length cq] 23)) := d2
      clear hR2 d0 d1 d2
      go_wp2_with fail
      go_meet
      case rel =>
        have ho : ∀ k, k ≠ w.heap.size → ∀ u, (wc.setCell ⟨w.heap.size, 0, none⟩ u).heap[k]? = wc.heap[k]? := fun k hk u => Below.heap_setCell wc _ _ _ hk
        refine ⟨rfl, ?_, (ho _ (by omega) _).trans HD1.out, (ho _ (by omega) _).trans HD2.out, ?_, hB2.setCell (Nat.le_refl _) _⟩
        · rw [hM.out]
          exact Boxed.set (.int .i64 ((kidsN es i).length + 1 : Int)) HD0.out
        · refine World.ownsRow.kept (row := some w.heap.size) HH.out (grownBy_setCell' wc _ _) ?_
          refine .inr fun e => ?_
          have := HH.out.lt _ e
          omega
    · have b1 : decide (most < 1 ∨ ((kidsN es i).length : Int) < most) = false := by simp only [decide_eq_false_iff_not]; exact h1
      have hM : Hid ((mostN most (kidsN es i).length : Int) = most) := by
        show ((mostN most (kidsN es i).length : Nat) : Int) = most
        unfold mostN
        rw [if_neg h1]
        omega
      have HH : Hid (NRow wc (w.heap.size + 2) (.slice pq (kidsN es i).length cq) (kidsN es i)) := by
        show NRow wc (w.heap.size + 2) (.slice pq (kidsN es i).length cq) (kidsN es i)
        simpa only [World.size_alloc] using hR2
      go_wp2_with fail
      go_meet
      case rel => exact ⟨rfl, by rw [hM.out]; exact d0, d1, d2, HH.out, hB2⟩
  obtain ⟨rfl, d0', d1', d2', hR3, hB3⟩ := hcut
  clear d0 d1 d2 hR2 hB2
  have c5 := copied_any pp cp es wc ((hr.below hB3).mono hB3.size) hl ha
  go_upto_region 6 with (first
    | (go_at_call 5; refine c5.mono ?_; rintro e w3 ⟨g, cap, rfl, hC3, hB4⟩; have c6 := Kids_any (some ⟨g, 0, none⟩) cap es i w3 hC3.er hl hd hi)
    | (go_at_call 6; refine c6.mono ?_; rintro e w4 ⟨Bs, v4, rfl, hBs, hb4, hR4, hB5⟩))
  have hnil := fun w => eq_seq_nil (.func 11) #[] #[.pointer (some ⟨Bs, 0, none⟩)] w
  have hbN : Below w4.heap.size w4 (w4.alloc (.cells #[.func (.func 11) #[] #[.pointer (some ⟨Bs, 0, none⟩)]] 27)) := (Below.refl _ _).alloc (Nat.le_refl _) _
  have hBs4 : Bs < w4.heap.size := (Array.getElem?_eq_some_iff.1 hb4).1
  have z0 := hB3.size
  have z3 := hB4.size
  have z4 := hB5.size
  have hBx : Below wc.heap.size wc (w4.alloc (.cells #[.func (.func 11) #[] #[.pointer (some ⟨Bs, 0, none⟩)]] 27)) := (hB4.trans (hB5.mono z3)).trans (hbN.mono (by omega))
  have hC5 := (hC3.below hB5).below hbN
  have hE5 := ((hr.below hB3).mono z0).below hBx
  have c7 := untouched_any pp wc.heap.size g cap cp es _ hC5 (hE5.mono hBx.size) hl ha
  have w1c : w1.heap.size < wc.heap.size := (Array.getElem?_eq_some_iff.1 d2').1
  have w0c : w.heap.size + 1 < wc.heap.size := (Array.getElem?_eq_some_iff.1 d1').1
  go_upto_region 8 with (go_at_call 7; refine c7.mono ?_; rintro e w5 ⟨rfl, hB7⟩)
  have hBy : Below wc.heap.size wc w5 := hBx.trans (hB7.mono (Nat.le_trans hBx.size (Nat.le_refl _)))
  have hC6 := hC5.below hB7
  have hg3 : g < w3.heap.size := hC3.lt
  have hroom := hC3.room
  have hgc := hC3.ge
  obtain ⟨cur0, hcur0, hcs0⟩ := hC6.blk
  have q4 : w5.heap[w4.heap.size]? = some (.cells #[.func (.func 11) #[] #[.pointer (some ⟨Bs, 0, none⟩)]] 27) := (hB7.block _ (by simp)).trans (thn w4 _)
  have q5 : w5.heap[Bs]? = some (.cells #[v4] 23) := (hB7.block _ (by simp; omega)).trans ((hbN.block _ hBs4).trans hb4)
  have hR5 : NRow w5 w3.heap.size v4 (kidsN es i) := (hR4.below hbN).below hB7
  have hsz5 : w4.heap.size < w5.heap.size := (Array.getElem?_eq_some_iff.1 q4).1
  clear c5 c6 c7 hC3 hC5 hE5 hC6 hnil hBx hbN hb4 hR4 hB7 hr ha hd
  go_wp2_with fail
  go_loopw [10] (fun i wr => ∃ k : Nat, k ≤ es.length ∧ i = .int .i64 k ∧ w5.grownBy wr (some g) ∧ ∃ cur, wr.heap[g]? = some (.cells cur 32 (0, 0)) ∧ cur.size = cap * 5) (fun i _ => es.length - (RowKit.intOf i).toNat)
  case atStart => exact ⟨0, Nat.zero_le _, rfl, ⟨rfl, rfl, rfl, Nat.le_refl _, fun _ _ _ => rfl⟩, cur0, hcur0, hcs0⟩
  case round =>
    obtain ⟨k, hk, rfl, hG, cur, hcur, hcs⟩ := hrel
    by_cases hlt : k < es.length
    · have hlt2 : (k : Int) < es.length := by omega
      have hcl : ∀ o, o < cap * 5 → (wr.cell? ⟨g, o, none⟩).isSome = true := fun o ho => by
        simp only [World.cell?, hcur]
        have : o < cur.size := by omega
        simp [this]
      have hfr : ∀ o, wr.frozen? ⟨g, o, none⟩ = false := fun o => by simp only [World.frozen?, hcur]; simp
      obtain ⟨v0, h0⟩ := Option.isSome_iff_exists.1 (hcl (k * 5) (by omega))
      obtain ⟨v1, h1⟩ := Option.isSome_iff_exists.1 (hcl (k * 5 + 1) (by omega))
      obtain ⟨v2, h2⟩ := Option.isSome_iff_exists.1 (hcl (k * 5 + 2) (by omega))
      obtain ⟨v3, h3⟩ := Option.isSome_iff_exists.1 (hcl (k * 5 + 3) (by omega))
      obtain ⟨v4', h4⟩ := Option.isSome_iff_exists.1 (hcl (k * 5 + 4) (by omega))
      have f0 := hfr (k * 5)
      have f1 := hfr (k * 5 + 1)
      have f2 := hfr (k * 5 + 2)
      have f3 := hfr (k * 5 + 3)
      have f4 := hfr (k * 5 + 4)
      clear hcl hfr
      go_wp2_with fail
      obtain ⟨cur1, e1, z1⟩ := blk_set (o := k * 5) hcur (.int .i64 ((k : Int) % 3 + 1))
      obtain ⟨cur2, e2, z2⟩ := blk_set (o := k * 5 + 1) e1 (.string ⟨#[119, 114, 105, 116, 116, 101, 110, 32, 111, 118, 101, 114]⟩)
      obtain ⟨cur3, e3, z3'⟩ := blk_set (o := k * 5 + 2) e2 (.slice none 0 0)
      obtain ⟨cur4, e4, z4'⟩ := blk_set (o := k * 5 + 3) e3 (.string ⟨#[]⟩)
      obtain ⟨cur5, e5, z5⟩ := blk_set (o := k * 5 + 4) e4 (.int .i64 0)
      exact ⟨⟨k + 1, by omega, by go_num, grown_set (grown_set (grown_set (grown_set (grown_set hG _) _) _) _) _, cur5, e5, by omega⟩, by simp [RowKit.intOf]; omega⟩
    · obtain rfl : k = es.length := by omega
      have hBW : Below wc.heap.size wc wr := hBy.trans ⟨hG.os, hG.tape, hG.output, hG.size, fun k hk => hG.block k (by have := hBy.size; omega) (by intro e; injection e with e; omega)⟩
      have hfar : ∀ k, w3.heap.size ≤ k → k < w5.heap.size → wr.heap[k]? = w5.heap[k]? := fun k h1 h2 => hG.block k h2 (by intro e; injection e with e; omega)
      have hz5 := hG.size
      have hKS : KS wr.heap.size w.heap.size w1.heap.size w4.heap.size Bs (mostN most (kidsN es i).length) (kidsN es i) wr := by
        refine ⟨(hBW.cell (p := ⟨w.heap.size, 0, none⟩) (by show w.heap.size < _; omega)).trans (by simp only [World.cell?, d0']; rfl), (hBW.block _ w0c).trans d1', ?_, ?_, ?_, by have := hBW.size; omega, by have := hBW.size; omega, by omega, by omega⟩
        · obtain ⟨pp', cp', he, h2⟩ := hR3.shape
          cases he
          refine ⟨pq, cq, (hBW.cell (p := ⟨w1.heap.size, 0, none⟩) w1c).trans (by simp only [World.cell?, d2']; rfl), fun j x hx => ?_⟩
          obtain ⟨g', e, hg', hc⟩ := h2 j x hx
          exact ⟨g', e, Nat.lt_of_lt_of_le hg' hBW.size, (hBW.cell (p := ⟨g', j, none⟩) hg').trans hc⟩
        · rw [World.cell?_of_block (a := ⟨w4.heap.size, 0, none⟩) (hfar _ z4 hsz5)]
          simp only [World.cell?, q4]; rfl
        · have hbl := own_ge hR5
          obtain ⟨pp', cp', rfl, h2⟩ := hR5.shape
          refine ⟨pp', cp', ?_, fun j x hx => ?_⟩
          · rw [World.cell?_of_block (a := ⟨Bs, 0, none⟩) (hfar Bs hBs (by omega))]
            simp only [World.cell?, q5]; rfl
          · obtain ⟨g', rfl, hg', hc⟩ := h2 j x hx
            refine ⟨g', rfl, Nat.lt_of_lt_of_le hg' hz5, ?_⟩
            rw [World.cell?_of_block (a := ⟨g', j, none⟩) (hfar _ (hbl g' rfl) hg')]
            exact hc
      have hBw : Below w.heap.size w wr := hB3.trans (hBW.mono hB3.size)
      have hKNl := kidsN_length es i
      clear hR3 hR5 q4 q5 hfar hBW hG hcur0 hBy d0' d1' d2' hB3 hB4 hB5
      go_upto_block 2 with fail
      generalize hKN : kidsN es i = KN at *
      clear hKN
      rename World => W
      refine (wpIn_wide (n := 9)).1 ?_
      gi_wp2_with fail
      clear hcur hcs cur hz5
      have hM1 : 1 ≤ mostN most KN.length := by unfold mostN; split <;> omega
      generalize mostN most KN.length = M at *
      generalize ha0 : (Act.mk _ _) = a0
      have hstart : a0 = { tmps := KA w.heap.size w1.heap.size w4.heap.size ((0 : Nat) : Int) (fun k => a0.tmps.getD k undef), defers := [] } := by rw [← ha0]; rfl
      clear ha0
      refine wpIn_loop (fun a wr => ∃ (r : Nat) (u : Nat → Value) (ds : List Deferred), r ≤ 2 ∧ a = { tmps := KA w.heap.size w1.heap.size w4.heap.size (r : Int) u, defers := ds } ∧ Below W.heap.size W wr ∧ MarksOk W.heap.size ds wr)
        (fun a _ => 2 - (RowKit.intOf (a.tmps.getD 11 undef)).toNat) ⟨0, fun k => a0.tmps.getD k undef, [], by omega, hstart, Below.refl _ _, trivial⟩ ?_
      clear hstart
      rintro a wr ⟨r, u, ds, hr2, rfl, hBr, hMk⟩
      have hKr := hKS.below hBr
      by_cases hr3 : r < 2
      · have hr4 : (r : Int) < 2 := by omega
        have hsq := hKr.sq
        have hbx : Below wr.heap.size wr (wr.alloc (.cells #[.int .i64 0] 3)) := (Below.refl _ _).alloc (Nat.le_refl _) _
        have hsq' := (hbx.cell (p := ⟨w4.heap.size, 0, none⟩) (by have := hKr.l3; have := hBr.size; show w4.heap.size < _; omega)).trans hsq
        gi_wp2_with fail
        have hN0 : (wr.alloc (.cells #[.int .i64 0] 3)).heap[wr.heap.size]? = some (.cells #[.int .i64 0] 3) := thn wr _
        have hWr := hBr.size
        have hNBs : NBox wr.heap.size Bs KN (wr.alloc (.cells #[.int .i64 0] 3)) := (hKr.bs.mono hWr).below hbx (by have := hKr.l4; omega)
        have hMk' := hMk.below hbx
        have hKn := hKr.below (hbx.mono hWr)
        have hBn : Below W.heap.size W (wr.alloc (.cells #[.int .i64 0] 3)) := hBr.trans (hbx.mono hWr)
        have hszn : (wr.alloc (.cells #[.int .i64 0] 3)).heap.size = wr.heap.size + 1 := by simp
        generalize hWn : wr.alloc (.cells #[.int .i64 0] 3) = Wn at *
        have hMk0 := hMk
        have hWn0 : Below wr.heap.size wr Wn := hbx
        clear hWn hbx hKr hsq hsq' hMk hMk'
        have hlr : wr.heap.size < Wn.heap.size := by omega
        have hmt : ∀ D, Wn.heap.size ≤ D → ∀ d' ∈ ds, d'.target ≠ .collected D := fun D hD d' hd' e => by
          obtain ⟨D', h1, h2⟩ := hMk0.lt d' hd'
          rw [h1] at e
          injection e with e
          omega
        have hmb : ∀ Wd, Below wr.heap.size Wn Wd → MarksOk W.heap.size ds Wd := fun Wd hb => hMk0.below (hWn0.trans hb)
        refine wpIn_rangeFunc_ownH rfl (by decide) (gf := 11) (lb := #[.pointer (some ⟨Bs, 0, none⟩)]) rfl trivial (enters_of Try.func11 (by kernel_rfl) rfl)
          (vals_stops 8 Bs wr.heap.size KN (by omega) Wn (by have := hKn.l4; omega) (by omega) hNBs) belowK_t (belowK_b (by omega)) (Below.refl _ _) (fun _ => rfl)
          (fun pre Wx => pre <+: KN ∧ (Wx.cell? ⟨wr.heap.size, 0, none⟩ = some (.int .i64 (pre.length : Int)) ∧ Wx.frozen? ⟨wr.heap.size, 0, none⟩ = false) ∧ Below wr.heap.size Wn Wx)
          (fun c pre Wx => (c = .ret ∧ ¬ pre <+: KN) ∨ (c = .exit 4 ∧ pre.length = M ∧ (Wx.cell? ⟨wr.heap.size, 0, none⟩ = some (.int .i64 (pre.length : Int)) ∧ Wx.frozen? ⟨wr.heap.size, 0, none⟩ = false) ∧ Below wr.heap.size Wn Wx))
          ?ownI ?ownX ?startI (fun x a' Wx => ∃ u', a' = { tmps := KB w.heap.size w1.heap.size w4.heap.size wr.heap.size (r : Int) (x : Int) u', defers := [] }) (fun x a' _ _ _ _ hs _ _ => hs) ?assign ?body ?done ?stop
        case ownI => exact OwnFrom.and (ownFrom_pure _ _) (OwnFrom.and (Own.from (fun s A B row hs hg hr => ⟨cell_kept hs.1 hg hr, (frozen_kept hs.1 hg hr).trans hs.2⟩) _) (ownFrom_below (by omega) (by omega)))
        case ownX =>
          intro c s A B row hs hg hr
          rcases hs with hs | ⟨h1, h2, h3, h4⟩
          · exact .inl hs
          · exact .inr ⟨h1, h2, ⟨cell_kept h3.1 hg (fun r e => (hr r e).2), (frozen_kept h3.1 hg (fun r e => (hr r e).2)).trans h3.2⟩, ownFrom_below (β := Unit) (by omega) (by omega) () A B row h4 hg hr⟩
        case startI => exact ⟨List.nil_prefix, ⟨by simp only [World.cell?, hN0]; rfl, by simp only [World.frozen?, hN0]; simp⟩, Below.refl _ _⟩
        case assign =>
          intro l pre x Wx K hi hK
          gi_wp2
          generalize ha1 : (Act.mk _ _) = a1
          refine hK a1 Wx (KeepsFrom.refl _ _) (Below.refl _ _) hi ⟨fun k => a1.tmps.getD k undef, ?_⟩
          rw [← ha1]; rfl
        case body =>
          rintro l pre x a' Wx hle ⟨rl, hrl⟩ ⟨hpre, ⟨hc, hfz⟩, hBx⟩ ⟨u', rfl⟩ hlen
          have hKx := hKn.below (hBx.mono hWr)
          obtain ⟨pw, cw, hw1, hw2⟩ := hKx.wn
          obtain ⟨y, hy⟩ : ∃ y, KN[pre.length]? = some y := ⟨KN[pre.length], List.getElem?_eq_getElem hlen⟩
          obtain ⟨gw, rfl, hgw, hwc⟩ := hw2 _ _ hy
          have hm := hKx.m
          have hxs := hBx.size
          have hl2 : ¬ ((KN.length : Int) ≤ (pre.length : Int)) := by omega
          have hl3 : (pre.length : Int) < (KN.length : Int) := by omega
          have b1 : decide ((KN.length : Int) ≤ (pre.length : Int)) = false := by simp; omega
          have hrr := hKx.r
          have hr1 : Wx.cell? ⟨w.heap.size + 1, 0, none⟩ = some (.bool false) := by simp only [World.cell?, hrr]; rfl
          have hrf : Wx.frozen? ⟨w.heap.size + 1, 0, none⟩ = false := by simp only [World.frozen?, hrr]; simp
          by_cases hxy : x = y
          · subst hxy
            have hpx := prefix_snoc hpre hy
            by_cases hn2 : pre.length < 2
            · have hn3 : (pre.length : Int) < 2 := by omega
              have hlx : (pre ++ [x]).length = pre.length + 1 := by simp
              have hbk : Below Wx.heap.size Wx (Wx.alloc (.cells #[.int .i64 0] 3)) := (Below.refl _ _).alloc (Nat.le_refl _) _
              have hl3' := hKx.l3
              have hl4' := hKx.l4
              have hl1' := hKx.l1
              have hl2' := hKx.l2
              have hsqx := (hbk.cell (p := ⟨w4.heap.size, 0, none⟩) (by show w4.heap.size < _; omega)).trans hKx.sq
              gi_wp2_with fail
              have hK0 : (Wx.alloc (.cells #[.int .i64 0] 3)).heap[Wx.heap.size]? = some (.cells #[.int .i64 0] 3) := thn Wx _
              have hNBk : NBox Wx.heap.size Bs KN (Wx.alloc (.cells #[.int .i64 0] 3)) := (hKx.bs.mono (by omega)).below hbk (by omega)
              have hrlk : (Wx.alloc (.cells #[.int .i64 0] 3)).heap[l]? = some (.loop rl) := (hbk.block l (Array.getElem?_eq_some_iff.1 hrl).1).trans hrl
              have hszk : (Wx.alloc (.cells #[.int .i64 0] 3)).heap.size = Wx.heap.size + 1 := by simp
              have hkfk : KeepsFrom Wn.heap.size Wx (Wx.alloc (.cells #[.int .i64 0] 3)) := (KeepsOthers.alloc _ _).from _
              have hKk := hKx.below (hbk.mono (by omega))
              generalize hWk : Wx.alloc (.cells #[.int .i64 0] 3) = Wk at *
              clear hWk hsqx
              refine wpIn_rangeFunc_ownN (l₀ := l) (r₀ := rl) rfl hrlk (by decide) (gf := 11) (lb := #[.pointer (some ⟨Bs, 0, none⟩)]) rfl trivial (enters_of Try.func11 (by kernel_rfl) rfl)
                ((vals_stops 6 Bs Wx.heap.size KN (by omega) Wk (by omega) (by omega) hNBk).inRound l) belowK_t (belowK_b (by omega)) (Below.refl _ _) (fun _ => rfl)
                (fun p2 Wy => p2 <+: KN ∧ (Wy.cell? ⟨Wx.heap.size, 0, none⟩ = some (.int .i64 (p2.length : Int)) ∧ Wy.frozen? ⟨Wx.heap.size, 0, none⟩ = false) ∧ Below Wx.heap.size Wk Wy ∧ KeepsFrom Wn.heap.size Wx Wy)
                (fun c p2 Wy => c = .ret ∧ ¬ p2 <+: KN)
                ?ownI2 ?ownX2 ?startI2 (fun y a' Wy => ∃ u'', a' = { tmps := KC w.heap.size w1.heap.size w4.heap.size wr.heap.size Wx.heap.size (r : Int) (x : Int) (y : Int) u'', defers := [] }) (fun x a' _ _ _ _ hs _ _ => hs) ?assign2 ?body2 ?done2 ?stop2
              case ownI2 => exact OwnFrom.and (ownFrom_pure _ _) (OwnFrom.and (Own.from (fun s A B row hs hg hr => ⟨cell_kept hs.1 hg hr, (frozen_kept hs.1 hg hr).trans hs.2⟩) _) (OwnFrom.and (ownFrom_below (by omega) (by omega)) (ownFrom_keepsFrom (by omega))))
              case ownX2 => exact fun c => ownFrom_pure _ _
              case startI2 => exact ⟨List.nil_prefix, ⟨by simp only [World.cell?, hK0]; rfl, by simp only [World.frozen?, hK0]; simp⟩, Below.refl _ _, hkfk⟩
              case assign2 =>
                intro l2 p2 z Wy K hi2 hK2
                gi_wp2
                generalize ha1 : (Act.mk _ _) = a1
                refine hK2 a1 Wy (KeepsFrom.refl _ _) (Below.refl _ _) hi2 ⟨fun k => a1.tmps.getD k undef, ?_⟩
                rw [← ha1]; rfl
              case body2 =>
                rintro l2 p2 z a' Wy hle2 _ ⟨hpre2, ⟨hc2, hfz2⟩, hBy2, hkf2⟩ ⟨u'', rfl⟩ hlen2
                have hKy := hKk.below (hBy2.mono (by omega))
                obtain ⟨pw2, cw2, hv1, hv2⟩ := hKy.wn
                obtain ⟨y2, hy2⟩ : ∃ y, KN[p2.length]? = some y := ⟨KN[p2.length], List.getElem?_eq_getElem hlen2⟩
                obtain ⟨gw2, rfl, hgw2, hwc2⟩ := hv2 _ _ hy2
                have b5 : decide ((KN.length : Int) ≤ (p2.length : Int)) = false := by simp; omega
                have hl5 : (p2.length : Int) < (KN.length : Int) := by omega
                have hl6 : ¬ ((KN.length : Int) ≤ (p2.length : Int)) := by omega
                have hrr2 := hKy.r
                have hr3' : Wy.cell? ⟨w.heap.size + 1, 0, none⟩ = some (.bool false) := by simp only [World.cell?, hrr2]; rfl
                have hrf2 : Wy.frozen? ⟨w.heap.size + 1, 0, none⟩ = false := by simp only [World.frozen?, hrr2]; simp
                by_cases hzy : z = y2
                · subst hzy
                  have hpx2 := prefix_snoc hpre2 hy2
                  have hlx2 : (p2 ++ [z]).length = p2.length + 1 := by simp
                  gi_wp2_with fail
                  exact ⟨(KeepsOthers.setCell _ _ _).from _, (Below.refl Wx.heap.size Wy).setCell (p := ⟨Wx.heap.size, 0, none⟩) (Nat.le_refl _) _, hpx2, ⟨by rw [hlx2]; exact World.cell?_setCell_same' _ _ _ (by rw [hc2]; rfl), by rw [World.frozen?_setCell]; exact hfz2⟩, hBy2.setCell (p := ⟨Wx.heap.size, 0, none⟩) (Nat.le_refl _) _, by have hk := hkf2.trans ((KeepsOthers.setCell Wy ⟨Wx.heap.size, 0, none⟩ (.int .i64 ((p2.length : Int) + 1))).from Wn.heap.size); rw [hszn] at hk; exact hk⟩
                · have b2 : ((z : Int) == (y2 : Int)) = false := by simp; omega
                  have b3 : ((z : Int) != (y2 : Int)) = true := by simp; omega
                  gi_wp2_with fail
                  refine ⟨(KeepsOthers.setCell _ _ _).from _, rfl, fun h => hzy ?_⟩
                  have := prefix_last h
                  rw [hy2] at this
                  exact (Option.some.inj this).symm
              case done2 =>
                rintro ys Wy rfl ⟨_, ⟨hc2, hfz2⟩, hBy2, hkf2⟩
                have hBxy : Below Wx.heap.size Wx Wy := hbk.trans hBy2
                have hKy := hKx.below (hBxy.mono (by omega))
                obtain ⟨pw2, cw2, hv1, hv2⟩ := hKy.wn
                have hmy := hKy.m
                have hcy := (hBxy.cell (p := ⟨wr.heap.size, 0, none⟩) (by show wr.heap.size < _; omega)).trans hc
                have hfy := (hBxy.frozen (p := ⟨wr.heap.size, 0, none⟩) (by show wr.heap.size < _; omega)).trans hfz
                have b6 : ((ys.length : Int) == (ys.length : Int)) = true := by simp
                have hmS : ∀ v, (Wy.setCell ⟨wr.heap.size, 0, none⟩ v).cell? ⟨w.heap.size, 0, none⟩ = some (.int .i64 (M : Int)) := fun v => (World.cell?_setCell_other Wy _ _ _ (fun e => by injection e with e1 _; omega)).trans hmy
                have hS : ∀ v, Below wr.heap.size Wn (Wy.setCell ⟨wr.heap.size, 0, none⟩ v) := fun v => (hBx.trans (hBxy.mono (show wr.heap.size ≤ Wx.heap.size by omega))).setCell (p := ⟨wr.heap.size, 0, none⟩) (Nat.le_refl _) v
                have hSx : ∀ v, Below wr.heap.size Wx (Wy.setCell ⟨wr.heap.size, 0, none⟩ v) := fun v => (hBxy.mono (show wr.heap.size ≤ Wx.heap.size by omega)).setCell (p := ⟨wr.heap.size, 0, none⟩) (Nat.le_refl _) v
                have hSk : ∀ v, KeepsFrom Wn.heap.size Wx (Wy.setCell ⟨wr.heap.size, 0, none⟩ v) := fun v => hkf2.trans ((KeepsOthers.setCell _ _ _).from _)
                have hSc : ∀ v, (Wy.setCell ⟨wr.heap.size, 0, none⟩ v).cell? ⟨wr.heap.size, 0, none⟩ = some v := fun v => World.cell?_setCell_same' _ _ _ (by rw [hcy]; rfl)
                have hSf : ∀ v, (Wy.setCell ⟨wr.heap.size, 0, none⟩ v).frozen? ⟨wr.heap.size, 0, none⟩ = false := fun v => by rw [World.frozen?_setCell]; exact hfy
                by_cases hmm : pre.length + 1 = M
                · have b2 : ((pre.length : Int) + 1 == (M : Int)) = true := by simp; omega
                  have HM : Hid (pre.length + 1 = M) := hmm
                  clear hmm
                  gi_wp2_with fail
                  exact ⟨hSk _, .inr ⟨rfl, by rw [hlx]; exact HM.out, ⟨by rw [hlx]; exact hSc _, hSf _⟩, hS _⟩⟩
                · have b2 : ((pre.length : Int) + 1 == (M : Int)) = false := by simp; omega
                  gi_wp2_with fail
                  exact ⟨hSk _, hSx _, hpx, ⟨by rw [hlx]; exact hSc _, hSf _⟩, hS _⟩
              case stop2 =>
                rintro c p2 Wy hp2 ⟨_, h⟩
                exact absurd hp2 h
            · have hn3 : ¬ (pre.length : Int) < 2 := by omega
              have hlx : (pre ++ [x]).length = pre.length + 1 := by simp
              have hmS : ∀ v, (Wx.setCell ⟨wr.heap.size, 0, none⟩ v).cell? ⟨w.heap.size, 0, none⟩ = some (.int .i64 (M : Int)) := fun v => (World.cell?_setCell_other Wx _ _ _ (fun e => by injection e with e1 _; have := hKx.l1; omega)).trans hm
              have hS : ∀ v, Below wr.heap.size Wn (Wx.setCell ⟨wr.heap.size, 0, none⟩ v) := fun v => hBx.setCell (Nat.le_refl _) v
              have hSc : ∀ v, (Wx.setCell ⟨wr.heap.size, 0, none⟩ v).cell? ⟨wr.heap.size, 0, none⟩ = some v := fun v => World.cell?_setCell_same' _ _ _ (by rw [hc]; rfl)
              have hSf : ∀ v, (Wx.setCell ⟨wr.heap.size, 0, none⟩ v).frozen? ⟨wr.heap.size, 0, none⟩ = false := fun v => by rw [World.frozen?_setCell]; exact hfz
              by_cases hmm : pre.length + 1 = M
              · have b2 : ((pre.length : Int) + 1 == (M : Int)) = true := by simp; omega
                have HM : Hid (pre.length + 1 = M) := hmm
                clear hmm
                gi_wp2_with fail
                exact ⟨(KeepsOthers.setCell _ _ _).from _, .inr ⟨rfl, by rw [hlx]; exact HM.out, ⟨by rw [hlx]; exact hSc _, hSf _⟩, hS _⟩⟩
              · have b2 : ((pre.length : Int) + 1 == (M : Int)) = false := by simp; omega
                gi_wp2_with fail
                exact ⟨(KeepsOthers.setCell _ _ _).from _, (Below.refl wr.heap.size Wx).setCell (p := ⟨wr.heap.size, 0, none⟩) (Nat.le_refl _) _, hpx, ⟨by rw [hlx]; exact hSc _, hSf _⟩, hS _⟩
          · have b2 : ((x : Int) == (y : Int)) = false := by simp; omega
            have b3 : ((x : Int) != (y : Int)) = true := by simp; omega
            gi_wp2_with fail
            refine ⟨(KeepsOthers.setCell _ _ _).from _, .inl ⟨rfl, fun h => hxy ?_⟩⟩
            have := prefix_last h
            rw [hy] at this
            exact (Option.some.inj this).symm
        case done =>
          rintro D ys Wd hD rfl ⟨hpre, ⟨hc, hfz⟩, hBx⟩ hDm
          have hKx := hKn.below (hBx.mono hWr)
          obtain ⟨pw, cw, hw1, hw2⟩ := hKx.wn
          have hm := hKx.m
          have hMd : MarksOk W.heap.size ({ target := .collected D, args := #[] } :: ds) Wd := ⟨D, rfl, by omega, hDm, hmt D (by omega), hmb Wd hBx⟩
          have hBd : Below W.heap.size W Wd := hBn.trans (hBx.mono hWr)
          have hme : 2 - ((r : Int) + 1).toNat < 2 - (r : Int).toNat := by omega
          gi_wp2_with fail
          all_goals
            generalize ha1 : (Act.mk _ _) = a1
            exact ⟨⟨r + 1, fun k => a1.tmps.getD k undef, _, by omega, by rw [← ha1]; rfl, hBd, hMd⟩, hme⟩
        case stop =>
          rintro D c pre Wd hD hpre hix hDm
          rcases hix with ⟨_, h⟩ | ⟨rfl, hpl, ⟨hc, hfz⟩, hBx⟩
          · exact absurd hpre h
          · have hKx := hKn.below (hBx.mono hWr)
            obtain ⟨pw, cw, hw1, hw2⟩ := hKx.wn
            have hm := hKx.m
            have hMd : MarksOk W.heap.size ({ target := .collected D, args := #[] } :: ds) Wd := ⟨D, rfl, by omega, hDm, hmt D (by omega), hmb Wd hBx⟩
            have hBd : Below W.heap.size W Wd := hBn.trans (hBx.mono hWr)
            have hme : 2 - ((r : Int) + 1).toNat < 2 - (r : Int).toNat := by omega
            gi_wp2_with fail
            all_goals
              generalize ha1 : (Act.mk _ _) = a1
              exact ⟨⟨r + 1, fun k => a1.tmps.getD k undef, _, by omega, by rw [← ha1]; rfl, hBd, hMd⟩, hme⟩
      · obtain rfl : r = 2 := by omega
        have hrr := hKr.r
        have hr1 : wr.cell? ⟨w.heap.size + 1, 0, none⟩ = some (.bool false) := by simp only [World.cell?, hrr]; rfl
        have hrf : wr.frozen? ⟨w.heap.size + 1, 0, none⟩ = false := by simp only [World.frozen?, hrr]; simp
        have hl1 := hKr.l1
        gi_wp2_with fail
        go_wp2_with fail
        have hBs' : Below w.heap.size w (wr.setCell ⟨w.heap.size + 1, 0, none⟩ (.bool true)) := (hBw.trans (hBr.mono hBw.size)).setCell (by show w.heap.size ≤ w.heap.size + 1; omega) _
        refine leaves_marks (n₀ := W.heap.size) ds _ ?_ fun W' hb => ?_
        · exact hMk.set hl1
        · refine ⟨.bool true, ?_, rfl, hBs'.trans (hb.mono (by omega))⟩
          have hcr : W'.cell? ⟨w.heap.size + 1, 0, none⟩ = some (.bool true) := (hb.cell (p := ⟨w.heap.size + 1, 0, none⟩) hl1).trans (World.cell?_setCell_same' _ _ _ (by rw [hr1]; rfl))
          simp [results, Try.results3, go_sem, hcr]
theorem TreeKids_any (pp : Option Addr) (cp : Nat) (es : List El) (i most : Int) (w : World) (hr : ERow w pp w.heap.size es) (hl : es.length * 72 ≤ 140737488351232) (ha : ∀ e ∈ es, e.ats.length * 40 ≤ 140737488351232) (hd : ∀ e ∈ es, -9223372036854775808 ≤ e.d ∧ e.d ≤ 9223372036854775807)
    (hi : i ≤ 9223372036854775807) (hm : most ≤ 9223372036854775807) :
    Calls Try.prog 3 #[.slice pp es.length cp, .int .i64 i, .int .i64 most] w fun e w' => e = .returned (.bool true) ∧ Below w.heap.size w w' :=
  (callsIn_wide (n := 9)).1 (TreeKids_in pp cp es i most w hr hl ha hd hi hm)
end Go.Proofs.Ytchfphakhmifmaa
