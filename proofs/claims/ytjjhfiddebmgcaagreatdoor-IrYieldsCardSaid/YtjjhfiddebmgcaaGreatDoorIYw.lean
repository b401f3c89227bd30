/- IYw. -/
import Derived.Test.YtjjhfiddebmgcaaGreatDoorIYl
import Derived.Deep.CutBlock
import Derived.Deep.CutRange
import Derived.Laws.EntriesVeiled
namespace Go.Proofs.YtjjhfiddebmgcaaGreatDoor
open Go.ChangeShapes Go.WideShapes Go.ChangeAt Go.RowKit Go.Shelf Go.Maps
open J
attribute [local go_sem] Oper.semAt_some

theorem eq_seq_some (fuel : Nat) (fn : Fn) (a b : Array Value) (w : World) : (Op.equalIn (fuel + 1) 35 (.func fn a b) .nilFunc).run Tryz.prog w = .ok false w := by
  simp [Op.equalIn, run_underlying Tryz.underlying35]
theorem eq_seq_nil (fn : Fn) (a b : Array Value) (w : World) : (binOp .eql 35 (.func fn a b) .nilFunc).run Tryz.prog w = .ok (.bool false) w := by
  simp only [binOp]
  simp [show Op.equal 35 (.func fn a b) .nilFunc = Op.equalIn (9999 + 1) 35 (.func fn a b) .nilFunc from rfl, eq_seq_some 9999 fn a b w]
/-- How often the law goes on at most. -/
def mostN (most : Int) (len : Nat) : Nat := if most < 1 ∨ (len : Int) < most then len + 1 else most.toNat
/-- The calls of the law. -/
structure YC (w : World) (f : Fm) (i : Int) (pp : Option Addr) (cp : Nat) (kp kl : List Nat) : Prop where
  rP : ∀ W, Below w.heap.size w W → Calls Tryz.prog 4 #[fmV f pp cp, .int .i64 i] W fun r w' => ∃ v, r = .returned v ∧ NRow w' W.heap.size v kp ∧ Below W.heap.size W w'
  rL : ∀ W, Below w.heap.size w W → Calls Tryz.prog 7 #[fmV f pp cp, .int .i64 i] W fun r w' => ∃ v, r = .returned v ∧ NRow w' W.heap.size v kl ∧ Below W.heap.size W w'
  pP : ∀ W g cap, Below w.heap.size w W → TkL W (some ⟨g, 0, none⟩) W.heap.size f.toks → Calls Tryz.prog 6 #[fmV f (some ⟨g, 0, none⟩) cap, .int .i64 i] W fun e w' => SeqPost W kp e w'
  pL : ∀ W g cap, Below w.heap.size w W → TkL W (some ⟨g, 0, none⟩) W.heap.size f.toks → Calls Tryz.prog 8 #[fmV f (some ⟨g, 0, none⟩) cap, .int .i64 i] W fun e w' => SeqPost W kl e w'
theorem three_b (w : World) (a b c : Obj) : Below w.heap.size w (((w.alloc a).alloc b).alloc c) := ((two_b w a b).alloc (by simp; omega) c)
theorem three_s (w : World) (a b c : Obj) : (((w.alloc a).alloc b).alloc c).heap.size = w.heap.size + 3 := by simp
theorem three_1 (w : World) (a b c : Obj) : (((w.alloc a).alloc b).alloc c).heap[w.heap.size]? = some a := (heap_alloc_old ((w.alloc a).alloc b) c (by simp; omega)).trans (two_1 w a b)
theorem three_2 (w : World) (a b c : Obj) : (((w.alloc a).alloc b).alloc c).heap[w.heap.size + 1]? = some b := (heap_alloc_old ((w.alloc a).alloc b) c (by simp)).trans (two_2 w a b)
theorem three_3 (w : World) (a b c : Obj) : (((w.alloc a).alloc b).alloc c).heap[w.heap.size + 2]? = some c := by have := heap_al ((w.alloc a).alloc b) c; simpa only [World.size_alloc] using this
theorem sets_grown {w : World} {g : Nat} : ∀ (vs : List Value) (o : Nat), w.grownBy (w.setCells g o vs) (some g) := fun vs o => by
  have h := bel_sets (B := g) (b := g) (Nat.le_refl _) vs o w (Below.refl _ _)
  exact ⟨h.os, h.tape, h.output, h.size, fun j _ hne => sets_other (fun e => hne (by rw [e])) _ _ _⟩
theorem set_step {w5 wr : World} {g n o : Nat} {L : List Value} (hG : w5.grownBy wr (some g)) (hth : wr.there g 0 n) : w5.grownBy (wr.setCells g o L) (some g) ∧ (wr.setCells g o L).there g 0 n :=
  ⟨hG.trans (sets_grown L o), World.there_setCells hth _ _ _⟩
set_option maxRecDepth 100000 in
set_option maxHeartbeats 8000000 in
theorem IrYields_in (f : Fm) (i most : Int) (lv : Bool) (kp kl : List Nat) (pp : Option Addr) (cp : Nat) (w : World) (hr : TkL w pp w.heap.size f.toks) (hlm : f.toks.length * 192 ≤ 140737488351232) (hcm : ∀ t ∈ f.toks, t.cst.length * 8 ≤ 140737488351232)
    (hc : YC w f i pp cp kp kl) (hkp : kp.length ≤ f.toks.length) (hkl : kl.length ≤ f.toks.length) (hm : most ≤ 9223372036854775807) :
    CallsIn Fence.wide 9 Tryz.prog 3 #[fmV f pp cp, .int .i64 i, .int .i64 most, .bool lv] w fun e w' => e = .returned (.bool true) ∧ Below w.heap.size w w' := by
  have hbA := three_b w (fmO f pp cp) (.cells #[.int .i64 most] 3) (.cells #[.bool false] 4)
  have hsA := three_s w (fmO f pp cp) (.cells #[.int .i64 most] 3) (.cells #[.bool false] 4)
  have hA1 := three_1 w (fmO f pp cp) (.cells #[.int .i64 most] 3) (.cells #[.bool false] 4)
  have hA2 := three_2 w (fmO f pp cp) (.cells #[.int .i64 most] 3) (.cells #[.bool false] 4)
  have hA3 := three_3 w (fmO f pp cp) (.cells #[.int .i64 most] 3) (.cells #[.bool false] 4)
  have cR := hc.rP _ hbA
  have l1 : Hid _ := ⟨(fm_of hA1).load⟩
  refine callsIn_of_wp_marks Tryz.func3 rfl trivial ?_ rfl
  simp only [Tryz.ntmps3, List.size_toArray, List.length_cons, List.length_nil, Nat.reduceAdd, Nat.reduceSub, Array.replicate_succ, Array.replicate_zero, List.push_toArray, List.append_toArray, List.nil_append, List.cons_append]
  refine wpIn_wide.2 ?_
  go_upto_region 2 with (first
    | (guard_target =~ wpList _ _ _ (Oper.mk _ (Op.load 30 _) _ _ _ _ :: _) _ _; go_must (refine wpList_ld 30 (.tmp 4) rfl rfl _ _ rfl l1.out ?_); simp only [pts])
    | (go_at_call 4; refine cR.mono ?_; rintro e w1 ⟨v, rfl, hR1, hB1⟩; obtain ⟨pq, cq, rfl, -⟩ := hR1.shape))
  have hsz1 := hB1.size
  have e1 : ∀ k, k < w.heap.size + 3 → (w1.alloc (.cells #[.slice pq kp.length cq] 31)).heap[k]? = (((w.alloc (fmO f pp cp)).alloc (.cells #[.int .i64 most] 3)).alloc (.cells #[.bool false] 4)).heap[k]? := fun k hk => (heap_alloc_old w1 _ (by omega)).trans (hB1.block k (by omega))
  replace hB1 := hbA.trans (hB1.mono hbA.size)
  replace hA1 := (e1 _ (by omega)).trans hA1
  replace hA2 := (e1 _ (by omega)).trans hA2
  replace hA3 := (e1 _ (by omega)).trans hA3
  rw [hsA] at hR1 hsz1
  clear e1 hsA hbA cR l1
  have hw1 := heap_al w1 (.cells #[.slice pq kp.length cq] 31)
  replace hR1 := hR1.below (nbel w1 (.cells #[.slice pq kp.length cq] 31))
  have hng1 : ∀ k, (Value.slice pq kp.length cq).ownBlock = some k → k < w1.heap.size + 1 := fun k hk => by have := (World.ownsRow.lt hR1 k hk).2; simpa using this
  replace hB1 := hB1.trans ((nbel w1 (.cells #[.slice pq kp.length cq] 31)).mono hB1.size)
  have hs1 : (w1.alloc (.cells #[.slice pq kp.length cq] 31)).heap.size = w1.heap.size + 1 := World.size_alloc _ _
  have cC := copied12 f pp cp _ ((hr.below hB1).mono hB1.size) hlm hcm
  have l2 : Hid _ := ⟨(fm_of hA1).load⟩
  generalize hW1 : w1.alloc (.cells #[.slice pq kp.length cq] 31) = W1 at *
  clear hW1
  go_upto_region 3 with (first
    | (guard_target =~ wpList _ _ _ (Oper.mk _ (Op.load 30 _) _ _ _ _ :: _) _ _; go_must (refine wpList_ld 30 (.tmp 4) rfl rfl _ _ rfl l2.out ?_); simp only [pts])
    | (go_at_call 5; refine cC.mono ?_; rintro e w2 ⟨g, cap, ps, rfl, hps, hC2, hB2⟩; have s2 : Hid _ := ⟨fun z hz => st_newF w2 z hz f (some ⟨g, 0, none⟩) cap⟩)
    | (guard_target =~ wpList _ _ _ (Oper.mk _ (Op.store 30 _ _) _ _ _ _ :: _) _ _; go_must (refine wpList_st 30 (.tmp 10) (.tmp 22) rfl rfl _ _ rfl rfl (s2.out _ rfl) ?_); simp only [pts]))
  clear l2 s2 cC
  have hYB : YB w f pp cp most w1.heap.size w2.heap.size g cap ps (w2.alloc (fmO f (some ⟨g, 0, none⟩) cap)) := by
    have hs2 := hB2.size
    have h2 : ∀ k, k < W1.heap.size → (w2.alloc (fmO f (some ⟨g, 0, none⟩) cap)).heap[k]? = W1.heap[k]? := fun k hk => (heap_alloc_old w2 _ (by omega)).trans (hB2.block k hk)
    have hC3 := hC2.below (nbel w2 (fmO f (some ⟨g, 0, none⟩) cap))
    rw [hs1] at hC3
    exact ⟨(h2 _ (by omega)).trans hA1, (h2 _ (by omega)).trans hA2, (h2 _ (by omega)).trans hA3, heap_al _ _, hC3, hC2.lt.2, fun x hx => (hC2.good x hx).1.lt.2, by omega, (hB1.trans (hB2.mono hB1.size)).alloc (by have := hB1.size; omega) _⟩
  have hw2 : (w2.alloc (fmO f (some ⟨g, 0, none⟩) cap)).heap[w1.heap.size]? = some (.cells #[.slice pq kp.length cq] 31) := (heap_alloc_old w2 _ (by have := hB2.size; omega)).trans ((hB2.block _ (by omega)).trans hw1)
  have hR2 : NRow (w2.alloc (fmO f (some ⟨g, 0, none⟩) cap)) (w.heap.size + 3) (.slice pq kp.length cq) kp := (hR1.below hB2).below (nbel _ _)
  have hng2 : (Value.slice pq kp.length cq).ownBlock ≠ some g := fun e => by have := hng1 g e; have := hC2.lt.1; omega
  have hgl : g < w2.heap.size := hC2.lt.2
  have hs2 : (w2.alloc (fmO f (some ⟨g, 0, none⟩) cap)).heap.size = w2.heap.size + 1 := World.size_alloc _ _
  have h12 : w1.heap.size + 1 ≤ w2.heap.size := by have := hB2.size; omega
  clear hA1 hA2 hA3 hC2 hB1 hB2 hw1 hng1 hR1
  generalize hW2 : w2.alloc (fmO f (some ⟨g, 0, none⟩) cap) = W2 at *
  clear hW2 hs1
  have hT2 : TkL W2 (some ⟨g, 0, none⟩) W2.heap.size f.toks := ⟨hps ▸ hYB.c.trow, hr.len, hr.ok⟩
  have cP := hc.pP W2 g cap hYB.b hT2
  have l3 : Hid _ := ⟨(fm_of hYB.o).load⟩
  go_upto_region 4 with (first
    | (guard_target =~ wpList _ _ _ (Oper.mk _ (Op.load 30 _) _ _ _ _ :: _) _ _; go_must (refine wpList_ld 30 (.tmp 10) rfl rfl _ _ rfl l3.out ?_); simp only [pts])
    | (go_at_call 6; refine cP.mono ?_; rintro e w3 ⟨Bs, vs, rfl, hBs, hb3, hR3, hB3⟩))
  clear l3 cP hT2
  have hY3 : YB w f pp cp most w1.heap.size w2.heap.size g cap ps (w3.alloc (.cells #[.func (.func 21) #[] #[.pointer (some ⟨Bs, 0, none⟩)]] 35)) := by
    have hs3 := hB3.size
    exact hYB.same ((hYB.b.trans (hB3.mono hYB.b.size)).alloc (by have := hYB.b.size; omega) _) fun k hk _ => (heap_alloc_old w3 _ (by omega)).trans (hB3.block k (by omega))
  have hW3 : YW (w3.alloc (.cells #[.func (.func 21) #[] #[.pointer (some ⟨Bs, 0, none⟩)]] 35)) (w.heap.size + 3) g w1.heap.size w3.heap.size kp := by
    have hs3 := hB3.size
    have hbx := nbel w3 (.cells #[.func (.func 21) #[] #[.pointer (some ⟨Bs, 0, none⟩)]] 35)
    exact ⟨_, Bs, vs, (heap_alloc_old w3 _ (by omega)).trans ((hB3.block _ (by omega)).trans hw2), (hR2.below hB3).below hbx, hng2, heap_al w3 _, (heap_alloc_old w3 _ (Array.getElem?_eq_some_iff.1 hb3).1).trans hb3, (hR3.below hbx).low (by omega), fun e => by have := (World.ownsRow.lt hR3 g e).1; omega, by omega⟩
  have hs3 : (w3.alloc (.cells #[.func (.func 21) #[] #[.pointer (some ⟨Bs, 0, none⟩)]] 35)).heap.size = w3.heap.size + 1 := World.size_alloc _ _
  have h23 : w2.heap.size + 1 ≤ w3.heap.size := by have := hB3.size; omega
  clear hw2 hR2 hng2 hb3 hR3 hB3 hYB hBs
  generalize hW3e : w3.alloc (.cells #[.func (.func 21) #[] #[.pointer (some ⟨Bs, 0, none⟩)]] 35) = W3 at *
  clear hW3e hs2
  go_upto_if 26 with fail
  go_cut [9] from 27 to 32 (fun s wx => s = .pointer (some ⟨w1.heap.size, 0, none⟩) ∧ Hid (YB w f pp cp most w1.heap.size w2.heap.size g cap ps wx ∧ YW wx (w.heap.size + 3) g w1.heap.size w3.heap.size (if lv = true then kl else kp) ∧ W3.heap.size ≤ wx.heap.size))
  case first =>
    as_aux_lemma =>
    cases lv with
    | false =>
      go_wp2_with fail
      go_meet
      case rel => exact ⟨rfl, ⟨hY3, hW3, Nat.le_refl _⟩⟩
    | true =>
      obtain ⟨v0, Bs0, vs0, z1, -, -, z2, -, -, -, -⟩ := hW3
      have cL := hc.rL W3 hY3.b
      have l4 : Hid _ := ⟨(fm_of hY3.f0).load⟩
      go_upto_region 6 with (first
        | (guard_target =~ wpList _ _ _ (Oper.mk _ (Op.load 30 _) _ _ _ _ :: _) _ _; go_must (refine wpList_ld 30 (.tmp 4) rfl rfl _ _ rfl l4.out ?_); simp only [pts])
        | (go_at_call 7; refine cL.mono ?_; rintro e w4 ⟨v, rfl, hR4, hB4⟩; obtain ⟨pv, cv, rfl, -⟩ := hR4.shape; have z3 : w4.heap[w1.heap.size]? = some (.cells #[v0] 31) := (hB4.block _ (by omega)).trans z1; have z4 : w4.cell? ⟨w1.heap.size, 0, none⟩ = some v0 := cell_at z3 0; have z5 : w4.frozen? ⟨w1.heap.size, 0, none⟩ = false := froz z3 0))
      have hs4 := hB4.size
      have hs4' : (w4.setCell ⟨w1.heap.size, 0, none⟩ (.slice pv kl.length cv)).heap.size = w4.heap.size := by simp [World.setCell]
      have ho4 : ∀ k, k ≠ w1.heap.size → (w4.setCell ⟨w1.heap.size, 0, none⟩ (.slice pv kl.length cv)).heap[k]? = w4.heap[k]? := fun k hk => heap_setCell_other w4 _ k _ hk
      have hn4 : ∀ k, (Value.slice pv kl.length cv).ownBlock = some k → W3.heap.size ≤ k ∧ k < w4.heap.size := fun k hk => World.ownsRow.lt hR4 k hk
      have hY4 : YB w f pp cp most w1.heap.size w2.heap.size g cap ps (w4.setCell ⟨w1.heap.size, 0, none⟩ (.slice pv kl.length cv)) := hY3.same ((hY3.b.trans (hB4.mono hY3.b.size)).setCell (p := ⟨w1.heap.size, 0, none⟩) (by show w.heap.size ≤ w1.heap.size; omega) _) fun k hk hne => (ho4 k hne).trans (hB4.block k (by omega))
      have hR5 : NRow (w4.setCell ⟨w1.heap.size, 0, none⟩ (.slice pv kl.length cv)) W3.heap.size (.slice pv kl.length cv) kl := hR4.same fun k hk => ho4 k (by have := (hn4 k hk).1; omega)
      have hw5 : (w4.setCell ⟨w1.heap.size, 0, none⟩ (.slice pv kl.length cv)).heap[w1.heap.size]? = some (.cells #[.slice pv kl.length cv] 31) := Boxed.set (.slice pv kl.length cv) z3
      have hq5 : (w4.setCell ⟨w1.heap.size, 0, none⟩ (.slice pv kl.length cv)).heap[w3.heap.size]? = some (.cells #[.func (.func 21) #[] #[.pointer (some ⟨Bs0, 0, none⟩)]] 35) := (ho4 _ (by omega)).trans ((hB4.block _ (by omega)).trans z2)
      clear z1 z2 z3 z4 z5 hB4 hR4 cL l4 hY3
      generalize hW5 : w4.setCell ⟨w1.heap.size, 0, none⟩ (.slice pv kl.length cv) = W5 at *
      clear hW5 ho4
      have hT5 : TkL W5 (some ⟨g, 0, none⟩) W5.heap.size f.toks := ⟨hps ▸ hY4.c.trow, hr.len, hr.ok⟩
      have cP := hc.pL W5 g cap hY4.b hT5
      have l5 : Hid _ := ⟨(fm_of hY4.o).load⟩
      go_wp2_with (first
        | (guard_target =~ wpList _ _ _ (Oper.mk _ (Op.load 30 _) _ _ _ _ :: _) _ _; go_must (refine wpList_ld 30 (.tmp 10) rfl rfl _ _ rfl l5.out ?_); simp only [pts])
        | (go_at_call 8; refine cP.mono ?_; rintro e w6 ⟨Bt, vt, rfl, hBt, hb6, hR6, hB6⟩; have z3 := (hB6.block w3.heap.size (by omega)).trans hq5; have z4 := cell_at z3 0; have z5 := froz z3 0))
      go_meet
      case rel =>
        have ho6 : ∀ k, k ≠ w3.heap.size → (w6.setCell ⟨w3.heap.size, 0, none⟩ (.func (.func 21) #[] #[.pointer (some ⟨Bt, 0, none⟩)])).heap[k]? = w6.heap[k]? := fun k hk => heap_setCell_other w6 _ k _ hk
        have hs6 := hB6.size
        refine ⟨rfl, ⟨hY4.same ((hY4.b.trans (hB6.mono hY4.b.size)).setCell (p := ⟨w3.heap.size, 0, none⟩) (by show w.heap.size ≤ w3.heap.size; omega) _) fun k hk _ => (ho6 k (by omega)).trans (hB6.block k (by omega)), ?_, by simp [World.setCell]; omega⟩⟩
        rw [if_pos trivial]
        refine ⟨_, Bt, vt, (ho6 _ (by omega)).trans ((hB6.block _ (by omega)).trans hw5), ((hR5.below hB6).same fun k hk => ho6 k (by have := (hn4 k hk).1; omega)).low (by omega), fun e => by have := (hn4 g e).1; omega, Boxed.set (.func (.func 21) #[] #[.pointer (some ⟨Bt, 0, none⟩)]) z3, (ho6 _ (by omega)).trans hb6, (hR6.same fun k hk => ho6 k (by have := (World.ownsRow.lt hR6 k hk).1; omega)).low (by omega), fun e => by have := (World.ownsRow.lt hR6 g e).1; omega, by omega⟩
  obtain ⟨rfl, hcut⟩ := hcut
  obtain ⟨hYB, hYW, hsx⟩ := hcut.out
  clear hcut hY3 hW3
  have hKN : (if lv = true then kl else kp).length ≤ f.toks.length := by split <;> assumption
  generalize (if lv = true then kl else kp) = KN at hYW hKN
  obtain ⟨v, Bs', vs', y1, y2, y3, y4, y5, y6, y7, y8⟩ := hYW
  clear hkp hkl hc
  obtain ⟨pw, cw, rfl, -⟩ := y2.shape
  have hnil := fun W => eq_seq_nil (.func 21) #[] #[.pointer (some ⟨Bs', 0, none⟩)] W
  have z4 : wc.cell? ⟨w3.heap.size, 0, none⟩ = some (.func (.func 21) #[] #[.pointer (some ⟨Bs', 0, none⟩)]) := cell_at y4 0
  have l10 : Hid _ := ⟨(fm_of hYB.o).load⟩
  have l4 : Hid _ := ⟨(fm_of hYB.f0).load⟩
  have c7 := untouched12 f g cap ps (w1.heap.size + 1) pp cp wc hYB.c hps ((hr.below hYB.b).mono hYB.b.size)
  go_upto_region 9 with (first
    | (guard_target =~ wpList _ _ _ (Oper.mk _ (Op.load 30 _) _ _ _ _ :: _) _ _; go_must (first | refine wpList_ld 30 (.tmp 10) rfl rfl _ _ rfl l10.out ?_ | refine wpList_ld 30 (.tmp 4) rfl rfl _ _ rfl l4.out ?_); simp only [pts])
    | (go_at_call 9; refine c7.mono ?_; rintro e w5 ⟨rfl, hB7⟩))
  clear l10 l4 hnil z4 c7
  have hs5 := hB7.size
  have hgx : g < wc.heap.size := hYB.c.lt.2
  have ht5 : w5.there g 0 (cap * 21) := by
    have h := own_keep hYB.c.row hB7
    rcases h.2 with ⟨e, _⟩ | ⟨g', cp', cur, e, _, hg', _, _, hs', _⟩
    · cases e
    · injection e with e1 e2 e3
      injection e1 with e1
      injection e1 with e1
      subst e1 e3
      have := there_of hg'
      rwa [hs'] at this
  have hroom := hYB.c.room
  have hpl : ps.length = f.toks.length := by rw [← hps, List.length_map]
  have hob : w5.heap[w2.heap.size]? = some (fmO f (some ⟨g, 0, none⟩) cap) := (hB7.block _ (by omega)).trans hYB.o
  replace ht5 : Hid _ := ⟨ht5⟩
  replace hob : Hid _ := ⟨hob⟩
  go_wp2_with fail
  go_loopw [12] (fun i wr => ∃ k : Nat, k ≤ f.toks.length ∧ i = .int .i64 k ∧ w5.grownBy wr (some g) ∧ Hid (wr.there g 0 (cap * 21))) (fun i _ => f.toks.length - (RowKit.intOf i).toNat)
  case atStart => exact ⟨0, Nat.zero_le _, rfl, ⟨rfl, rfl, rfl, Nat.le_refl _, fun _ _ _ => rfl⟩, ht5⟩
  case round =>
    obtain ⟨k, hk, rfl, hG, hth⟩ := hrel
    have x12 : wr.cell? ⟨w2.heap.size, 12, none⟩ = some (.slice (some ⟨g, 0, none⟩) f.toks.length cap) := (fm_of ((hG.block _ (by omega) (by intro e; injection e with e; omega)).trans hob.out)).c12
    by_cases hlt : k < f.toks.length
    · have hlt2 : (k : Int) < f.toks.length := by omega
      have htk : wr.there g (k * 21) 21 := fun j hj => by
        have := hth.out (k * 21 + j) (by omega)
        rwa [Nat.zero_add] at this
      have s7 : Hid _ := ⟨run_storeAt_mid (P := Tryz.prog) wr g (k * 21) 43 (tkC ⟨14, ⟨#[]⟩, 0, 0, 0, 0, 0, 0, 0, 0, 0, 0, [], 0, 0, 0, ⟨0, 0⟩, ⟨0, 0⟩, 1⟩ none 0).toArray htk infoTk (all_oneCell_toArray (tkC_one _ _ _))⟩
      replace hG : Hid _ := ⟨hG⟩
      clear htk
      go_wp2_with (guard_target =~ wpList _ _ _ (Oper.mk _ (Op.store 43 _ _) _ _ _ _ :: _) _ _; go_must (refine wpList_st 43 (.tmp 52) (.tmp 51) rfl rfl _ _ rfl rfl s7.out ?_); simp only [pts])
      exact ⟨⟨k + 1, by omega, by go_num, (set_step hG.out hth.out).1, ⟨(set_step hG.out hth.out).2⟩⟩, by simp [RowKit.intOf]; omega⟩
    · obtain rfl : k = f.toks.length := by omega
      have hfar : ∀ k, k ≠ g → k < wc.heap.size → wr.heap[k]? = wc.heap[k]? := fun k h1 h2 => (hG.block k (by omega) (by intro e; injection e with e; omega)).trans (hB7.block k h2)
      have hcg := hYB.c.lt.1
      have hszr := hG.size
      have d0 : wr.heap[w.heap.size + 1]? = some (.cells #[.int .i64 most] 3) := (hfar _ (by omega) (by omega)).trans hYB.m
      have d1 : wr.heap[w.heap.size + 2]? = some (.cells #[.bool false] 4) := (hfar _ (by omega) (by omega)).trans hYB.r
      have d2 := (hfar _ (by omega) (by omega)).trans y1
      have d4 := (hfar _ (by omega) (by omega)).trans y4
      have d5 := (hfar _ y8 (Array.getElem?_eq_some_iff.1 y5).1).trans y5
      have d3 : NRow wr (w.heap.size + 3) (.slice pw KN.length cw) KN := y2.same fun k hk => hfar k (fun e => y3 (by rw [← e]; exact hk)) (World.ownsRow.lt y2 k hk).2
      have d6 : NRow wr (w.heap.size + 3) vs' KN := y6.same fun k hk => hfar k (fun e => y7 (by rw [← e]; exact hk)) (World.ownsRow.lt y6 k hk).2
      have hBw : Below w.heap.size w wr := hYB.b.trans ⟨hG.os.trans hB7.os, hG.tape.trans hB7.tape, hG.output.trans hB7.output, by omega, fun k hk => hfar k (by omega) (by have := hYB.b.size; omega)⟩
      have hwb := hYB.wB
      have hBs8 : Bs' < wr.heap.size := by have := (Array.getElem?_eq_some_iff.1 y5).1; omega
      have hlen := hlm
      clear y1 y2 y3 y4 y5 y6 y7 y8 hfar hB7 hG hth hob ht5 hYB hr hcm
      have hBne : Bs' ≠ w.heap.size + 1 := fun e => by
        have d5' := d5
        rw [e, d0] at d5'
        simp at d5'
      go_upto_region 13 with fail
      go_cut [60] from 53 to 60 (fun s wx => s = .bool (decide (most < 1 ∨ (KN.length : Int) < most)) ∧ wx = wr)
      case first =>
        as_aux_lemma =>
        have e0 : wr.cell? ⟨w.heap.size + 1, 0, none⟩ = some (.int .i64 most) := cell_at d0 0
        have e2 : wr.cell? ⟨w1.heap.size, 0, none⟩ = some (.slice pw KN.length cw) := cell_at d2 0
        clear d0 d1 d2 d3 d4 d5 d6 hBw
        by_cases h1 : most < 1
        · have b1 : decide (most < 1) = true := by simp [h1]
          have HB : Hid (decide (most < 1 ∨ (KN.length : Int) < most) = true) := ⟨by simp [h1]⟩
          go_wp2_with fail
          go_meet
          case rel => exact ⟨by rw [HB.out], rfl⟩
        · have b1 : decide (most < 1) = false := by simp [h1]
          by_cases h2 : (KN.length : Int) < most
          · have b2 : decide ((KN.length : Int) < most) = true := by simp [h2]
            have HB : Hid (decide (most < 1 ∨ (KN.length : Int) < most) = true) := ⟨by simp [h2]⟩
            go_wp2_with fail
            go_meet
            case rel => exact ⟨by rw [HB.out], rfl⟩
          · have b2 : decide ((KN.length : Int) < most) = false := by simp [h2]
            have HB : Hid (decide (most < 1 ∨ (KN.length : Int) < most) = false) := ⟨by simp [h1]; omega⟩
            go_wp2_with fail
            go_meet
            case rel => exact ⟨by rw [HB.out], rfl⟩
      obtain ⟨rfl, rfl⟩ := hcut
      go_upto_if 60 with fail
      go_cut [6] from 61 to 63 (fun s wx => s = .pointer (some ⟨w.heap.size + 1, 0, none⟩) ∧ Hid (KS wx.heap.size (w.heap.size + 1) w1.heap.size w3.heap.size Bs' (mostN most KN.length) KN wx ∧ Below w.heap.size w wx))
      case first =>
        as_aux_lemma =>
        have key : ∀ wx : World, wx.heap.size = wc.heap.size → (∀ k, k ≠ w.heap.size + 1 → wx.heap[k]? = wc.heap[k]?) → wx.cell? ⟨w.heap.size + 1, 0, none⟩ = some (.int .i64 (mostN most KN.length : Int)) → KS wx.heap.size (w.heap.size + 1) w1.heap.size w3.heap.size Bs' (mostN most KN.length) KN wx := fun wx hs he hmc => by
          have r3 : NRow wx (w.heap.size + 3) (.slice pw KN.length cw) KN := d3.same fun k hk => he k (by have := (World.ownsRow.lt d3 k hk).1; omega)
          have r6 : NRow wx (w.heap.size + 3) vs' KN := d6.same fun k hk => he k (by have := (World.ownsRow.lt d6 k hk).1; omega)
          refine ⟨hmc, (he _ (by omega)).trans d1, ?_, cell_at ((he _ (by omega)).trans d4) 0, ?_, by omega, by omega, by omega, by omega⟩
          · obtain ⟨pp', cp', e, h2⟩ := r3.shape
            exact ⟨pp', cp', by rw [← e]; exact cell_at ((he _ (by omega)).trans d2) 0, h2⟩
          · obtain ⟨pp', cp', e, h2⟩ := r6.shape
            exact ⟨pp', cp', by rw [← e]; exact cell_at ((he Bs' hBne).trans d5) 0, h2⟩
        by_cases h1 : most < 1 ∨ (KN.length : Int) < most
        · have b1 : decide (most < 1 ∨ (KN.length : Int) < most) = true := by simp only [decide_eq_true_eq]; exact h1
          have hM : Hid (mostN most KN.length = KN.length + 1) := ⟨if_pos h1⟩
          have e2 : wc.cell? ⟨w1.heap.size, 0, none⟩ = some (.slice pw KN.length cw) := cell_at d2 0
          have e0 : wc.cell? ⟨w.heap.size + 1, 0, none⟩ = some (.int .i64 most) := cell_at d0 0
          have f0 : wc.frozen? ⟨w.heap.size + 1, 0, none⟩ = false := froz d0 0
          have hK1 : Hid _ := ⟨key⟩
          clear key d0 d1 d2 d3 d4 d5 d6
          go_wp2_with fail
          go_meet
          case rel =>
            refine ⟨rfl, ⟨hK1.out _ (by simp [World.setCell]) (fun k hk => heap_setCell_other wc _ k _ hk) ?_, hBw.setCell (p := ⟨w.heap.size + 1, 0, none⟩) (by show w.heap.size ≤ w.heap.size + 1; omega) _⟩⟩
            rw [hM.out]
            exact World.cell?_setCell_same' _ _ _ (by rw [e0]; rfl)
        · have b1 : decide (most < 1 ∨ (KN.length : Int) < most) = false := by simp only [decide_eq_false_iff_not]; exact h1
          have hM : Hid ((mostN most KN.length : Int) = most) := ⟨by unfold mostN; rw [if_neg h1]; omega⟩
          have hK1 : Hid _ := ⟨key wc rfl (fun _ _ => rfl) (by rw [hM.out]; exact cell_at d0 0)⟩
          clear key
          go_wp2_with fail
          go_meet
          case rel => exact ⟨rfl, ⟨hK1.out, hBw⟩⟩
      obtain ⟨rfl, hcut⟩ := hcut
      obtain ⟨hKS, hBw'⟩ := hcut.out
      clear hcut hBw
      have hBw := hBw'
      have hKNl := hKN
      clear d0 d1 d2 d3 d4 d5 d6 x12 hBw' hps hBs8 hszr
      go_upto_block 2 with fail
      rename World => W
      refine (wpIn_wide (n := 9)).1 ?_
      gi_wp2_with fail
      have hM1 : 1 ≤ mostN most KN.length := by unfold mostN; split <;> omega
      generalize mostN most KN.length = M at *
      generalize ha0 : (Act.mk _ _) = a0
      have hstart : a0 = { tmps := KA (w.heap.size + 1) w1.heap.size w3.heap.size ((0 : Nat) : Int) (fun k => a0.tmps.getD k undef), defers := [] } := by rw [← ha0]; rfl
      clear ha0
      refine wpIn_loop (fun a wr => ∃ (r : Nat) (u : Nat → Value) (ds : List Deferred), r ≤ 2 ∧ a = { tmps := KA (w.heap.size + 1) w1.heap.size w3.heap.size (r : Int) u, defers := ds } ∧ Below W.heap.size W wr ∧ MarksOk W.heap.size ds wr)
        (fun a _ => 2 - (RowKit.intOf (a.tmps.getD 13 undef)).toNat) ⟨0, fun k => a0.tmps.getD k undef, [], by omega, hstart, Below.refl _ _, trivial⟩ ?_
      clear hstart
      rintro a wr ⟨r, u, ds, hr2, rfl, hBr, hMk⟩
      have hKr := hKS.below hBr
      by_cases hr3 : r < 2
      · have hr4 : (r : Int) < 2 := by omega
        have hsq := hKr.sq
        have hbx : Below wr.heap.size wr (wr.alloc (.cells #[.int .i64 0] 3)) := (Below.refl _ _).alloc (Nat.le_refl _) _
        have hsq' := (hbx.cell (p := ⟨w3.heap.size, 0, none⟩) (by have := hKr.l3; have := hBr.size; show w3.heap.size < _; omega)).trans hsq
        gi_wp2_with fail
        have hN0 : (wr.alloc (.cells #[.int .i64 0] 3)).heap[wr.heap.size]? = some (.cells #[.int .i64 0] 3) := thnK wr _
        have hWr := hBr.size
        have hNBs : NBox wr.heap.size Bs' KN (wr.alloc (.cells #[.int .i64 0] 3)) := (hKr.bs.mono hWr).below hbx (by have := hKr.l4; omega)
        have hMk' := hMk.below hbx
        have hKn := hKr.below (hbx.mono hWr)
        have hBn : Below W.heap.size W (wr.alloc (.cells #[.int .i64 0] 3)) := hBr.trans (hbx.mono hWr)
        have hszn : (wr.alloc (.cells #[.int .i64 0] 3)).heap.size = wr.heap.size + 1 := by simp
        generalize hWn : wr.alloc (.cells #[.int .i64 0] 3) = Wn at *
        have hMk0 := hMk
        have hWn0 : Below wr.heap.size wr Wn := hbx
        clear hWn hbx hKr hsq hsq' hMk hMk'
        have hlr : wr.heap.size < Wn.heap.size := by omega
        have hmt : ∀ D, Wn.heap.size ≤ D → ∀ d' ∈ ds, d'.target ≠ .collected D := fun D hD d' hd' e => by
          obtain ⟨D', h1, h2⟩ := hMk0.lt d' hd'
          rw [h1] at e
          injection e with e
          omega
        have hmb : ∀ Wd, Below wr.heap.size Wn Wd → MarksOk W.heap.size ds Wd := fun Wd hb => hMk0.below (hWn0.trans hb)
        refine wpIn_rangeFunc_ownH rfl (by decide) (gf := 21) (lb := #[.pointer (some ⟨Bs', 0, none⟩)]) rfl trivial (enters_of Tryz.func21 (by kernel_rfl) rfl)
          (vals_stops 8 Bs' wr.heap.size KN (by omega) Wn (by have := hKn.l4; omega) (by omega) hNBs) belowK_t (belowK_b (by omega)) (Below.refl _ _) (fun _ => rfl)
          (fun pre Wx => pre <+: KN ∧ (Wx.cell? ⟨wr.heap.size, 0, none⟩ = some (.int .i64 (pre.length : Int)) ∧ Wx.frozen? ⟨wr.heap.size, 0, none⟩ = false) ∧ Below wr.heap.size Wn Wx)
          (fun c pre Wx => (c = .ret ∧ ¬ pre <+: KN) ∨ (c = .exit 4 ∧ pre.length = M ∧ (Wx.cell? ⟨wr.heap.size, 0, none⟩ = some (.int .i64 (pre.length : Int)) ∧ Wx.frozen? ⟨wr.heap.size, 0, none⟩ = false) ∧ Below wr.heap.size Wn Wx))
          ?ownI ?ownX ?startI (fun x a' Wx => ∃ u', a' = { tmps := KB (w.heap.size + 1) w1.heap.size w3.heap.size wr.heap.size (r : Int) (x : Int) u', defers := [] }) (fun x a' _ _ _ _ hs _ _ => hs) ?assign ?body ?done ?stop
        case ownI => exact OwnFrom.and (ownFrom_pure _ _) (OwnFrom.and (Own.from (fun s A B row hs hg hr => ⟨cell_kept hs.1 hg hr, (frozen_kept hs.1 hg hr).trans hs.2⟩) _) (ownFrom_below (by omega) (by omega)))
        case ownX =>
          intro c s A B row hs hg hr
          rcases hs with hs | ⟨h1, h2, h3, h4⟩
          · exact .inl hs
          · exact .inr ⟨h1, h2, ⟨cell_kept h3.1 hg (fun r e => (hr r e).2), (frozen_kept h3.1 hg (fun r e => (hr r e).2)).trans h3.2⟩, ownFrom_below (β := Unit) (by omega) (by omega) () A B row h4 hg hr⟩
        case startI => exact ⟨List.nil_prefix, ⟨by simp only [World.cell?, hN0]; rfl, by simp only [World.frozen?, hN0]; simp⟩, Below.refl _ _⟩
        case assign =>
          intro l pre x Wx K hi hK
          gi_wp2
          generalize ha1 : (Act.mk _ _) = a1
          refine hK a1 Wx (KeepsFrom.refl _ _) (Below.refl _ _) hi ⟨fun k => a1.tmps.getD k undef, ?_⟩
          rw [← ha1]; rfl
        case body =>
          rintro l pre x a' Wx hle ⟨rl, hrl⟩ ⟨hpre, ⟨hc, hfz⟩, hBx⟩ ⟨u', rfl⟩ hlen
          have hKx := hKn.below (hBx.mono hWr)
          obtain ⟨pw, cw, hw1, hw2⟩ := hKx.wn
          obtain ⟨y, hy⟩ : ∃ y, KN[pre.length]? = some y := ⟨KN[pre.length], List.getElem?_eq_getElem hlen⟩
          obtain ⟨gw, rfl, hgw, hwc⟩ := hw2 _ _ hy
          have hm := hKx.m
          have hxs := hBx.size
          have hl2 : ¬ ((KN.length : Int) ≤ (pre.length : Int)) := by omega
          have hl3 : (pre.length : Int) < (KN.length : Int) := by omega
          have b1 : decide ((KN.length : Int) ≤ (pre.length : Int)) = false := by simp; omega
          have hrr := hKx.r
          have hr1 : Wx.cell? ⟨w.heap.size + 1 + 1, 0, none⟩ = some (.bool false) := by simp only [World.cell?, hrr]; rfl
          have hrf : Wx.frozen? ⟨w.heap.size + 1 + 1, 0, none⟩ = false := by simp only [World.frozen?, hrr]; simp
          by_cases hxy : x = y
          · subst hxy
            have hpx := prefix_snoc hpre hy
            by_cases hn2 : pre.length < 2
            · have hn3 : (pre.length : Int) < 2 := by omega
              have hlx : (pre ++ [x]).length = pre.length + 1 := by simp
              have hbk : Below Wx.heap.size Wx (Wx.alloc (.cells #[.int .i64 0] 3)) := (Below.refl _ _).alloc (Nat.le_refl _) _
              have hl3' := hKx.l3
              have hl4' := hKx.l4
              have hl1' := hKx.l1
              have hl2' := hKx.l2
              have hsqx := (hbk.cell (p := ⟨w3.heap.size, 0, none⟩) (by show w3.heap.size < _; omega)).trans hKx.sq
              gi_wp2_with fail
              have hK0 : (Wx.alloc (.cells #[.int .i64 0] 3)).heap[Wx.heap.size]? = some (.cells #[.int .i64 0] 3) := thnK Wx _
              have hNBk : NBox Wx.heap.size Bs' KN (Wx.alloc (.cells #[.int .i64 0] 3)) := (hKx.bs.mono (by omega)).below hbk (by omega)
              have hrlk : (Wx.alloc (.cells #[.int .i64 0] 3)).heap[l]? = some (.loop rl) := (hbk.block l (Array.getElem?_eq_some_iff.1 hrl).1).trans hrl
              have hszk : (Wx.alloc (.cells #[.int .i64 0] 3)).heap.size = Wx.heap.size + 1 := by simp
              have hkfk : KeepsFrom Wn.heap.size Wx (Wx.alloc (.cells #[.int .i64 0] 3)) := (KeepsOthers.alloc _ _).from _
              have hKk := hKx.below (hbk.mono (by omega))
              generalize hWk : Wx.alloc (.cells #[.int .i64 0] 3) = Wk at *
              clear hWk hsqx
              refine wpIn_rangeFunc_ownN (l₀ := l) (r₀ := rl) rfl hrlk (by decide) (gf := 21) (lb := #[.pointer (some ⟨Bs', 0, none⟩)]) rfl trivial (enters_of Tryz.func21 (by kernel_rfl) rfl)
                ((vals_stops 6 Bs' Wx.heap.size KN (by omega) Wk (by omega) (by omega) hNBk).inRound l) belowK_t (belowK_b (by omega)) (Below.refl _ _) (fun _ => rfl)
                (fun p2 Wy => p2 <+: KN ∧ (Wy.cell? ⟨Wx.heap.size, 0, none⟩ = some (.int .i64 (p2.length : Int)) ∧ Wy.frozen? ⟨Wx.heap.size, 0, none⟩ = false) ∧ Below Wx.heap.size Wk Wy ∧ KeepsFrom Wn.heap.size Wx Wy)
                (fun c p2 Wy => c = .ret ∧ ¬ p2 <+: KN)
                ?ownI2 ?ownX2 ?startI2 (fun y a' Wy => ∃ u'', a' = { tmps := KC (w.heap.size + 1) w1.heap.size w3.heap.size wr.heap.size Wx.heap.size (r : Int) (x : Int) (y : Int) u'', defers := [] }) (fun x a' _ _ _ _ hs _ _ => hs) ?assign2 ?body2 ?done2 ?stop2
              case ownI2 => exact OwnFrom.and (ownFrom_pure _ _) (OwnFrom.and (Own.from (fun s A B row hs hg hr => ⟨cell_kept hs.1 hg hr, (frozen_kept hs.1 hg hr).trans hs.2⟩) _) (OwnFrom.and (ownFrom_below (by omega) (by omega)) (ownFrom_keepsFrom (by omega))))
              case ownX2 => exact fun c => ownFrom_pure _ _
              case startI2 => exact ⟨List.nil_prefix, ⟨by simp only [World.cell?, hK0]; rfl, by simp only [World.frozen?, hK0]; simp⟩, Below.refl _ _, hkfk⟩
              case assign2 =>
                intro l2 p2 z Wy K hi2 hK2
                gi_wp2
                generalize ha1 : (Act.mk _ _) = a1
                refine hK2 a1 Wy (KeepsFrom.refl _ _) (Below.refl _ _) hi2 ⟨fun k => a1.tmps.getD k undef, ?_⟩
                rw [← ha1]; rfl
              case body2 =>
                rintro l2 p2 z a' Wy hle2 _ ⟨hpre2, ⟨hc2, hfz2⟩, hBy2, hkf2⟩ ⟨u'', rfl⟩ hlen2
                have hKy := hKk.below (hBy2.mono (by omega))
                obtain ⟨pw2, cw2, hv1, hv2⟩ := hKy.wn
                obtain ⟨y2, hy2⟩ : ∃ y, KN[p2.length]? = some y := ⟨KN[p2.length], List.getElem?_eq_getElem hlen2⟩
                obtain ⟨gw2, rfl, hgw2, hwc2⟩ := hv2 _ _ hy2
                have b5 : decide ((KN.length : Int) ≤ (p2.length : Int)) = false := by simp; omega
                have hl5 : (p2.length : Int) < (KN.length : Int) := by omega
                have hl6 : ¬ ((KN.length : Int) ≤ (p2.length : Int)) := by omega
                have hrr2 := hKy.r
                have hr3' : Wy.cell? ⟨w.heap.size + 1 + 1, 0, none⟩ = some (.bool false) := by simp only [World.cell?, hrr2]; rfl
                have hrf2 : Wy.frozen? ⟨w.heap.size + 1 + 1, 0, none⟩ = false := by simp only [World.frozen?, hrr2]; simp
                by_cases hzy : z = y2
                · subst hzy
                  have hpx2 := prefix_snoc hpre2 hy2
                  have hlx2 : (p2 ++ [z]).length = p2.length + 1 := by simp
                  gi_wp2_with fail
                  exact ⟨(KeepsOthers.setCell _ _ _).from _, (Below.refl Wx.heap.size Wy).setCell (p := ⟨Wx.heap.size, 0, none⟩) (Nat.le_refl _) _, hpx2, ⟨by rw [hlx2]; exact World.cell?_setCell_same' _ _ _ (by rw [hc2]; rfl), by rw [World.frozen?_setCell]; exact hfz2⟩, hBy2.setCell (p := ⟨Wx.heap.size, 0, none⟩) (Nat.le_refl _) _, by have hk := hkf2.trans ((KeepsOthers.setCell Wy ⟨Wx.heap.size, 0, none⟩ (.int .i64 ((p2.length : Int) + 1))).from Wn.heap.size); rw [hszn] at hk; exact hk⟩
                · have b2 : ((z : Int) == (y2 : Int)) = false := by simp; omega
                  have b3 : ((z : Int) != (y2 : Int)) = true := by simp; omega
                  gi_wp2_with fail
                  refine ⟨(KeepsOthers.setCell _ _ _).from _, rfl, fun h => hzy ?_⟩
                  have := prefix_last h
                  rw [hy2] at this
                  exact (Option.some.inj this).symm
              case done2 =>
                rintro ys Wy rfl ⟨_, ⟨hc2, hfz2⟩, hBy2, hkf2⟩
                have hBxy : Below Wx.heap.size Wx Wy := hbk.trans hBy2
                have hKy := hKx.below (hBxy.mono (by omega))
                obtain ⟨pw2, cw2, hv1, hv2⟩ := hKy.wn
                have hmy := hKy.m
                have hcy := (hBxy.cell (p := ⟨wr.heap.size, 0, none⟩) (by show wr.heap.size < _; omega)).trans hc
                have hfy := (hBxy.frozen (p := ⟨wr.heap.size, 0, none⟩) (by show wr.heap.size < _; omega)).trans hfz
                have b6 : ((ys.length : Int) == (ys.length : Int)) = true := by simp
                have hmS : ∀ v, (Wy.setCell ⟨wr.heap.size, 0, none⟩ v).cell? ⟨w.heap.size + 1, 0, none⟩ = some (.int .i64 (M : Int)) := fun v => (World.cell?_setCell_other Wy _ _ _ (fun e => by injection e with e1 _; omega)).trans hmy
                have hS : ∀ v, Below wr.heap.size Wn (Wy.setCell ⟨wr.heap.size, 0, none⟩ v) := fun v => (hBx.trans (hBxy.mono (show wr.heap.size ≤ Wx.heap.size by omega))).setCell (p := ⟨wr.heap.size, 0, none⟩) (Nat.le_refl _) v
                have hSx : ∀ v, Below wr.heap.size Wx (Wy.setCell ⟨wr.heap.size, 0, none⟩ v) := fun v => (hBxy.mono (show wr.heap.size ≤ Wx.heap.size by omega)).setCell (p := ⟨wr.heap.size, 0, none⟩) (Nat.le_refl _) v
                have hSk : ∀ v, KeepsFrom Wn.heap.size Wx (Wy.setCell ⟨wr.heap.size, 0, none⟩ v) := fun v => hkf2.trans ((KeepsOthers.setCell _ _ _).from _)
                have hSc : ∀ v, (Wy.setCell ⟨wr.heap.size, 0, none⟩ v).cell? ⟨wr.heap.size, 0, none⟩ = some v := fun v => World.cell?_setCell_same' _ _ _ (by rw [hcy]; rfl)
                have hSf : ∀ v, (Wy.setCell ⟨wr.heap.size, 0, none⟩ v).frozen? ⟨wr.heap.size, 0, none⟩ = false := fun v => by rw [World.frozen?_setCell]; exact hfy
                by_cases hmm : pre.length + 1 = M
                · have b2 : ((pre.length : Int) + 1 == (M : Int)) = true := by simp; omega
                  have HM : Hid (pre.length + 1 = M) := ⟨hmm⟩
                  clear hmm
                  gi_wp2_with fail
                  exact ⟨hSk _, .inr ⟨rfl, by rw [hlx]; exact HM.out, ⟨by rw [hlx]; exact hSc _, hSf _⟩, hS _⟩⟩
                · have b2 : ((pre.length : Int) + 1 == (M : Int)) = false := by simp; omega
                  gi_wp2_with fail
                  exact ⟨hSk _, hSx _, hpx, ⟨by rw [hlx]; exact hSc _, hSf _⟩, hS _⟩
              case stop2 =>
                rintro c p2 Wy hp2 ⟨_, h⟩
                exact absurd hp2 h
            · have hn3 : ¬ (pre.length : Int) < 2 := by omega
              have hlx : (pre ++ [x]).length = pre.length + 1 := by simp
              have hmS : ∀ v, (Wx.setCell ⟨wr.heap.size, 0, none⟩ v).cell? ⟨w.heap.size + 1, 0, none⟩ = some (.int .i64 (M : Int)) := fun v => (World.cell?_setCell_other Wx _ _ _ (fun e => by injection e with e1 _; have := hKx.l1; omega)).trans hm
              have hS : ∀ v, Below wr.heap.size Wn (Wx.setCell ⟨wr.heap.size, 0, none⟩ v) := fun v => hBx.setCell (Nat.le_refl _) v
              have hSc : ∀ v, (Wx.setCell ⟨wr.heap.size, 0, none⟩ v).cell? ⟨wr.heap.size, 0, none⟩ = some v := fun v => World.cell?_setCell_same' _ _ _ (by rw [hc]; rfl)
              have hSf : ∀ v, (Wx.setCell ⟨wr.heap.size, 0, none⟩ v).frozen? ⟨wr.heap.size, 0, none⟩ = false := fun v => by rw [World.frozen?_setCell]; exact hfz
              by_cases hmm : pre.length + 1 = M
              · have b2 : ((pre.length : Int) + 1 == (M : Int)) = true := by simp; omega
                have HM : Hid (pre.length + 1 = M) := ⟨hmm⟩
                clear hmm
                gi_wp2_with fail
                exact ⟨(KeepsOthers.setCell _ _ _).from _, .inr ⟨rfl, by rw [hlx]; exact HM.out, ⟨by rw [hlx]; exact hSc _, hSf _⟩, hS _⟩⟩
              · have b2 : ((pre.length : Int) + 1 == (M : Int)) = false := by simp; omega
                gi_wp2_with fail
                exact ⟨(KeepsOthers.setCell _ _ _).from _, (Below.refl wr.heap.size Wx).setCell (p := ⟨wr.heap.size, 0, none⟩) (Nat.le_refl _) _, hpx, ⟨by rw [hlx]; exact hSc _, hSf _⟩, hS _⟩
          · have b2 : ((x : Int) == (y : Int)) = false := by simp; omega
            have b3 : ((x : Int) != (y : Int)) = true := by simp; omega
            gi_wp2_with fail
            refine ⟨(KeepsOthers.setCell _ _ _).from _, .inl ⟨rfl, fun h => hxy ?_⟩⟩
            have := prefix_last h
            rw [hy] at this
            exact (Option.some.inj this).symm
        case done =>
          rintro D ys Wd hD rfl ⟨hpre, ⟨hc, hfz⟩, hBx⟩ hDm
          have hKx := hKn.below (hBx.mono hWr)
          obtain ⟨pw, cw, hw1, hw2⟩ := hKx.wn
          have hm := hKx.m
          have hMd : MarksOk W.heap.size ({ target := .collected D, args := #[] } :: ds) Wd := ⟨D, rfl, by omega, hDm, hmt D (by omega), hmb Wd hBx⟩
          have hBd : Below W.heap.size W Wd := hBn.trans (hBx.mono hWr)
          have hme : 2 - ((r : Int) + 1).toNat < 2 - (r : Int).toNat := by omega
          gi_wp2_with fail
          all_goals
            generalize ha1 : (Act.mk _ _) = a1
            exact ⟨⟨r + 1, fun k => a1.tmps.getD k undef, _, by omega, by rw [← ha1]; rfl, hBd, hMd⟩, hme⟩
        case stop =>
          rintro D c pre Wd hD hpre hix hDm
          rcases hix with ⟨_, h⟩ | ⟨rfl, hpl, ⟨hc, hfz⟩, hBx⟩
          · exact absurd hpre h
          · have hKx := hKn.below (hBx.mono hWr)
            obtain ⟨pw, cw, hw1, hw2⟩ := hKx.wn
            have hm := hKx.m
            have hMd : MarksOk W.heap.size ({ target := .collected D, args := #[] } :: ds) Wd := ⟨D, rfl, by omega, hDm, hmt D (by omega), hmb Wd hBx⟩
            have hBd : Below W.heap.size W Wd := hBn.trans (hBx.mono hWr)
            have hme : 2 - ((r : Int) + 1).toNat < 2 - (r : Int).toNat := by omega
            gi_wp2_with fail
            all_goals
              generalize ha1 : (Act.mk _ _) = a1
              exact ⟨⟨r + 1, fun k => a1.tmps.getD k undef, _, by omega, by rw [← ha1]; rfl, hBd, hMd⟩, hme⟩
      · obtain rfl : r = 2 := by omega
        have hrr := hKr.r
        have hr1 : wr.cell? ⟨w.heap.size + 1 + 1, 0, none⟩ = some (.bool false) := by simp only [World.cell?, hrr]; rfl
        have hrf : wr.frozen? ⟨w.heap.size + 1 + 1, 0, none⟩ = false := by simp only [World.frozen?, hrr]; simp
        have hl1 := hKr.l1
        gi_wp2_with fail
        go_wp2_with fail
        have hBs' : Below w.heap.size w (wr.setCell ⟨w.heap.size + 1 + 1, 0, none⟩ (.bool true)) := (hBw.trans (hBr.mono hBw.size)).setCell (by show w.heap.size ≤ w.heap.size + 1 + 1; omega) _
        refine leaves_marks (n₀ := W.heap.size) ds _ ?_ fun W' hb => ?_
        · exact hMk.set hl1
        · refine ⟨.bool true, ?_, rfl, hBs'.trans (hb.mono (by omega))⟩
          have hcr : W'.cell? ⟨w.heap.size + 1 + 1, 0, none⟩ = some (.bool true) := (hb.cell (p := ⟨w.heap.size + 1 + 1, 0, none⟩) hl1).trans (World.cell?_setCell_same' _ _ _ (by rw [hr1]; rfl))
          simp [results, Tryz.results3, go_sem, hcr]
theorem IrYields_any (f : Fm) (i most : Int) (lv : Bool) (kp kl : List Nat) (pp : Option Addr) (cp : Nat) (w : World) (hr : TkL w pp w.heap.size f.toks) (hlm : f.toks.length * 192 ≤ 140737488351232) (hcm : ∀ t ∈ f.toks, t.cst.length * 8 ≤ 140737488351232)
    (hc : YC w f i pp cp kp kl) (hkp : kp.length ≤ f.toks.length) (hkl : kl.length ≤ f.toks.length) (hm : most ≤ 9223372036854775807) :
    Calls Tryz.prog 3 #[fmV f pp cp, .int .i64 i, .int .i64 most, .bool lv] w fun e w' => e = .returned (.bool true) ∧ Below w.heap.size w w' :=
  (callsIn_wide (n := 9)).1 (IrYields_in f i most lv kp kl pp cp w hr hlm hcm hc hkp hkl hm)
end Go.Proofs.YtjjhfiddebmgcaaGreatDoor
