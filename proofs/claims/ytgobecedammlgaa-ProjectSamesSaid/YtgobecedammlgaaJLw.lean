/- The law of project.Same: the walk. -/
import Derived.Test.YtgobecedammlgaaJLa
import Derived.Test.YtgobecedammlgaaILx2
import Derived.Deep.CutBlock
import Derived.Deep.DeepCutAuto
namespace Go.Proofs.Ytgobecedammlgaa
open Go.ChangeShapes Go.WideShapes Go.ChangeAt Go.RowKit

set_option maxRecDepth 20000 in
set_option maxHeartbeats 8000000 in
theorem ProjectSames_in (f g : Fm) (pa pb : Option Addr) (ca cb : Nat) (n : Int) (w : World) (ha : TkL w pa w.heap.size f.toks) (hb : TkL w pb w.heap.size g.toks) (hFm : FmSm f) (hGm : FmSm g) (hNm : ∀ t ∈ f.toks, t.name.size ≤ 140737488351232) :
    Calls Try.prog 3 #[fmV f pa ca, fmV g pb cb, .int .i64 n] w fun r w' => r = .returned (.bool true) ∧ Below w.heap.size w w' := by
  obtain ⟨iT, hiT, hzT, hsT, hbT⟩ := tinfo infoTkK
  obtain ⟨q, hq⟩ : ∃ q : Bool, f = g ↔ q = true := by
    by_cases e : f = g
    · exact ⟨true, by simp [e]⟩
    · exact ⟨false, by simp [e]⟩
  have hq2 : g = f ↔ q = true := ⟨fun e => hq.1 e.symm, fun e => (hq.2 e).symm⟩
  have HX : ((w.alloc (fmO f pa ca)).alloc (fmO g pb cb)).heap[w.heap.size]? = some (fmO f pa ca) := two_1 w _ _
  have HY : ((w.alloc (fmO f pa ca)).alloc (fmO g pb cb)).heap[w.heap.size + 1]? = some (fmO g pb cb) := two_2 w _ _
  have HB : Below w.heap.size w ((w.alloc (fmO f pa ca)).alloc (fmO g pb cb)) := two_b w _ _
  have HS : ((w.alloc (fmO f pa ca)).alloc (fmO g pb cb)).heap.size = w.heap.size + 2 := by simp
  have hll := hFm.1
  have hok : Hid _ := ⟨ha.ok⟩
  replace ha := (ha.below HB).mono HB.size
  replace hb := (hb.below HB).mono HB.size
  generalize hW : (w.alloc (fmO f pa ca)).alloc (fmO g pb cb) = W at HX HY HB HS ha hb
  simp only [fmO] at hW
  obtain ⟨p, pR, pD, pB, pS, lF, lG, cF, cG, cR, cT⟩ : ∃ p : World → Prop, Hid (p W) ∧ Hid (∀ W', p W' → p W'.drew) ∧ Hid (∀ W', p W' → Below W.heap.size W W') ∧ Hid (∀ W' W'', p W' → Below W'.heap.size W' W'' → p W'') ∧
      Hid (∀ W', (∃ θ : CW p, W' = θ.w) → (Instr.loadAt 30 (.pointer (some ⟨w.heap.size, 0, none⟩))).run Try.prog W' = .ok (fmV f pa ca) W') ∧
      Hid (∀ W', (∃ θ : CW p, W' = θ.w) → (Instr.loadAt 30 (.pointer (some ⟨w.heap.size + 1, 0, none⟩))).run Try.prog W' = .ok (fmV g pb cb) W') ∧
      Hid (∀ W', p W' → CpV W' (fmV f pa ca) f) ∧ Hid (∀ W', p W' → CpV W' (fmV g pb cb) g) ∧
      Hid (∀ W', p W' → Calls Try.prog 4 #[fmV f pa ca, fmV g pb cb] W' fun r w' => r = .returned (.bool q) ∧ p w') ∧ Hid (∀ W', p W' → TkL W' pa W'.heap.size f.toks) :=
    ⟨Below W.heap.size W, ⟨Below.refl _ _⟩, ⟨fun _ h => h.drew⟩, ⟨fun _ h => h⟩, ⟨fun _ _ h k => h.trans (k.mono h.size)⟩,
      ⟨by rintro _ ⟨θ, rfl⟩; exact (fm_of ((θ.h.block _ (by omega)).trans HX)).load⟩,
      ⟨by rintro _ ⟨θ, rfl⟩; exact (fm_of ((θ.h.block _ (by omega)).trans HY)).load⟩,
      ⟨fun W' h => ⟨_, _, rfl, (ha.below h).mono h.size⟩⟩, ⟨fun W' h => ⟨_, _, rfl, (hb.below h).mono h.size⟩⟩,
      ⟨fun W' h => (refSame_any f g pa pb ca cb W' ((ha.below h).mono h.size) ((hb.below h).mono h.size)).mono fun r w' hh => ⟨hh.1.said hq, h.trans (hh.2.mono h.size)⟩⟩, ⟨fun W' h => (ha.below h).mono h.size⟩⟩
  replace hFm : Hid _ := ⟨hFm⟩
  replace hNm : Hid _ := ⟨hNm⟩
  replace hGm : Hid _ := ⟨hGm⟩
  replace hq : Hid _ := ⟨hq⟩
  replace hq2 : Hid _ := ⟨hq2⟩
  replace HX : Hid _ := ⟨HX⟩
  clear HY ha hb
  go_enter Try.func3, Try.ntmps3
  go_wp2_with (first
    | (guard_target =~ wpList _ _ _ (Oper.mk _ (Op.load 30 _) _ _ _ _ :: _) _ _; go_must (first | refine wpList_ld 30 (.tmp 3) rfl rfl _ _ rfl (lF.out W ⟨⟨W, pR.out⟩, rfl⟩) ?_ | refine wpList_ld 30 (.tmp 4) rfl rfl _ _ rfl (lG.out W ⟨⟨W, pR.out⟩, rfl⟩) ?_); simp only [pts])
    | (go_at_call 4; refine (cR.out W pR.out).mono ?_; rintro _ w1 ⟨rfl, p1⟩; replace p1 : Hid _ := ⟨p1⟩))
  clear hW
  refine wp_region_pp p [0, 2, 1, 3, 4, 5] (by kernel_rfl) (by kernel_rfl) (fun _ _ d _ _ h => by cases d <;> exact h) (pD.out _ p1.out) ?_
  simp only [List.filterMap_cons, List.filterMap_nil, List.getElem?_cons_zero, List.getElem?_cons_succ]
  repeat (first | (guard_target =~ Lx _ _ _ _ (Oper.mk _ (Op.load 30 _) _ _ _ _ :: _) _ _; (first | refine lx_ld lF.out rfl rfl ?_ | refine lx_ld lG.out rfl rfl ?_); simp only [pts]) | (refine lx_one rfl ?_; (first | go_big_quiet_skip | (go_big_quiet_want; go_big_quiet_op; go_big_quiet_on)); refine wpQuiet_nil ?_))
  refine lx_cx1 ent_copied (copV _ _ _ hFm.out (cF.out _ (pD.out _ p1.out))) rfl (by rfl) ?_
  rintro _ A2 ⟨u2a, rfl, ha2, hb2⟩
  refine ⟨u2a, rfl, ⟨⟨A2, pS.out _ _ (pD.out _ p1.out) hb2⟩, rfl⟩, ?_⟩
  simp only [pts]
  refine lx_cx1 ent_copied (copV _ _ _ hGm.out (cG.out _ (pS.out _ _ (pD.out _ p1.out) hb2))) rfl (by rfl) ?_
  rintro _ B2 ⟨u2b, rfl, hc2, hd2⟩
  refine ⟨u2b, rfl, ⟨⟨B2, pS.out _ _ (pS.out _ _ (pD.out _ p1.out) hb2) hd2⟩, rfl⟩, ?_⟩
  simp only [pts]
  refine lx_cx2 ent_Same (sameV _ _ _ _ _ (ha2.below hd2) (hc2)) rfl rfl (by rfl) ?_
  rintro _ w2 ⟨hans, he2⟩
  obtain rfl := hans.said (b := q) (hq.out)
  refine ⟨_, rfl, ⟨⟨w2, pS.out _ _ (pS.out _ _ (pS.out _ _ (pD.out _ p1.out) hb2) hd2) he2⟩, rfl⟩, ?_⟩
  simp only [pts]
  repeat (refine lx_one rfl ?_; (first | go_big_quiet_skip | (go_big_quiet_want; go_big_quiet_op; go_big_quiet_on)); refine wpQuiet_nil ?_)
  refine lx_done ?_
  have p2 : Hid (p w2) := ⟨pS.out _ _ (pS.out _ _ (pS.out _ _ (pD.out _ p1.out) hb2) hd2) he2⟩
  clear ha2 hb2 hc2 hd2 he2 hans
  go_wp2_with fail
  refine wp_region_pp p [0, 2, 1, 3, 4, 5] (by kernel_rfl) (by kernel_rfl) (fun _ _ d _ _ h => by cases d <;> exact h) (pD.out _ p2.out) ?_
  simp only [List.filterMap_cons, List.filterMap_nil, List.getElem?_cons_zero, List.getElem?_cons_succ]
  repeat (first | (guard_target =~ Lx _ _ _ _ (Oper.mk _ (Op.load 30 _) _ _ _ _ :: _) _ _; (first | refine lx_ld lF.out rfl rfl ?_ | refine lx_ld lG.out rfl rfl ?_); simp only [pts]) | (refine lx_one rfl ?_; (first | go_big_quiet_skip | (go_big_quiet_want; go_big_quiet_op; go_big_quiet_on)); refine wpQuiet_nil ?_))
  refine lx_cx1 ent_copied (copV _ _ _ hGm.out (cG.out _ (pD.out _ p2.out))) rfl (by rfl) ?_
  rintro _ A3 ⟨u3a, rfl, ha3, hb3⟩
  refine ⟨u3a, rfl, ⟨⟨A3, pS.out _ _ (pD.out _ p2.out) hb3⟩, rfl⟩, ?_⟩
  simp only [pts]
  refine lx_cx1 ent_copied (copV _ _ _ hFm.out (cF.out _ (pS.out _ _ (pD.out _ p2.out) hb3))) rfl (by rfl) ?_
  rintro _ B3 ⟨u3b, rfl, hc3, hd3⟩
  refine ⟨u3b, rfl, ⟨⟨B3, pS.out _ _ (pS.out _ _ (pD.out _ p2.out) hb3) hd3⟩, rfl⟩, ?_⟩
  simp only [pts]
  refine lx_cx2 ent_Same (sameV _ _ _ _ _ (ha3.below hd3) (hc3)) rfl rfl (by rfl) ?_
  rintro _ w3 ⟨hans, he3⟩
  obtain rfl := hans.said (b := q) (hq2.out)
  refine ⟨_, rfl, ⟨⟨w3, pS.out _ _ (pS.out _ _ (pS.out _ _ (pD.out _ p2.out) hb3) hd3) he3⟩, rfl⟩, ?_⟩
  simp only [pts]
  repeat (refine lx_one rfl ?_; (first | go_big_quiet_skip | (go_big_quiet_want; go_big_quiet_op; go_big_quiet_on)); refine wpQuiet_nil ?_)
  refine lx_done ?_
  have p3 : Hid (p w3) := ⟨pS.out _ _ (pS.out _ _ (pS.out _ _ (pD.out _ p2.out) hb3) hd3) he3⟩
  clear ha3 hb3 hc3 hd3 he3 hans
  go_wp2_with fail
  refine wp_region_pp p [0, 2, 1, 3, 4, 5] (by kernel_rfl) (by kernel_rfl) (fun _ _ d _ _ h => by cases d <;> exact h) (pD.out _ p3.out) ?_
  simp only [List.filterMap_cons, List.filterMap_nil, List.getElem?_cons_zero, List.getElem?_cons_succ]
  repeat (first | (guard_target =~ Lx _ _ _ _ (Oper.mk _ (Op.load 30 _) _ _ _ _ :: _) _ _; (first | refine lx_ld lF.out rfl rfl ?_ | refine lx_ld lG.out rfl rfl ?_); simp only [pts]) | (refine lx_one rfl ?_; (first | go_big_quiet_skip | (go_big_quiet_want; go_big_quiet_op; go_big_quiet_on)); refine wpQuiet_nil ?_))
  refine lx_cx1 ent_copied (copV _ _ _ hFm.out (cF.out _ (pD.out _ p3.out))) rfl (by rfl) ?_
  rintro _ A4 ⟨u4a, rfl, ha4, hb4⟩
  refine ⟨u4a, rfl, ⟨⟨A4, pS.out _ _ (pD.out _ p3.out) hb4⟩, rfl⟩, ?_⟩
  simp only [pts]
  refine lx_cx1 ent_copied (copV _ _ _ hFm.out (cF.out _ (pS.out _ _ (pD.out _ p3.out) hb4))) rfl (by rfl) ?_
  rintro _ B4 ⟨u4b, rfl, hc4, hd4⟩
  refine ⟨u4b, rfl, ⟨⟨B4, pS.out _ _ (pS.out _ _ (pD.out _ p3.out) hb4) hd4⟩, rfl⟩, ?_⟩
  simp only [pts]
  refine lx_cx2 ent_Same (sameV _ _ _ _ _ (ha4.below hd4) (hc4)) rfl rfl (by rfl) ?_
  rintro _ w4 ⟨hans, he4⟩
  obtain rfl := hans.said (b := true) (by simp)
  refine ⟨_, rfl, ⟨⟨w4, pS.out _ _ (pS.out _ _ (pS.out _ _ (pD.out _ p3.out) hb4) hd4) he4⟩, rfl⟩, ?_⟩
  simp only [pts]
  repeat (refine lx_one rfl ?_; (first | go_big_quiet_skip | (go_big_quiet_want; go_big_quiet_op; go_big_quiet_on)); refine wpQuiet_nil ?_)
  refine lx_done ?_
  have p4 : Hid (p w4) := ⟨pS.out _ _ (pS.out _ _ (pS.out _ _ (pD.out _ p3.out) hb4) hd4) he4⟩
  clear ha4 hb4 hc4 hd4 he4 hans
  have F1 : Hid (1 = 1) := ⟨rfl⟩
  go_wp2_with (first
    | (guard_target =~ wpList _ _ _ (Oper.mk _ (Op.load 30 _) _ _ _ _ :: _) _ _; go_must (refine wpList_ld 30 (.tmp 3) rfl rfl _ _ rfl (lF.out w4 ⟨⟨w4, p4.out⟩, rfl⟩) ?_); simp only [pts])
    | (go_at_call 6; refine (copied_any f pa ca w4 (cT.out w4 p4.out) hFm.out.1 hFm.out.2).mono ?_; rintro _ w5 ⟨gm, cm, ps, rfl, hps, hcop, hb5⟩; go_must (have hpl : ps.length = f.toks.length := (by rw [← hps, List.length_map]); have sM : Hid _ := ⟨fun z hz => st_newF w5 z hz f (some ⟨gm, 0, none⟩) cm⟩; have m12 : (w5.alloc (fmO f (some ⟨gm, 0, none⟩) cm)).cell? ⟨w5.heap.size, 12, none⟩ = some (.slice (some ⟨gm, 0, none⟩) f.toks.length cm) := (fm_of (heap_al w5 _)).c12; have hO7 : Hid (((w5.alloc (fmO f (some ⟨gm, 0, none⟩) cm)).alloc (tkO zeroT none 0)).ownsRow w4.heap.size 38 21 (.slice (some ⟨gm, 0, none⟩) f.toks.length cm) f.toks.length (tpC ps)) := ⟨by rw [← hpl]; exact ownsRow_below (own_cut hcop.row (tpC_length ps)) (two_b w5 _ _)⟩; have hs5 := hb5.size; replace hpl : Hid _ := ⟨hpl⟩; replace hps : Hid _ := ⟨hps⟩; replace hcop : Hid _ := ⟨hcop⟩; replace hb5 : Hid _ := ⟨hb5⟩))
    | (guard_target =~ wpList _ _ _ (Oper.mk _ (Op.store 30 _ _) _ _ _ _ :: _) _ _; go_must (refine wpList_st 30 (.tmp 11) (.tmp 46) rfl rfl _ _ rfl rfl (sM.out _ rfl) ?_); simp only [pts])
    | (at_builtin; clear F1; go_must (refine wpList_append_lies _ rfl _ _ 28 rfl w4.heap.size 38 iT zTk 21 192 Try.underlying28 hiT hzT hsT hbT rfl (by decide) (.slice (some ⟨gm, 0, none⟩) f.toks.length cm) f.toks.length (tpC ps) rfl hO7.out ⟨w5.heap.size + 1, 0, none⟩ 1 1 (tkC zeroT none 0) rfl rfl (World.news_of_block (two_2 w5 _ (tkO zeroT none 0))) (tkC_one zeroT _ _) (by decide) (by simp only [maxLen]; omega) (by omega) (by simp; omega) (w5.heap.size + 2) (by simp) ?_); intro gn capn w8 hO8 hgr8 hat8 hlt8; go_must (have hX8 : w8.heap[w5.heap.size]? = some (fmO f (some ⟨gm, 0, none⟩) cm) := (hgr8.block _ (by simp; omega) (fun e => by have := hcop.out.lt.2; injection e with e; have e : w5.heap.size = gm := e; omega)).trans (two_1 w5 _ _); have q12 := (fm_of hX8).c12; have qf := froz hX8 12; replace hX8 : Hid _ := ⟨hX8⟩; replace hO8 : Hid _ := ⟨hO8⟩; replace hgr8 : Hid _ := ⟨hgr8⟩; replace hat8 : Hid _ := ⟨hat8⟩)))
  have hgm := hcop.out.lt
  have hgn := (hO8.out.lt gn rfl)
  have hg2 : gn = gm ∨ gn = w5.heap.size + 2 := by
    rcases hat8.out with e | e
    · left; injection e with e; exact e.symm
    · right; exact e
  have hs8 : w5.heap.size + 2 ≤ w8.heap.size := by have := hgr8.out.size; simpa using this
  have hs9 : (w8.setCell ⟨w5.heap.size, 12, none⟩ (.slice (some ⟨gn, 0, none⟩) (f.toks.length + 1) capn)).heap.size = w8.heap.size := by simp [World.setCell]
  have hX9 : (w8.setCell ⟨w5.heap.size, 12, none⟩ (.slice (some ⟨gn, 0, none⟩) (f.toks.length + 1) capn)).heap[w5.heap.size]? = some (fmO ({ f with toks := f.toks ++ [zeroT] } : Fm) (some ⟨gn, 0, none⟩) capn) := fmO_setl _ (by simp) hX8.out
  have hsame9 : ∀ k, k ≠ w5.heap.size → (w8.setCell ⟨w5.heap.size, 12, none⟩ (.slice (some ⟨gn, 0, none⟩) (f.toks.length + 1) capn)).heap[k]? = w8.heap[k]? := fun k hk => heap_setCell_other w8 _ k _ hk
  have hO9 : (w8.setCell ⟨w5.heap.size, 12, none⟩ (.slice (some ⟨gn, 0, none⟩) (f.toks.length + 1) capn)).ownsRow w4.heap.size 38 21 (.slice (some ⟨gn, 0, none⟩) (ps.length + 1) capn) (ps.length + 1) (tpC ps ++ tkC zeroT none 0) := by
    rw [hpl.out]
    exact own_kept hO8.out (fun j hj => hsame9 j (by simp [Value.ownBlock] at hj; omega))
  have hG9 : ∀ x ∈ ps, UGood (w8.setCell ⟨w5.heap.size, 12, none⟩ (.slice (some ⟨gn, 0, none⟩) (f.toks.length + 1) capn)) w4.heap.size x := fun x hx => by
    have h0 := hcop.out.good x hx
    have h1 := (h0.1.below (two_b w5 (fmO f (some ⟨gm, 0, none⟩) cm) (tkO zeroT none 0))).kept hgr8.out (by simp [Value.ownBlock]; exact h0.2)
    have hl := h0.1.lt
    exact own_kept h1 (fun j hj => hsame9 j (by simp [Value.ownBlock] at hj; omega))
  have hM9 : TkL (w8.setCell ⟨w5.heap.size, 12, none⟩ (.slice (some ⟨gn, 0, none⟩) (f.toks.length + 1) capn)) (some ⟨gn, 0, none⟩) (w8.setCell ⟨w5.heap.size, 12, none⟩ (.slice (some ⟨gn, 0, none⟩) (f.toks.length + 1) capn)).heap.size (f.toks ++ [zeroT]) := ⟨by have h := more_row hO9 hG9; rwa [hps.out] at h, by rw [List.length_append]; simp; omega, fun t ht => by
    rcases List.mem_append.1 ht with ht | ht
    · exact hok.out t ht
    · rw [List.mem_singleton.1 ht]; exact zeroT_ok⟩
  have hB9 : Below w4.heap.size w4 (w8.setCell ⟨w5.heap.size, 12, none⟩ (.slice (some ⟨gn, 0, none⟩) (f.toks.length + 1) capn)) := (hb5.out.trans (((two_b w5 (fmO f (some ⟨gm, 0, none⟩) cm) (tkO zeroT none 0)).mono hs5).trans ((Below.refl _ _).grown hgr8.out (by simp; omega) (own_ge hO7.out)))).setCell (p := ⟨w5.heap.size, 12, none⟩) hs5 _
  have p9 := pS.out _ _ p4.out hB9
  generalize (w8.setCell ⟨w5.heap.size, 12, none⟩ (.slice (some ⟨gn, 0, none⟩) (f.toks.length + 1) capn)) = w9 at hs9 hX9 hsame9 hO9 hG9 hM9 hB9 p9 ⊢
  have hs59 : w5.heap.size < w9.heap.size := by omega
  have hne : ({ f with toks := f.toks ++ [zeroT] } : Fm) ≠ f := fun e => by
    have := congrArg (fun z => z.toks.length) e
    simp at this
  obtain ⟨r, rR, rD, rP, rS, kM, kF, dM⟩ : ∃ r : World → Prop, Hid (r w9) ∧ Hid (∀ W', r W' → r W'.drew) ∧ Hid (∀ W', r W' → p W') ∧ Hid (∀ W' W'', r W' → Below W'.heap.size W' W'' → r W'') ∧
      Hid (∀ W', (∃ θ : CW r, W' = θ.w) → (Instr.loadAt 30 (.pointer (some ⟨w5.heap.size, 0, none⟩))).run Try.prog W' = .ok (fmV ({ f with toks := f.toks ++ [zeroT] } : Fm) (some ⟨gn, 0, none⟩) capn) W') ∧
      Hid (∀ W', (∃ θ : CW r, W' = θ.w) → (Instr.loadAt 30 (.pointer (some ⟨w.heap.size, 0, none⟩))).run Try.prog W' = .ok (fmV f pa ca) W') ∧
      Hid (∀ W', r W' → CpV W' (fmV ({ f with toks := f.toks ++ [zeroT] } : Fm) (some ⟨gn, 0, none⟩) capn) ({ f with toks := f.toks ++ [zeroT] } : Fm)) :=
    ⟨Below w9.heap.size w9, ⟨Below.refl _ _⟩, ⟨fun _ h => h.drew⟩, ⟨fun _ h => pS.out _ _ p9 h⟩, ⟨fun _ _ h k => h.trans (k.mono h.size)⟩,
      ⟨by rintro _ ⟨θ, rfl⟩; exact (fm_of ((θ.h.block _ hs59).trans hX9)).load⟩,
      ⟨by rintro _ ⟨θ, rfl⟩; exact lF.out _ ⟨⟨θ.w, pS.out _ _ p9 θ.h⟩, rfl⟩⟩,
      ⟨fun W' h => ⟨_, _, rfl, (hM9.below h).mono h.size⟩⟩⟩
  have hN : Nonempty (CW r) := ⟨⟨w9, rR.out⟩⟩
  replace hne : Hid _ := ⟨hne⟩
  replace p9 : Hid _ := ⟨p9⟩
  clear hX9 hsame9 hO9 hG9 hM9 hB9 hs9 hs59 hs8 hg2 hgn hgm hO8 hgr8 hat8 hX8 q12 qf hlt8 hO7 m12 sM hcop hps hpl hb5 hs5
  refine wp_region_pp r [0, 1, 2, 3, 4, 5, 7, 6, 8, 9] (by kernel_rfl) (by kernel_rfl) (fun _ _ d _ _ h => by cases d <;> exact h) (rD.out _ rR.out) ?_
  simp only [List.filterMap_cons, List.filterMap_nil, List.getElem?_cons_zero, List.getElem?_cons_succ]
  repeat (first | (guard_target =~ Lx _ _ _ _ (Oper.mk _ (Op.load 30 _) _ _ _ _ :: _) _ _; (first | refine lx_ld kM.out rfl rfl ?_ | refine lx_ld kF.out rfl rfl ?_); simp only [pts]) | (refine lx_one rfl ?_; (first | go_big_quiet_skip | (go_big_quiet_want; go_big_quiet_op; go_big_quiet_on)); refine wpQuiet_nil ?_))
  refine lx_cx1 ent_copied (copV _ _ _ hFm.out (cF.out _ (rP.out _ (rD.out _ rR.out)))) rfl (by rfl) ?_
  rintro _ A5 ⟨u5a, rfl, ha5, hb5⟩
  refine ⟨u5a, rfl, ⟨⟨A5, rS.out _ _ (rD.out _ rR.out) hb5⟩, rfl⟩, ?_⟩
  simp only [pts]
  repeat (first | (guard_target =~ Lx _ _ _ _ (Oper.mk _ (Op.load 30 _) _ _ _ _ :: _) _ _; (first | refine lx_ld kM.out rfl rfl ?_ | refine lx_ld kF.out rfl rfl ?_); simp only [pts]) | (refine lx_one rfl ?_; (first | go_big_quiet_skip | (go_big_quiet_want; go_big_quiet_op; go_big_quiet_on)); refine wpQuiet_nil ?_))
  refine lx_cx2 ent_Same (sameV _ _ _ _ _ (dM.out _ (rS.out _ _ (rD.out _ rR.out) hb5)) (ha5)) rfl rfl (by rfl) ?_
  rintro _ A6 ⟨hans, hb6⟩
  obtain rfl := hans.said (b := false) (by simp [hne.out])
  refine ⟨_, rfl, ⟨⟨A6, rS.out _ _ (rS.out _ _ (rD.out _ rR.out) hb5) hb6⟩, rfl⟩, ?_⟩
  simp only [pts]
  have r6 : Hid (r A6) := ⟨rS.out _ _ (rS.out _ _ (rD.out _ rR.out) hb5) hb6⟩
  clear ha5 hb5 hb6 hans
  repeat (first | (guard_target =~ Lx _ _ _ _ (Oper.mk _ (Op.load 30 _) _ _ _ _ :: _) _ _; (first | refine lx_ld kM.out rfl rfl ?_ | refine lx_ld kF.out rfl rfl ?_); simp only [pts]) | (refine lx_one rfl ?_; (first | go_big_quiet_skip | (go_big_quiet_want; go_big_quiet_op; go_big_quiet_on)); refine wpQuiet_nil ?_))
  refine lx_cx1 ent_copied (copV _ _ _ hFm.out (cF.out _ (rP.out _ r6.out))) rfl (by rfl) ?_
  rintro _ A7 ⟨u7a, rfl, ha7, hb7⟩
  refine ⟨u7a, rfl, ⟨⟨A7, rS.out _ _ r6.out hb7⟩, rfl⟩, ?_⟩
  simp only [pts]
  repeat (first | (guard_target =~ Lx _ _ _ _ (Oper.mk _ (Op.load 30 _) _ _ _ _ :: _) _ _; (first | refine lx_ld kM.out rfl rfl ?_ | refine lx_ld kF.out rfl rfl ?_); simp only [pts]) | (refine lx_one rfl ?_; (first | go_big_quiet_skip | (go_big_quiet_want; go_big_quiet_op; go_big_quiet_on)); refine wpQuiet_nil ?_))
  refine lx_cx2 ent_Same (sameV _ _ _ _ _ (ha7) (dM.out _ (rS.out _ _ r6.out hb7))) rfl rfl (by rfl) ?_
  rintro _ wa ⟨hans, hb8⟩
  obtain rfl := hans.said (b := false) (by have := hne.out; simp [this.symm])
  refine ⟨_, rfl, ⟨⟨wa, rS.out _ _ (rS.out _ _ r6.out hb7) hb8⟩, rfl⟩, ?_⟩
  simp only [pts]
  repeat (refine lx_one rfl ?_; (first | go_big_quiet_skip | (go_big_quiet_want; go_big_quiet_op; go_big_quiet_on)); refine wpQuiet_nil ?_)
  refine lx_done ?_
  have pa9 : Hid (p wa) := ⟨rP.out _ (rS.out _ _ (rS.out _ _ r6.out hb7) hb8)⟩
  clear ha7 hb7 hb8 hans r6 kM kF dM rR rD rP rS hne hN
  have x12 : ∀ W', p W' → W'.cell? ⟨w.heap.size, 12, none⟩ = some (.slice pa f.toks.length ca) := fun W' h => (fm_of (((pB.out _ h).block _ (by omega)).trans HX.out)).c12
  have xa := x12 wa pa9.out
  have HE : Hid (∀ W', p W' → Below w.heap.size w W') := ⟨fun W' h => HB.trans ((pB.out _ h).mono HB.size)⟩
  replace x12 : Hid _ := ⟨x12⟩
  by_cases h0 : f.toks.length = 0
  · have b0 : ((f.toks.length : Int) == 0) = true := by simp [h0]
    clear h0
    go_wp2_with fail
    go_ret
    exact ⟨rfl, HE.out _ pa9.out⟩
  · have b0 : ((f.toks.length : Int) == 0) = false := beq_eq_false_iff_ne.2 (by omega)
    have hpos : 0 < f.toks.length := by omega
    clear h0
    obtain ⟨i, hi, hne, hpo⟩ : ∃ i : Nat, i < f.toks.length ∧ (n.tmod f.toks.length < 0 → n.tmod f.toks.length + f.toks.length = i) ∧ (¬ n.tmod f.toks.length < 0 → n.tmod f.toks.length = i) := by
      by_cases hng : n.tmod f.toks.length < 0
      · have h1 := Int.tmod_lt_of_pos (-n) (b := f.toks.length) (by omega)
        rw [Int.neg_tmod] at h1
        exact ⟨(n.tmod f.toks.length + f.toks.length).toNat, by omega, fun _ => by omega, fun h => absurd hng h⟩
      · have h1 := Int.tmod_lt_of_pos n (b := f.toks.length) (by omega)
        exact ⟨(n.tmod f.toks.length).toNat, by omega, fun h => absurd h hng, fun _ => by omega⟩
    go_upto_if 73 with fail
    go_cut [2] (fun s wx => s = .int .i64 (i : Int) ∧ wx = wa)
    case first =>
      have hu1 := Int.tmod_lt_of_pos n (b := f.toks.length) (by omega)
      have hu2 := Int.tmod_lt_of_pos (-n) (b := f.toks.length) (by omega)
      rw [Int.neg_tmod] at hu2
      have hr1 : -9223372036854775808 ≤ n.tmod f.toks.length + f.toks.length := by omega
      have hr2 : n.tmod f.toks.length + f.toks.length ≤ 9223372036854775807 := by omega
      replace hne : Hid _ := ⟨hne⟩
      replace hpo : Hid _ := ⟨hpo⟩
      clear hu1 hu2
      go_wp2_with fail
      all_goals go_meet
      case rel => exact ⟨by rw [hne.out (by assumption)], rfl⟩
      case rel => exact ⟨by rw [hpo.out (by omega)], rfl⟩
    case rest =>
    obtain ⟨rfl, rfl⟩ := hcut
    clear hne hpo b0
    go_wp2_with fail
    go_loopw [12] (fun v wr => ∃ k : Nat, k ≤ 19 ∧ v = .int .i64 k ∧ Hid (p wr)) (fun v _ => 19 - (RowKit.intOf v).toNat)
    case atStart => exact ⟨0, by decide, rfl, pa9⟩
    case round =>
      clear xa pa9
      obtain ⟨k, hk, rfl, hp⟩ := hrel
      by_cases hlt : k < 19
      · obtain ⟨t, ht⟩ : ∃ t, f.toks[i]? = some t := ⟨f.toks[i], List.getElem?_eq_getElem hi⟩
        have hii : (i : Int) < f.toks.length := by omega
        have hkk : k = 0 ∨ k = 1 ∨ k = 2 ∨ k = 3 ∨ k = 4 ∨ k = 5 ∨ k = 6 ∨ k = 7 ∨ k = 8 ∨ k = 9 ∨ k = 10 ∨ k = 11 ∨ k = 12 ∨ k = 13 ∨ k = 14 ∨ k = 15 ∨ k = 16 ∨ k = 17 ∨ k = 18 := by omega
        rcases hkk with rfl | rfl | rfl | rfl | rfl | rfl | rfl | rfl | rfl | rfl | rfl | rfl | rfl | rfl | rfl | rfl | rfl | rfl | rfl
        · as_aux_lemma =>
          go_wp2_with (first
            | (guard_target =~ wpList _ _ _ (Oper.mk _ (Op.load 30 _) _ _ _ _ :: _) _ _; go_must (refine wpList_ld 30 (.tmp 3) rfl rfl _ _ rfl (lF.out wr ⟨⟨wr, hp.out⟩, rfl⟩) ?_); simp only [pts])
            | (go_at_call 6; refine (copied_any f pa ca wr (cT.out wr hp.out) hFm.out.1 hFm.out.2).mono ?_; rintro _ w1 ⟨gx, cx, ps, rfl, hps, hcop, hb1⟩; go_must (have sM : Hid _ := ⟨fun z hz => st_newF w1 z hz f (some ⟨gx, 0, none⟩) cx⟩; have m12 : (w1.alloc (fmO f (some ⟨gx, 0, none⟩) cx)).cell? ⟨w1.heap.size, 12, none⟩ = some (.slice (some ⟨gx, 0, none⟩) f.toks.length cx) := (fm_of (heap_al w1 _)).c12; obtain ⟨y, hy, rfl⟩ := cop_at hps ht; have tj := ((hcop.below (bel1 w1 (fmO f (some ⟨gx, 0, none⟩) cx))).tk hy).c0; have tf := cop_froz (hcop.below (bel1 w1 (fmO f (some ⟨gx, 0, none⟩) cx))) (i * 21); replace hps : Hid _ := ⟨hps⟩; replace hcop : Hid _ := ⟨hcop⟩; replace hb1 : Hid _ := ⟨hb1⟩; replace hy : Hid _ := ⟨hy⟩))
            | (guard_target =~ wpList _ _ _ (Oper.mk _ (Op.store 30 _ _) _ _ _ _ :: _) _ _; go_must (refine wpList_st 30 (.tmp 13) (.tmp 84) rfl rfl _ _ rfl rfl (sM.out _ rfl) ?_); simp only [pts]))
          have hc2 := hcop.out.below (bel1 w1 (fmO f (some ⟨gx, 0, none⟩) cx))
          have hOk := hok.out _ (List.mem_of_getElem? ht)
          have hgx := hcop.out.lt
          have hrow := put_row hc2 hy.out (j := 0) (by decide) (t' := ({ y.t with op := wrap64 (y.t.op + 1) } : Tk)) (u := (.int .i64 (wrap64 (y.t.op + 1)))) rfl rfl
          have hX3 : ((w1.alloc (fmO f (some ⟨gx, 0, none⟩) cx)).setCell ⟨gx, i * 21, none⟩ (.int .i64 (wrap64 (y.t.op + 1)))).heap[w1.heap.size]? = some (fmO f (some ⟨gx, 0, none⟩) cx) := (heap_setCell_other _ _ _ _ (fun e => by have e : w1.heap.size = gx := e; omega)).trans (heap_al w1 _)
          have hB3 : Below wr.heap.size wr ((w1.alloc (fmO f (some ⟨gx, 0, none⟩) cx)).setCell ⟨gx, i * 21, none⟩ (.int .i64 (wrap64 (y.t.op + 1)))) := (hb1.out.alloc hb1.out.size _).setCell (p := ⟨gx, i * 21, none⟩) hgx.1 _
          have hL3 : TkL ((w1.alloc (fmO f (some ⟨gx, 0, none⟩) cx)).setCell ⟨gx, i * 21, none⟩ (.int .i64 (wrap64 (y.t.op + 1)))) (some ⟨gx, 0, none⟩) ((w1.alloc (fmO f (some ⟨gx, 0, none⟩) cx)).setCell ⟨gx, i * 21, none⟩ (.int .i64 (wrap64 (y.t.op + 1)))).heap.size (f.toks.set i ({ y.t with op := wrap64 (y.t.op + 1) } : Tk)) := ⟨by rw [hps.out] at hrow; exact hrow, by rw [List.length_set]; omega, fun t ht2 => by
            rcases List.mem_or_eq_of_mem_set ht2 with h | rfl
            · exact hok.out t h
            · exact ⟨(wrap64_ok _), (hOk.name), (hOk.id), (hOk.off), (hOk.siz), (hOk.since), (hOk.prim), (hOk.len), (hOk.pres), (hOk.nul), (hOk.lo), (hOk.hi), (hOk.cst), (hOk.cs), (hOk.val), (hOk.blk), (hOk.full), (hOk.ap), (hOk.ao), (hOk.bp), (hOk.bo), (hOk.pair)⟩⟩
          have hs3 : w1.heap.size < ((w1.alloc (fmO f (some ⟨gx, 0, none⟩) cx)).setCell ⟨gx, i * 21, none⟩ (.int .i64 (wrap64 (y.t.op + 1)))).heap.size := (Array.getElem?_eq_some_iff.1 hX3).1
          have hne := set_ne ht (t' := ({ y.t with op := wrap64 (y.t.op + 1) } : Tk)) (fun e => wrap64_ne _ (congrArg Tk.op e))
          generalize hG3 : ((w1.alloc (fmO f (some ⟨gx, 0, none⟩) cx)).setCell ⟨gx, i * 21, none⟩ (.int .i64 (wrap64 (y.t.op + 1)))) = w3 at hX3 hB3 hL3 hs3 ⊢
          have p3 := pS.out _ _ hp.out hB3
          obtain ⟨r, rR, rD, rP, rS, kM, kF, dM⟩ : ∃ r : World → Prop, Hid (r w3) ∧ Hid (∀ W', r W' → r W'.drew) ∧ Hid (∀ W', r W' → p W') ∧ Hid (∀ W' W'', r W' → Below W'.heap.size W' W'' → r W'') ∧
              Hid (∀ W', (∃ θ : CW r, W' = θ.w) → (Instr.loadAt 30 (.pointer (some ⟨w1.heap.size, 0, none⟩))).run Try.prog W' = .ok (fmV f (some ⟨gx, 0, none⟩) cx) W') ∧
              Hid (∀ W', (∃ θ : CW r, W' = θ.w) → (Instr.loadAt 30 (.pointer (some ⟨w.heap.size, 0, none⟩))).run Try.prog W' = .ok (fmV f pa ca) W') ∧
              Hid (∀ W', r W' → CpV W' (fmV f (some ⟨gx, 0, none⟩) cx) ({ f with toks := f.toks.set i ({ y.t with op := wrap64 (y.t.op + 1) } : Tk) } : Fm)) :=
            ⟨Below w3.heap.size w3, ⟨Below.refl _ _⟩, ⟨fun _ h => h.drew⟩, ⟨fun _ h => pS.out _ _ p3 h⟩, ⟨fun _ _ h k => h.trans (k.mono h.size)⟩,
              ⟨by rintro _ ⟨θ, rfl⟩; exact (fm_of ((θ.h.block _ hs3).trans hX3)).load⟩,
              ⟨by rintro _ ⟨θ, rfl⟩; exact lF.out _ ⟨⟨θ.w, pS.out _ _ p3 θ.h⟩, rfl⟩⟩,
              ⟨fun W' h => ⟨some ⟨gx, 0, none⟩, cx, fmV_set _ _ _ _ _, (hL3.below h).mono h.size⟩⟩⟩
          replace hne : Hid _ := ⟨hne⟩
          clear hrow hX3 hB3 hL3 hs3 hG3 p3 hc2 hOk hgx hcop hy hps hb1 m12 sM tj tf
          refine wp_region_lp r (by kernel_rfl) (by kernel_rfl) (fun _ _ d _ _ h => by cases d <;> exact h) (rD.out _ rR.out) fun W5 hp5 => ?_
          repeat (first | (guard_target =~ Lx _ _ _ _ (Oper.mk _ (Op.load 30 _) _ _ _ _ :: _) _ _; (first | refine lx_ld kM.out rfl rfl ?_ | refine lx_ld kF.out rfl rfl ?_); simp only [pts]) | (refine lx_one rfl ?_; (first | go_big_quiet_skip | (go_big_quiet_want; go_big_quiet_op; go_big_quiet_on)); refine wpQuiet_nil ?_))
          refine lx_cx1 ent_copied (copV _ _ _ hFm.out (cF.out _ (rP.out _ hp5))) rfl (by rfl) ?_
          rintro _ A5 ⟨u5a, rfl, ha5, hb5⟩
          refine ⟨u5a, rfl, ⟨⟨A5, rS.out _ _ hp5 hb5⟩, rfl⟩, ?_⟩
          simp only [pts]
          repeat (first | (guard_target =~ Lx _ _ _ _ (Oper.mk _ (Op.load 30 _) _ _ _ _ :: _) _ _; (first | refine lx_ld kM.out rfl rfl ?_ | refine lx_ld kF.out rfl rfl ?_); simp only [pts]) | (refine lx_one rfl ?_; (first | go_big_quiet_skip | (go_big_quiet_want; go_big_quiet_op; go_big_quiet_on)); refine wpQuiet_nil ?_))
          refine lx_cx2 ent_Same (sameV _ _ _ _ _ (dM.out _ (rS.out _ _ hp5 hb5)) (ha5)) rfl rfl (by rfl) ?_
          rintro _ A6 ⟨hans, hb6⟩
          obtain rfl := hans.said (b := false) (by simp [hne.out])
          refine ⟨_, rfl, ⟨⟨A6, rS.out _ _ (rS.out _ _ hp5 hb5) hb6⟩, rfl⟩, ?_⟩
          simp only [pts]
          refine lx_done ?_
          have p6 : Hid (p A6) := ⟨rP.out _ (rS.out _ _ (rS.out _ _ hp5 hb5) hb6)⟩
          clear ha5 hb5 hb6 hans kM kF dM rR rD rP rS hne hp5
          go_wp2_with fail
          go_roundw
          case rel => exact ⟨1, by decide, rfl, p6⟩
          case measure => simp [RowKit.intOf]
        · as_aux_lemma =>
          go_wp2_with (first
            | (guard_target =~ wpList _ _ _ (Oper.mk _ (Op.load 30 _) _ _ _ _ :: _) _ _; go_must (refine wpList_ld 30 (.tmp 3) rfl rfl _ _ rfl (lF.out wr ⟨⟨wr, hp.out⟩, rfl⟩) ?_); simp only [pts])
            | (go_at_call 6; refine (copied_any f pa ca wr (cT.out wr hp.out) hFm.out.1 hFm.out.2).mono ?_; rintro _ w1 ⟨gx, cx, ps, rfl, hps, hcop, hb1⟩; go_must (have sM : Hid _ := ⟨fun z hz => st_newF w1 z hz f (some ⟨gx, 0, none⟩) cx⟩; have m12 : (w1.alloc (fmO f (some ⟨gx, 0, none⟩) cx)).cell? ⟨w1.heap.size, 12, none⟩ = some (.slice (some ⟨gx, 0, none⟩) f.toks.length cx) := (fm_of (heap_al w1 _)).c12; obtain ⟨y, hy, rfl⟩ := cop_at hps ht; have tj := ((hcop.below (bel1 w1 (fmO f (some ⟨gx, 0, none⟩) cx))).tk hy).c1; have tf := cop_froz (hcop.below (bel1 w1 (fmO f (some ⟨gx, 0, none⟩) cx))) (i * 21 + 1); have hnm := hNm.out _ (List.mem_of_getElem? ht); replace hps : Hid _ := ⟨hps⟩; replace hcop : Hid _ := ⟨hcop⟩; replace hb1 : Hid _ := ⟨hb1⟩; replace hy : Hid _ := ⟨hy⟩))
            | (guard_target =~ wpList _ _ _ (Oper.mk _ (Op.store 30 _ _) _ _ _ _ :: _) _ _; go_must (refine wpList_st 30 (.tmp 13) (.tmp 84) rfl rfl _ _ rfl rfl (sM.out _ rfl) ?_); simp only [pts]))
          have hc2 := hcop.out.below (bel1 w1 (fmO f (some ⟨gx, 0, none⟩) cx))
          have hOk := hok.out _ (List.mem_of_getElem? ht)
          have hgx := hcop.out.lt
          have hrow := put_row hc2 hy.out (j := 1) (by decide) (t' := ({ y.t with name := y.t.name ++ ⟨#[120]⟩ } : Tk)) (u := (.string (y.t.name ++ ⟨#[120]⟩))) rfl rfl
          have hX3 : ((w1.alloc (fmO f (some ⟨gx, 0, none⟩) cx)).setCell ⟨gx, i * 21 + 1, none⟩ (.string (y.t.name ++ ⟨#[120]⟩))).heap[w1.heap.size]? = some (fmO f (some ⟨gx, 0, none⟩) cx) := (heap_setCell_other _ _ _ _ (fun e => by have e : w1.heap.size = gx := e; omega)).trans (heap_al w1 _)
          have hB3 : Below wr.heap.size wr ((w1.alloc (fmO f (some ⟨gx, 0, none⟩) cx)).setCell ⟨gx, i * 21 + 1, none⟩ (.string (y.t.name ++ ⟨#[120]⟩))) := (hb1.out.alloc hb1.out.size _).setCell (p := ⟨gx, i * 21 + 1, none⟩) hgx.1 _
          have hL3 : TkL ((w1.alloc (fmO f (some ⟨gx, 0, none⟩) cx)).setCell ⟨gx, i * 21 + 1, none⟩ (.string (y.t.name ++ ⟨#[120]⟩))) (some ⟨gx, 0, none⟩) ((w1.alloc (fmO f (some ⟨gx, 0, none⟩) cx)).setCell ⟨gx, i * 21 + 1, none⟩ (.string (y.t.name ++ ⟨#[120]⟩))).heap.size (f.toks.set i ({ y.t with name := y.t.name ++ ⟨#[120]⟩ } : Tk)) := ⟨by rw [hps.out] at hrow; exact hrow, by rw [List.length_set]; omega, fun t ht2 => by
            rcases List.mem_or_eq_of_mem_set ht2 with h | rfl
            · exact hok.out t h
            · exact ⟨(hOk.op), (by have := hnm; show (y.t.name ++ ⟨#[120]⟩ : ByteArray).size ≤ _; rw [ByteArray.size_append]; show _ + 1 ≤ _; omega), (hOk.id), (hOk.off), (hOk.siz), (hOk.since), (hOk.prim), (hOk.len), (hOk.pres), (hOk.nul), (hOk.lo), (hOk.hi), (hOk.cst), (hOk.cs), (hOk.val), (hOk.blk), (hOk.full), (hOk.ap), (hOk.ao), (hOk.bp), (hOk.bo), (hOk.pair)⟩⟩
          have hs3 : w1.heap.size < ((w1.alloc (fmO f (some ⟨gx, 0, none⟩) cx)).setCell ⟨gx, i * 21 + 1, none⟩ (.string (y.t.name ++ ⟨#[120]⟩))).heap.size := (Array.getElem?_eq_some_iff.1 hX3).1
          have hne := set_ne ht (t' := ({ y.t with name := y.t.name ++ ⟨#[120]⟩ } : Tk)) (fun e => name_ne _ (congrArg Tk.name e))
          generalize hG3 : ((w1.alloc (fmO f (some ⟨gx, 0, none⟩) cx)).setCell ⟨gx, i * 21 + 1, none⟩ (.string (y.t.name ++ ⟨#[120]⟩))) = w3 at hX3 hB3 hL3 hs3 ⊢
          have p3 := pS.out _ _ hp.out hB3
          obtain ⟨r, rR, rD, rP, rS, kM, kF, dM⟩ : ∃ r : World → Prop, Hid (r w3) ∧ Hid (∀ W', r W' → r W'.drew) ∧ Hid (∀ W', r W' → p W') ∧ Hid (∀ W' W'', r W' → Below W'.heap.size W' W'' → r W'') ∧
              Hid (∀ W', (∃ θ : CW r, W' = θ.w) → (Instr.loadAt 30 (.pointer (some ⟨w1.heap.size, 0, none⟩))).run Try.prog W' = .ok (fmV f (some ⟨gx, 0, none⟩) cx) W') ∧
              Hid (∀ W', (∃ θ : CW r, W' = θ.w) → (Instr.loadAt 30 (.pointer (some ⟨w.heap.size, 0, none⟩))).run Try.prog W' = .ok (fmV f pa ca) W') ∧
              Hid (∀ W', r W' → CpV W' (fmV f (some ⟨gx, 0, none⟩) cx) ({ f with toks := f.toks.set i ({ y.t with name := y.t.name ++ ⟨#[120]⟩ } : Tk) } : Fm)) :=
            ⟨Below w3.heap.size w3, ⟨Below.refl _ _⟩, ⟨fun _ h => h.drew⟩, ⟨fun _ h => pS.out _ _ p3 h⟩, ⟨fun _ _ h k => h.trans (k.mono h.size)⟩,
              ⟨by rintro _ ⟨θ, rfl⟩; exact (fm_of ((θ.h.block _ hs3).trans hX3)).load⟩,
              ⟨by rintro _ ⟨θ, rfl⟩; exact lF.out _ ⟨⟨θ.w, pS.out _ _ p3 θ.h⟩, rfl⟩⟩,
              ⟨fun W' h => ⟨some ⟨gx, 0, none⟩, cx, fmV_set _ _ _ _ _, (hL3.below h).mono h.size⟩⟩⟩
          replace hne : Hid _ := ⟨hne⟩
          clear hrow hX3 hB3 hL3 hs3 hG3 p3 hc2 hOk hgx hcop hy hps hb1 m12 sM tj tf
          refine wp_region_lp r (by kernel_rfl) (by kernel_rfl) (fun _ _ d _ _ h => by cases d <;> exact h) (rD.out _ rR.out) fun W5 hp5 => ?_
          repeat (first | (guard_target =~ Lx _ _ _ _ (Oper.mk _ (Op.load 30 _) _ _ _ _ :: _) _ _; (first | refine lx_ld kM.out rfl rfl ?_ | refine lx_ld kF.out rfl rfl ?_); simp only [pts]) | (refine lx_one rfl ?_; (first | go_big_quiet_skip | (go_big_quiet_want; go_big_quiet_op; go_big_quiet_on)); refine wpQuiet_nil ?_))
          refine lx_cx1 ent_copied (copV _ _ _ hFm.out (cF.out _ (rP.out _ hp5))) rfl (by rfl) ?_
          rintro _ A5 ⟨u5a, rfl, ha5, hb5⟩
          refine ⟨u5a, rfl, ⟨⟨A5, rS.out _ _ hp5 hb5⟩, rfl⟩, ?_⟩
          simp only [pts]
          repeat (first | (guard_target =~ Lx _ _ _ _ (Oper.mk _ (Op.load 30 _) _ _ _ _ :: _) _ _; (first | refine lx_ld kM.out rfl rfl ?_ | refine lx_ld kF.out rfl rfl ?_); simp only [pts]) | (refine lx_one rfl ?_; (first | go_big_quiet_skip | (go_big_quiet_want; go_big_quiet_op; go_big_quiet_on)); refine wpQuiet_nil ?_))
          refine lx_cx2 ent_Same (sameV _ _ _ _ _ (dM.out _ (rS.out _ _ hp5 hb5)) (ha5)) rfl rfl (by rfl) ?_
          rintro _ A6 ⟨hans, hb6⟩
          obtain rfl := hans.said (b := false) (by simp [hne.out])
          refine ⟨_, rfl, ⟨⟨A6, rS.out _ _ (rS.out _ _ hp5 hb5) hb6⟩, rfl⟩, ?_⟩
          simp only [pts]
          refine lx_done ?_
          have p6 : Hid (p A6) := ⟨rP.out _ (rS.out _ _ (rS.out _ _ hp5 hb5) hb6)⟩
          clear ha5 hb5 hb6 hans kM kF dM rR rD rP rS hne hp5
          go_wp2_with fail
          go_roundw
          case rel => exact ⟨2, by decide, rfl, p6⟩
          case measure => simp [RowKit.intOf]
        · as_aux_lemma =>
          go_wp2_with (first
            | (guard_target =~ wpList _ _ _ (Oper.mk _ (Op.load 30 _) _ _ _ _ :: _) _ _; go_must (refine wpList_ld 30 (.tmp 3) rfl rfl _ _ rfl (lF.out wr ⟨⟨wr, hp.out⟩, rfl⟩) ?_); simp only [pts])
            | (go_at_call 6; refine (copied_any f pa ca wr (cT.out wr hp.out) hFm.out.1 hFm.out.2).mono ?_; rintro _ w1 ⟨gx, cx, ps, rfl, hps, hcop, hb1⟩; go_must (have sM : Hid _ := ⟨fun z hz => st_newF w1 z hz f (some ⟨gx, 0, none⟩) cx⟩; have m12 : (w1.alloc (fmO f (some ⟨gx, 0, none⟩) cx)).cell? ⟨w1.heap.size, 12, none⟩ = some (.slice (some ⟨gx, 0, none⟩) f.toks.length cx) := (fm_of (heap_al w1 _)).c12; obtain ⟨y, hy, rfl⟩ := cop_at hps ht; have tj := ((hcop.below (bel1 w1 (fmO f (some ⟨gx, 0, none⟩) cx))).tk hy).c2; have tf := cop_froz (hcop.below (bel1 w1 (fmO f (some ⟨gx, 0, none⟩) cx))) (i * 21 + 2); replace hps : Hid _ := ⟨hps⟩; replace hcop : Hid _ := ⟨hcop⟩; replace hb1 : Hid _ := ⟨hb1⟩; replace hy : Hid _ := ⟨hy⟩))
            | (guard_target =~ wpList _ _ _ (Oper.mk _ (Op.store 30 _ _) _ _ _ _ :: _) _ _; go_must (refine wpList_st 30 (.tmp 13) (.tmp 84) rfl rfl _ _ rfl rfl (sM.out _ rfl) ?_); simp only [pts]))
          have hc2 := hcop.out.below (bel1 w1 (fmO f (some ⟨gx, 0, none⟩) cx))
          have hOk := hok.out _ (List.mem_of_getElem? ht)
          have hgx := hcop.out.lt
          have hrow := put_row hc2 hy.out (j := 2) (by decide) (t' := ({ y.t with id := wrap64 (y.t.id + 1) } : Tk)) (u := (.int .i64 (wrap64 (y.t.id + 1)))) rfl rfl
          have hX3 : ((w1.alloc (fmO f (some ⟨gx, 0, none⟩) cx)).setCell ⟨gx, i * 21 + 2, none⟩ (.int .i64 (wrap64 (y.t.id + 1)))).heap[w1.heap.size]? = some (fmO f (some ⟨gx, 0, none⟩) cx) := (heap_setCell_other _ _ _ _ (fun e => by have e : w1.heap.size = gx := e; omega)).trans (heap_al w1 _)
          have hB3 : Below wr.heap.size wr ((w1.alloc (fmO f (some ⟨gx, 0, none⟩) cx)).setCell ⟨gx, i * 21 + 2, none⟩ (.int .i64 (wrap64 (y.t.id + 1)))) := (hb1.out.alloc hb1.out.size _).setCell (p := ⟨gx, i * 21 + 2, none⟩) hgx.1 _
          have hL3 : TkL ((w1.alloc (fmO f (some ⟨gx, 0, none⟩) cx)).setCell ⟨gx, i * 21 + 2, none⟩ (.int .i64 (wrap64 (y.t.id + 1)))) (some ⟨gx, 0, none⟩) ((w1.alloc (fmO f (some ⟨gx, 0, none⟩) cx)).setCell ⟨gx, i * 21 + 2, none⟩ (.int .i64 (wrap64 (y.t.id + 1)))).heap.size (f.toks.set i ({ y.t with id := wrap64 (y.t.id + 1) } : Tk)) := ⟨by rw [hps.out] at hrow; exact hrow, by rw [List.length_set]; omega, fun t ht2 => by
            rcases List.mem_or_eq_of_mem_set ht2 with h | rfl
            · exact hok.out t h
            · exact ⟨(hOk.op), (hOk.name), (wrap64_ok _), (hOk.off), (hOk.siz), (hOk.since), (hOk.prim), (hOk.len), (hOk.pres), (hOk.nul), (hOk.lo), (hOk.hi), (hOk.cst), (hOk.cs), (hOk.val), (hOk.blk), (hOk.full), (hOk.ap), (hOk.ao), (hOk.bp), (hOk.bo), (hOk.pair)⟩⟩
          have hs3 : w1.heap.size < ((w1.alloc (fmO f (some ⟨gx, 0, none⟩) cx)).setCell ⟨gx, i * 21 + 2, none⟩ (.int .i64 (wrap64 (y.t.id + 1)))).heap.size := (Array.getElem?_eq_some_iff.1 hX3).1
          have hne := set_ne ht (t' := ({ y.t with id := wrap64 (y.t.id + 1) } : Tk)) (fun e => wrap64_ne _ (congrArg Tk.id e))
          generalize hG3 : ((w1.alloc (fmO f (some ⟨gx, 0, none⟩) cx)).setCell ⟨gx, i * 21 + 2, none⟩ (.int .i64 (wrap64 (y.t.id + 1)))) = w3 at hX3 hB3 hL3 hs3 ⊢
          have p3 := pS.out _ _ hp.out hB3
          obtain ⟨r, rR, rD, rP, rS, kM, kF, dM⟩ : ∃ r : World → Prop, Hid (r w3) ∧ Hid (∀ W', r W' → r W'.drew) ∧ Hid (∀ W', r W' → p W') ∧ Hid (∀ W' W'', r W' → Below W'.heap.size W' W'' → r W'') ∧
              Hid (∀ W', (∃ θ : CW r, W' = θ.w) → (Instr.loadAt 30 (.pointer (some ⟨w1.heap.size, 0, none⟩))).run Try.prog W' = .ok (fmV f (some ⟨gx, 0, none⟩) cx) W') ∧
              Hid (∀ W', (∃ θ : CW r, W' = θ.w) → (Instr.loadAt 30 (.pointer (some ⟨w.heap.size, 0, none⟩))).run Try.prog W' = .ok (fmV f pa ca) W') ∧
              Hid (∀ W', r W' → CpV W' (fmV f (some ⟨gx, 0, none⟩) cx) ({ f with toks := f.toks.set i ({ y.t with id := wrap64 (y.t.id + 1) } : Tk) } : Fm)) :=
            ⟨Below w3.heap.size w3, ⟨Below.refl _ _⟩, ⟨fun _ h => h.drew⟩, ⟨fun _ h => pS.out _ _ p3 h⟩, ⟨fun _ _ h k => h.trans (k.mono h.size)⟩,
              ⟨by rintro _ ⟨θ, rfl⟩; exact (fm_of ((θ.h.block _ hs3).trans hX3)).load⟩,
              ⟨by rintro _ ⟨θ, rfl⟩; exact lF.out _ ⟨⟨θ.w, pS.out _ _ p3 θ.h⟩, rfl⟩⟩,
              ⟨fun W' h => ⟨some ⟨gx, 0, none⟩, cx, fmV_set _ _ _ _ _, (hL3.below h).mono h.size⟩⟩⟩
          replace hne : Hid _ := ⟨hne⟩
          clear hrow hX3 hB3 hL3 hs3 hG3 p3 hc2 hOk hgx hcop hy hps hb1 m12 sM tj tf
          refine wp_region_lp r (by kernel_rfl) (by kernel_rfl) (fun _ _ d _ _ h => by cases d <;> exact h) (rD.out _ rR.out) fun W5 hp5 => ?_
          repeat (first | (guard_target =~ Lx _ _ _ _ (Oper.mk _ (Op.load 30 _) _ _ _ _ :: _) _ _; (first | refine lx_ld kM.out rfl rfl ?_ | refine lx_ld kF.out rfl rfl ?_); simp only [pts]) | (refine lx_one rfl ?_; (first | go_big_quiet_skip | (go_big_quiet_want; go_big_quiet_op; go_big_quiet_on)); refine wpQuiet_nil ?_))
          refine lx_cx1 ent_copied (copV _ _ _ hFm.out (cF.out _ (rP.out _ hp5))) rfl (by rfl) ?_
          rintro _ A5 ⟨u5a, rfl, ha5, hb5⟩
          refine ⟨u5a, rfl, ⟨⟨A5, rS.out _ _ hp5 hb5⟩, rfl⟩, ?_⟩
          simp only [pts]
          repeat (first | (guard_target =~ Lx _ _ _ _ (Oper.mk _ (Op.load 30 _) _ _ _ _ :: _) _ _; (first | refine lx_ld kM.out rfl rfl ?_ | refine lx_ld kF.out rfl rfl ?_); simp only [pts]) | (refine lx_one rfl ?_; (first | go_big_quiet_skip | (go_big_quiet_want; go_big_quiet_op; go_big_quiet_on)); refine wpQuiet_nil ?_))
          refine lx_cx2 ent_Same (sameV _ _ _ _ _ (dM.out _ (rS.out _ _ hp5 hb5)) (ha5)) rfl rfl (by rfl) ?_
          rintro _ A6 ⟨hans, hb6⟩
          obtain rfl := hans.said (b := false) (by simp [hne.out])
          refine ⟨_, rfl, ⟨⟨A6, rS.out _ _ (rS.out _ _ hp5 hb5) hb6⟩, rfl⟩, ?_⟩
          simp only [pts]
          refine lx_done ?_
          have p6 : Hid (p A6) := ⟨rP.out _ (rS.out _ _ (rS.out _ _ hp5 hb5) hb6)⟩
          clear ha5 hb5 hb6 hans kM kF dM rR rD rP rS hne hp5
          go_wp2_with fail
          go_roundw
          case rel => exact ⟨3, by decide, rfl, p6⟩
          case measure => simp [RowKit.intOf]
        · as_aux_lemma =>
          go_wp2_with (first
            | (guard_target =~ wpList _ _ _ (Oper.mk _ (Op.load 30 _) _ _ _ _ :: _) _ _; go_must (refine wpList_ld 30 (.tmp 3) rfl rfl _ _ rfl (lF.out wr ⟨⟨wr, hp.out⟩, rfl⟩) ?_); simp only [pts])
            | (go_at_call 6; refine (copied_any f pa ca wr (cT.out wr hp.out) hFm.out.1 hFm.out.2).mono ?_; rintro _ w1 ⟨gx, cx, ps, rfl, hps, hcop, hb1⟩; go_must (have sM : Hid _ := ⟨fun z hz => st_newF w1 z hz f (some ⟨gx, 0, none⟩) cx⟩; have m12 : (w1.alloc (fmO f (some ⟨gx, 0, none⟩) cx)).cell? ⟨w1.heap.size, 12, none⟩ = some (.slice (some ⟨gx, 0, none⟩) f.toks.length cx) := (fm_of (heap_al w1 _)).c12; obtain ⟨y, hy, rfl⟩ := cop_at hps ht; have tj := ((hcop.below (bel1 w1 (fmO f (some ⟨gx, 0, none⟩) cx))).tk hy).c3; have tf := cop_froz (hcop.below (bel1 w1 (fmO f (some ⟨gx, 0, none⟩) cx))) (i * 21 + 3); replace hps : Hid _ := ⟨hps⟩; replace hcop : Hid _ := ⟨hcop⟩; replace hb1 : Hid _ := ⟨hb1⟩; replace hy : Hid _ := ⟨hy⟩))
            | (guard_target =~ wpList _ _ _ (Oper.mk _ (Op.store 30 _ _) _ _ _ _ :: _) _ _; go_must (refine wpList_st 30 (.tmp 13) (.tmp 84) rfl rfl _ _ rfl rfl (sM.out _ rfl) ?_); simp only [pts]))
          have hc2 := hcop.out.below (bel1 w1 (fmO f (some ⟨gx, 0, none⟩) cx))
          have hOk := hok.out _ (List.mem_of_getElem? ht)
          have hgx := hcop.out.lt
          have hrow := put_row hc2 hy.out (j := 3) (by decide) (t' := ({ y.t with off := wrap64 (y.t.off + 1) } : Tk)) (u := (.int .i64 (wrap64 (y.t.off + 1)))) rfl rfl
          have hX3 : ((w1.alloc (fmO f (some ⟨gx, 0, none⟩) cx)).setCell ⟨gx, i * 21 + 3, none⟩ (.int .i64 (wrap64 (y.t.off + 1)))).heap[w1.heap.size]? = some (fmO f (some ⟨gx, 0, none⟩) cx) := (heap_setCell_other _ _ _ _ (fun e => by have e : w1.heap.size = gx := e; omega)).trans (heap_al w1 _)
          have hB3 : Below wr.heap.size wr ((w1.alloc (fmO f (some ⟨gx, 0, none⟩) cx)).setCell ⟨gx, i * 21 + 3, none⟩ (.int .i64 (wrap64 (y.t.off + 1)))) := (hb1.out.alloc hb1.out.size _).setCell (p := ⟨gx, i * 21 + 3, none⟩) hgx.1 _
          have hL3 : TkL ((w1.alloc (fmO f (some ⟨gx, 0, none⟩) cx)).setCell ⟨gx, i * 21 + 3, none⟩ (.int .i64 (wrap64 (y.t.off + 1)))) (some ⟨gx, 0, none⟩) ((w1.alloc (fmO f (some ⟨gx, 0, none⟩) cx)).setCell ⟨gx, i * 21 + 3, none⟩ (.int .i64 (wrap64 (y.t.off + 1)))).heap.size (f.toks.set i ({ y.t with off := wrap64 (y.t.off + 1) } : Tk)) := ⟨by rw [hps.out] at hrow; exact hrow, by rw [List.length_set]; omega, fun t ht2 => by
            rcases List.mem_or_eq_of_mem_set ht2 with h | rfl
            · exact hok.out t h
            · exact ⟨(hOk.op), (hOk.name), (hOk.id), (wrap64_ok _), (hOk.siz), (hOk.since), (hOk.prim), (hOk.len), (hOk.pres), (hOk.nul), (hOk.lo), (hOk.hi), (hOk.cst), (hOk.cs), (hOk.val), (hOk.blk), (hOk.full), (hOk.ap), (hOk.ao), (hOk.bp), (hOk.bo), (hOk.pair)⟩⟩
          have hs3 : w1.heap.size < ((w1.alloc (fmO f (some ⟨gx, 0, none⟩) cx)).setCell ⟨gx, i * 21 + 3, none⟩ (.int .i64 (wrap64 (y.t.off + 1)))).heap.size := (Array.getElem?_eq_some_iff.1 hX3).1
          have hne := set_ne ht (t' := ({ y.t with off := wrap64 (y.t.off + 1) } : Tk)) (fun e => wrap64_ne _ (congrArg Tk.off e))
          generalize hG3 : ((w1.alloc (fmO f (some ⟨gx, 0, none⟩) cx)).setCell ⟨gx, i * 21 + 3, none⟩ (.int .i64 (wrap64 (y.t.off + 1)))) = w3 at hX3 hB3 hL3 hs3 ⊢
          have p3 := pS.out _ _ hp.out hB3
          obtain ⟨r, rR, rD, rP, rS, kM, kF, dM⟩ : ∃ r : World → Prop, Hid (r w3) ∧ Hid (∀ W', r W' → r W'.drew) ∧ Hid (∀ W', r W' → p W') ∧ Hid (∀ W' W'', r W' → Below W'.heap.size W' W'' → r W'') ∧
              Hid (∀ W', (∃ θ : CW r, W' = θ.w) → (Instr.loadAt 30 (.pointer (some ⟨w1.heap.size, 0, none⟩))).run Try.prog W' = .ok (fmV f (some ⟨gx, 0, none⟩) cx) W') ∧
              Hid (∀ W', (∃ θ : CW r, W' = θ.w) → (Instr.loadAt 30 (.pointer (some ⟨w.heap.size, 0, none⟩))).run Try.prog W' = .ok (fmV f pa ca) W') ∧
              Hid (∀ W', r W' → CpV W' (fmV f (some ⟨gx, 0, none⟩) cx) ({ f with toks := f.toks.set i ({ y.t with off := wrap64 (y.t.off + 1) } : Tk) } : Fm)) :=
            ⟨Below w3.heap.size w3, ⟨Below.refl _ _⟩, ⟨fun _ h => h.drew⟩, ⟨fun _ h => pS.out _ _ p3 h⟩, ⟨fun _ _ h k => h.trans (k.mono h.size)⟩,
              ⟨by rintro _ ⟨θ, rfl⟩; exact (fm_of ((θ.h.block _ hs3).trans hX3)).load⟩,
              ⟨by rintro _ ⟨θ, rfl⟩; exact lF.out _ ⟨⟨θ.w, pS.out _ _ p3 θ.h⟩, rfl⟩⟩,
              ⟨fun W' h => ⟨some ⟨gx, 0, none⟩, cx, fmV_set _ _ _ _ _, (hL3.below h).mono h.size⟩⟩⟩
          replace hne : Hid _ := ⟨hne⟩
          clear hrow hX3 hB3 hL3 hs3 hG3 p3 hc2 hOk hgx hcop hy hps hb1 m12 sM tj tf
          refine wp_region_lp r (by kernel_rfl) (by kernel_rfl) (fun _ _ d _ _ h => by cases d <;> exact h) (rD.out _ rR.out) fun W5 hp5 => ?_
          repeat (first | (guard_target =~ Lx _ _ _ _ (Oper.mk _ (Op.load 30 _) _ _ _ _ :: _) _ _; (first | refine lx_ld kM.out rfl rfl ?_ | refine lx_ld kF.out rfl rfl ?_); simp only [pts]) | (refine lx_one rfl ?_; (first | go_big_quiet_skip | (go_big_quiet_want; go_big_quiet_op; go_big_quiet_on)); refine wpQuiet_nil ?_))
          refine lx_cx1 ent_copied (copV _ _ _ hFm.out (cF.out _ (rP.out _ hp5))) rfl (by rfl) ?_
          rintro _ A5 ⟨u5a, rfl, ha5, hb5⟩
          refine ⟨u5a, rfl, ⟨⟨A5, rS.out _ _ hp5 hb5⟩, rfl⟩, ?_⟩
          simp only [pts]
          repeat (first | (guard_target =~ Lx _ _ _ _ (Oper.mk _ (Op.load 30 _) _ _ _ _ :: _) _ _; (first | refine lx_ld kM.out rfl rfl ?_ | refine lx_ld kF.out rfl rfl ?_); simp only [pts]) | (refine lx_one rfl ?_; (first | go_big_quiet_skip | (go_big_quiet_want; go_big_quiet_op; go_big_quiet_on)); refine wpQuiet_nil ?_))
          refine lx_cx2 ent_Same (sameV _ _ _ _ _ (dM.out _ (rS.out _ _ hp5 hb5)) (ha5)) rfl rfl (by rfl) ?_
          rintro _ A6 ⟨hans, hb6⟩
          obtain rfl := hans.said (b := false) (by simp [hne.out])
          refine ⟨_, rfl, ⟨⟨A6, rS.out _ _ (rS.out _ _ hp5 hb5) hb6⟩, rfl⟩, ?_⟩
          simp only [pts]
          refine lx_done ?_
          have p6 : Hid (p A6) := ⟨rP.out _ (rS.out _ _ (rS.out _ _ hp5 hb5) hb6)⟩
          clear ha5 hb5 hb6 hans kM kF dM rR rD rP rS hne hp5
          go_wp2_with fail
          go_roundw
          case rel => exact ⟨4, by decide, rfl, p6⟩
          case measure => simp [RowKit.intOf]
        · as_aux_lemma =>
          go_wp2_with (first
            | (guard_target =~ wpList _ _ _ (Oper.mk _ (Op.load 30 _) _ _ _ _ :: _) _ _; go_must (refine wpList_ld 30 (.tmp 3) rfl rfl _ _ rfl (lF.out wr ⟨⟨wr, hp.out⟩, rfl⟩) ?_); simp only [pts])
            | (go_at_call 6; refine (copied_any f pa ca wr (cT.out wr hp.out) hFm.out.1 hFm.out.2).mono ?_; rintro _ w1 ⟨gx, cx, ps, rfl, hps, hcop, hb1⟩; go_must (have sM : Hid _ := ⟨fun z hz => st_newF w1 z hz f (some ⟨gx, 0, none⟩) cx⟩; have m12 : (w1.alloc (fmO f (some ⟨gx, 0, none⟩) cx)).cell? ⟨w1.heap.size, 12, none⟩ = some (.slice (some ⟨gx, 0, none⟩) f.toks.length cx) := (fm_of (heap_al w1 _)).c12; obtain ⟨y, hy, rfl⟩ := cop_at hps ht; have tj := ((hcop.below (bel1 w1 (fmO f (some ⟨gx, 0, none⟩) cx))).tk hy).c4; have tf := cop_froz (hcop.below (bel1 w1 (fmO f (some ⟨gx, 0, none⟩) cx))) (i * 21 + 4); replace hps : Hid _ := ⟨hps⟩; replace hcop : Hid _ := ⟨hcop⟩; replace hb1 : Hid _ := ⟨hb1⟩; replace hy : Hid _ := ⟨hy⟩))
            | (guard_target =~ wpList _ _ _ (Oper.mk _ (Op.store 30 _ _) _ _ _ _ :: _) _ _; go_must (refine wpList_st 30 (.tmp 13) (.tmp 84) rfl rfl _ _ rfl rfl (sM.out _ rfl) ?_); simp only [pts]))
          have hc2 := hcop.out.below (bel1 w1 (fmO f (some ⟨gx, 0, none⟩) cx))
          have hOk := hok.out _ (List.mem_of_getElem? ht)
          have hgx := hcop.out.lt
          have hrow := put_row hc2 hy.out (j := 4) (by decide) (t' := ({ y.t with siz := wrap64 (y.t.siz + 1) } : Tk)) (u := (.int .i64 (wrap64 (y.t.siz + 1)))) rfl rfl
          have hX3 : ((w1.alloc (fmO f (some ⟨gx, 0, none⟩) cx)).setCell ⟨gx, i * 21 + 4, none⟩ (.int .i64 (wrap64 (y.t.siz + 1)))).heap[w1.heap.size]? = some (fmO f (some ⟨gx, 0, none⟩) cx) := (heap_setCell_other _ _ _ _ (fun e => by have e : w1.heap.size = gx := e; omega)).trans (heap_al w1 _)
          have hB3 : Below wr.heap.size wr ((w1.alloc (fmO f (some ⟨gx, 0, none⟩) cx)).setCell ⟨gx, i * 21 + 4, none⟩ (.int .i64 (wrap64 (y.t.siz + 1)))) := (hb1.out.alloc hb1.out.size _).setCell (p := ⟨gx, i * 21 + 4, none⟩) hgx.1 _
          have hL3 : TkL ((w1.alloc (fmO f (some ⟨gx, 0, none⟩) cx)).setCell ⟨gx, i * 21 + 4, none⟩ (.int .i64 (wrap64 (y.t.siz + 1)))) (some ⟨gx, 0, none⟩) ((w1.alloc (fmO f (some ⟨gx, 0, none⟩) cx)).setCell ⟨gx, i * 21 + 4, none⟩ (.int .i64 (wrap64 (y.t.siz + 1)))).heap.size (f.toks.set i ({ y.t with siz := wrap64 (y.t.siz + 1) } : Tk)) := ⟨by rw [hps.out] at hrow; exact hrow, by rw [List.length_set]; omega, fun t ht2 => by
            rcases List.mem_or_eq_of_mem_set ht2 with h | rfl
            · exact hok.out t h
            · exact ⟨(hOk.op), (hOk.name), (hOk.id), (hOk.off), (wrap64_ok _), (hOk.since), (hOk.prim), (hOk.len), (hOk.pres), (hOk.nul), (hOk.lo), (hOk.hi), (hOk.cst), (hOk.cs), (hOk.val), (hOk.blk), (hOk.full), (hOk.ap), (hOk.ao), (hOk.bp), (hOk.bo), (hOk.pair)⟩⟩
          have hs3 : w1.heap.size < ((w1.alloc (fmO f (some ⟨gx, 0, none⟩) cx)).setCell ⟨gx, i * 21 + 4, none⟩ (.int .i64 (wrap64 (y.t.siz + 1)))).heap.size := (Array.getElem?_eq_some_iff.1 hX3).1
          have hne := set_ne ht (t' := ({ y.t with siz := wrap64 (y.t.siz + 1) } : Tk)) (fun e => wrap64_ne _ (congrArg Tk.siz e))
          generalize hG3 : ((w1.alloc (fmO f (some ⟨gx, 0, none⟩) cx)).setCell ⟨gx, i * 21 + 4, none⟩ (.int .i64 (wrap64 (y.t.siz + 1)))) = w3 at hX3 hB3 hL3 hs3 ⊢
          have p3 := pS.out _ _ hp.out hB3
          obtain ⟨r, rR, rD, rP, rS, kM, kF, dM⟩ : ∃ r : World → Prop, Hid (r w3) ∧ Hid (∀ W', r W' → r W'.drew) ∧ Hid (∀ W', r W' → p W') ∧ Hid (∀ W' W'', r W' → Below W'.heap.size W' W'' → r W'') ∧
              Hid (∀ W', (∃ θ : CW r, W' = θ.w) → (Instr.loadAt 30 (.pointer (some ⟨w1.heap.size, 0, none⟩))).run Try.prog W' = .ok (fmV f (some ⟨gx, 0, none⟩) cx) W') ∧
              Hid (∀ W', (∃ θ : CW r, W' = θ.w) → (Instr.loadAt 30 (.pointer (some ⟨w.heap.size, 0, none⟩))).run Try.prog W' = .ok (fmV f pa ca) W') ∧
              Hid (∀ W', r W' → CpV W' (fmV f (some ⟨gx, 0, none⟩) cx) ({ f with toks := f.toks.set i ({ y.t with siz := wrap64 (y.t.siz + 1) } : Tk) } : Fm)) :=
            ⟨Below w3.heap.size w3, ⟨Below.refl _ _⟩, ⟨fun _ h => h.drew⟩, ⟨fun _ h => pS.out _ _ p3 h⟩, ⟨fun _ _ h k => h.trans (k.mono h.size)⟩,
              ⟨by rintro _ ⟨θ, rfl⟩; exact (fm_of ((θ.h.block _ hs3).trans hX3)).load⟩,
              ⟨by rintro _ ⟨θ, rfl⟩; exact lF.out _ ⟨⟨θ.w, pS.out _ _ p3 θ.h⟩, rfl⟩⟩,
              ⟨fun W' h => ⟨some ⟨gx, 0, none⟩, cx, fmV_set _ _ _ _ _, (hL3.below h).mono h.size⟩⟩⟩
          replace hne : Hid _ := ⟨hne⟩
          clear hrow hX3 hB3 hL3 hs3 hG3 p3 hc2 hOk hgx hcop hy hps hb1 m12 sM tj tf
          refine wp_region_lp r (by kernel_rfl) (by kernel_rfl) (fun _ _ d _ _ h => by cases d <;> exact h) (rD.out _ rR.out) fun W5 hp5 => ?_
          repeat (first | (guard_target =~ Lx _ _ _ _ (Oper.mk _ (Op.load 30 _) _ _ _ _ :: _) _ _; (first | refine lx_ld kM.out rfl rfl ?_ | refine lx_ld kF.out rfl rfl ?_); simp only [pts]) | (refine lx_one rfl ?_; (first | go_big_quiet_skip | (go_big_quiet_want; go_big_quiet_op; go_big_quiet_on)); refine wpQuiet_nil ?_))
          refine lx_cx1 ent_copied (copV _ _ _ hFm.out (cF.out _ (rP.out _ hp5))) rfl (by rfl) ?_
          rintro _ A5 ⟨u5a, rfl, ha5, hb5⟩
          refine ⟨u5a, rfl, ⟨⟨A5, rS.out _ _ hp5 hb5⟩, rfl⟩, ?_⟩
          simp only [pts]
          repeat (first | (guard_target =~ Lx _ _ _ _ (Oper.mk _ (Op.load 30 _) _ _ _ _ :: _) _ _; (first | refine lx_ld kM.out rfl rfl ?_ | refine lx_ld kF.out rfl rfl ?_); simp only [pts]) | (refine lx_one rfl ?_; (first | go_big_quiet_skip | (go_big_quiet_want; go_big_quiet_op; go_big_quiet_on)); refine wpQuiet_nil ?_))
          refine lx_cx2 ent_Same (sameV _ _ _ _ _ (dM.out _ (rS.out _ _ hp5 hb5)) (ha5)) rfl rfl (by rfl) ?_
          rintro _ A6 ⟨hans, hb6⟩
          obtain rfl := hans.said (b := false) (by simp [hne.out])
          refine ⟨_, rfl, ⟨⟨A6, rS.out _ _ (rS.out _ _ hp5 hb5) hb6⟩, rfl⟩, ?_⟩
          simp only [pts]
          refine lx_done ?_
          have p6 : Hid (p A6) := ⟨rP.out _ (rS.out _ _ (rS.out _ _ hp5 hb5) hb6)⟩
          clear ha5 hb5 hb6 hans kM kF dM rR rD rP rS hne hp5
          go_wp2_with fail
          go_roundw
          case rel => exact ⟨5, by decide, rfl, p6⟩
          case measure => simp [RowKit.intOf]
        · as_aux_lemma =>
          go_wp2_with (first
            | (guard_target =~ wpList _ _ _ (Oper.mk _ (Op.load 30 _) _ _ _ _ :: _) _ _; go_must (refine wpList_ld 30 (.tmp 3) rfl rfl _ _ rfl (lF.out wr ⟨⟨wr, hp.out⟩, rfl⟩) ?_); simp only [pts])
            | (go_at_call 6; refine (copied_any f pa ca wr (cT.out wr hp.out) hFm.out.1 hFm.out.2).mono ?_; rintro _ w1 ⟨gx, cx, ps, rfl, hps, hcop, hb1⟩; go_must (have sM : Hid _ := ⟨fun z hz => st_newF w1 z hz f (some ⟨gx, 0, none⟩) cx⟩; have m12 : (w1.alloc (fmO f (some ⟨gx, 0, none⟩) cx)).cell? ⟨w1.heap.size, 12, none⟩ = some (.slice (some ⟨gx, 0, none⟩) f.toks.length cx) := (fm_of (heap_al w1 _)).c12; obtain ⟨y, hy, rfl⟩ := cop_at hps ht; have tj := ((hcop.below (bel1 w1 (fmO f (some ⟨gx, 0, none⟩) cx))).tk hy).c5; have tf := cop_froz (hcop.below (bel1 w1 (fmO f (some ⟨gx, 0, none⟩) cx))) (i * 21 + 5); replace hps : Hid _ := ⟨hps⟩; replace hcop : Hid _ := ⟨hcop⟩; replace hb1 : Hid _ := ⟨hb1⟩; replace hy : Hid _ := ⟨hy⟩))
            | (guard_target =~ wpList _ _ _ (Oper.mk _ (Op.store 30 _ _) _ _ _ _ :: _) _ _; go_must (refine wpList_st 30 (.tmp 13) (.tmp 84) rfl rfl _ _ rfl rfl (sM.out _ rfl) ?_); simp only [pts]))
          have hc2 := hcop.out.below (bel1 w1 (fmO f (some ⟨gx, 0, none⟩) cx))
          have hOk := hok.out _ (List.mem_of_getElem? ht)
          have hgx := hcop.out.lt
          have hrow := put_row hc2 hy.out (j := 5) (by decide) (t' := ({ y.t with since := wrap64 (y.t.since + 1) } : Tk)) (u := (.int .i64 (wrap64 (y.t.since + 1)))) rfl rfl
          have hX3 : ((w1.alloc (fmO f (some ⟨gx, 0, none⟩) cx)).setCell ⟨gx, i * 21 + 5, none⟩ (.int .i64 (wrap64 (y.t.since + 1)))).heap[w1.heap.size]? = some (fmO f (some ⟨gx, 0, none⟩) cx) := (heap_setCell_other _ _ _ _ (fun e => by have e : w1.heap.size = gx := e; omega)).trans (heap_al w1 _)
          have hB3 : Below wr.heap.size wr ((w1.alloc (fmO f (some ⟨gx, 0, none⟩) cx)).setCell ⟨gx, i * 21 + 5, none⟩ (.int .i64 (wrap64 (y.t.since + 1)))) := (hb1.out.alloc hb1.out.size _).setCell (p := ⟨gx, i * 21 + 5, none⟩) hgx.1 _
          have hL3 : TkL ((w1.alloc (fmO f (some ⟨gx, 0, none⟩) cx)).setCell ⟨gx, i * 21 + 5, none⟩ (.int .i64 (wrap64 (y.t.since + 1)))) (some ⟨gx, 0, none⟩) ((w1.alloc (fmO f (some ⟨gx, 0, none⟩) cx)).setCell ⟨gx, i * 21 + 5, none⟩ (.int .i64 (wrap64 (y.t.since + 1)))).heap.size (f.toks.set i ({ y.t with since := wrap64 (y.t.since + 1) } : Tk)) := ⟨by rw [hps.out] at hrow; exact hrow, by rw [List.length_set]; omega, fun t ht2 => by
            rcases List.mem_or_eq_of_mem_set ht2 with h | rfl
            · exact hok.out t h
            · exact ⟨(hOk.op), (hOk.name), (hOk.id), (hOk.off), (hOk.siz), (wrap64_ok _), (hOk.prim), (hOk.len), (hOk.pres), (hOk.nul), (hOk.lo), (hOk.hi), (hOk.cst), (hOk.cs), (hOk.val), (hOk.blk), (hOk.full), (hOk.ap), (hOk.ao), (hOk.bp), (hOk.bo), (hOk.pair)⟩⟩
          have hs3 : w1.heap.size < ((w1.alloc (fmO f (some ⟨gx, 0, none⟩) cx)).setCell ⟨gx, i * 21 + 5, none⟩ (.int .i64 (wrap64 (y.t.since + 1)))).heap.size := (Array.getElem?_eq_some_iff.1 hX3).1
          have hne := set_ne ht (t' := ({ y.t with since := wrap64 (y.t.since + 1) } : Tk)) (fun e => wrap64_ne _ (congrArg Tk.since e))
          generalize hG3 : ((w1.alloc (fmO f (some ⟨gx, 0, none⟩) cx)).setCell ⟨gx, i * 21 + 5, none⟩ (.int .i64 (wrap64 (y.t.since + 1)))) = w3 at hX3 hB3 hL3 hs3 ⊢
          have p3 := pS.out _ _ hp.out hB3
          obtain ⟨r, rR, rD, rP, rS, kM, kF, dM⟩ : ∃ r : World → Prop, Hid (r w3) ∧ Hid (∀ W', r W' → r W'.drew) ∧ Hid (∀ W', r W' → p W') ∧ Hid (∀ W' W'', r W' → Below W'.heap.size W' W'' → r W'') ∧
              Hid (∀ W', (∃ θ : CW r, W' = θ.w) → (Instr.loadAt 30 (.pointer (some ⟨w1.heap.size, 0, none⟩))).run Try.prog W' = .ok (fmV f (some ⟨gx, 0, none⟩) cx) W') ∧
              Hid (∀ W', (∃ θ : CW r, W' = θ.w) → (Instr.loadAt 30 (.pointer (some ⟨w.heap.size, 0, none⟩))).run Try.prog W' = .ok (fmV f pa ca) W') ∧
              Hid (∀ W', r W' → CpV W' (fmV f (some ⟨gx, 0, none⟩) cx) ({ f with toks := f.toks.set i ({ y.t with since := wrap64 (y.t.since + 1) } : Tk) } : Fm)) :=
            ⟨Below w3.heap.size w3, ⟨Below.refl _ _⟩, ⟨fun _ h => h.drew⟩, ⟨fun _ h => pS.out _ _ p3 h⟩, ⟨fun _ _ h k => h.trans (k.mono h.size)⟩,
              ⟨by rintro _ ⟨θ, rfl⟩; exact (fm_of ((θ.h.block _ hs3).trans hX3)).load⟩,
              ⟨by rintro _ ⟨θ, rfl⟩; exact lF.out _ ⟨⟨θ.w, pS.out _ _ p3 θ.h⟩, rfl⟩⟩,
              ⟨fun W' h => ⟨some ⟨gx, 0, none⟩, cx, fmV_set _ _ _ _ _, (hL3.below h).mono h.size⟩⟩⟩
          replace hne : Hid _ := ⟨hne⟩
          clear hrow hX3 hB3 hL3 hs3 hG3 p3 hc2 hOk hgx hcop hy hps hb1 m12 sM tj tf
          refine wp_region_lp r (by kernel_rfl) (by kernel_rfl) (fun _ _ d _ _ h => by cases d <;> exact h) (rD.out _ rR.out) fun W5 hp5 => ?_
          repeat (first | (guard_target =~ Lx _ _ _ _ (Oper.mk _ (Op.load 30 _) _ _ _ _ :: _) _ _; (first | refine lx_ld kM.out rfl rfl ?_ | refine lx_ld kF.out rfl rfl ?_); simp only [pts]) | (refine lx_one rfl ?_; (first | go_big_quiet_skip | (go_big_quiet_want; go_big_quiet_op; go_big_quiet_on)); refine wpQuiet_nil ?_))
          refine lx_cx1 ent_copied (copV _ _ _ hFm.out (cF.out _ (rP.out _ hp5))) rfl (by rfl) ?_
          rintro _ A5 ⟨u5a, rfl, ha5, hb5⟩
          refine ⟨u5a, rfl, ⟨⟨A5, rS.out _ _ hp5 hb5⟩, rfl⟩, ?_⟩
          simp only [pts]
          repeat (first | (guard_target =~ Lx _ _ _ _ (Oper.mk _ (Op.load 30 _) _ _ _ _ :: _) _ _; (first | refine lx_ld kM.out rfl rfl ?_ | refine lx_ld kF.out rfl rfl ?_); simp only [pts]) | (refine lx_one rfl ?_; (first | go_big_quiet_skip | (go_big_quiet_want; go_big_quiet_op; go_big_quiet_on)); refine wpQuiet_nil ?_))
          refine lx_cx2 ent_Same (sameV _ _ _ _ _ (dM.out _ (rS.out _ _ hp5 hb5)) (ha5)) rfl rfl (by rfl) ?_
          rintro _ A6 ⟨hans, hb6⟩
          obtain rfl := hans.said (b := false) (by simp [hne.out])
          refine ⟨_, rfl, ⟨⟨A6, rS.out _ _ (rS.out _ _ hp5 hb5) hb6⟩, rfl⟩, ?_⟩
          simp only [pts]
          refine lx_done ?_
          have p6 : Hid (p A6) := ⟨rP.out _ (rS.out _ _ (rS.out _ _ hp5 hb5) hb6)⟩
          clear ha5 hb5 hb6 hans kM kF dM rR rD rP rS hne hp5
          go_wp2_with fail
          go_roundw
          case rel => exact ⟨6, by decide, rfl, p6⟩
          case measure => simp [RowKit.intOf]
        · as_aux_lemma =>
          go_wp2_with (first
            | (guard_target =~ wpList _ _ _ (Oper.mk _ (Op.load 30 _) _ _ _ _ :: _) _ _; go_must (refine wpList_ld 30 (.tmp 3) rfl rfl _ _ rfl (lF.out wr ⟨⟨wr, hp.out⟩, rfl⟩) ?_); simp only [pts])
            | (go_at_call 6; refine (copied_any f pa ca wr (cT.out wr hp.out) hFm.out.1 hFm.out.2).mono ?_; rintro _ w1 ⟨gx, cx, ps, rfl, hps, hcop, hb1⟩; go_must (have sM : Hid _ := ⟨fun z hz => st_newF w1 z hz f (some ⟨gx, 0, none⟩) cx⟩; have m12 : (w1.alloc (fmO f (some ⟨gx, 0, none⟩) cx)).cell? ⟨w1.heap.size, 12, none⟩ = some (.slice (some ⟨gx, 0, none⟩) f.toks.length cx) := (fm_of (heap_al w1 _)).c12; obtain ⟨y, hy, rfl⟩ := cop_at hps ht; have tj := ((hcop.below (bel1 w1 (fmO f (some ⟨gx, 0, none⟩) cx))).tk hy).c6; have tf := cop_froz (hcop.below (bel1 w1 (fmO f (some ⟨gx, 0, none⟩) cx))) (i * 21 + 6); replace hps : Hid _ := ⟨hps⟩; replace hcop : Hid _ := ⟨hcop⟩; replace hb1 : Hid _ := ⟨hb1⟩; replace hy : Hid _ := ⟨hy⟩))
            | (guard_target =~ wpList _ _ _ (Oper.mk _ (Op.store 30 _ _) _ _ _ _ :: _) _ _; go_must (refine wpList_st 30 (.tmp 13) (.tmp 84) rfl rfl _ _ rfl rfl (sM.out _ rfl) ?_); simp only [pts]))
          have hc2 := hcop.out.below (bel1 w1 (fmO f (some ⟨gx, 0, none⟩) cx))
          have hOk := hok.out _ (List.mem_of_getElem? ht)
          have hgx := hcop.out.lt
          have hrow := put_row hc2 hy.out (j := 6) (by decide) (t' := ({ y.t with prim := wrap64 (y.t.prim + 1) } : Tk)) (u := (.int .i64 (wrap64 (y.t.prim + 1)))) rfl rfl
          have hX3 : ((w1.alloc (fmO f (some ⟨gx, 0, none⟩) cx)).setCell ⟨gx, i * 21 + 6, none⟩ (.int .i64 (wrap64 (y.t.prim + 1)))).heap[w1.heap.size]? = some (fmO f (some ⟨gx, 0, none⟩) cx) := (heap_setCell_other _ _ _ _ (fun e => by have e : w1.heap.size = gx := e; omega)).trans (heap_al w1 _)
          have hB3 : Below wr.heap.size wr ((w1.alloc (fmO f (some ⟨gx, 0, none⟩) cx)).setCell ⟨gx, i * 21 + 6, none⟩ (.int .i64 (wrap64 (y.t.prim + 1)))) := (hb1.out.alloc hb1.out.size _).setCell (p := ⟨gx, i * 21 + 6, none⟩) hgx.1 _
          have hL3 : TkL ((w1.alloc (fmO f (some ⟨gx, 0, none⟩) cx)).setCell ⟨gx, i * 21 + 6, none⟩ (.int .i64 (wrap64 (y.t.prim + 1)))) (some ⟨gx, 0, none⟩) ((w1.alloc (fmO f (some ⟨gx, 0, none⟩) cx)).setCell ⟨gx, i * 21 + 6, none⟩ (.int .i64 (wrap64 (y.t.prim + 1)))).heap.size (f.toks.set i ({ y.t with prim := wrap64 (y.t.prim + 1) } : Tk)) := ⟨by rw [hps.out] at hrow; exact hrow, by rw [List.length_set]; omega, fun t ht2 => by
            rcases List.mem_or_eq_of_mem_set ht2 with h | rfl
            · exact hok.out t h
            · exact ⟨(hOk.op), (hOk.name), (hOk.id), (hOk.off), (hOk.siz), (hOk.since), (wrap64_ok _), (hOk.len), (hOk.pres), (hOk.nul), (hOk.lo), (hOk.hi), (hOk.cst), (hOk.cs), (hOk.val), (hOk.blk), (hOk.full), (hOk.ap), (hOk.ao), (hOk.bp), (hOk.bo), (hOk.pair)⟩⟩
          have hs3 : w1.heap.size < ((w1.alloc (fmO f (some ⟨gx, 0, none⟩) cx)).setCell ⟨gx, i * 21 + 6, none⟩ (.int .i64 (wrap64 (y.t.prim + 1)))).heap.size := (Array.getElem?_eq_some_iff.1 hX3).1
          have hne := set_ne ht (t' := ({ y.t with prim := wrap64 (y.t.prim + 1) } : Tk)) (fun e => wrap64_ne _ (congrArg Tk.prim e))
          generalize hG3 : ((w1.alloc (fmO f (some ⟨gx, 0, none⟩) cx)).setCell ⟨gx, i * 21 + 6, none⟩ (.int .i64 (wrap64 (y.t.prim + 1)))) = w3 at hX3 hB3 hL3 hs3 ⊢
          have p3 := pS.out _ _ hp.out hB3
          obtain ⟨r, rR, rD, rP, rS, kM, kF, dM⟩ : ∃ r : World → Prop, Hid (r w3) ∧ Hid (∀ W', r W' → r W'.drew) ∧ Hid (∀ W', r W' → p W') ∧ Hid (∀ W' W'', r W' → Below W'.heap.size W' W'' → r W'') ∧
              Hid (∀ W', (∃ θ : CW r, W' = θ.w) → (Instr.loadAt 30 (.pointer (some ⟨w1.heap.size, 0, none⟩))).run Try.prog W' = .ok (fmV f (some ⟨gx, 0, none⟩) cx) W') ∧
              Hid (∀ W', (∃ θ : CW r, W' = θ.w) → (Instr.loadAt 30 (.pointer (some ⟨w.heap.size, 0, none⟩))).run Try.prog W' = .ok (fmV f pa ca) W') ∧
              Hid (∀ W', r W' → CpV W' (fmV f (some ⟨gx, 0, none⟩) cx) ({ f with toks := f.toks.set i ({ y.t with prim := wrap64 (y.t.prim + 1) } : Tk) } : Fm)) :=
            ⟨Below w3.heap.size w3, ⟨Below.refl _ _⟩, ⟨fun _ h => h.drew⟩, ⟨fun _ h => pS.out _ _ p3 h⟩, ⟨fun _ _ h k => h.trans (k.mono h.size)⟩,
              ⟨by rintro _ ⟨θ, rfl⟩; exact (fm_of ((θ.h.block _ hs3).trans hX3)).load⟩,
              ⟨by rintro _ ⟨θ, rfl⟩; exact lF.out _ ⟨⟨θ.w, pS.out _ _ p3 θ.h⟩, rfl⟩⟩,
              ⟨fun W' h => ⟨some ⟨gx, 0, none⟩, cx, fmV_set _ _ _ _ _, (hL3.below h).mono h.size⟩⟩⟩
          replace hne : Hid _ := ⟨hne⟩
          clear hrow hX3 hB3 hL3 hs3 hG3 p3 hc2 hOk hgx hcop hy hps hb1 m12 sM tj tf
          refine wp_region_lp r (by kernel_rfl) (by kernel_rfl) (fun _ _ d _ _ h => by cases d <;> exact h) (rD.out _ rR.out) fun W5 hp5 => ?_
          repeat (first | (guard_target =~ Lx _ _ _ _ (Oper.mk _ (Op.load 30 _) _ _ _ _ :: _) _ _; (first | refine lx_ld kM.out rfl rfl ?_ | refine lx_ld kF.out rfl rfl ?_); simp only [pts]) | (refine lx_one rfl ?_; (first | go_big_quiet_skip | (go_big_quiet_want; go_big_quiet_op; go_big_quiet_on)); refine wpQuiet_nil ?_))
          refine lx_cx1 ent_copied (copV _ _ _ hFm.out (cF.out _ (rP.out _ hp5))) rfl (by rfl) ?_
          rintro _ A5 ⟨u5a, rfl, ha5, hb5⟩
          refine ⟨u5a, rfl, ⟨⟨A5, rS.out _ _ hp5 hb5⟩, rfl⟩, ?_⟩
          simp only [pts]
          repeat (first | (guard_target =~ Lx _ _ _ _ (Oper.mk _ (Op.load 30 _) _ _ _ _ :: _) _ _; (first | refine lx_ld kM.out rfl rfl ?_ | refine lx_ld kF.out rfl rfl ?_); simp only [pts]) | (refine lx_one rfl ?_; (first | go_big_quiet_skip | (go_big_quiet_want; go_big_quiet_op; go_big_quiet_on)); refine wpQuiet_nil ?_))
          refine lx_cx2 ent_Same (sameV _ _ _ _ _ (dM.out _ (rS.out _ _ hp5 hb5)) (ha5)) rfl rfl (by rfl) ?_
          rintro _ A6 ⟨hans, hb6⟩
          obtain rfl := hans.said (b := false) (by simp [hne.out])
          refine ⟨_, rfl, ⟨⟨A6, rS.out _ _ (rS.out _ _ hp5 hb5) hb6⟩, rfl⟩, ?_⟩
          simp only [pts]
          refine lx_done ?_
          have p6 : Hid (p A6) := ⟨rP.out _ (rS.out _ _ (rS.out _ _ hp5 hb5) hb6)⟩
          clear ha5 hb5 hb6 hans kM kF dM rR rD rP rS hne hp5
          go_wp2_with fail
          go_roundw
          case rel => exact ⟨7, by decide, rfl, p6⟩
          case measure => simp [RowKit.intOf]
        · as_aux_lemma =>
          go_wp2_with (first
            | (guard_target =~ wpList _ _ _ (Oper.mk _ (Op.load 30 _) _ _ _ _ :: _) _ _; go_must (refine wpList_ld 30 (.tmp 3) rfl rfl _ _ rfl (lF.out wr ⟨⟨wr, hp.out⟩, rfl⟩) ?_); simp only [pts])
            | (go_at_call 6; refine (copied_any f pa ca wr (cT.out wr hp.out) hFm.out.1 hFm.out.2).mono ?_; rintro _ w1 ⟨gx, cx, ps, rfl, hps, hcop, hb1⟩; go_must (have sM : Hid _ := ⟨fun z hz => st_newF w1 z hz f (some ⟨gx, 0, none⟩) cx⟩; have m12 : (w1.alloc (fmO f (some ⟨gx, 0, none⟩) cx)).cell? ⟨w1.heap.size, 12, none⟩ = some (.slice (some ⟨gx, 0, none⟩) f.toks.length cx) := (fm_of (heap_al w1 _)).c12; obtain ⟨y, hy, rfl⟩ := cop_at hps ht; have tj := ((hcop.below (bel1 w1 (fmO f (some ⟨gx, 0, none⟩) cx))).tk hy).c7; have tf := cop_froz (hcop.below (bel1 w1 (fmO f (some ⟨gx, 0, none⟩) cx))) (i * 21 + 7); replace hps : Hid _ := ⟨hps⟩; replace hcop : Hid _ := ⟨hcop⟩; replace hb1 : Hid _ := ⟨hb1⟩; replace hy : Hid _ := ⟨hy⟩))
            | (guard_target =~ wpList _ _ _ (Oper.mk _ (Op.store 30 _ _) _ _ _ _ :: _) _ _; go_must (refine wpList_st 30 (.tmp 13) (.tmp 84) rfl rfl _ _ rfl rfl (sM.out _ rfl) ?_); simp only [pts]))
          have hc2 := hcop.out.below (bel1 w1 (fmO f (some ⟨gx, 0, none⟩) cx))
          have hOk := hok.out _ (List.mem_of_getElem? ht)
          have hgx := hcop.out.lt
          have hrow := put_row hc2 hy.out (j := 7) (by decide) (t' := ({ y.t with len := wrap64 (y.t.len + 1) } : Tk)) (u := (.int .i64 (wrap64 (y.t.len + 1)))) rfl rfl
          have hX3 : ((w1.alloc (fmO f (some ⟨gx, 0, none⟩) cx)).setCell ⟨gx, i * 21 + 7, none⟩ (.int .i64 (wrap64 (y.t.len + 1)))).heap[w1.heap.size]? = some (fmO f (some ⟨gx, 0, none⟩) cx) := (heap_setCell_other _ _ _ _ (fun e => by have e : w1.heap.size = gx := e; omega)).trans (heap_al w1 _)
          have hB3 : Below wr.heap.size wr ((w1.alloc (fmO f (some ⟨gx, 0, none⟩) cx)).setCell ⟨gx, i * 21 + 7, none⟩ (.int .i64 (wrap64 (y.t.len + 1)))) := (hb1.out.alloc hb1.out.size _).setCell (p := ⟨gx, i * 21 + 7, none⟩) hgx.1 _
          have hL3 : TkL ((w1.alloc (fmO f (some ⟨gx, 0, none⟩) cx)).setCell ⟨gx, i * 21 + 7, none⟩ (.int .i64 (wrap64 (y.t.len + 1)))) (some ⟨gx, 0, none⟩) ((w1.alloc (fmO f (some ⟨gx, 0, none⟩) cx)).setCell ⟨gx, i * 21 + 7, none⟩ (.int .i64 (wrap64 (y.t.len + 1)))).heap.size (f.toks.set i ({ y.t with len := wrap64 (y.t.len + 1) } : Tk)) := ⟨by rw [hps.out] at hrow; exact hrow, by rw [List.length_set]; omega, fun t ht2 => by
            rcases List.mem_or_eq_of_mem_set ht2 with h | rfl
            · exact hok.out t h
            · exact ⟨(hOk.op), (hOk.name), (hOk.id), (hOk.off), (hOk.siz), (hOk.since), (hOk.prim), (wrap64_ok _), (hOk.pres), (hOk.nul), (hOk.lo), (hOk.hi), (hOk.cst), (hOk.cs), (hOk.val), (hOk.blk), (hOk.full), (hOk.ap), (hOk.ao), (hOk.bp), (hOk.bo), (hOk.pair)⟩⟩
          have hs3 : w1.heap.size < ((w1.alloc (fmO f (some ⟨gx, 0, none⟩) cx)).setCell ⟨gx, i * 21 + 7, none⟩ (.int .i64 (wrap64 (y.t.len + 1)))).heap.size := (Array.getElem?_eq_some_iff.1 hX3).1
          have hne := set_ne ht (t' := ({ y.t with len := wrap64 (y.t.len + 1) } : Tk)) (fun e => wrap64_ne _ (congrArg Tk.len e))
          generalize hG3 : ((w1.alloc (fmO f (some ⟨gx, 0, none⟩) cx)).setCell ⟨gx, i * 21 + 7, none⟩ (.int .i64 (wrap64 (y.t.len + 1)))) = w3 at hX3 hB3 hL3 hs3 ⊢
          have p3 := pS.out _ _ hp.out hB3
          obtain ⟨r, rR, rD, rP, rS, kM, kF, dM⟩ : ∃ r : World → Prop, Hid (r w3) ∧ Hid (∀ W', r W' → r W'.drew) ∧ Hid (∀ W', r W' → p W') ∧ Hid (∀ W' W'', r W' → Below W'.heap.size W' W'' → r W'') ∧
              Hid (∀ W', (∃ θ : CW r, W' = θ.w) → (Instr.loadAt 30 (.pointer (some ⟨w1.heap.size, 0, none⟩))).run Try.prog W' = .ok (fmV f (some ⟨gx, 0, none⟩) cx) W') ∧
              Hid (∀ W', (∃ θ : CW r, W' = θ.w) → (Instr.loadAt 30 (.pointer (some ⟨w.heap.size, 0, none⟩))).run Try.prog W' = .ok (fmV f pa ca) W') ∧
              Hid (∀ W', r W' → CpV W' (fmV f (some ⟨gx, 0, none⟩) cx) ({ f with toks := f.toks.set i ({ y.t with len := wrap64 (y.t.len + 1) } : Tk) } : Fm)) :=
            ⟨Below w3.heap.size w3, ⟨Below.refl _ _⟩, ⟨fun _ h => h.drew⟩, ⟨fun _ h => pS.out _ _ p3 h⟩, ⟨fun _ _ h k => h.trans (k.mono h.size)⟩,
              ⟨by rintro _ ⟨θ, rfl⟩; exact (fm_of ((θ.h.block _ hs3).trans hX3)).load⟩,
              ⟨by rintro _ ⟨θ, rfl⟩; exact lF.out _ ⟨⟨θ.w, pS.out _ _ p3 θ.h⟩, rfl⟩⟩,
              ⟨fun W' h => ⟨some ⟨gx, 0, none⟩, cx, fmV_set _ _ _ _ _, (hL3.below h).mono h.size⟩⟩⟩
          replace hne : Hid _ := ⟨hne⟩
          clear hrow hX3 hB3 hL3 hs3 hG3 p3 hc2 hOk hgx hcop hy hps hb1 m12 sM tj tf
          refine wp_region_lp r (by kernel_rfl) (by kernel_rfl) (fun _ _ d _ _ h => by cases d <;> exact h) (rD.out _ rR.out) fun W5 hp5 => ?_
          repeat (first | (guard_target =~ Lx _ _ _ _ (Oper.mk _ (Op.load 30 _) _ _ _ _ :: _) _ _; (first | refine lx_ld kM.out rfl rfl ?_ | refine lx_ld kF.out rfl rfl ?_); simp only [pts]) | (refine lx_one rfl ?_; (first | go_big_quiet_skip | (go_big_quiet_want; go_big_quiet_op; go_big_quiet_on)); refine wpQuiet_nil ?_))
          refine lx_cx1 ent_copied (copV _ _ _ hFm.out (cF.out _ (rP.out _ hp5))) rfl (by rfl) ?_
          rintro _ A5 ⟨u5a, rfl, ha5, hb5⟩
          refine ⟨u5a, rfl, ⟨⟨A5, rS.out _ _ hp5 hb5⟩, rfl⟩, ?_⟩
          simp only [pts]
          repeat (first | (guard_target =~ Lx _ _ _ _ (Oper.mk _ (Op.load 30 _) _ _ _ _ :: _) _ _; (first | refine lx_ld kM.out rfl rfl ?_ | refine lx_ld kF.out rfl rfl ?_); simp only [pts]) | (refine lx_one rfl ?_; (first | go_big_quiet_skip | (go_big_quiet_want; go_big_quiet_op; go_big_quiet_on)); refine wpQuiet_nil ?_))
          refine lx_cx2 ent_Same (sameV _ _ _ _ _ (dM.out _ (rS.out _ _ hp5 hb5)) (ha5)) rfl rfl (by rfl) ?_
          rintro _ A6 ⟨hans, hb6⟩
          obtain rfl := hans.said (b := false) (by simp [hne.out])
          refine ⟨_, rfl, ⟨⟨A6, rS.out _ _ (rS.out _ _ hp5 hb5) hb6⟩, rfl⟩, ?_⟩
          simp only [pts]
          refine lx_done ?_
          have p6 : Hid (p A6) := ⟨rP.out _ (rS.out _ _ (rS.out _ _ hp5 hb5) hb6)⟩
          clear ha5 hb5 hb6 hans kM kF dM rR rD rP rS hne hp5
          go_wp2_with fail
          go_roundw
          case rel => exact ⟨8, by decide, rfl, p6⟩
          case measure => simp [RowKit.intOf]
        · as_aux_lemma =>
          go_wp2_with (first
            | (guard_target =~ wpList _ _ _ (Oper.mk _ (Op.load 30 _) _ _ _ _ :: _) _ _; go_must (refine wpList_ld 30 (.tmp 3) rfl rfl _ _ rfl (lF.out wr ⟨⟨wr, hp.out⟩, rfl⟩) ?_); simp only [pts])
            | (go_at_call 6; refine (copied_any f pa ca wr (cT.out wr hp.out) hFm.out.1 hFm.out.2).mono ?_; rintro _ w1 ⟨gx, cx, ps, rfl, hps, hcop, hb1⟩; go_must (have sM : Hid _ := ⟨fun z hz => st_newF w1 z hz f (some ⟨gx, 0, none⟩) cx⟩; have m12 : (w1.alloc (fmO f (some ⟨gx, 0, none⟩) cx)).cell? ⟨w1.heap.size, 12, none⟩ = some (.slice (some ⟨gx, 0, none⟩) f.toks.length cx) := (fm_of (heap_al w1 _)).c12; obtain ⟨y, hy, rfl⟩ := cop_at hps ht; have tj := ((hcop.below (bel1 w1 (fmO f (some ⟨gx, 0, none⟩) cx))).tk hy).c8; have tf := cop_froz (hcop.below (bel1 w1 (fmO f (some ⟨gx, 0, none⟩) cx))) (i * 21 + 8); replace hps : Hid _ := ⟨hps⟩; replace hcop : Hid _ := ⟨hcop⟩; replace hb1 : Hid _ := ⟨hb1⟩; replace hy : Hid _ := ⟨hy⟩))
            | (guard_target =~ wpList _ _ _ (Oper.mk _ (Op.store 30 _ _) _ _ _ _ :: _) _ _; go_must (refine wpList_st 30 (.tmp 13) (.tmp 84) rfl rfl _ _ rfl rfl (sM.out _ rfl) ?_); simp only [pts]))
          have hc2 := hcop.out.below (bel1 w1 (fmO f (some ⟨gx, 0, none⟩) cx))
          have hOk := hok.out _ (List.mem_of_getElem? ht)
          have hgx := hcop.out.lt
          have hrow := put_row hc2 hy.out (j := 8) (by decide) (t' := ({ y.t with pres := wrap64 (y.t.pres + 1) } : Tk)) (u := (.int .i64 (wrap64 (y.t.pres + 1)))) rfl rfl
          have hX3 : ((w1.alloc (fmO f (some ⟨gx, 0, none⟩) cx)).setCell ⟨gx, i * 21 + 8, none⟩ (.int .i64 (wrap64 (y.t.pres + 1)))).heap[w1.heap.size]? = some (fmO f (some ⟨gx, 0, none⟩) cx) := (heap_setCell_other _ _ _ _ (fun e => by have e : w1.heap.size = gx := e; omega)).trans (heap_al w1 _)
          have hB3 : Below wr.heap.size wr ((w1.alloc (fmO f (some ⟨gx, 0, none⟩) cx)).setCell ⟨gx, i * 21 + 8, none⟩ (.int .i64 (wrap64 (y.t.pres + 1)))) := (hb1.out.alloc hb1.out.size _).setCell (p := ⟨gx, i * 21 + 8, none⟩) hgx.1 _
          have hL3 : TkL ((w1.alloc (fmO f (some ⟨gx, 0, none⟩) cx)).setCell ⟨gx, i * 21 + 8, none⟩ (.int .i64 (wrap64 (y.t.pres + 1)))) (some ⟨gx, 0, none⟩) ((w1.alloc (fmO f (some ⟨gx, 0, none⟩) cx)).setCell ⟨gx, i * 21 + 8, none⟩ (.int .i64 (wrap64 (y.t.pres + 1)))).heap.size (f.toks.set i ({ y.t with pres := wrap64 (y.t.pres + 1) } : Tk)) := ⟨by rw [hps.out] at hrow; exact hrow, by rw [List.length_set]; omega, fun t ht2 => by
            rcases List.mem_or_eq_of_mem_set ht2 with h | rfl
            · exact hok.out t h
            · exact ⟨(hOk.op), (hOk.name), (hOk.id), (hOk.off), (hOk.siz), (hOk.since), (hOk.prim), (hOk.len), (wrap64_ok _), (hOk.nul), (hOk.lo), (hOk.hi), (hOk.cst), (hOk.cs), (hOk.val), (hOk.blk), (hOk.full), (hOk.ap), (hOk.ao), (hOk.bp), (hOk.bo), (hOk.pair)⟩⟩
          have hs3 : w1.heap.size < ((w1.alloc (fmO f (some ⟨gx, 0, none⟩) cx)).setCell ⟨gx, i * 21 + 8, none⟩ (.int .i64 (wrap64 (y.t.pres + 1)))).heap.size := (Array.getElem?_eq_some_iff.1 hX3).1
          have hne := set_ne ht (t' := ({ y.t with pres := wrap64 (y.t.pres + 1) } : Tk)) (fun e => wrap64_ne _ (congrArg Tk.pres e))
          generalize hG3 : ((w1.alloc (fmO f (some ⟨gx, 0, none⟩) cx)).setCell ⟨gx, i * 21 + 8, none⟩ (.int .i64 (wrap64 (y.t.pres + 1)))) = w3 at hX3 hB3 hL3 hs3 ⊢
          have p3 := pS.out _ _ hp.out hB3
          obtain ⟨r, rR, rD, rP, rS, kM, kF, dM⟩ : ∃ r : World → Prop, Hid (r w3) ∧ Hid (∀ W', r W' → r W'.drew) ∧ Hid (∀ W', r W' → p W') ∧ Hid (∀ W' W'', r W' → Below W'.heap.size W' W'' → r W'') ∧
              Hid (∀ W', (∃ θ : CW r, W' = θ.w) → (Instr.loadAt 30 (.pointer (some ⟨w1.heap.size, 0, none⟩))).run Try.prog W' = .ok (fmV f (some ⟨gx, 0, none⟩) cx) W') ∧
              Hid (∀ W', (∃ θ : CW r, W' = θ.w) → (Instr.loadAt 30 (.pointer (some ⟨w.heap.size, 0, none⟩))).run Try.prog W' = .ok (fmV f pa ca) W') ∧
              Hid (∀ W', r W' → CpV W' (fmV f (some ⟨gx, 0, none⟩) cx) ({ f with toks := f.toks.set i ({ y.t with pres := wrap64 (y.t.pres + 1) } : Tk) } : Fm)) :=
            ⟨Below w3.heap.size w3, ⟨Below.refl _ _⟩, ⟨fun _ h => h.drew⟩, ⟨fun _ h => pS.out _ _ p3 h⟩, ⟨fun _ _ h k => h.trans (k.mono h.size)⟩,
              ⟨by rintro _ ⟨θ, rfl⟩; exact (fm_of ((θ.h.block _ hs3).trans hX3)).load⟩,
              ⟨by rintro _ ⟨θ, rfl⟩; exact lF.out _ ⟨⟨θ.w, pS.out _ _ p3 θ.h⟩, rfl⟩⟩,
              ⟨fun W' h => ⟨some ⟨gx, 0, none⟩, cx, fmV_set _ _ _ _ _, (hL3.below h).mono h.size⟩⟩⟩
          replace hne : Hid _ := ⟨hne⟩
          clear hrow hX3 hB3 hL3 hs3 hG3 p3 hc2 hOk hgx hcop hy hps hb1 m12 sM tj tf
          refine wp_region_lp r (by kernel_rfl) (by kernel_rfl) (fun _ _ d _ _ h => by cases d <;> exact h) (rD.out _ rR.out) fun W5 hp5 => ?_
          repeat (first | (guard_target =~ Lx _ _ _ _ (Oper.mk _ (Op.load 30 _) _ _ _ _ :: _) _ _; (first | refine lx_ld kM.out rfl rfl ?_ | refine lx_ld kF.out rfl rfl ?_); simp only [pts]) | (refine lx_one rfl ?_; (first | go_big_quiet_skip | (go_big_quiet_want; go_big_quiet_op; go_big_quiet_on)); refine wpQuiet_nil ?_))
          refine lx_cx1 ent_copied (copV _ _ _ hFm.out (cF.out _ (rP.out _ hp5))) rfl (by rfl) ?_
          rintro _ A5 ⟨u5a, rfl, ha5, hb5⟩
          refine ⟨u5a, rfl, ⟨⟨A5, rS.out _ _ hp5 hb5⟩, rfl⟩, ?_⟩
          simp only [pts]
          repeat (first | (guard_target =~ Lx _ _ _ _ (Oper.mk _ (Op.load 30 _) _ _ _ _ :: _) _ _; (first | refine lx_ld kM.out rfl rfl ?_ | refine lx_ld kF.out rfl rfl ?_); simp only [pts]) | (refine lx_one rfl ?_; (first | go_big_quiet_skip | (go_big_quiet_want; go_big_quiet_op; go_big_quiet_on)); refine wpQuiet_nil ?_))
          refine lx_cx2 ent_Same (sameV _ _ _ _ _ (dM.out _ (rS.out _ _ hp5 hb5)) (ha5)) rfl rfl (by rfl) ?_
          rintro _ A6 ⟨hans, hb6⟩
          obtain rfl := hans.said (b := false) (by simp [hne.out])
          refine ⟨_, rfl, ⟨⟨A6, rS.out _ _ (rS.out _ _ hp5 hb5) hb6⟩, rfl⟩, ?_⟩
          simp only [pts]
          refine lx_done ?_
          have p6 : Hid (p A6) := ⟨rP.out _ (rS.out _ _ (rS.out _ _ hp5 hb5) hb6)⟩
          clear ha5 hb5 hb6 hans kM kF dM rR rD rP rS hne hp5
          go_wp2_with fail
          go_roundw
          case rel => exact ⟨9, by decide, rfl, p6⟩
          case measure => simp [RowKit.intOf]
        · as_aux_lemma =>
          go_wp2_with (first
            | (guard_target =~ wpList _ _ _ (Oper.mk _ (Op.load 30 _) _ _ _ _ :: _) _ _; go_must (refine wpList_ld 30 (.tmp 3) rfl rfl _ _ rfl (lF.out wr ⟨⟨wr, hp.out⟩, rfl⟩) ?_); simp only [pts])
            | (go_at_call 6; refine (copied_any f pa ca wr (cT.out wr hp.out) hFm.out.1 hFm.out.2).mono ?_; rintro _ w1 ⟨gx, cx, ps, rfl, hps, hcop, hb1⟩; go_must (have sM : Hid _ := ⟨fun z hz => st_newF w1 z hz f (some ⟨gx, 0, none⟩) cx⟩; have m12 : (w1.alloc (fmO f (some ⟨gx, 0, none⟩) cx)).cell? ⟨w1.heap.size, 12, none⟩ = some (.slice (some ⟨gx, 0, none⟩) f.toks.length cx) := (fm_of (heap_al w1 _)).c12; obtain ⟨y, hy, rfl⟩ := cop_at hps ht; have tj := ((hcop.below (bel1 w1 (fmO f (some ⟨gx, 0, none⟩) cx))).tk hy).c9; have tf := cop_froz (hcop.below (bel1 w1 (fmO f (some ⟨gx, 0, none⟩) cx))) (i * 21 + 9); replace hps : Hid _ := ⟨hps⟩; replace hcop : Hid _ := ⟨hcop⟩; replace hb1 : Hid _ := ⟨hb1⟩; replace hy : Hid _ := ⟨hy⟩))
            | (guard_target =~ wpList _ _ _ (Oper.mk _ (Op.store 30 _ _) _ _ _ _ :: _) _ _; go_must (refine wpList_st 30 (.tmp 13) (.tmp 84) rfl rfl _ _ rfl rfl (sM.out _ rfl) ?_); simp only [pts]))
          have hc2 := hcop.out.below (bel1 w1 (fmO f (some ⟨gx, 0, none⟩) cx))
          have hOk := hok.out _ (List.mem_of_getElem? ht)
          have hgx := hcop.out.lt
          have hrow := put_row hc2 hy.out (j := 9) (by decide) (t' := ({ y.t with nul := IntKind.u64.wrap (y.t.nul + 1) } : Tk)) (u := (.int .u64 (IntKind.u64.wrap (y.t.nul + 1)))) rfl rfl
          have hX3 : ((w1.alloc (fmO f (some ⟨gx, 0, none⟩) cx)).setCell ⟨gx, i * 21 + 9, none⟩ (.int .u64 (IntKind.u64.wrap (y.t.nul + 1)))).heap[w1.heap.size]? = some (fmO f (some ⟨gx, 0, none⟩) cx) := (heap_setCell_other _ _ _ _ (fun e => by have e : w1.heap.size = gx := e; omega)).trans (heap_al w1 _)
          have hB3 : Below wr.heap.size wr ((w1.alloc (fmO f (some ⟨gx, 0, none⟩) cx)).setCell ⟨gx, i * 21 + 9, none⟩ (.int .u64 (IntKind.u64.wrap (y.t.nul + 1)))) := (hb1.out.alloc hb1.out.size _).setCell (p := ⟨gx, i * 21 + 9, none⟩) hgx.1 _
          have hL3 : TkL ((w1.alloc (fmO f (some ⟨gx, 0, none⟩) cx)).setCell ⟨gx, i * 21 + 9, none⟩ (.int .u64 (IntKind.u64.wrap (y.t.nul + 1)))) (some ⟨gx, 0, none⟩) ((w1.alloc (fmO f (some ⟨gx, 0, none⟩) cx)).setCell ⟨gx, i * 21 + 9, none⟩ (.int .u64 (IntKind.u64.wrap (y.t.nul + 1)))).heap.size (f.toks.set i ({ y.t with nul := IntKind.u64.wrap (y.t.nul + 1) } : Tk)) := ⟨by rw [hps.out] at hrow; exact hrow, by rw [List.length_set]; omega, fun t ht2 => by
            rcases List.mem_or_eq_of_mem_set ht2 with h | rfl
            · exact hok.out t h
            · exact ⟨(hOk.op), (hOk.name), (hOk.id), (hOk.off), (hOk.siz), (hOk.since), (hOk.prim), (hOk.len), (hOk.pres), (u64w_ok _), (hOk.lo), (hOk.hi), (hOk.cst), (hOk.cs), (hOk.val), (hOk.blk), (hOk.full), (hOk.ap), (hOk.ao), (hOk.bp), (hOk.bo), (hOk.pair)⟩⟩
          have hs3 : w1.heap.size < ((w1.alloc (fmO f (some ⟨gx, 0, none⟩) cx)).setCell ⟨gx, i * 21 + 9, none⟩ (.int .u64 (IntKind.u64.wrap (y.t.nul + 1)))).heap.size := (Array.getElem?_eq_some_iff.1 hX3).1
          have hne := set_ne ht (t' := ({ y.t with nul := IntKind.u64.wrap (y.t.nul + 1) } : Tk)) (fun e => u64w_ne _ (congrArg Tk.nul e))
          generalize hG3 : ((w1.alloc (fmO f (some ⟨gx, 0, none⟩) cx)).setCell ⟨gx, i * 21 + 9, none⟩ (.int .u64 (IntKind.u64.wrap (y.t.nul + 1)))) = w3 at hX3 hB3 hL3 hs3 ⊢
          have p3 := pS.out _ _ hp.out hB3
          obtain ⟨r, rR, rD, rP, rS, kM, kF, dM⟩ : ∃ r : World → Prop, Hid (r w3) ∧ Hid (∀ W', r W' → r W'.drew) ∧ Hid (∀ W', r W' → p W') ∧ Hid (∀ W' W'', r W' → Below W'.heap.size W' W'' → r W'') ∧
              Hid (∀ W', (∃ θ : CW r, W' = θ.w) → (Instr.loadAt 30 (.pointer (some ⟨w1.heap.size, 0, none⟩))).run Try.prog W' = .ok (fmV f (some ⟨gx, 0, none⟩) cx) W') ∧
              Hid (∀ W', (∃ θ : CW r, W' = θ.w) → (Instr.loadAt 30 (.pointer (some ⟨w.heap.size, 0, none⟩))).run Try.prog W' = .ok (fmV f pa ca) W') ∧
              Hid (∀ W', r W' → CpV W' (fmV f (some ⟨gx, 0, none⟩) cx) ({ f with toks := f.toks.set i ({ y.t with nul := IntKind.u64.wrap (y.t.nul + 1) } : Tk) } : Fm)) :=
            ⟨Below w3.heap.size w3, ⟨Below.refl _ _⟩, ⟨fun _ h => h.drew⟩, ⟨fun _ h => pS.out _ _ p3 h⟩, ⟨fun _ _ h k => h.trans (k.mono h.size)⟩,
              ⟨by rintro _ ⟨θ, rfl⟩; exact (fm_of ((θ.h.block _ hs3).trans hX3)).load⟩,
              ⟨by rintro _ ⟨θ, rfl⟩; exact lF.out _ ⟨⟨θ.w, pS.out _ _ p3 θ.h⟩, rfl⟩⟩,
              ⟨fun W' h => ⟨some ⟨gx, 0, none⟩, cx, fmV_set _ _ _ _ _, (hL3.below h).mono h.size⟩⟩⟩
          replace hne : Hid _ := ⟨hne⟩
          clear hrow hX3 hB3 hL3 hs3 hG3 p3 hc2 hOk hgx hcop hy hps hb1 m12 sM tj tf
          refine wp_region_lp r (by kernel_rfl) (by kernel_rfl) (fun _ _ d _ _ h => by cases d <;> exact h) (rD.out _ rR.out) fun W5 hp5 => ?_
          repeat (first | (guard_target =~ Lx _ _ _ _ (Oper.mk _ (Op.load 30 _) _ _ _ _ :: _) _ _; (first | refine lx_ld kM.out rfl rfl ?_ | refine lx_ld kF.out rfl rfl ?_); simp only [pts]) | (refine lx_one rfl ?_; (first | go_big_quiet_skip | (go_big_quiet_want; go_big_quiet_op; go_big_quiet_on)); refine wpQuiet_nil ?_))
          refine lx_cx1 ent_copied (copV _ _ _ hFm.out (cF.out _ (rP.out _ hp5))) rfl (by rfl) ?_
          rintro _ A5 ⟨u5a, rfl, ha5, hb5⟩
          refine ⟨u5a, rfl, ⟨⟨A5, rS.out _ _ hp5 hb5⟩, rfl⟩, ?_⟩
          simp only [pts]
          repeat (first | (guard_target =~ Lx _ _ _ _ (Oper.mk _ (Op.load 30 _) _ _ _ _ :: _) _ _; (first | refine lx_ld kM.out rfl rfl ?_ | refine lx_ld kF.out rfl rfl ?_); simp only [pts]) | (refine lx_one rfl ?_; (first | go_big_quiet_skip | (go_big_quiet_want; go_big_quiet_op; go_big_quiet_on)); refine wpQuiet_nil ?_))
          refine lx_cx2 ent_Same (sameV _ _ _ _ _ (dM.out _ (rS.out _ _ hp5 hb5)) (ha5)) rfl rfl (by rfl) ?_
          rintro _ A6 ⟨hans, hb6⟩
          obtain rfl := hans.said (b := false) (by simp [hne.out])
          refine ⟨_, rfl, ⟨⟨A6, rS.out _ _ (rS.out _ _ hp5 hb5) hb6⟩, rfl⟩, ?_⟩
          simp only [pts]
          refine lx_done ?_
          have p6 : Hid (p A6) := ⟨rP.out _ (rS.out _ _ (rS.out _ _ hp5 hb5) hb6)⟩
          clear ha5 hb5 hb6 hans kM kF dM rR rD rP rS hne hp5
          go_wp2_with fail
          go_roundw
          case rel => exact ⟨10, by decide, rfl, p6⟩
          case measure => simp [RowKit.intOf]
        · as_aux_lemma =>
          go_wp2_with (first
            | (guard_target =~ wpList _ _ _ (Oper.mk _ (Op.load 30 _) _ _ _ _ :: _) _ _; go_must (refine wpList_ld 30 (.tmp 3) rfl rfl _ _ rfl (lF.out wr ⟨⟨wr, hp.out⟩, rfl⟩) ?_); simp only [pts])
            | (go_at_call 6; refine (copied_any f pa ca wr (cT.out wr hp.out) hFm.out.1 hFm.out.2).mono ?_; rintro _ w1 ⟨gx, cx, ps, rfl, hps, hcop, hb1⟩; go_must (have sM : Hid _ := ⟨fun z hz => st_newF w1 z hz f (some ⟨gx, 0, none⟩) cx⟩; have m12 : (w1.alloc (fmO f (some ⟨gx, 0, none⟩) cx)).cell? ⟨w1.heap.size, 12, none⟩ = some (.slice (some ⟨gx, 0, none⟩) f.toks.length cx) := (fm_of (heap_al w1 _)).c12; obtain ⟨y, hy, rfl⟩ := cop_at hps ht; have tj := ((hcop.below (bel1 w1 (fmO f (some ⟨gx, 0, none⟩) cx))).tk hy).c10; have tf := cop_froz (hcop.below (bel1 w1 (fmO f (some ⟨gx, 0, none⟩) cx))) (i * 21 + 10); replace hps : Hid _ := ⟨hps⟩; replace hcop : Hid _ := ⟨hcop⟩; replace hb1 : Hid _ := ⟨hb1⟩; replace hy : Hid _ := ⟨hy⟩))
            | (guard_target =~ wpList _ _ _ (Oper.mk _ (Op.store 30 _ _) _ _ _ _ :: _) _ _; go_must (refine wpList_st 30 (.tmp 13) (.tmp 84) rfl rfl _ _ rfl rfl (sM.out _ rfl) ?_); simp only [pts]))
          have hc2 := hcop.out.below (bel1 w1 (fmO f (some ⟨gx, 0, none⟩) cx))
          have hOk := hok.out _ (List.mem_of_getElem? ht)
          have hgx := hcop.out.lt
          have hrow := put_row hc2 hy.out (j := 10) (by decide) (t' := ({ y.t with lo := IntKind.u64.wrap (y.t.lo + 1) } : Tk)) (u := (.int .u64 (IntKind.u64.wrap (y.t.lo + 1)))) rfl rfl
          have hX3 : ((w1.alloc (fmO f (some ⟨gx, 0, none⟩) cx)).setCell ⟨gx, i * 21 + 10, none⟩ (.int .u64 (IntKind.u64.wrap (y.t.lo + 1)))).heap[w1.heap.size]? = some (fmO f (some ⟨gx, 0, none⟩) cx) := (heap_setCell_other _ _ _ _ (fun e => by have e : w1.heap.size = gx := e; omega)).trans (heap_al w1 _)
          have hB3 : Below wr.heap.size wr ((w1.alloc (fmO f (some ⟨gx, 0, none⟩) cx)).setCell ⟨gx, i * 21 + 10, none⟩ (.int .u64 (IntKind.u64.wrap (y.t.lo + 1)))) := (hb1.out.alloc hb1.out.size _).setCell (p := ⟨gx, i * 21 + 10, none⟩) hgx.1 _
          have hL3 : TkL ((w1.alloc (fmO f (some ⟨gx, 0, none⟩) cx)).setCell ⟨gx, i * 21 + 10, none⟩ (.int .u64 (IntKind.u64.wrap (y.t.lo + 1)))) (some ⟨gx, 0, none⟩) ((w1.alloc (fmO f (some ⟨gx, 0, none⟩) cx)).setCell ⟨gx, i * 21 + 10, none⟩ (.int .u64 (IntKind.u64.wrap (y.t.lo + 1)))).heap.size (f.toks.set i ({ y.t with lo := IntKind.u64.wrap (y.t.lo + 1) } : Tk)) := ⟨by rw [hps.out] at hrow; exact hrow, by rw [List.length_set]; omega, fun t ht2 => by
            rcases List.mem_or_eq_of_mem_set ht2 with h | rfl
            · exact hok.out t h
            · exact ⟨(hOk.op), (hOk.name), (hOk.id), (hOk.off), (hOk.siz), (hOk.since), (hOk.prim), (hOk.len), (hOk.pres), (hOk.nul), (u64w_ok _), (hOk.hi), (hOk.cst), (hOk.cs), (hOk.val), (hOk.blk), (hOk.full), (hOk.ap), (hOk.ao), (hOk.bp), (hOk.bo), (hOk.pair)⟩⟩
          have hs3 : w1.heap.size < ((w1.alloc (fmO f (some ⟨gx, 0, none⟩) cx)).setCell ⟨gx, i * 21 + 10, none⟩ (.int .u64 (IntKind.u64.wrap (y.t.lo + 1)))).heap.size := (Array.getElem?_eq_some_iff.1 hX3).1
          have hne := set_ne ht (t' := ({ y.t with lo := IntKind.u64.wrap (y.t.lo + 1) } : Tk)) (fun e => u64w_ne _ (congrArg Tk.lo e))
          generalize hG3 : ((w1.alloc (fmO f (some ⟨gx, 0, none⟩) cx)).setCell ⟨gx, i * 21 + 10, none⟩ (.int .u64 (IntKind.u64.wrap (y.t.lo + 1)))) = w3 at hX3 hB3 hL3 hs3 ⊢
          have p3 := pS.out _ _ hp.out hB3
          obtain ⟨r, rR, rD, rP, rS, kM, kF, dM⟩ : ∃ r : World → Prop, Hid (r w3) ∧ Hid (∀ W', r W' → r W'.drew) ∧ Hid (∀ W', r W' → p W') ∧ Hid (∀ W' W'', r W' → Below W'.heap.size W' W'' → r W'') ∧
              Hid (∀ W', (∃ θ : CW r, W' = θ.w) → (Instr.loadAt 30 (.pointer (some ⟨w1.heap.size, 0, none⟩))).run Try.prog W' = .ok (fmV f (some ⟨gx, 0, none⟩) cx) W') ∧
              Hid (∀ W', (∃ θ : CW r, W' = θ.w) → (Instr.loadAt 30 (.pointer (some ⟨w.heap.size, 0, none⟩))).run Try.prog W' = .ok (fmV f pa ca) W') ∧
              Hid (∀ W', r W' → CpV W' (fmV f (some ⟨gx, 0, none⟩) cx) ({ f with toks := f.toks.set i ({ y.t with lo := IntKind.u64.wrap (y.t.lo + 1) } : Tk) } : Fm)) :=
            ⟨Below w3.heap.size w3, ⟨Below.refl _ _⟩, ⟨fun _ h => h.drew⟩, ⟨fun _ h => pS.out _ _ p3 h⟩, ⟨fun _ _ h k => h.trans (k.mono h.size)⟩,
              ⟨by rintro _ ⟨θ, rfl⟩; exact (fm_of ((θ.h.block _ hs3).trans hX3)).load⟩,
              ⟨by rintro _ ⟨θ, rfl⟩; exact lF.out _ ⟨⟨θ.w, pS.out _ _ p3 θ.h⟩, rfl⟩⟩,
              ⟨fun W' h => ⟨some ⟨gx, 0, none⟩, cx, fmV_set _ _ _ _ _, (hL3.below h).mono h.size⟩⟩⟩
          replace hne : Hid _ := ⟨hne⟩
          clear hrow hX3 hB3 hL3 hs3 hG3 p3 hc2 hOk hgx hcop hy hps hb1 m12 sM tj tf
          refine wp_region_lp r (by kernel_rfl) (by kernel_rfl) (fun _ _ d _ _ h => by cases d <;> exact h) (rD.out _ rR.out) fun W5 hp5 => ?_
          repeat (first | (guard_target =~ Lx _ _ _ _ (Oper.mk _ (Op.load 30 _) _ _ _ _ :: _) _ _; (first | refine lx_ld kM.out rfl rfl ?_ | refine lx_ld kF.out rfl rfl ?_); simp only [pts]) | (refine lx_one rfl ?_; (first | go_big_quiet_skip | (go_big_quiet_want; go_big_quiet_op; go_big_quiet_on)); refine wpQuiet_nil ?_))
          refine lx_cx1 ent_copied (copV _ _ _ hFm.out (cF.out _ (rP.out _ hp5))) rfl (by rfl) ?_
          rintro _ A5 ⟨u5a, rfl, ha5, hb5⟩
          refine ⟨u5a, rfl, ⟨⟨A5, rS.out _ _ hp5 hb5⟩, rfl⟩, ?_⟩
          simp only [pts]
          repeat (first | (guard_target =~ Lx _ _ _ _ (Oper.mk _ (Op.load 30 _) _ _ _ _ :: _) _ _; (first | refine lx_ld kM.out rfl rfl ?_ | refine lx_ld kF.out rfl rfl ?_); simp only [pts]) | (refine lx_one rfl ?_; (first | go_big_quiet_skip | (go_big_quiet_want; go_big_quiet_op; go_big_quiet_on)); refine wpQuiet_nil ?_))
          refine lx_cx2 ent_Same (sameV _ _ _ _ _ (dM.out _ (rS.out _ _ hp5 hb5)) (ha5)) rfl rfl (by rfl) ?_
          rintro _ A6 ⟨hans, hb6⟩
          obtain rfl := hans.said (b := false) (by simp [hne.out])
          refine ⟨_, rfl, ⟨⟨A6, rS.out _ _ (rS.out _ _ hp5 hb5) hb6⟩, rfl⟩, ?_⟩
          simp only [pts]
          refine lx_done ?_
          have p6 : Hid (p A6) := ⟨rP.out _ (rS.out _ _ (rS.out _ _ hp5 hb5) hb6)⟩
          clear ha5 hb5 hb6 hans kM kF dM rR rD rP rS hne hp5
          go_wp2_with fail
          go_roundw
          case rel => exact ⟨11, by decide, rfl, p6⟩
          case measure => simp [RowKit.intOf]
        · as_aux_lemma =>
          go_wp2_with (first
            | (guard_target =~ wpList _ _ _ (Oper.mk _ (Op.load 30 _) _ _ _ _ :: _) _ _; go_must (refine wpList_ld 30 (.tmp 3) rfl rfl _ _ rfl (lF.out wr ⟨⟨wr, hp.out⟩, rfl⟩) ?_); simp only [pts])
            | (go_at_call 6; refine (copied_any f pa ca wr (cT.out wr hp.out) hFm.out.1 hFm.out.2).mono ?_; rintro _ w1 ⟨gx, cx, ps, rfl, hps, hcop, hb1⟩; go_must (have sM : Hid _ := ⟨fun z hz => st_newF w1 z hz f (some ⟨gx, 0, none⟩) cx⟩; have m12 : (w1.alloc (fmO f (some ⟨gx, 0, none⟩) cx)).cell? ⟨w1.heap.size, 12, none⟩ = some (.slice (some ⟨gx, 0, none⟩) f.toks.length cx) := (fm_of (heap_al w1 _)).c12; obtain ⟨y, hy, rfl⟩ := cop_at hps ht; have tj := ((hcop.below (bel1 w1 (fmO f (some ⟨gx, 0, none⟩) cx))).tk hy).c11; have tf := cop_froz (hcop.below (bel1 w1 (fmO f (some ⟨gx, 0, none⟩) cx))) (i * 21 + 11); replace hps : Hid _ := ⟨hps⟩; replace hcop : Hid _ := ⟨hcop⟩; replace hb1 : Hid _ := ⟨hb1⟩; replace hy : Hid _ := ⟨hy⟩))
            | (guard_target =~ wpList _ _ _ (Oper.mk _ (Op.store 30 _ _) _ _ _ _ :: _) _ _; go_must (refine wpList_st 30 (.tmp 13) (.tmp 84) rfl rfl _ _ rfl rfl (sM.out _ rfl) ?_); simp only [pts]))
          have hc2 := hcop.out.below (bel1 w1 (fmO f (some ⟨gx, 0, none⟩) cx))
          have hOk := hok.out _ (List.mem_of_getElem? ht)
          have hgx := hcop.out.lt
          have hrow := put_row hc2 hy.out (j := 11) (by decide) (t' := ({ y.t with hi := IntKind.u64.wrap (y.t.hi + 1) } : Tk)) (u := (.int .u64 (IntKind.u64.wrap (y.t.hi + 1)))) rfl rfl
          have hX3 : ((w1.alloc (fmO f (some ⟨gx, 0, none⟩) cx)).setCell ⟨gx, i * 21 + 11, none⟩ (.int .u64 (IntKind.u64.wrap (y.t.hi + 1)))).heap[w1.heap.size]? = some (fmO f (some ⟨gx, 0, none⟩) cx) := (heap_setCell_other _ _ _ _ (fun e => by have e : w1.heap.size = gx := e; omega)).trans (heap_al w1 _)
          have hB3 : Below wr.heap.size wr ((w1.alloc (fmO f (some ⟨gx, 0, none⟩) cx)).setCell ⟨gx, i * 21 + 11, none⟩ (.int .u64 (IntKind.u64.wrap (y.t.hi + 1)))) := (hb1.out.alloc hb1.out.size _).setCell (p := ⟨gx, i * 21 + 11, none⟩) hgx.1 _
          have hL3 : TkL ((w1.alloc (fmO f (some ⟨gx, 0, none⟩) cx)).setCell ⟨gx, i * 21 + 11, none⟩ (.int .u64 (IntKind.u64.wrap (y.t.hi + 1)))) (some ⟨gx, 0, none⟩) ((w1.alloc (fmO f (some ⟨gx, 0, none⟩) cx)).setCell ⟨gx, i * 21 + 11, none⟩ (.int .u64 (IntKind.u64.wrap (y.t.hi + 1)))).heap.size (f.toks.set i ({ y.t with hi := IntKind.u64.wrap (y.t.hi + 1) } : Tk)) := ⟨by rw [hps.out] at hrow; exact hrow, by rw [List.length_set]; omega, fun t ht2 => by
            rcases List.mem_or_eq_of_mem_set ht2 with h | rfl
            · exact hok.out t h
            · exact ⟨(hOk.op), (hOk.name), (hOk.id), (hOk.off), (hOk.siz), (hOk.since), (hOk.prim), (hOk.len), (hOk.pres), (hOk.nul), (hOk.lo), (u64w_ok _), (hOk.cst), (hOk.cs), (hOk.val), (hOk.blk), (hOk.full), (hOk.ap), (hOk.ao), (hOk.bp), (hOk.bo), (hOk.pair)⟩⟩
          have hs3 : w1.heap.size < ((w1.alloc (fmO f (some ⟨gx, 0, none⟩) cx)).setCell ⟨gx, i * 21 + 11, none⟩ (.int .u64 (IntKind.u64.wrap (y.t.hi + 1)))).heap.size := (Array.getElem?_eq_some_iff.1 hX3).1
          have hne := set_ne ht (t' := ({ y.t with hi := IntKind.u64.wrap (y.t.hi + 1) } : Tk)) (fun e => u64w_ne _ (congrArg Tk.hi e))
          generalize hG3 : ((w1.alloc (fmO f (some ⟨gx, 0, none⟩) cx)).setCell ⟨gx, i * 21 + 11, none⟩ (.int .u64 (IntKind.u64.wrap (y.t.hi + 1)))) = w3 at hX3 hB3 hL3 hs3 ⊢
          have p3 := pS.out _ _ hp.out hB3
          obtain ⟨r, rR, rD, rP, rS, kM, kF, dM⟩ : ∃ r : World → Prop, Hid (r w3) ∧ Hid (∀ W', r W' → r W'.drew) ∧ Hid (∀ W', r W' → p W') ∧ Hid (∀ W' W'', r W' → Below W'.heap.size W' W'' → r W'') ∧
              Hid (∀ W', (∃ θ : CW r, W' = θ.w) → (Instr.loadAt 30 (.pointer (some ⟨w1.heap.size, 0, none⟩))).run Try.prog W' = .ok (fmV f (some ⟨gx, 0, none⟩) cx) W') ∧
              Hid (∀ W', (∃ θ : CW r, W' = θ.w) → (Instr.loadAt 30 (.pointer (some ⟨w.heap.size, 0, none⟩))).run Try.prog W' = .ok (fmV f pa ca) W') ∧
              Hid (∀ W', r W' → CpV W' (fmV f (some ⟨gx, 0, none⟩) cx) ({ f with toks := f.toks.set i ({ y.t with hi := IntKind.u64.wrap (y.t.hi + 1) } : Tk) } : Fm)) :=
            ⟨Below w3.heap.size w3, ⟨Below.refl _ _⟩, ⟨fun _ h => h.drew⟩, ⟨fun _ h => pS.out _ _ p3 h⟩, ⟨fun _ _ h k => h.trans (k.mono h.size)⟩,
              ⟨by rintro _ ⟨θ, rfl⟩; exact (fm_of ((θ.h.block _ hs3).trans hX3)).load⟩,
              ⟨by rintro _ ⟨θ, rfl⟩; exact lF.out _ ⟨⟨θ.w, pS.out _ _ p3 θ.h⟩, rfl⟩⟩,
              ⟨fun W' h => ⟨some ⟨gx, 0, none⟩, cx, fmV_set _ _ _ _ _, (hL3.below h).mono h.size⟩⟩⟩
          replace hne : Hid _ := ⟨hne⟩
          clear hrow hX3 hB3 hL3 hs3 hG3 p3 hc2 hOk hgx hcop hy hps hb1 m12 sM tj tf
          refine wp_region_lp r (by kernel_rfl) (by kernel_rfl) (fun _ _ d _ _ h => by cases d <;> exact h) (rD.out _ rR.out) fun W5 hp5 => ?_
          repeat (first | (guard_target =~ Lx _ _ _ _ (Oper.mk _ (Op.load 30 _) _ _ _ _ :: _) _ _; (first | refine lx_ld kM.out rfl rfl ?_ | refine lx_ld kF.out rfl rfl ?_); simp only [pts]) | (refine lx_one rfl ?_; (first | go_big_quiet_skip | (go_big_quiet_want; go_big_quiet_op; go_big_quiet_on)); refine wpQuiet_nil ?_))
          refine lx_cx1 ent_copied (copV _ _ _ hFm.out (cF.out _ (rP.out _ hp5))) rfl (by rfl) ?_
          rintro _ A5 ⟨u5a, rfl, ha5, hb5⟩
          refine ⟨u5a, rfl, ⟨⟨A5, rS.out _ _ hp5 hb5⟩, rfl⟩, ?_⟩
          simp only [pts]
          repeat (first | (guard_target =~ Lx _ _ _ _ (Oper.mk _ (Op.load 30 _) _ _ _ _ :: _) _ _; (first | refine lx_ld kM.out rfl rfl ?_ | refine lx_ld kF.out rfl rfl ?_); simp only [pts]) | (refine lx_one rfl ?_; (first | go_big_quiet_skip | (go_big_quiet_want; go_big_quiet_op; go_big_quiet_on)); refine wpQuiet_nil ?_))
          refine lx_cx2 ent_Same (sameV _ _ _ _ _ (dM.out _ (rS.out _ _ hp5 hb5)) (ha5)) rfl rfl (by rfl) ?_
          rintro _ A6 ⟨hans, hb6⟩
          obtain rfl := hans.said (b := false) (by simp [hne.out])
          refine ⟨_, rfl, ⟨⟨A6, rS.out _ _ (rS.out _ _ hp5 hb5) hb6⟩, rfl⟩, ?_⟩
          simp only [pts]
          refine lx_done ?_
          have p6 : Hid (p A6) := ⟨rP.out _ (rS.out _ _ (rS.out _ _ hp5 hb5) hb6)⟩
          clear ha5 hb5 hb6 hans kM kF dM rR rD rP rS hne hp5
          go_wp2_with fail
          go_roundw
          case rel => exact ⟨12, by decide, rfl, p6⟩
          case measure => simp [RowKit.intOf]
        · as_aux_lemma =>
          have F1 : Hid (1 = 1) := ⟨rfl⟩
          obtain ⟨iU, hiU, hzU, hsU, hbU⟩ := tinfo infoUK
          go_wp2_with (first
            | (guard_target =~ wpList _ _ _ (Oper.mk _ (Op.load 30 _) _ _ _ _ :: _) _ _; go_must (refine wpList_ld 30 (.tmp 3) rfl rfl _ _ rfl (lF.out wr ⟨⟨wr, hp.out⟩, rfl⟩) ?_); simp only [pts])
            | (go_at_call 6; refine (copied_any f pa ca wr (cT.out wr hp.out) hFm.out.1 hFm.out.2).mono ?_; rintro _ w1 ⟨gx, cx, ps, rfl, hps, hcop, hb1⟩; go_must (have sM : Hid _ := ⟨fun z hz => st_newF w1 z hz f (some ⟨gx, 0, none⟩) cx⟩; have m12 : (w1.alloc (fmO f (some ⟨gx, 0, none⟩) cx)).cell? ⟨w1.heap.size, 12, none⟩ = some (.slice (some ⟨gx, 0, none⟩) f.toks.length cx) := (fm_of (heap_al w1 _)).c12; obtain ⟨y, hy, rfl⟩ := cop_at hps ht; have tj := ((hcop.below (bel1 w1 (fmO f (some ⟨gx, 0, none⟩) cx))).tk hy).c12; have tf := cop_froz (hcop.below (bel1 w1 (fmO f (some ⟨gx, 0, none⟩) cx))) (i * 21 + 12); have hcm := hFm.out.2 _ (List.mem_of_getElem? ht); have hs1 := hb1.size; have hO2 : Hid (((w1.alloc (fmO f (some ⟨gx, 0, none⟩) cx)).alloc (.cells #[.int .u64 5] 35)).ownsRow wr.heap.size 35 1 (.slice (some ⟨y.g, 0, none⟩) y.t.cst.length y.c) y.t.cst.length (uC y.t.cst)) := ⟨ownsRow_below (own_cut (m := 1) (ys := [.int .u64 77]) (by have h := (hcop.good y (List.mem_of_getElem? hy)).1; unfold UGood at h; rwa [show uC (y.t.cst ++ [77]) = uC y.t.cst ++ [Value.int .u64 77] by simp [uC]] at h) (by simp)) (two_b w1 _ _)⟩; replace hps : Hid _ := ⟨hps⟩; replace hcop : Hid _ := ⟨hcop⟩; replace hb1 : Hid _ := ⟨hb1⟩; replace hy : Hid _ := ⟨hy⟩))
            | (guard_target =~ wpList _ _ _ (Oper.mk _ (Op.store 30 _ _) _ _ _ _ :: _) _ _; go_must (refine wpList_st 30 (.tmp 13) (.tmp 84) rfl rfl _ _ rfl rfl (sM.out _ rfl) ?_); simp only [pts])
            | (at_builtin; clear F1; go_must (refine wpList_append_lies _ rfl _ _ 36 rfl wr.heap.size 35 iU (.int .u64 0) 1 8 Try.underlying36 hiU hzU hsU hbU rfl (by decide) (.slice (some ⟨y.g, 0, none⟩) y.t.cst.length y.c) y.t.cst.length (uC y.t.cst) rfl hO2.out ⟨w1.heap.size + 1, 0, none⟩ 1 1 [.int .u64 5] rfl rfl (World.news_of_block (two_2 w1 _ (.cells #[.int .u64 5] 35))) (uC_one [5]) (by decide) (by simp only [maxLen]; omega) (by omega) (by simp; omega) (w1.heap.size + 2) (by simp) ?_); intro ga capa w4 hO4 hgr4 hat4 hlt4; go_must (have hgx4 : w4.heap[gx]? = (w1.alloc (fmO f (some ⟨gx, 0, none⟩) cx)).heap[gx]? := (hgr4.block gx (by have := hcop.out.lt.2; simp; omega) (fun e => (hcop.out.good y (List.mem_of_getElem? hy.out)).2 (by injection e with e; exact e.symm))).trans (heap_alloc_old _ _ (by have := hcop.out.lt.2; simp; omega)); have tj4 := (cell_blk (o := i * 21 + 12) hgx4).trans tj; have tf4 : w4.frozen? ⟨gx, i * 21 + 12, none⟩ = false := (World.frozen?_of_block (a := ⟨gx, i * 21 + 12, none⟩) hgx4).trans tf; clear tj tf; replace hO4 : Hid _ := ⟨hO4⟩; replace hgr4 : Hid _ := ⟨hgr4⟩; replace hat4 : Hid _ := ⟨hat4⟩; replace hgx4 : Hid _ := ⟨hgx4⟩)))
          have hc2 := hcop.out.below (bel1 w1 (fmO f (some ⟨gx, 0, none⟩) cx))
          have hOk := hok.out _ (List.mem_of_getElem? ht)
          have hgx := hcop.out.lt
          have hgy := (hcop.out.good y (List.mem_of_getElem? hy.out))
          have hs4 : w1.heap.size + 2 ≤ w4.heap.size := by have := hgr4.out.size; simpa using this
          have hrow := put_words hc2 hy.out (z := 5) hO4.out (by simp; omega) (by rcases hat4.out with e | e; (left; injection e with e; exact e.symm); (right; simp; omega)) (fun k hk hne => (hgr4.out.block k (by simp at hk ⊢; omega) (fun e => hne (by injection e with e))).trans (heap_alloc_old _ _ hk))
          have hX3 : (w4.setCell ⟨gx, i * 21 + 12, none⟩ (.slice (some ⟨ga, 0, none⟩) (y.t.cst.length + 1) capa)).heap[w1.heap.size]? = some (fmO f (some ⟨gx, 0, none⟩) cx) := (heap_setCell_other _ _ _ _ (fun e => by have e : w1.heap.size = gx := e; omega)).trans ((hgr4.out.block _ (by simp; omega) (fun e => by have := hgy.1.lt; injection e with e; have e : w1.heap.size = y.g := e; omega)).trans (two_1 w1 _ _))
          have hB3 : Below wr.heap.size wr (w4.setCell ⟨gx, i * 21 + 12, none⟩ (.slice (some ⟨ga, 0, none⟩) (y.t.cst.length + 1) capa)) := (hb1.out.trans (((two_b w1 (fmO f (some ⟨gx, 0, none⟩) cx) (.cells #[.int .u64 5] 35)).mono hs1).trans ((Below.refl _ _).grown hgr4.out (by simp; omega) (own_ge hO2.out)))).setCell (p := ⟨gx, i * 21 + 12, none⟩) hgx.1 _
          have hL3 : TkL (w4.setCell ⟨gx, i * 21 + 12, none⟩ (.slice (some ⟨ga, 0, none⟩) (y.t.cst.length + 1) capa)) (some ⟨gx, 0, none⟩) (w4.setCell ⟨gx, i * 21 + 12, none⟩ (.slice (some ⟨ga, 0, none⟩) (y.t.cst.length + 1) capa)).heap.size (f.toks.set i ({ y.t with cst := y.t.cst ++ [5] } : Tk)) := ⟨by rw [hps.out] at hrow; exact hrow, by rw [List.length_set]; omega, fun t ht2 => by
            rcases List.mem_or_eq_of_mem_set ht2 with h | rfl
            · exact hok.out t h
            · exact ⟨(hOk.op), (hOk.name), (hOk.id), (hOk.off), (hOk.siz), (hOk.since), (hOk.prim), (hOk.len), (hOk.pres), (hOk.nul), (hOk.lo), (hOk.hi), (by have := hcm; simp; omega), (fun z hz => by rcases List.mem_append.1 hz with h | h; exact hOk.cs z h; rw [List.mem_singleton.1 h]; exact ⟨by decide, by decide⟩), (hOk.val), (hOk.blk), (hOk.full), (hOk.ap), (hOk.ao), (hOk.bp), (hOk.bo), (hOk.pair)⟩⟩
          have hs3 : w1.heap.size < (w4.setCell ⟨gx, i * 21 + 12, none⟩ (.slice (some ⟨ga, 0, none⟩) (y.t.cst.length + 1) capa)).heap.size := (Array.getElem?_eq_some_iff.1 hX3).1
          have hne := set_ne ht (t' := ({ y.t with cst := y.t.cst ++ [5] } : Tk)) (fun e => by have := congrArg (fun z => z.cst.length) e; simp at this)
          generalize hG3 : (w4.setCell ⟨gx, i * 21 + 12, none⟩ (.slice (some ⟨ga, 0, none⟩) (y.t.cst.length + 1) capa)) = w3 at hX3 hB3 hL3 hs3 ⊢
          have p3 := pS.out _ _ hp.out hB3
          obtain ⟨r, rR, rD, rP, rS, kM, kF, dM⟩ : ∃ r : World → Prop, Hid (r w3) ∧ Hid (∀ W', r W' → r W'.drew) ∧ Hid (∀ W', r W' → p W') ∧ Hid (∀ W' W'', r W' → Below W'.heap.size W' W'' → r W'') ∧
              Hid (∀ W', (∃ θ : CW r, W' = θ.w) → (Instr.loadAt 30 (.pointer (some ⟨w1.heap.size, 0, none⟩))).run Try.prog W' = .ok (fmV f (some ⟨gx, 0, none⟩) cx) W') ∧
              Hid (∀ W', (∃ θ : CW r, W' = θ.w) → (Instr.loadAt 30 (.pointer (some ⟨w.heap.size, 0, none⟩))).run Try.prog W' = .ok (fmV f pa ca) W') ∧
              Hid (∀ W', r W' → CpV W' (fmV f (some ⟨gx, 0, none⟩) cx) ({ f with toks := f.toks.set i ({ y.t with cst := y.t.cst ++ [5] } : Tk) } : Fm)) :=
            ⟨Below w3.heap.size w3, ⟨Below.refl _ _⟩, ⟨fun _ h => h.drew⟩, ⟨fun _ h => pS.out _ _ p3 h⟩, ⟨fun _ _ h k => h.trans (k.mono h.size)⟩,
              ⟨by rintro _ ⟨θ, rfl⟩; exact (fm_of ((θ.h.block _ hs3).trans hX3)).load⟩,
              ⟨by rintro _ ⟨θ, rfl⟩; exact lF.out _ ⟨⟨θ.w, pS.out _ _ p3 θ.h⟩, rfl⟩⟩,
              ⟨fun W' h => ⟨some ⟨gx, 0, none⟩, cx, fmV_set _ _ _ _ _, (hL3.below h).mono h.size⟩⟩⟩
          replace hne : Hid _ := ⟨hne⟩
          clear hrow hX3 hB3 hL3 hs3 hG3 p3 hc2 hOk hgx hcop hy hps hb1 m12 sM tj4 tf4 hgx4 hO4 hgr4 hat4 hgy hs4 hO2 hcm hs1 hlt4
          refine wp_region_lp r (by kernel_rfl) (by kernel_rfl) (fun _ _ d _ _ h => by cases d <;> exact h) (rD.out _ rR.out) fun W5 hp5 => ?_
          repeat (first | (guard_target =~ Lx _ _ _ _ (Oper.mk _ (Op.load 30 _) _ _ _ _ :: _) _ _; (first | refine lx_ld kM.out rfl rfl ?_ | refine lx_ld kF.out rfl rfl ?_); simp only [pts]) | (refine lx_one rfl ?_; (first | go_big_quiet_skip | (go_big_quiet_want; go_big_quiet_op; go_big_quiet_on)); refine wpQuiet_nil ?_))
          refine lx_cx1 ent_copied (copV _ _ _ hFm.out (cF.out _ (rP.out _ hp5))) rfl (by rfl) ?_
          rintro _ A5 ⟨u5a, rfl, ha5, hb5⟩
          refine ⟨u5a, rfl, ⟨⟨A5, rS.out _ _ hp5 hb5⟩, rfl⟩, ?_⟩
          simp only [pts]
          repeat (first | (guard_target =~ Lx _ _ _ _ (Oper.mk _ (Op.load 30 _) _ _ _ _ :: _) _ _; (first | refine lx_ld kM.out rfl rfl ?_ | refine lx_ld kF.out rfl rfl ?_); simp only [pts]) | (refine lx_one rfl ?_; (first | go_big_quiet_skip | (go_big_quiet_want; go_big_quiet_op; go_big_quiet_on)); refine wpQuiet_nil ?_))
          refine lx_cx2 ent_Same (sameV _ _ _ _ _ (dM.out _ (rS.out _ _ hp5 hb5)) (ha5)) rfl rfl (by rfl) ?_
          rintro _ A6 ⟨hans, hb6⟩
          obtain rfl := hans.said (b := false) (by simp [hne.out])
          refine ⟨_, rfl, ⟨⟨A6, rS.out _ _ (rS.out _ _ hp5 hb5) hb6⟩, rfl⟩, ?_⟩
          simp only [pts]
          refine lx_done ?_
          have p6 : Hid (p A6) := ⟨rP.out _ (rS.out _ _ (rS.out _ _ hp5 hb5) hb6)⟩
          clear ha5 hb5 hb6 hans kM kF dM rR rD rP rS hne hp5
          go_wp2_with fail
          go_roundw
          case rel => exact ⟨13, by decide, rfl, p6⟩
          case measure => simp [RowKit.intOf]
        · as_aux_lemma =>
          go_wp2_with (first
            | (guard_target =~ wpList _ _ _ (Oper.mk _ (Op.load 30 _) _ _ _ _ :: _) _ _; go_must (refine wpList_ld 30 (.tmp 3) rfl rfl _ _ rfl (lF.out wr ⟨⟨wr, hp.out⟩, rfl⟩) ?_); simp only [pts])
            | (go_at_call 6; refine (copied_any f pa ca wr (cT.out wr hp.out) hFm.out.1 hFm.out.2).mono ?_; rintro _ w1 ⟨gx, cx, ps, rfl, hps, hcop, hb1⟩; go_must (have sM : Hid _ := ⟨fun z hz => st_newF w1 z hz f (some ⟨gx, 0, none⟩) cx⟩; have m12 : (w1.alloc (fmO f (some ⟨gx, 0, none⟩) cx)).cell? ⟨w1.heap.size, 12, none⟩ = some (.slice (some ⟨gx, 0, none⟩) f.toks.length cx) := (fm_of (heap_al w1 _)).c12; obtain ⟨y, hy, rfl⟩ := cop_at hps ht; have tj := ((hcop.below (bel1 w1 (fmO f (some ⟨gx, 0, none⟩) cx))).tk hy).c13; have tf := cop_froz (hcop.below (bel1 w1 (fmO f (some ⟨gx, 0, none⟩) cx))) (i * 21 + 13); replace hps : Hid _ := ⟨hps⟩; replace hcop : Hid _ := ⟨hcop⟩; replace hb1 : Hid _ := ⟨hb1⟩; replace hy : Hid _ := ⟨hy⟩))
            | (guard_target =~ wpList _ _ _ (Oper.mk _ (Op.store 30 _ _) _ _ _ _ :: _) _ _; go_must (refine wpList_st 30 (.tmp 13) (.tmp 84) rfl rfl _ _ rfl rfl (sM.out _ rfl) ?_); simp only [pts]))
          have hc2 := hcop.out.below (bel1 w1 (fmO f (some ⟨gx, 0, none⟩) cx))
          have hOk := hok.out _ (List.mem_of_getElem? ht)
          have hgx := hcop.out.lt
          have hrow := put_row hc2 hy.out (j := 13) (by decide) (t' := ({ y.t with val := IntKind.u64.wrap (y.t.val + 1) } : Tk)) (u := (.int .u64 (IntKind.u64.wrap (y.t.val + 1)))) rfl rfl
          have hX3 : ((w1.alloc (fmO f (some ⟨gx, 0, none⟩) cx)).setCell ⟨gx, i * 21 + 13, none⟩ (.int .u64 (IntKind.u64.wrap (y.t.val + 1)))).heap[w1.heap.size]? = some (fmO f (some ⟨gx, 0, none⟩) cx) := (heap_setCell_other _ _ _ _ (fun e => by have e : w1.heap.size = gx := e; omega)).trans (heap_al w1 _)
          have hB3 : Below wr.heap.size wr ((w1.alloc (fmO f (some ⟨gx, 0, none⟩) cx)).setCell ⟨gx, i * 21 + 13, none⟩ (.int .u64 (IntKind.u64.wrap (y.t.val + 1)))) := (hb1.out.alloc hb1.out.size _).setCell (p := ⟨gx, i * 21 + 13, none⟩) hgx.1 _
          have hL3 : TkL ((w1.alloc (fmO f (some ⟨gx, 0, none⟩) cx)).setCell ⟨gx, i * 21 + 13, none⟩ (.int .u64 (IntKind.u64.wrap (y.t.val + 1)))) (some ⟨gx, 0, none⟩) ((w1.alloc (fmO f (some ⟨gx, 0, none⟩) cx)).setCell ⟨gx, i * 21 + 13, none⟩ (.int .u64 (IntKind.u64.wrap (y.t.val + 1)))).heap.size (f.toks.set i ({ y.t with val := IntKind.u64.wrap (y.t.val + 1) } : Tk)) := ⟨by rw [hps.out] at hrow; exact hrow, by rw [List.length_set]; omega, fun t ht2 => by
            rcases List.mem_or_eq_of_mem_set ht2 with h | rfl
            · exact hok.out t h
            · exact ⟨(hOk.op), (hOk.name), (hOk.id), (hOk.off), (hOk.siz), (hOk.since), (hOk.prim), (hOk.len), (hOk.pres), (hOk.nul), (hOk.lo), (hOk.hi), (hOk.cst), (hOk.cs), (u64w_ok _), (hOk.blk), (hOk.full), (hOk.ap), (hOk.ao), (hOk.bp), (hOk.bo), (hOk.pair)⟩⟩
          have hs3 : w1.heap.size < ((w1.alloc (fmO f (some ⟨gx, 0, none⟩) cx)).setCell ⟨gx, i * 21 + 13, none⟩ (.int .u64 (IntKind.u64.wrap (y.t.val + 1)))).heap.size := (Array.getElem?_eq_some_iff.1 hX3).1
          have hne := set_ne ht (t' := ({ y.t with val := IntKind.u64.wrap (y.t.val + 1) } : Tk)) (fun e => u64w_ne _ (congrArg Tk.val e))
          generalize hG3 : ((w1.alloc (fmO f (some ⟨gx, 0, none⟩) cx)).setCell ⟨gx, i * 21 + 13, none⟩ (.int .u64 (IntKind.u64.wrap (y.t.val + 1)))) = w3 at hX3 hB3 hL3 hs3 ⊢
          have p3 := pS.out _ _ hp.out hB3
          obtain ⟨r, rR, rD, rP, rS, kM, kF, dM⟩ : ∃ r : World → Prop, Hid (r w3) ∧ Hid (∀ W', r W' → r W'.drew) ∧ Hid (∀ W', r W' → p W') ∧ Hid (∀ W' W'', r W' → Below W'.heap.size W' W'' → r W'') ∧
              Hid (∀ W', (∃ θ : CW r, W' = θ.w) → (Instr.loadAt 30 (.pointer (some ⟨w1.heap.size, 0, none⟩))).run Try.prog W' = .ok (fmV f (some ⟨gx, 0, none⟩) cx) W') ∧
              Hid (∀ W', (∃ θ : CW r, W' = θ.w) → (Instr.loadAt 30 (.pointer (some ⟨w.heap.size, 0, none⟩))).run Try.prog W' = .ok (fmV f pa ca) W') ∧
              Hid (∀ W', r W' → CpV W' (fmV f (some ⟨gx, 0, none⟩) cx) ({ f with toks := f.toks.set i ({ y.t with val := IntKind.u64.wrap (y.t.val + 1) } : Tk) } : Fm)) :=
            ⟨Below w3.heap.size w3, ⟨Below.refl _ _⟩, ⟨fun _ h => h.drew⟩, ⟨fun _ h => pS.out _ _ p3 h⟩, ⟨fun _ _ h k => h.trans (k.mono h.size)⟩,
              ⟨by rintro _ ⟨θ, rfl⟩; exact (fm_of ((θ.h.block _ hs3).trans hX3)).load⟩,
              ⟨by rintro _ ⟨θ, rfl⟩; exact lF.out _ ⟨⟨θ.w, pS.out _ _ p3 θ.h⟩, rfl⟩⟩,
              ⟨fun W' h => ⟨some ⟨gx, 0, none⟩, cx, fmV_set _ _ _ _ _, (hL3.below h).mono h.size⟩⟩⟩
          replace hne : Hid _ := ⟨hne⟩
          clear hrow hX3 hB3 hL3 hs3 hG3 p3 hc2 hOk hgx hcop hy hps hb1 m12 sM tj tf
          refine wp_region_lp r (by kernel_rfl) (by kernel_rfl) (fun _ _ d _ _ h => by cases d <;> exact h) (rD.out _ rR.out) fun W5 hp5 => ?_
          repeat (first | (guard_target =~ Lx _ _ _ _ (Oper.mk _ (Op.load 30 _) _ _ _ _ :: _) _ _; (first | refine lx_ld kM.out rfl rfl ?_ | refine lx_ld kF.out rfl rfl ?_); simp only [pts]) | (refine lx_one rfl ?_; (first | go_big_quiet_skip | (go_big_quiet_want; go_big_quiet_op; go_big_quiet_on)); refine wpQuiet_nil ?_))
          refine lx_cx1 ent_copied (copV _ _ _ hFm.out (cF.out _ (rP.out _ hp5))) rfl (by rfl) ?_
          rintro _ A5 ⟨u5a, rfl, ha5, hb5⟩
          refine ⟨u5a, rfl, ⟨⟨A5, rS.out _ _ hp5 hb5⟩, rfl⟩, ?_⟩
          simp only [pts]
          repeat (first | (guard_target =~ Lx _ _ _ _ (Oper.mk _ (Op.load 30 _) _ _ _ _ :: _) _ _; (first | refine lx_ld kM.out rfl rfl ?_ | refine lx_ld kF.out rfl rfl ?_); simp only [pts]) | (refine lx_one rfl ?_; (first | go_big_quiet_skip | (go_big_quiet_want; go_big_quiet_op; go_big_quiet_on)); refine wpQuiet_nil ?_))
          refine lx_cx2 ent_Same (sameV _ _ _ _ _ (dM.out _ (rS.out _ _ hp5 hb5)) (ha5)) rfl rfl (by rfl) ?_
          rintro _ A6 ⟨hans, hb6⟩
          obtain rfl := hans.said (b := false) (by simp [hne.out])
          refine ⟨_, rfl, ⟨⟨A6, rS.out _ _ (rS.out _ _ hp5 hb5) hb6⟩, rfl⟩, ?_⟩
          simp only [pts]
          refine lx_done ?_
          have p6 : Hid (p A6) := ⟨rP.out _ (rS.out _ _ (rS.out _ _ hp5 hb5) hb6)⟩
          clear ha5 hb5 hb6 hans kM kF dM rR rD rP rS hne hp5
          go_wp2_with fail
          go_roundw
          case rel => exact ⟨14, by decide, rfl, p6⟩
          case measure => simp [RowKit.intOf]
        · as_aux_lemma =>
          go_wp2_with (first
            | (guard_target =~ wpList _ _ _ (Oper.mk _ (Op.load 30 _) _ _ _ _ :: _) _ _; go_must (refine wpList_ld 30 (.tmp 3) rfl rfl _ _ rfl (lF.out wr ⟨⟨wr, hp.out⟩, rfl⟩) ?_); simp only [pts])
            | (go_at_call 6; refine (copied_any f pa ca wr (cT.out wr hp.out) hFm.out.1 hFm.out.2).mono ?_; rintro _ w1 ⟨gx, cx, ps, rfl, hps, hcop, hb1⟩; go_must (have sM : Hid _ := ⟨fun z hz => st_newF w1 z hz f (some ⟨gx, 0, none⟩) cx⟩; have m12 : (w1.alloc (fmO f (some ⟨gx, 0, none⟩) cx)).cell? ⟨w1.heap.size, 12, none⟩ = some (.slice (some ⟨gx, 0, none⟩) f.toks.length cx) := (fm_of (heap_al w1 _)).c12; obtain ⟨y, hy, rfl⟩ := cop_at hps ht; have tj := ((hcop.below (bel1 w1 (fmO f (some ⟨gx, 0, none⟩) cx))).tk hy).c14; have tf := cop_froz (hcop.below (bel1 w1 (fmO f (some ⟨gx, 0, none⟩) cx))) (i * 21 + 14); replace hps : Hid _ := ⟨hps⟩; replace hcop : Hid _ := ⟨hcop⟩; replace hb1 : Hid _ := ⟨hb1⟩; replace hy : Hid _ := ⟨hy⟩))
            | (guard_target =~ wpList _ _ _ (Oper.mk _ (Op.store 30 _ _) _ _ _ _ :: _) _ _; go_must (refine wpList_st 30 (.tmp 13) (.tmp 84) rfl rfl _ _ rfl rfl (sM.out _ rfl) ?_); simp only [pts]))
          have hc2 := hcop.out.below (bel1 w1 (fmO f (some ⟨gx, 0, none⟩) cx))
          have hOk := hok.out _ (List.mem_of_getElem? ht)
          have hgx := hcop.out.lt
          have hrow := put_row hc2 hy.out (j := 14) (by decide) (t' := ({ y.t with blk := wrap64 (y.t.blk + 1) } : Tk)) (u := (.int .i64 (wrap64 (y.t.blk + 1)))) rfl rfl
          have hX3 : ((w1.alloc (fmO f (some ⟨gx, 0, none⟩) cx)).setCell ⟨gx, i * 21 + 14, none⟩ (.int .i64 (wrap64 (y.t.blk + 1)))).heap[w1.heap.size]? = some (fmO f (some ⟨gx, 0, none⟩) cx) := (heap_setCell_other _ _ _ _ (fun e => by have e : w1.heap.size = gx := e; omega)).trans (heap_al w1 _)
          have hB3 : Below wr.heap.size wr ((w1.alloc (fmO f (some ⟨gx, 0, none⟩) cx)).setCell ⟨gx, i * 21 + 14, none⟩ (.int .i64 (wrap64 (y.t.blk + 1)))) := (hb1.out.alloc hb1.out.size _).setCell (p := ⟨gx, i * 21 + 14, none⟩) hgx.1 _
          have hL3 : TkL ((w1.alloc (fmO f (some ⟨gx, 0, none⟩) cx)).setCell ⟨gx, i * 21 + 14, none⟩ (.int .i64 (wrap64 (y.t.blk + 1)))) (some ⟨gx, 0, none⟩) ((w1.alloc (fmO f (some ⟨gx, 0, none⟩) cx)).setCell ⟨gx, i * 21 + 14, none⟩ (.int .i64 (wrap64 (y.t.blk + 1)))).heap.size (f.toks.set i ({ y.t with blk := wrap64 (y.t.blk + 1) } : Tk)) := ⟨by rw [hps.out] at hrow; exact hrow, by rw [List.length_set]; omega, fun t ht2 => by
            rcases List.mem_or_eq_of_mem_set ht2 with h | rfl
            · exact hok.out t h
            · exact ⟨(hOk.op), (hOk.name), (hOk.id), (hOk.off), (hOk.siz), (hOk.since), (hOk.prim), (hOk.len), (hOk.pres), (hOk.nul), (hOk.lo), (hOk.hi), (hOk.cst), (hOk.cs), (hOk.val), (wrap64_ok _), (hOk.full), (hOk.ap), (hOk.ao), (hOk.bp), (hOk.bo), (hOk.pair)⟩⟩
          have hs3 : w1.heap.size < ((w1.alloc (fmO f (some ⟨gx, 0, none⟩) cx)).setCell ⟨gx, i * 21 + 14, none⟩ (.int .i64 (wrap64 (y.t.blk + 1)))).heap.size := (Array.getElem?_eq_some_iff.1 hX3).1
          have hne := set_ne ht (t' := ({ y.t with blk := wrap64 (y.t.blk + 1) } : Tk)) (fun e => wrap64_ne _ (congrArg Tk.blk e))
          generalize hG3 : ((w1.alloc (fmO f (some ⟨gx, 0, none⟩) cx)).setCell ⟨gx, i * 21 + 14, none⟩ (.int .i64 (wrap64 (y.t.blk + 1)))) = w3 at hX3 hB3 hL3 hs3 ⊢
          have p3 := pS.out _ _ hp.out hB3
          obtain ⟨r, rR, rD, rP, rS, kM, kF, dM⟩ : ∃ r : World → Prop, Hid (r w3) ∧ Hid (∀ W', r W' → r W'.drew) ∧ Hid (∀ W', r W' → p W') ∧ Hid (∀ W' W'', r W' → Below W'.heap.size W' W'' → r W'') ∧
              Hid (∀ W', (∃ θ : CW r, W' = θ.w) → (Instr.loadAt 30 (.pointer (some ⟨w1.heap.size, 0, none⟩))).run Try.prog W' = .ok (fmV f (some ⟨gx, 0, none⟩) cx) W') ∧
              Hid (∀ W', (∃ θ : CW r, W' = θ.w) → (Instr.loadAt 30 (.pointer (some ⟨w.heap.size, 0, none⟩))).run Try.prog W' = .ok (fmV f pa ca) W') ∧
              Hid (∀ W', r W' → CpV W' (fmV f (some ⟨gx, 0, none⟩) cx) ({ f with toks := f.toks.set i ({ y.t with blk := wrap64 (y.t.blk + 1) } : Tk) } : Fm)) :=
            ⟨Below w3.heap.size w3, ⟨Below.refl _ _⟩, ⟨fun _ h => h.drew⟩, ⟨fun _ h => pS.out _ _ p3 h⟩, ⟨fun _ _ h k => h.trans (k.mono h.size)⟩,
              ⟨by rintro _ ⟨θ, rfl⟩; exact (fm_of ((θ.h.block _ hs3).trans hX3)).load⟩,
              ⟨by rintro _ ⟨θ, rfl⟩; exact lF.out _ ⟨⟨θ.w, pS.out _ _ p3 θ.h⟩, rfl⟩⟩,
              ⟨fun W' h => ⟨some ⟨gx, 0, none⟩, cx, fmV_set _ _ _ _ _, (hL3.below h).mono h.size⟩⟩⟩
          replace hne : Hid _ := ⟨hne⟩
          clear hrow hX3 hB3 hL3 hs3 hG3 p3 hc2 hOk hgx hcop hy hps hb1 m12 sM tj tf
          refine wp_region_lp r (by kernel_rfl) (by kernel_rfl) (fun _ _ d _ _ h => by cases d <;> exact h) (rD.out _ rR.out) fun W5 hp5 => ?_
          repeat (first | (guard_target =~ Lx _ _ _ _ (Oper.mk _ (Op.load 30 _) _ _ _ _ :: _) _ _; (first | refine lx_ld kM.out rfl rfl ?_ | refine lx_ld kF.out rfl rfl ?_); simp only [pts]) | (refine lx_one rfl ?_; (first | go_big_quiet_skip | (go_big_quiet_want; go_big_quiet_op; go_big_quiet_on)); refine wpQuiet_nil ?_))
          refine lx_cx1 ent_copied (copV _ _ _ hFm.out (cF.out _ (rP.out _ hp5))) rfl (by rfl) ?_
          rintro _ A5 ⟨u5a, rfl, ha5, hb5⟩
          refine ⟨u5a, rfl, ⟨⟨A5, rS.out _ _ hp5 hb5⟩, rfl⟩, ?_⟩
          simp only [pts]
          repeat (first | (guard_target =~ Lx _ _ _ _ (Oper.mk _ (Op.load 30 _) _ _ _ _ :: _) _ _; (first | refine lx_ld kM.out rfl rfl ?_ | refine lx_ld kF.out rfl rfl ?_); simp only [pts]) | (refine lx_one rfl ?_; (first | go_big_quiet_skip | (go_big_quiet_want; go_big_quiet_op; go_big_quiet_on)); refine wpQuiet_nil ?_))
          refine lx_cx2 ent_Same (sameV _ _ _ _ _ (dM.out _ (rS.out _ _ hp5 hb5)) (ha5)) rfl rfl (by rfl) ?_
          rintro _ A6 ⟨hans, hb6⟩
          obtain rfl := hans.said (b := false) (by simp [hne.out])
          refine ⟨_, rfl, ⟨⟨A6, rS.out _ _ (rS.out _ _ hp5 hb5) hb6⟩, rfl⟩, ?_⟩
          simp only [pts]
          refine lx_done ?_
          have p6 : Hid (p A6) := ⟨rP.out _ (rS.out _ _ (rS.out _ _ hp5 hb5) hb6)⟩
          clear ha5 hb5 hb6 hans kM kF dM rR rD rP rS hne hp5
          go_wp2_with fail
          go_roundw
          case rel => exact ⟨15, by decide, rfl, p6⟩
          case measure => simp [RowKit.intOf]
        · as_aux_lemma =>
          go_wp2_with (first
            | (guard_target =~ wpList _ _ _ (Oper.mk _ (Op.load 30 _) _ _ _ _ :: _) _ _; go_must (refine wpList_ld 30 (.tmp 3) rfl rfl _ _ rfl (lF.out wr ⟨⟨wr, hp.out⟩, rfl⟩) ?_); simp only [pts])
            | (go_at_call 6; refine (copied_any f pa ca wr (cT.out wr hp.out) hFm.out.1 hFm.out.2).mono ?_; rintro _ w1 ⟨gx, cx, ps, rfl, hps, hcop, hb1⟩; go_must (have sM : Hid _ := ⟨fun z hz => st_newF w1 z hz f (some ⟨gx, 0, none⟩) cx⟩; have m12 : (w1.alloc (fmO f (some ⟨gx, 0, none⟩) cx)).cell? ⟨w1.heap.size, 12, none⟩ = some (.slice (some ⟨gx, 0, none⟩) f.toks.length cx) := (fm_of (heap_al w1 _)).c12; obtain ⟨y, hy, rfl⟩ := cop_at hps ht; have tj := ((hcop.below (bel1 w1 (fmO f (some ⟨gx, 0, none⟩) cx))).tk hy).c15; have tf := cop_froz (hcop.below (bel1 w1 (fmO f (some ⟨gx, 0, none⟩) cx))) (i * 21 + 15); replace hps : Hid _ := ⟨hps⟩; replace hcop : Hid _ := ⟨hcop⟩; replace hb1 : Hid _ := ⟨hb1⟩; replace hy : Hid _ := ⟨hy⟩))
            | (guard_target =~ wpList _ _ _ (Oper.mk _ (Op.store 30 _ _) _ _ _ _ :: _) _ _; go_must (refine wpList_st 30 (.tmp 13) (.tmp 84) rfl rfl _ _ rfl rfl (sM.out _ rfl) ?_); simp only [pts]))
          have hc2 := hcop.out.below (bel1 w1 (fmO f (some ⟨gx, 0, none⟩) cx))
          have hOk := hok.out _ (List.mem_of_getElem? ht)
          have hgx := hcop.out.lt
          have hrow := put_row hc2 hy.out (j := 15) (by decide) (t' := ({ y.t with full := wrap64 (y.t.full + 1) } : Tk)) (u := (.int .i64 (wrap64 (y.t.full + 1)))) rfl rfl
          have hX3 : ((w1.alloc (fmO f (some ⟨gx, 0, none⟩) cx)).setCell ⟨gx, i * 21 + 15, none⟩ (.int .i64 (wrap64 (y.t.full + 1)))).heap[w1.heap.size]? = some (fmO f (some ⟨gx, 0, none⟩) cx) := (heap_setCell_other _ _ _ _ (fun e => by have e : w1.heap.size = gx := e; omega)).trans (heap_al w1 _)
          have hB3 : Below wr.heap.size wr ((w1.alloc (fmO f (some ⟨gx, 0, none⟩) cx)).setCell ⟨gx, i * 21 + 15, none⟩ (.int .i64 (wrap64 (y.t.full + 1)))) := (hb1.out.alloc hb1.out.size _).setCell (p := ⟨gx, i * 21 + 15, none⟩) hgx.1 _
          have hL3 : TkL ((w1.alloc (fmO f (some ⟨gx, 0, none⟩) cx)).setCell ⟨gx, i * 21 + 15, none⟩ (.int .i64 (wrap64 (y.t.full + 1)))) (some ⟨gx, 0, none⟩) ((w1.alloc (fmO f (some ⟨gx, 0, none⟩) cx)).setCell ⟨gx, i * 21 + 15, none⟩ (.int .i64 (wrap64 (y.t.full + 1)))).heap.size (f.toks.set i ({ y.t with full := wrap64 (y.t.full + 1) } : Tk)) := ⟨by rw [hps.out] at hrow; exact hrow, by rw [List.length_set]; omega, fun t ht2 => by
            rcases List.mem_or_eq_of_mem_set ht2 with h | rfl
            · exact hok.out t h
            · exact ⟨(hOk.op), (hOk.name), (hOk.id), (hOk.off), (hOk.siz), (hOk.since), (hOk.prim), (hOk.len), (hOk.pres), (hOk.nul), (hOk.lo), (hOk.hi), (hOk.cst), (hOk.cs), (hOk.val), (hOk.blk), (wrap64_ok _), (hOk.ap), (hOk.ao), (hOk.bp), (hOk.bo), (hOk.pair)⟩⟩
          have hs3 : w1.heap.size < ((w1.alloc (fmO f (some ⟨gx, 0, none⟩) cx)).setCell ⟨gx, i * 21 + 15, none⟩ (.int .i64 (wrap64 (y.t.full + 1)))).heap.size := (Array.getElem?_eq_some_iff.1 hX3).1
          have hne := set_ne ht (t' := ({ y.t with full := wrap64 (y.t.full + 1) } : Tk)) (fun e => wrap64_ne _ (congrArg Tk.full e))
          generalize hG3 : ((w1.alloc (fmO f (some ⟨gx, 0, none⟩) cx)).setCell ⟨gx, i * 21 + 15, none⟩ (.int .i64 (wrap64 (y.t.full + 1)))) = w3 at hX3 hB3 hL3 hs3 ⊢
          have p3 := pS.out _ _ hp.out hB3
          obtain ⟨r, rR, rD, rP, rS, kM, kF, dM⟩ : ∃ r : World → Prop, Hid (r w3) ∧ Hid (∀ W', r W' → r W'.drew) ∧ Hid (∀ W', r W' → p W') ∧ Hid (∀ W' W'', r W' → Below W'.heap.size W' W'' → r W'') ∧
              Hid (∀ W', (∃ θ : CW r, W' = θ.w) → (Instr.loadAt 30 (.pointer (some ⟨w1.heap.size, 0, none⟩))).run Try.prog W' = .ok (fmV f (some ⟨gx, 0, none⟩) cx) W') ∧
              Hid (∀ W', (∃ θ : CW r, W' = θ.w) → (Instr.loadAt 30 (.pointer (some ⟨w.heap.size, 0, none⟩))).run Try.prog W' = .ok (fmV f pa ca) W') ∧
              Hid (∀ W', r W' → CpV W' (fmV f (some ⟨gx, 0, none⟩) cx) ({ f with toks := f.toks.set i ({ y.t with full := wrap64 (y.t.full + 1) } : Tk) } : Fm)) :=
            ⟨Below w3.heap.size w3, ⟨Below.refl _ _⟩, ⟨fun _ h => h.drew⟩, ⟨fun _ h => pS.out _ _ p3 h⟩, ⟨fun _ _ h k => h.trans (k.mono h.size)⟩,
              ⟨by rintro _ ⟨θ, rfl⟩; exact (fm_of ((θ.h.block _ hs3).trans hX3)).load⟩,
              ⟨by rintro _ ⟨θ, rfl⟩; exact lF.out _ ⟨⟨θ.w, pS.out _ _ p3 θ.h⟩, rfl⟩⟩,
              ⟨fun W' h => ⟨some ⟨gx, 0, none⟩, cx, fmV_set _ _ _ _ _, (hL3.below h).mono h.size⟩⟩⟩
          replace hne : Hid _ := ⟨hne⟩
          clear hrow hX3 hB3 hL3 hs3 hG3 p3 hc2 hOk hgx hcop hy hps hb1 m12 sM tj tf
          refine wp_region_lp r (by kernel_rfl) (by kernel_rfl) (fun _ _ d _ _ h => by cases d <;> exact h) (rD.out _ rR.out) fun W5 hp5 => ?_
          repeat (first | (guard_target =~ Lx _ _ _ _ (Oper.mk _ (Op.load 30 _) _ _ _ _ :: _) _ _; (first | refine lx_ld kM.out rfl rfl ?_ | refine lx_ld kF.out rfl rfl ?_); simp only [pts]) | (refine lx_one rfl ?_; (first | go_big_quiet_skip | (go_big_quiet_want; go_big_quiet_op; go_big_quiet_on)); refine wpQuiet_nil ?_))
          refine lx_cx1 ent_copied (copV _ _ _ hFm.out (cF.out _ (rP.out _ hp5))) rfl (by rfl) ?_
          rintro _ A5 ⟨u5a, rfl, ha5, hb5⟩
          refine ⟨u5a, rfl, ⟨⟨A5, rS.out _ _ hp5 hb5⟩, rfl⟩, ?_⟩
          simp only [pts]
          repeat (first | (guard_target =~ Lx _ _ _ _ (Oper.mk _ (Op.load 30 _) _ _ _ _ :: _) _ _; (first | refine lx_ld kM.out rfl rfl ?_ | refine lx_ld kF.out rfl rfl ?_); simp only [pts]) | (refine lx_one rfl ?_; (first | go_big_quiet_skip | (go_big_quiet_want; go_big_quiet_op; go_big_quiet_on)); refine wpQuiet_nil ?_))
          refine lx_cx2 ent_Same (sameV _ _ _ _ _ (dM.out _ (rS.out _ _ hp5 hb5)) (ha5)) rfl rfl (by rfl) ?_
          rintro _ A6 ⟨hans, hb6⟩
          obtain rfl := hans.said (b := false) (by simp [hne.out])
          refine ⟨_, rfl, ⟨⟨A6, rS.out _ _ (rS.out _ _ hp5 hb5) hb6⟩, rfl⟩, ?_⟩
          simp only [pts]
          refine lx_done ?_
          have p6 : Hid (p A6) := ⟨rP.out _ (rS.out _ _ (rS.out _ _ hp5 hb5) hb6)⟩
          clear ha5 hb5 hb6 hans kM kF dM rR rD rP rS hne hp5
          go_wp2_with fail
          go_roundw
          case rel => exact ⟨16, by decide, rfl, p6⟩
          case measure => simp [RowKit.intOf]
        · as_aux_lemma =>
          go_wp2_with (first
            | (guard_target =~ wpList _ _ _ (Oper.mk _ (Op.load 30 _) _ _ _ _ :: _) _ _; go_must (refine wpList_ld 30 (.tmp 3) rfl rfl _ _ rfl (lF.out wr ⟨⟨wr, hp.out⟩, rfl⟩) ?_); simp only [pts])
            | (go_at_call 6; refine (copied_any f pa ca wr (cT.out wr hp.out) hFm.out.1 hFm.out.2).mono ?_; rintro _ w1 ⟨gx, cx, ps, rfl, hps, hcop, hb1⟩; go_must (have sM : Hid _ := ⟨fun z hz => st_newF w1 z hz f (some ⟨gx, 0, none⟩) cx⟩; have m12 : (w1.alloc (fmO f (some ⟨gx, 0, none⟩) cx)).cell? ⟨w1.heap.size, 12, none⟩ = some (.slice (some ⟨gx, 0, none⟩) f.toks.length cx) := (fm_of (heap_al w1 _)).c12; obtain ⟨y, hy, rfl⟩ := cop_at hps ht; have tj := ((hcop.below (bel1 w1 (fmO f (some ⟨gx, 0, none⟩) cx))).tk hy).c17; have tf := cop_froz (hcop.below (bel1 w1 (fmO f (some ⟨gx, 0, none⟩) cx))) (i * 21 + 17); replace hps : Hid _ := ⟨hps⟩; replace hcop : Hid _ := ⟨hcop⟩; replace hb1 : Hid _ := ⟨hb1⟩; replace hy : Hid _ := ⟨hy⟩))
            | (guard_target =~ wpList _ _ _ (Oper.mk _ (Op.store 30 _ _) _ _ _ _ :: _) _ _; go_must (refine wpList_st 30 (.tmp 13) (.tmp 84) rfl rfl _ _ rfl rfl (sM.out _ rfl) ?_); simp only [pts]))
          have hc2 := hcop.out.below (bel1 w1 (fmO f (some ⟨gx, 0, none⟩) cx))
          have hOk := hok.out _ (List.mem_of_getElem? ht)
          have hgx := hcop.out.lt
          have hrow := put_row hc2 hy.out (j := 17) (by decide) (t' := ({ y.t with a := { y.t.a with o := wrap64 (y.t.a.o + 1) } } : Tk)) (u := (.int .i64 (wrap64 (y.t.a.o + 1)))) rfl rfl
          have hX3 : ((w1.alloc (fmO f (some ⟨gx, 0, none⟩) cx)).setCell ⟨gx, i * 21 + 17, none⟩ (.int .i64 (wrap64 (y.t.a.o + 1)))).heap[w1.heap.size]? = some (fmO f (some ⟨gx, 0, none⟩) cx) := (heap_setCell_other _ _ _ _ (fun e => by have e : w1.heap.size = gx := e; omega)).trans (heap_al w1 _)
          have hB3 : Below wr.heap.size wr ((w1.alloc (fmO f (some ⟨gx, 0, none⟩) cx)).setCell ⟨gx, i * 21 + 17, none⟩ (.int .i64 (wrap64 (y.t.a.o + 1)))) := (hb1.out.alloc hb1.out.size _).setCell (p := ⟨gx, i * 21 + 17, none⟩) hgx.1 _
          have hL3 : TkL ((w1.alloc (fmO f (some ⟨gx, 0, none⟩) cx)).setCell ⟨gx, i * 21 + 17, none⟩ (.int .i64 (wrap64 (y.t.a.o + 1)))) (some ⟨gx, 0, none⟩) ((w1.alloc (fmO f (some ⟨gx, 0, none⟩) cx)).setCell ⟨gx, i * 21 + 17, none⟩ (.int .i64 (wrap64 (y.t.a.o + 1)))).heap.size (f.toks.set i ({ y.t with a := { y.t.a with o := wrap64 (y.t.a.o + 1) } } : Tk)) := ⟨by rw [hps.out] at hrow; exact hrow, by rw [List.length_set]; omega, fun t ht2 => by
            rcases List.mem_or_eq_of_mem_set ht2 with h | rfl
            · exact hok.out t h
            · exact ⟨(hOk.op), (hOk.name), (hOk.id), (hOk.off), (hOk.siz), (hOk.since), (hOk.prim), (hOk.len), (hOk.pres), (hOk.nul), (hOk.lo), (hOk.hi), (hOk.cst), (hOk.cs), (hOk.val), (hOk.blk), (hOk.full), (hOk.ap), (wrap64_ok _), (hOk.bp), (hOk.bo), (hOk.pair)⟩⟩
          have hs3 : w1.heap.size < ((w1.alloc (fmO f (some ⟨gx, 0, none⟩) cx)).setCell ⟨gx, i * 21 + 17, none⟩ (.int .i64 (wrap64 (y.t.a.o + 1)))).heap.size := (Array.getElem?_eq_some_iff.1 hX3).1
          have hne := set_ne ht (t' := ({ y.t with a := { y.t.a with o := wrap64 (y.t.a.o + 1) } } : Tk)) (fun e => wrap64_ne _ (congrArg (fun z => z.a.o) e))
          generalize hG3 : ((w1.alloc (fmO f (some ⟨gx, 0, none⟩) cx)).setCell ⟨gx, i * 21 + 17, none⟩ (.int .i64 (wrap64 (y.t.a.o + 1)))) = w3 at hX3 hB3 hL3 hs3 ⊢
          have p3 := pS.out _ _ hp.out hB3
          obtain ⟨r, rR, rD, rP, rS, kM, kF, dM⟩ : ∃ r : World → Prop, Hid (r w3) ∧ Hid (∀ W', r W' → r W'.drew) ∧ Hid (∀ W', r W' → p W') ∧ Hid (∀ W' W'', r W' → Below W'.heap.size W' W'' → r W'') ∧
              Hid (∀ W', (∃ θ : CW r, W' = θ.w) → (Instr.loadAt 30 (.pointer (some ⟨w1.heap.size, 0, none⟩))).run Try.prog W' = .ok (fmV f (some ⟨gx, 0, none⟩) cx) W') ∧
              Hid (∀ W', (∃ θ : CW r, W' = θ.w) → (Instr.loadAt 30 (.pointer (some ⟨w.heap.size, 0, none⟩))).run Try.prog W' = .ok (fmV f pa ca) W') ∧
              Hid (∀ W', r W' → CpV W' (fmV f (some ⟨gx, 0, none⟩) cx) ({ f with toks := f.toks.set i ({ y.t with a := { y.t.a with o := wrap64 (y.t.a.o + 1) } } : Tk) } : Fm)) :=
            ⟨Below w3.heap.size w3, ⟨Below.refl _ _⟩, ⟨fun _ h => h.drew⟩, ⟨fun _ h => pS.out _ _ p3 h⟩, ⟨fun _ _ h k => h.trans (k.mono h.size)⟩,
              ⟨by rintro _ ⟨θ, rfl⟩; exact (fm_of ((θ.h.block _ hs3).trans hX3)).load⟩,
              ⟨by rintro _ ⟨θ, rfl⟩; exact lF.out _ ⟨⟨θ.w, pS.out _ _ p3 θ.h⟩, rfl⟩⟩,
              ⟨fun W' h => ⟨some ⟨gx, 0, none⟩, cx, fmV_set _ _ _ _ _, (hL3.below h).mono h.size⟩⟩⟩
          replace hne : Hid _ := ⟨hne⟩
          clear hrow hX3 hB3 hL3 hs3 hG3 p3 hc2 hOk hgx hcop hy hps hb1 m12 sM tj tf
          refine wp_region_lp r (by kernel_rfl) (by kernel_rfl) (fun _ _ d _ _ h => by cases d <;> exact h) (rD.out _ rR.out) fun W5 hp5 => ?_
          repeat (first | (guard_target =~ Lx _ _ _ _ (Oper.mk _ (Op.load 30 _) _ _ _ _ :: _) _ _; (first | refine lx_ld kM.out rfl rfl ?_ | refine lx_ld kF.out rfl rfl ?_); simp only [pts]) | (refine lx_one rfl ?_; (first | go_big_quiet_skip | (go_big_quiet_want; go_big_quiet_op; go_big_quiet_on)); refine wpQuiet_nil ?_))
          refine lx_cx1 ent_copied (copV _ _ _ hFm.out (cF.out _ (rP.out _ hp5))) rfl (by rfl) ?_
          rintro _ A5 ⟨u5a, rfl, ha5, hb5⟩
          refine ⟨u5a, rfl, ⟨⟨A5, rS.out _ _ hp5 hb5⟩, rfl⟩, ?_⟩
          simp only [pts]
          repeat (first | (guard_target =~ Lx _ _ _ _ (Oper.mk _ (Op.load 30 _) _ _ _ _ :: _) _ _; (first | refine lx_ld kM.out rfl rfl ?_ | refine lx_ld kF.out rfl rfl ?_); simp only [pts]) | (refine lx_one rfl ?_; (first | go_big_quiet_skip | (go_big_quiet_want; go_big_quiet_op; go_big_quiet_on)); refine wpQuiet_nil ?_))
          refine lx_cx2 ent_Same (sameV _ _ _ _ _ (dM.out _ (rS.out _ _ hp5 hb5)) (ha5)) rfl rfl (by rfl) ?_
          rintro _ A6 ⟨hans, hb6⟩
          obtain rfl := hans.said (b := false) (by simp [hne.out])
          refine ⟨_, rfl, ⟨⟨A6, rS.out _ _ (rS.out _ _ hp5 hb5) hb6⟩, rfl⟩, ?_⟩
          simp only [pts]
          refine lx_done ?_
          have p6 : Hid (p A6) := ⟨rP.out _ (rS.out _ _ (rS.out _ _ hp5 hb5) hb6)⟩
          clear ha5 hb5 hb6 hans kM kF dM rR rD rP rS hne hp5
          go_wp2_with fail
          go_roundw
          case rel => exact ⟨17, by decide, rfl, p6⟩
          case measure => simp [RowKit.intOf]
        · as_aux_lemma =>
          go_wp2_with (first
            | (guard_target =~ wpList _ _ _ (Oper.mk _ (Op.load 30 _) _ _ _ _ :: _) _ _; go_must (refine wpList_ld 30 (.tmp 3) rfl rfl _ _ rfl (lF.out wr ⟨⟨wr, hp.out⟩, rfl⟩) ?_); simp only [pts])
            | (go_at_call 6; refine (copied_any f pa ca wr (cT.out wr hp.out) hFm.out.1 hFm.out.2).mono ?_; rintro _ w1 ⟨gx, cx, ps, rfl, hps, hcop, hb1⟩; go_must (have sM : Hid _ := ⟨fun z hz => st_newF w1 z hz f (some ⟨gx, 0, none⟩) cx⟩; have m12 : (w1.alloc (fmO f (some ⟨gx, 0, none⟩) cx)).cell? ⟨w1.heap.size, 12, none⟩ = some (.slice (some ⟨gx, 0, none⟩) f.toks.length cx) := (fm_of (heap_al w1 _)).c12; obtain ⟨y, hy, rfl⟩ := cop_at hps ht; have tj := ((hcop.below (bel1 w1 (fmO f (some ⟨gx, 0, none⟩) cx))).tk hy).c18; have tf := cop_froz (hcop.below (bel1 w1 (fmO f (some ⟨gx, 0, none⟩) cx))) (i * 21 + 18); replace hps : Hid _ := ⟨hps⟩; replace hcop : Hid _ := ⟨hcop⟩; replace hb1 : Hid _ := ⟨hb1⟩; replace hy : Hid _ := ⟨hy⟩))
            | (guard_target =~ wpList _ _ _ (Oper.mk _ (Op.store 30 _ _) _ _ _ _ :: _) _ _; go_must (refine wpList_st 30 (.tmp 13) (.tmp 84) rfl rfl _ _ rfl rfl (sM.out _ rfl) ?_); simp only [pts]))
          have hc2 := hcop.out.below (bel1 w1 (fmO f (some ⟨gx, 0, none⟩) cx))
          have hOk := hok.out _ (List.mem_of_getElem? ht)
          have hgx := hcop.out.lt
          have hrow := put_row hc2 hy.out (j := 18) (by decide) (t' := ({ y.t with b := { y.t.b with p := wrap64 (y.t.b.p + 1) } } : Tk)) (u := (.int .i64 (wrap64 (y.t.b.p + 1)))) rfl rfl
          have hX3 : ((w1.alloc (fmO f (some ⟨gx, 0, none⟩) cx)).setCell ⟨gx, i * 21 + 18, none⟩ (.int .i64 (wrap64 (y.t.b.p + 1)))).heap[w1.heap.size]? = some (fmO f (some ⟨gx, 0, none⟩) cx) := (heap_setCell_other _ _ _ _ (fun e => by have e : w1.heap.size = gx := e; omega)).trans (heap_al w1 _)
          have hB3 : Below wr.heap.size wr ((w1.alloc (fmO f (some ⟨gx, 0, none⟩) cx)).setCell ⟨gx, i * 21 + 18, none⟩ (.int .i64 (wrap64 (y.t.b.p + 1)))) := (hb1.out.alloc hb1.out.size _).setCell (p := ⟨gx, i * 21 + 18, none⟩) hgx.1 _
          have hL3 : TkL ((w1.alloc (fmO f (some ⟨gx, 0, none⟩) cx)).setCell ⟨gx, i * 21 + 18, none⟩ (.int .i64 (wrap64 (y.t.b.p + 1)))) (some ⟨gx, 0, none⟩) ((w1.alloc (fmO f (some ⟨gx, 0, none⟩) cx)).setCell ⟨gx, i * 21 + 18, none⟩ (.int .i64 (wrap64 (y.t.b.p + 1)))).heap.size (f.toks.set i ({ y.t with b := { y.t.b with p := wrap64 (y.t.b.p + 1) } } : Tk)) := ⟨by rw [hps.out] at hrow; exact hrow, by rw [List.length_set]; omega, fun t ht2 => by
            rcases List.mem_or_eq_of_mem_set ht2 with h | rfl
            · exact hok.out t h
            · exact ⟨(hOk.op), (hOk.name), (hOk.id), (hOk.off), (hOk.siz), (hOk.since), (hOk.prim), (hOk.len), (hOk.pres), (hOk.nul), (hOk.lo), (hOk.hi), (hOk.cst), (hOk.cs), (hOk.val), (hOk.blk), (hOk.full), (hOk.ap), (hOk.ao), (wrap64_ok _), (hOk.bo), (hOk.pair)⟩⟩
          have hs3 : w1.heap.size < ((w1.alloc (fmO f (some ⟨gx, 0, none⟩) cx)).setCell ⟨gx, i * 21 + 18, none⟩ (.int .i64 (wrap64 (y.t.b.p + 1)))).heap.size := (Array.getElem?_eq_some_iff.1 hX3).1
          have hne := set_ne ht (t' := ({ y.t with b := { y.t.b with p := wrap64 (y.t.b.p + 1) } } : Tk)) (fun e => wrap64_ne _ (congrArg (fun z => z.b.p) e))
          generalize hG3 : ((w1.alloc (fmO f (some ⟨gx, 0, none⟩) cx)).setCell ⟨gx, i * 21 + 18, none⟩ (.int .i64 (wrap64 (y.t.b.p + 1)))) = w3 at hX3 hB3 hL3 hs3 ⊢
          have p3 := pS.out _ _ hp.out hB3
          obtain ⟨r, rR, rD, rP, rS, kM, kF, dM⟩ : ∃ r : World → Prop, Hid (r w3) ∧ Hid (∀ W', r W' → r W'.drew) ∧ Hid (∀ W', r W' → p W') ∧ Hid (∀ W' W'', r W' → Below W'.heap.size W' W'' → r W'') ∧
              Hid (∀ W', (∃ θ : CW r, W' = θ.w) → (Instr.loadAt 30 (.pointer (some ⟨w1.heap.size, 0, none⟩))).run Try.prog W' = .ok (fmV f (some ⟨gx, 0, none⟩) cx) W') ∧
              Hid (∀ W', (∃ θ : CW r, W' = θ.w) → (Instr.loadAt 30 (.pointer (some ⟨w.heap.size, 0, none⟩))).run Try.prog W' = .ok (fmV f pa ca) W') ∧
              Hid (∀ W', r W' → CpV W' (fmV f (some ⟨gx, 0, none⟩) cx) ({ f with toks := f.toks.set i ({ y.t with b := { y.t.b with p := wrap64 (y.t.b.p + 1) } } : Tk) } : Fm)) :=
            ⟨Below w3.heap.size w3, ⟨Below.refl _ _⟩, ⟨fun _ h => h.drew⟩, ⟨fun _ h => pS.out _ _ p3 h⟩, ⟨fun _ _ h k => h.trans (k.mono h.size)⟩,
              ⟨by rintro _ ⟨θ, rfl⟩; exact (fm_of ((θ.h.block _ hs3).trans hX3)).load⟩,
              ⟨by rintro _ ⟨θ, rfl⟩; exact lF.out _ ⟨⟨θ.w, pS.out _ _ p3 θ.h⟩, rfl⟩⟩,
              ⟨fun W' h => ⟨some ⟨gx, 0, none⟩, cx, fmV_set _ _ _ _ _, (hL3.below h).mono h.size⟩⟩⟩
          replace hne : Hid _ := ⟨hne⟩
          clear hrow hX3 hB3 hL3 hs3 hG3 p3 hc2 hOk hgx hcop hy hps hb1 m12 sM tj tf
          refine wp_region_lp r (by kernel_rfl) (by kernel_rfl) (fun _ _ d _ _ h => by cases d <;> exact h) (rD.out _ rR.out) fun W5 hp5 => ?_
          repeat (first | (guard_target =~ Lx _ _ _ _ (Oper.mk _ (Op.load 30 _) _ _ _ _ :: _) _ _; (first | refine lx_ld kM.out rfl rfl ?_ | refine lx_ld kF.out rfl rfl ?_); simp only [pts]) | (refine lx_one rfl ?_; (first | go_big_quiet_skip | (go_big_quiet_want; go_big_quiet_op; go_big_quiet_on)); refine wpQuiet_nil ?_))
          refine lx_cx1 ent_copied (copV _ _ _ hFm.out (cF.out _ (rP.out _ hp5))) rfl (by rfl) ?_
          rintro _ A5 ⟨u5a, rfl, ha5, hb5⟩
          refine ⟨u5a, rfl, ⟨⟨A5, rS.out _ _ hp5 hb5⟩, rfl⟩, ?_⟩
          simp only [pts]
          repeat (first | (guard_target =~ Lx _ _ _ _ (Oper.mk _ (Op.load 30 _) _ _ _ _ :: _) _ _; (first | refine lx_ld kM.out rfl rfl ?_ | refine lx_ld kF.out rfl rfl ?_); simp only [pts]) | (refine lx_one rfl ?_; (first | go_big_quiet_skip | (go_big_quiet_want; go_big_quiet_op; go_big_quiet_on)); refine wpQuiet_nil ?_))
          refine lx_cx2 ent_Same (sameV _ _ _ _ _ (dM.out _ (rS.out _ _ hp5 hb5)) (ha5)) rfl rfl (by rfl) ?_
          rintro _ A6 ⟨hans, hb6⟩
          obtain rfl := hans.said (b := false) (by simp [hne.out])
          refine ⟨_, rfl, ⟨⟨A6, rS.out _ _ (rS.out _ _ hp5 hb5) hb6⟩, rfl⟩, ?_⟩
          simp only [pts]
          refine lx_done ?_
          have p6 : Hid (p A6) := ⟨rP.out _ (rS.out _ _ (rS.out _ _ hp5 hb5) hb6)⟩
          clear ha5 hb5 hb6 hans kM kF dM rR rD rP rS hne hp5
          go_wp2_with fail
          go_roundw
          case rel => exact ⟨18, by decide, rfl, p6⟩
          case measure => simp [RowKit.intOf]
        · as_aux_lemma =>
          go_wp2_with (first
            | (guard_target =~ wpList _ _ _ (Oper.mk _ (Op.load 30 _) _ _ _ _ :: _) _ _; go_must (refine wpList_ld 30 (.tmp 3) rfl rfl _ _ rfl (lF.out wr ⟨⟨wr, hp.out⟩, rfl⟩) ?_); simp only [pts])
            | (go_at_call 6; refine (copied_any f pa ca wr (cT.out wr hp.out) hFm.out.1 hFm.out.2).mono ?_; rintro _ w1 ⟨gx, cx, ps, rfl, hps, hcop, hb1⟩; go_must (have sM : Hid _ := ⟨fun z hz => st_newF w1 z hz f (some ⟨gx, 0, none⟩) cx⟩; have m12 : (w1.alloc (fmO f (some ⟨gx, 0, none⟩) cx)).cell? ⟨w1.heap.size, 12, none⟩ = some (.slice (some ⟨gx, 0, none⟩) f.toks.length cx) := (fm_of (heap_al w1 _)).c12; obtain ⟨y, hy, rfl⟩ := cop_at hps ht; have tj := ((hcop.below (bel1 w1 (fmO f (some ⟨gx, 0, none⟩) cx))).tk hy).c20; have tf := cop_froz (hcop.below (bel1 w1 (fmO f (some ⟨gx, 0, none⟩) cx))) (i * 21 + 20); replace hps : Hid _ := ⟨hps⟩; replace hcop : Hid _ := ⟨hcop⟩; replace hb1 : Hid _ := ⟨hb1⟩; replace hy : Hid _ := ⟨hy⟩))
            | (guard_target =~ wpList _ _ _ (Oper.mk _ (Op.store 30 _ _) _ _ _ _ :: _) _ _; go_must (refine wpList_st 30 (.tmp 13) (.tmp 84) rfl rfl _ _ rfl rfl (sM.out _ rfl) ?_); simp only [pts]))
          have hc2 := hcop.out.below (bel1 w1 (fmO f (some ⟨gx, 0, none⟩) cx))
          have hOk := hok.out _ (List.mem_of_getElem? ht)
          have hgx := hcop.out.lt
          have hrow := put_row hc2 hy.out (j := 20) (by decide) (t' := ({ y.t with pair := wrap64 (y.t.pair + 1) } : Tk)) (u := (.int .i64 (wrap64 (y.t.pair + 1)))) rfl rfl
          have hX3 : ((w1.alloc (fmO f (some ⟨gx, 0, none⟩) cx)).setCell ⟨gx, i * 21 + 20, none⟩ (.int .i64 (wrap64 (y.t.pair + 1)))).heap[w1.heap.size]? = some (fmO f (some ⟨gx, 0, none⟩) cx) := (heap_setCell_other _ _ _ _ (fun e => by have e : w1.heap.size = gx := e; omega)).trans (heap_al w1 _)
          have hB3 : Below wr.heap.size wr ((w1.alloc (fmO f (some ⟨gx, 0, none⟩) cx)).setCell ⟨gx, i * 21 + 20, none⟩ (.int .i64 (wrap64 (y.t.pair + 1)))) := (hb1.out.alloc hb1.out.size _).setCell (p := ⟨gx, i * 21 + 20, none⟩) hgx.1 _
          have hL3 : TkL ((w1.alloc (fmO f (some ⟨gx, 0, none⟩) cx)).setCell ⟨gx, i * 21 + 20, none⟩ (.int .i64 (wrap64 (y.t.pair + 1)))) (some ⟨gx, 0, none⟩) ((w1.alloc (fmO f (some ⟨gx, 0, none⟩) cx)).setCell ⟨gx, i * 21 + 20, none⟩ (.int .i64 (wrap64 (y.t.pair + 1)))).heap.size (f.toks.set i ({ y.t with pair := wrap64 (y.t.pair + 1) } : Tk)) := ⟨by rw [hps.out] at hrow; exact hrow, by rw [List.length_set]; omega, fun t ht2 => by
            rcases List.mem_or_eq_of_mem_set ht2 with h | rfl
            · exact hok.out t h
            · exact ⟨(hOk.op), (hOk.name), (hOk.id), (hOk.off), (hOk.siz), (hOk.since), (hOk.prim), (hOk.len), (hOk.pres), (hOk.nul), (hOk.lo), (hOk.hi), (hOk.cst), (hOk.cs), (hOk.val), (hOk.blk), (hOk.full), (hOk.ap), (hOk.ao), (hOk.bp), (hOk.bo), (wrap64_ok _)⟩⟩
          have hs3 : w1.heap.size < ((w1.alloc (fmO f (some ⟨gx, 0, none⟩) cx)).setCell ⟨gx, i * 21 + 20, none⟩ (.int .i64 (wrap64 (y.t.pair + 1)))).heap.size := (Array.getElem?_eq_some_iff.1 hX3).1
          have hne := set_ne ht (t' := ({ y.t with pair := wrap64 (y.t.pair + 1) } : Tk)) (fun e => wrap64_ne _ (congrArg Tk.pair e))
          generalize hG3 : ((w1.alloc (fmO f (some ⟨gx, 0, none⟩) cx)).setCell ⟨gx, i * 21 + 20, none⟩ (.int .i64 (wrap64 (y.t.pair + 1)))) = w3 at hX3 hB3 hL3 hs3 ⊢
          have p3 := pS.out _ _ hp.out hB3
          obtain ⟨r, rR, rD, rP, rS, kM, kF, dM⟩ : ∃ r : World → Prop, Hid (r w3) ∧ Hid (∀ W', r W' → r W'.drew) ∧ Hid (∀ W', r W' → p W') ∧ Hid (∀ W' W'', r W' → Below W'.heap.size W' W'' → r W'') ∧
              Hid (∀ W', (∃ θ : CW r, W' = θ.w) → (Instr.loadAt 30 (.pointer (some ⟨w1.heap.size, 0, none⟩))).run Try.prog W' = .ok (fmV f (some ⟨gx, 0, none⟩) cx) W') ∧
              Hid (∀ W', (∃ θ : CW r, W' = θ.w) → (Instr.loadAt 30 (.pointer (some ⟨w.heap.size, 0, none⟩))).run Try.prog W' = .ok (fmV f pa ca) W') ∧
              Hid (∀ W', r W' → CpV W' (fmV f (some ⟨gx, 0, none⟩) cx) ({ f with toks := f.toks.set i ({ y.t with pair := wrap64 (y.t.pair + 1) } : Tk) } : Fm)) :=
            ⟨Below w3.heap.size w3, ⟨Below.refl _ _⟩, ⟨fun _ h => h.drew⟩, ⟨fun _ h => pS.out _ _ p3 h⟩, ⟨fun _ _ h k => h.trans (k.mono h.size)⟩,
              ⟨by rintro _ ⟨θ, rfl⟩; exact (fm_of ((θ.h.block _ hs3).trans hX3)).load⟩,
              ⟨by rintro _ ⟨θ, rfl⟩; exact lF.out _ ⟨⟨θ.w, pS.out _ _ p3 θ.h⟩, rfl⟩⟩,
              ⟨fun W' h => ⟨some ⟨gx, 0, none⟩, cx, fmV_set _ _ _ _ _, (hL3.below h).mono h.size⟩⟩⟩
          replace hne : Hid _ := ⟨hne⟩
          clear hrow hX3 hB3 hL3 hs3 hG3 p3 hc2 hOk hgx hcop hy hps hb1 m12 sM tj tf
          refine wp_region_lp r (by kernel_rfl) (by kernel_rfl) (fun _ _ d _ _ h => by cases d <;> exact h) (rD.out _ rR.out) fun W5 hp5 => ?_
          repeat (first | (guard_target =~ Lx _ _ _ _ (Oper.mk _ (Op.load 30 _) _ _ _ _ :: _) _ _; (first | refine lx_ld kM.out rfl rfl ?_ | refine lx_ld kF.out rfl rfl ?_); simp only [pts]) | (refine lx_one rfl ?_; (first | go_big_quiet_skip | (go_big_quiet_want; go_big_quiet_op; go_big_quiet_on)); refine wpQuiet_nil ?_))
          refine lx_cx1 ent_copied (copV _ _ _ hFm.out (cF.out _ (rP.out _ hp5))) rfl (by rfl) ?_
          rintro _ A5 ⟨u5a, rfl, ha5, hb5⟩
          refine ⟨u5a, rfl, ⟨⟨A5, rS.out _ _ hp5 hb5⟩, rfl⟩, ?_⟩
          simp only [pts]
          repeat (first | (guard_target =~ Lx _ _ _ _ (Oper.mk _ (Op.load 30 _) _ _ _ _ :: _) _ _; (first | refine lx_ld kM.out rfl rfl ?_ | refine lx_ld kF.out rfl rfl ?_); simp only [pts]) | (refine lx_one rfl ?_; (first | go_big_quiet_skip | (go_big_quiet_want; go_big_quiet_op; go_big_quiet_on)); refine wpQuiet_nil ?_))
          refine lx_cx2 ent_Same (sameV _ _ _ _ _ (dM.out _ (rS.out _ _ hp5 hb5)) (ha5)) rfl rfl (by rfl) ?_
          rintro _ A6 ⟨hans, hb6⟩
          obtain rfl := hans.said (b := false) (by simp [hne.out])
          refine ⟨_, rfl, ⟨⟨A6, rS.out _ _ (rS.out _ _ hp5 hb5) hb6⟩, rfl⟩, ?_⟩
          simp only [pts]
          refine lx_done ?_
          have p6 : Hid (p A6) := ⟨rP.out _ (rS.out _ _ (rS.out _ _ hp5 hb5) hb6)⟩
          clear ha5 hb5 hb6 hans kM kF dM rR rD rP rS hne hp5
          go_wp2_with fail
          go_roundw
          case rel => exact ⟨19, by decide, rfl, p6⟩
          case measure => simp [RowKit.intOf]
      · obtain rfl : k = 19 := by omega
        go_wp2_with fail
        go_ret
        exact ⟨rfl, HE.out _ hp.out⟩
end Go.Proofs.Ytgobecedammlgaa
