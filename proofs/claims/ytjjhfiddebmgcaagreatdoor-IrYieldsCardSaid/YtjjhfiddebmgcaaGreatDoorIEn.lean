/- IEn. -/
import Derived.Test.YtjjhfiddebmgcaaGreatDoorG32
import Derived.Test.YtjjhfiddebmgcaaGreatDoorIDq
namespace Go.Proofs.YtjjhfiddebmgcaaGreatDoor
open Go.ChangeShapes Go.WideShapes Go.ChangeAt Go.RowKit Go.Shelf Go.Maps

set_option maxRecDepth 20000 in
set_option maxHeartbeats 8000000 in
theorem refEnds_any (c : Df) (f : Fm) (L : List Od) (x : Od) (xt t : Tk) (ids : List Int) (vi : Value) (w : World) (P : Prop) (h : Dt w c f L x xt t ids vi) (hob : bgO xt.op = true)
    (hP : Hid (P ↔ (plainB t = true ∧ t.op = xt.op + 1 ∧ t.name = xt.name ∧ t.pair = x.at_ ∧ xt.pair = c.i ∧ (0 < x.stg ∨ (xt.op ≠ 2 ∧ xt.op ≠ 10 ∧ xt.op ≠ 12))))) :
    Calls Tryz.prog 18 #[.pointer (some ⟨c.B, 0, none⟩), .int .i64 (c.i : Int)] w fun r w' => Ans r P ∧ Below w.heap.size w w' := by
  have hw := bgO_i64 hob
  clear hob
  have hii : (c.i : Int) < f.toks.length := by have := h.il; omega
  have hxl : (x.at_ : Int) < f.toks.length := by have := h.xl; omega
  have hll := h.ll
  have hln := h.ln
  have e1 : ((L.length + 1 : Nat) : Int) - 1 = (L.length : Int) := by omega
  have e2 : (L.length : Int) < ((L.length + 1 : Nat) : Int) := by omega
  obtain ⟨p, p0, pB, pI, hNe, pc', pl, pk⟩ := clsT w
  have hol := h.op.lt
  have f13 := fun θ => (pc' c.B 13 h.ds.lt θ).trans h.ds.c13
  have f0 := fun θ => (pc' c.go (L.length * 5) hol θ).trans h.sc.c0
  have f1 := fun θ => (pc' c.go (L.length * 5 + 1) hol θ).trans h.sc.c1
  have f2 := fun θ => (pc' c.go (L.length * 5 + 2) hol θ).trans h.sc.c2
  have f3 := fun θ => (pc' c.go (L.length * 5 + 3) hol θ).trans h.sc.c3
  have f4 := fun θ => (pc' c.go (L.length * 5 + 4) hol θ).trans h.sc.c4
  replace h : Hid _ := ⟨h⟩
  clear pc' pl pk
  go_enter Tryz.func18, Tryz.ntmps18
  go_wp2_with fail
  refine wp_region_lp p (by kernel_rfl) (by kernel_rfl) (fun _ _ d _ _ h => by cases d <;> exact h) p0 fun W hp => ?_
  repeat (first | (guard_target =~ Lx _ _ _ _ (Oper.mk _ (Op.alloc 59) _ _ _ _ :: _) _ _; refine lx_act (by rfl) (by rfl) ?_; intro K hK; go_simp; refine hK _ _ ⟨⟨_, pI _ ((pB _ hp).trans ((bel1 W _).mono (pB _ hp).size))⟩, rfl⟩ ?_; clear hK K) | (guard_target =~ Lx _ _ _ _ (Oper.mk _ (Op.store 59 _ _) _ _ _ _ :: _) _ _; obtain ⟨W2, s2, hY, hb2, hz2⟩ := od_new W x; refine lx_st (s2 _ rfl) ⟨⟨W2, pI _ ((pB _ hp).trans (hb2.mono (pB _ hp).size))⟩, rfl⟩ rfl rfl (by rfl) ?_; clear s2; simp only [pts]) | (refine lx_one rfl ?_; (first | go_big_quiet_skip | (go_big_quiet_want; go_big_quiet_op; go_big_quiet_on)); refine wpQuiet_nil ?_) | (refine lx_skip (by rfl) ?_; simp only [pts]))
  refine lx_done ?_
  have hb : Below w.heap.size w W2 := (pB _ hp).trans (hb2.mono (pB _ hp).size)
  have h2 := h.out.below hb
  obtain ⟨pc, cc, hT, hU, hC, hO⟩ := h2.tk
  have b12 := h2.ds.c12
  have hXv := hY
  have hWl : W.heap.size < W2.heap.size := by omega
  have l1 := hT.load
  obtain ⟨W3, s3, hA, hb3, hz3⟩ := ld_new W2 t pc cc
  have h3 := h2.below hb3
  have hX3 : OdC W3 W.heap.size 0 x := hXv.same (hb3.block _ hWl)
  have x30 : W3.cell? ⟨W.heap.size, 0, none⟩ = some (.int .i64 (x.at_ : Int)) := hX3.c0
  replace hz2 : Hid _ := ⟨hz2⟩
  replace hz3 : Hid _ := ⟨hz3⟩
  replace l1 : Hid _ := ⟨l1⟩
  replace s3 : Hid _ := ⟨s3⟩
  replace h2 : Hid _ := ⟨h2⟩
  replace h3 : Hid _ := ⟨h3⟩
  replace hb : Hid _ := ⟨hb⟩
  replace hb3 : Hid _ := ⟨hb3⟩
  replace hA : Hid _ := ⟨hA⟩
  replace hX3 : Hid _ := ⟨hX3⟩
  replace hO : Hid _ := ⟨hO⟩
  replace hU : Hid _ := ⟨hU⟩
  clear hT hC hY hXv pB pI p0 f0 f1 f2 f3 f4 f13 hNe hp
  go_wp2_with (first
    | (guard_target =~ wpList _ _ _ (Oper.mk _ (Op.load 43 _) _ _ _ _ :: _) _ _; go_must (first | refine wpList_ld 43 _ rfl rfl _ _ rfl l1.out ?_); simp only [pts])
    | (guard_target =~ wpList _ _ _ (Oper.mk _ (Op.store 43 _ _) _ _ _ _ :: _) _ _; go_must (refine wpList_st 43 _ _ rfl rfl _ _ rfl rfl (s3.out _ rfl) ?_); simp only [pts]))
  generalize hgx : W.heap.size = gx at *
  generalize hgt : W2.heap.size = gt at *
  obtain ⟨px, cx, hTx, hOx⟩ := h3.out.xk
  obtain ⟨p, p0, pB, pI, hNe, pc', pl, pk⟩ := clsT W3
  have hz3o := hz3.out
  have f12 := fun θ => (pc' c.B 12 h3.out.ds.lt θ).trans h3.out.ds.c12
  have f0 := fun θ => (pc' gx 0 (by omega) θ).trans x30
  have lu := pl c.g _ xt px cx h3.out.lg hTx
  clear pc' pl pk hTx
  refine wp_region_lp p (by kernel_rfl) (by kernel_rfl) (fun _ _ d _ _ h => by cases d <;> exact h) p0 fun W4 hp => ?_
  repeat (first | (guard_target =~ Lx _ _ _ _ (Oper.mk _ (Op.load 43 _) _ _ _ _ :: _) _ _; (first | refine lx_ld lu rfl rfl ?_); simp only [pts]) | (guard_target =~ Lx _ _ _ _ (Oper.mk _ (Op.alloc 43) _ _ _ _ :: _) _ _; refine lx_act (by rfl) (by rfl) ?_; intro K hK; go_simp; refine hK _ _ ⟨⟨_, pI _ ((pB _ hp).trans ((bel1 W4 _).mono (pB _ hp).size))⟩, rfl⟩ ?_; clear hK K) | (guard_target =~ Lx _ _ _ _ (Oper.mk _ (Op.store 43 _ _) _ _ _ _ :: _) _ _; obtain ⟨W5, s2, hY, hb5, hz5⟩ := ld_new W4 xt px cx; refine lx_st (s2 _ rfl) ⟨⟨W5, pI _ ((pB _ hp).trans (hb5.mono (pB _ hp).size))⟩, rfl⟩ rfl rfl (by rfl) ?_; clear s2; simp only [pts]) | (refine lx_one rfl ?_; (first | go_big_quiet_skip | (go_big_quiet_want; go_big_quiet_op; go_big_quiet_on)); refine wpQuiet_nil ?_) | (refine lx_skip (by rfl) ?_; simp only [pts]))
  refine lx_done ?_
  have hbW := pB _ hp
  have hb35 : Below W3.heap.size W3 W5 := hbW.trans (hb5.mono hbW.size)
  have hX5 : OdC W5 gx 0 x := hX3.out.same (hb35.block _ (by omega))
  have hA5 : TkC W5 gt 0 t pc cc := hA.out.below (B := W3.heap.size) (by omega) hb35
  have hbb : Below w.heap.size w W5 := hb.out.trans ((hb3.out.trans (hb35.mono (by omega))).mono (by have := hb.out.size; omega))
  have lt5 := hA5.load
  have hU5 : URow W5 pc W5.heap.size t.cst := (hU.out.below (hb3.out.trans (hb35.mono (by omega)) |>.mono (by have := h2.out.sz; omega))).mono (by have := h2.out.sz; have := hb35.size; omega)
  have cPl := refPlain_any t pc cc W5 hU5 hO.out.cst
  have gO : W4.heap.size < W5.heap.size := by omega
  have hR : Hid (∀ W6, Below W5.heap.size W5 W6 → OdC W6 gx 0 x ∧ TkC W6 gt 0 t pc cc ∧ TkC W6 W4.heap.size 0 xt px cx ∧ Below w.heap.size w W6) := ⟨fun W6 h6 => ⟨hX5.same (h6.block _ (by have := hb35.size; omega)), hA5.below (B := W5.heap.size) (by have := hb35.size; omega) h6, hY.below gO h6, hbb.trans (h6.mono hbb.size)⟩⟩
  replace lt5 : Hid _ := ⟨lt5⟩
  replace hbb : Hid _ := ⟨hbb⟩
  clear hX5 hA5 hU5 hb35 hbW pB pI p0 f0 f12 hNe hp lu hY hb5 x30 b12 l1 s3
  replace hz5 : Hid _ := ⟨hz5⟩
  generalize hgo : W4.heap.size = go' at *
  generalize plainB t = q1 at *
  by_cases eq1 : q1 = false
  · subst eq1
    have HX : Hid (¬ P) := ⟨by rw [hP.out]; simp⟩
    go_wp2_with (first
      | (guard_target =~ wpList _ _ _ (Oper.mk _ (Op.load 43 _) _ _ _ _ :: _) _ _; go_must (refine wpList_ld 43 _ rfl rfl _ _ rfl lt5.out ?_); simp only [pts])
      | (go_at_call 28; refine cPl.mono ?_; rintro _ w6 ⟨rfl, e6⟩))
    go_ret
    exact ⟨Ans.no HX.out, (hR.out _ e6).2.2.2⟩
  obtain rfl : q1 = true := by simpa using eq1
  have hP2 : Hid (P ↔ (t.op = xt.op + 1 ∧ t.name.toList = xt.name.toList ∧ t.pair = x.at_ ∧ xt.pair = c.i ∧ (0 < x.stg ∨ (xt.op ≠ 2 ∧ xt.op ≠ 10 ∧ xt.op ≠ 12)))) := ⟨by rw [hP.out, ba_eq]; simp⟩
  clear hP
  go_wp2_with (first
    | (guard_target =~ wpList _ _ _ (Oper.mk _ (Op.load 43 _) _ _ _ _ :: _) _ _; go_must (refine wpList_ld 43 _ rfl rfl _ _ rfl lt5.out ?_); simp only [pts])
    | (go_at_call 28; refine cPl.mono ?_; rintro _ w6 ⟨rfl, e6⟩; obtain ⟨y1, y2, y3, y4⟩ := hR.out _ e6; have u0 := y1.c0; have u1 := y1.c1; have v0 := y2.c0; have v1 := y2.c1; have v20 := y2.c20; have z0 := y3.c0; have z1 := y3.c1; have z20 := y3.c20; simp only [Nat.zero_add] at u0 u1 v0 v1 v20 z0 z1 z20; replace y4 : Hid _ := ⟨y4⟩; clear y1 y2 y3))
  all_goals
    go_ret
    refine ⟨⟨_, rfl, ?_⟩, y4.out⟩
    refine Iff.trans ?_ hP2.out.symm
    simp_all
    try omega
end Go.Proofs.YtjjhfiddebmgcaaGreatDoor
