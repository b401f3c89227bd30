/- FrT. -/
import Derived.Test.YtepnmfgbflogkaaDoorF39
namespace Go.Proofs.YtepnmfgbflogkaaDoor
open Go.ChangeShapes Go.WideShapes Go.ChangeAt Go.RowKit Go.Shelf Go.Maps

theorem PRow.up {w : World} {pp : Option Addr} {H H' : Nat} {l : List Int} (h : PRow w pp H l) (hH : H ≤ H') : PRow w pp H' l :=
  ⟨fun i x hx => by
    obtain ⟨g, o, e, hg, h0⟩ := h.c i x hx
    exact ⟨g, o, e, by omega, h0⟩, h.ok, h.len⟩
set_option maxRecDepth 20000 in
set_option maxHeartbeats 8000000 in
theorem fronts_ok (f : Fm) (pp : Option Addr) (cp : Nat) (L : List Int) (pL : Option Addr) (cL : Nat) (w : World) (hr : TkL w pp w.heap.size f.toks) (hlm : f.toks.length ≤ 1048576) (kt : KT w) (mt : MT w) (hpl : PRow w pL w.heap.size L) (hz : chkZ f = none) :
    Calls Tryd.prog 4 #[fmV f pp cp, .slice pL L.length cL] w fun r w' => r = .returned (.bool true) ∧ Below w.heap.size w w' := by
  have hF := fm_new w f pp cp
  have HB : Below w.heap.size w (w.alloc (fmO f pp cp)) := nbel _ _
  have HS : (w.alloc (fmO f pp cp)).heap.size = w.heap.size + 1 := World.size_alloc _ _
  generalize hW : w.alloc (fmO f pp cp) = W at hF HB HS
  simp only [fmO] at hW
  have cR := runs_any W (kt.up HB) (mt.below mt.pos HB)
  have F' : Hid (∀ X, Below W.heap.size W X → FmC X w.heap.size 0 f pp cp) := ⟨fun X hb => hF.below (by omega) hb⟩
  have hll : Hid (f.toks.length ≤ 733007751850) := ⟨by omega⟩
  have hnmX : Hid (∀ i, (nmAt f.toks i).size ≤ maxLen) := ⟨fun i => nm_le hr i⟩
  have cNew : Hid (∀ X, Below W.heap.size W X → _) := ⟨fun X hb => New_mc f pp cp X (chkC_of f pp cp X ((hr.below (HB.trans (hb.mono HB.size))).mono (HB.trans (hb.mono HB.size)).size) (kt.up (HB.trans (hb.mono HB.size))) (mt.below mt.pos (HB.trans (hb.mono HB.size)))) ((hr.below (HB.trans (hb.mono HB.size))).mono (HB.trans (hb.mono HB.size)).size) hz⟩
  clear hF
  replace HB : Hid _ := ⟨HB⟩
  replace HS : Hid _ := ⟨HS⟩
  replace hr : Hid _ := ⟨hr⟩
  replace hz : Hid _ := ⟨hz⟩
  replace hlm : Hid _ := ⟨hlm⟩
  replace hpl : Hid _ := ⟨hpl⟩
  clear kt mt
  go_enter Tryd.func4, Tryd.ntmps4
  go_upto_region 4 with (first
    | (go_at_call 5; refine cR.mono ?_; rintro _ w1 ⟨rfl, hb1⟩; have hk := F'.out w1 hb1; have k0 := hk.c0; have k1 := hk.c1; have k2 := hk.c2; have k3 := hk.c3; have k4 := hk.c4; have k5 := hk.c5; have k6 := hk.c6; have k7 := hk.c7; have k8 := hk.c8; have k9 := hk.c9; have k10 := hk.c10; have k11 := hk.c11; have k12 := hk.c12; clear hk; simp only [Nat.zero_add] at k1 k2 k3 k4 k5 k6 k7 k8 k9 k10 k11 k12; have cN := cNew.out w1 hb1; replace hb1 : Hid _ := ⟨hb1⟩)
    | (go_at_call 6; refine cN.mono ?_; rintro _ wn ⟨a, rfl, hM, hbn⟩; replace hM : Hid _ := ⟨hM⟩; replace hbn : Hid _ := ⟨hbn⟩; clear k0 k1 k2 k3 k4 k5 k6 k7 k8 k9 k10 k11 k12))
  clear cR cN
  obtain ⟨wb, hwb⟩ : ∃ wb, wb = w1.heap.size := ⟨_, rfl⟩
  have hbw : Hid (Below W.heap.size W wn) := ⟨hb1.out.trans (hbn.out.mono hb1.out.size)⟩
  have hWb : Hid (W.heap.size ≤ wb) := ⟨by rw [hwb]; exact hb1.out.size⟩
  rw [← hwb] at hM
  clear hwb hb1 hbn
  have FN : Hid (∀ X, Below wb wn X → Below W.heap.size W X) := ⟨fun X hX => hbw.out.trans (hX.mono hWb.out)⟩
  have FB : Hid (∀ X, Below wb wn X → Below w.heap.size w X) := ⟨fun X hX => HB.out.trans ((FN.out X hX).mono HB.out.size)⟩
  have FmX : Hid (∀ X, Below wb wn X → FmC X w.heap.size 0 f pp cp) := ⟨fun X hX => F'.out X (FN.out X hX)⟩
  have TX : Hid (∀ X, Below wb wn X → TkL X pp wb f.toks) := ⟨fun X hX => by
    have hB1 : Below w.heap.size w X := HB.out.trans ((FN.out X hX).mono HB.out.size)
    exact (hr.out.below hB1).mono (Nat.le_trans HB.out.size hWb.out)⟩
  have cNX : Hid (∀ X, Below wb wn X → _) := ⟨fun X hX => cNew.out X (FN.out X hX)⟩
  have hk := F'.out wn hbw.out
  have k0 := hk.c0; have k1 := hk.c1; have k2 := hk.c2; have k3 := hk.c3; have k4 := hk.c4; have k5 := hk.c5; have k6 := hk.c6; have k7 := hk.c7; have k8 := hk.c8; have k9 := hk.c9; have k10 := hk.c10; have k11 := hk.c11; have k12 := hk.c12
  clear hk
  simp only [Nat.zero_add] at k1 k2 k3 k4 k5 k6 k7 k8 k9 k10 k11 k12
  have cRun := run_msg f hz.out pp cp L pL cL wn.heap.size (by have := hlm.out; omega) (wn.alloc (chO pL L.length cL 0)) (by
    have hB1 : Below w.heap.size w wn := HB.out.trans (hbw.out.mono HB.out.size)
    exact ((hr.out.below hB1).below ((bel1 wn _).mono hB1.size)).mono hB1.size) (by
    have hB1 : Below w.heap.size w wn := HB.out.trans (hbw.out.mono HB.out.size)
    exact ((hpl.out.below hB1).below ((bel1 wn _).mono hB1.size)).up hB1.size) (heap_al _ _)
  go_upto_region 10 with (go_at_call 13; refine cRun.mono ?_; rintro _ wS ⟨v', cs, rfl, hCO, hMsg, hbS⟩; replace hCO : Hid _ := ⟨hCO⟩; replace hMsg : Hid _ := ⟨hMsg⟩; replace hbS : Hid _ := ⟨hbS⟩)
  clear k0 k1 k2 k3 k4 k5 k6 k7 k8 k9 k10 k11 k12
  obtain ⟨pv, cv, rfl⟩ := hCO.out.shp
  have hnS : Hid (wn.heap.size + 1 ≤ wS.heap.size ∧ wb ≤ wn.heap.size) := ⟨by
    have h1 := hbS.out.size
    rw [World.size_alloc] at h1
    have h2 := (hM.out.lt a hM.out.ua)
    have h3 := hM.out.ua.1
    exact ⟨h1, by omega⟩⟩
  have hM1 : Hid (M1 f (N0 wb wn.heap.size wS.heap.size) wS a newZ) := ⟨by
    have hb : Below wn.heap.size wn wS := (bel1 wn _).trans hbS.out
    refine ⟨_, hM.out.below hb, fun k hk hn => ?_⟩
    have h1 := hk.1
    have h2 := hk.2
    rcases hn with h | h
    · omega
    · have := h.1; omega⟩
  have hXS : Hid (∀ X, Nf (N0 wb wn.heap.size wS.heap.size) wS X → Below wb wn X ∧ COwn X (wn.heap.size + 1) (.slice pv cs.length cv) cs ∧ wS.heap.size ≤ X.heap.size) := ⟨fun X hX => by
    have h1 := hnS.out
    have hb : Below wn.heap.size wn wS := (bel1 wn _).trans hbS.out
    refine ⟨(hb.mono h1.2).trans (hX.below fun k hk => .inl hk), own_keepP hCO.out fun k hk => hX.block k (.inr ⟨?_, ?_⟩), hX.size⟩
    · have := (World.ownsRow.lt hCO.out k hk).1; omega
    · exact (World.ownsRow.lt hCO.out k hk).2⟩
  clear cRun hM
  have hcl : Hid (cs.length ≤ 10000000000) := ⟨hMsg.out.len⟩
  obtain ⟨s0, hs0⟩ : ∃ s0 : Ms, s0 = newZ := ⟨_, rfl⟩
  go_upto_region 11 with fail
  go_loopw [45] (fun q wy => ∃ j : Nat, j ≤ cs.length ∧ q = .int .i64 (j : Int) ∧ Hid (M1 f (N0 wb wn.heap.size wS.heap.size) wy a (endS f.toks newZ (cs.take j)) ∧ Nf (N0 wb wn.heap.size wS.heap.size) wS wy)) (fun q _ => cs.length - (RowKit.intOf q).toNat)
  case atStart => exact ⟨0, Nat.zero_le _, by go_num, ⟨hM1.out, Nf.refl _ _⟩⟩
  case round =>
    clear hM1
    obtain ⟨wo, rfl⟩ : ∃ wo, wo = wr := ⟨_, rfl⟩
    obtain ⟨j, hj, rfl, hI⟩ := hrel
    have hM : Hid _ := ⟨hI.out.1⟩
    have hN : Hid _ := ⟨hI.out.2⟩
    clear hI
    have hcb := hcl.out
    obtain ⟨hBn, hCw, hsz⟩ := hXS.out wo hN.out
    by_cases hjl : j < cs.length
    · obtain ⟨c, hc⟩ : ∃ c, cs[j]? = some c := ⟨cs[j], List.getElem?_eq_getElem hjl⟩
      obtain ⟨gv, rfl, c0, c1, c2, c3, c4⟩ := hCw.cell hc
      obtain ⟨ho1, ho2⟩ := okS_at hMsg.out.ok hc
      obtain ⟨hco, hnm⟩ := call_ok hMsg.out hnmX.out (List.mem_of_getElem? hc)
      generalize hst : endS f.toks newZ (cs.take j) = st at hM ho1 ho2
      have hji : (j : Int) < cs.length := by omega
      have hho1 : Hid _ := ⟨ho1⟩
      have hho2 : Hid _ := ⟨ho2⟩
      replace hco : Hid _ := ⟨hco⟩
      replace hnm : Hid _ := ⟨hnm⟩
      have hnn := hnS.out
      have hsz' : Hid _ := ⟨hsz⟩
      clear hBn hCw ho1 ho2 hc
      have hN1 : Hid _ := hN
      have STEP : Hid (∀ (Y : World), Below wo.heap.size wo Y → M1 f (N1 wb wn.heap.size wS.heap.size wo.heap.size Y.heap.size) Y a st ∧ ∀ k, N1 wb wn.heap.size wS.heap.size wo.heap.size Y.heap.size k → k < Y.heap.size) := ⟨fun Y hY => ⟨hM.out.more hY N1.more, N1.lt (by have := hY.size; omega) (by have := hY.size; have := hsz'.out; omega) (Nat.le_refl _)⟩⟩
      by_cases hk1 : c.k = 1
      · have g1 : (c.k == 1) = true := by simp [hk1]
        have HK1 : Hid _ := ⟨hk1⟩
        have hbad : Hid ((stepZ f.toks st c.k (-1) c.nm).1 = 141 ∧ (stepZ f.toks st c.k (-1) c.nm).2 = st) := ⟨by
          have h := hho1.out
          unfold stO at h
          rw [HK1.out] at h ⊢
          have h1 := bad_count h
          exact ⟨h1, stepZ_err _ _ _ _ _ (by rw [h1]; decide)⟩⟩
        have hm1 : Hid (i64ok (-1)) := ⟨⟨by decide, by decide⟩⟩
        clear hk1
        go_upto_region 15 with fail
        have hY : Below wo.heap.size wo ((wo.alloc (.cells #[.int .i64 c.k, .string c.nm, .slice none 0 0, .int .i64 c.cnt, .string ⟨#[]⟩] 45)).alloc (.cells #[.int .i64 c.k, .string c.nm, .slice none 0 0, .int .i64 c.cnt, .string ⟨#[]⟩] 45)) := two_b wo _ _
        have hB9 : ((wo.alloc (.cells #[.int .i64 c.k, .string c.nm, .slice none 0 0, .int .i64 c.cnt, .string ⟨#[]⟩] 45)).alloc (.cells #[.int .i64 c.k, .string c.nm, .slice none 0 0, .int .i64 c.cnt, .string ⟨#[]⟩] 45)).heap[wo.heap.size]? = some (.cells #[.int .i64 c.k, .string c.nm, .slice none 0 0, .int .i64 c.cnt, .string ⟨#[]⟩] 45) := two_1 wo _ _
        have hB10 : ((wo.alloc (.cells #[.int .i64 c.k, .string c.nm, .slice none 0 0, .int .i64 c.cnt, .string ⟨#[]⟩] 45)).alloc (.cells #[.int .i64 c.k, .string c.nm, .slice none 0 0, .int .i64 c.cnt, .string ⟨#[]⟩] 45)).heap[wo.heap.size + 1]? = some (.cells #[.int .i64 c.k, .string c.nm, .slice none 0 0, .int .i64 c.cnt, .string ⟨#[]⟩] 45) := two_2 wo _ _
        generalize (wo.alloc (.cells #[.int .i64 c.k, .string c.nm, .slice none 0 0, .int .i64 c.cnt, .string ⟨#[]⟩] 45)).alloc (.cells #[.int .i64 c.k, .string c.nm, .slice none 0 0, .int .i64 c.cnt, .string ⟨#[]⟩] 45) = Y2 at hY hB9 hB10
        have x3 : Y2.cell? ⟨wo.heap.size + 1, 3, none⟩ = some (.int .i64 c.cnt) := cell_at hB10 3
        have z3 : Y2.frozen? ⟨wo.heap.size + 1, 3, none⟩ = false := by simp only [World.frozen?, hB10]; simp
        have hB10' := cellSet hB10 3 (.int .i64 (-1))
        have hB9' : (Y2.setCell ⟨wo.heap.size + 1, 3, none⟩ (.int .i64 (-1))).heap[wo.heap.size]? = some (.cells #[.int .i64 c.k, .string c.nm, .slice none 0 0, .int .i64 c.cnt, .string ⟨#[]⟩] 45) := (heap_setCell_other Y2 ⟨wo.heap.size + 1, 3, none⟩ wo.heap.size _ (by show wo.heap.size ≠ wo.heap.size + 1; omega)).trans hB9
        have hY3 : Below wo.heap.size wo (Y2.setCell ⟨wo.heap.size + 1, 3, none⟩ (.int .i64 (-1))) := hY.setCell (p := ⟨wo.heap.size + 1, 3, none⟩) (by show wo.heap.size ≤ wo.heap.size + 1; omega) _
        replace hB10' : Hid _ := ⟨hB10'⟩
        replace hB9' : Hid _ := ⟨hB9'⟩
        replace hY3 : Hid _ := ⟨hY3⟩
        clear hY hB9 hB10
        go_upto_region 16 with fail
        clear x3 z3
        generalize Y2.setCell ⟨wo.heap.size + 1, 3, none⟩ (.int .i64 (-1)) = Y3 at hB10' hB9' hY3
        have t0 : Y3.cell? ⟨wo.heap.size + 1, 0, none⟩ = some (.int .i64 c.k) := cell_at hB10'.out 0
        have t1 : Y3.cell? ⟨wo.heap.size + 1, 1, none⟩ = some (.string c.nm) := cell_at hB10'.out 1
        have t2 : Y3.cell? ⟨wo.heap.size + 1, 2, none⟩ = some (.slice none 0 0) := cell_at hB10'.out 2
        have t3 : Y3.cell? ⟨wo.heap.size + 1, 3, none⟩ = some (.int .i64 (-1)) := cell_at hB10'.out 3
        have t4 : Y3.cell? ⟨wo.heap.size + 1, 4, none⟩ = some (.string ⟨#[]⟩) := cell_at hB10'.out 4
        obtain ⟨hMY, hlY⟩ := STEP.out Y3 hY3.out
        have cSb := hMY.step hz.out hll.out ⟨c.k, c.nm, .slice none 0 0, -1, ⟨#[]⟩⟩ hlY hm1.out hnm.out hbad.out.1 hbad.out.2
        have hl9' : Hid (wo.heap.size < Y3.heap.size) := ⟨(Array.getElem?_eq_some_iff.1 hB9'.out).1⟩
        have hlY' : Hid _ := ⟨hlY⟩
        clear hMY hlY
        go_upto_region 18 with (go_at_call 11; refine cSb.mono ?_; rintro _ Y ⟨rfl, hM2, hNb⟩; replace hM2 : Hid _ := ⟨hM2⟩; replace hNb : Hid _ := ⟨hNb⟩)
        clear cSb t0 t1 t2 t3 t4
        have hNY : Nf (N0 wb wn.heap.size wS.heap.size) wo Y := (Nf.of_below hY3.out (N0.lt (by omega) (by have := hsz'.out; omega))).trans (hNb.out.mono N1.less)
        have hB9 : Y.heap[wo.heap.size]? = some (.cells #[.int .i64 c.k, .string c.nm, .slice none 0 0, .int .i64 c.cnt, .string ⟨#[]⟩] 45) := (hNb.out.block _ (.inr ⟨Nat.le_refl _, hl9'.out⟩)).trans hB9'.out
        have hlt2 : ∀ k, N1 wb wn.heap.size wS.heap.size wo.heap.size Y3.heap.size k → k < Y.heap.size := fun k hk => Nat.lt_of_lt_of_le (hlY'.out k hk) hNb.out.size
        have hl9 := hl9'.out
        replace hM2 := hM2.out
        clear hNb hlY' hB9' hB10' hY3 hl9'
        have hK4 : Hid ((stepZ f.toks st 4 0 ⟨#[]⟩).1 = 140 ∧ (stepZ f.toks st 4 0 ⟨#[]⟩).2 = st) := ⟨four_no, stepZ_err _ _ _ _ _ (by rw [four_no]; decide)⟩
        have h0k : Hid (i64ok 0) := ⟨⟨by decide, by decide⟩⟩
        have hn0 : Hid ((⟨#[]⟩ : ByteArray).size ≤ maxLen) := ⟨by decide⟩
        have hb9l : Hid (N1 wb wn.heap.size wS.heap.size wo.heap.size Y3.heap.size wo.heap.size) := ⟨.inr ⟨Nat.le_refl _, hl9⟩⟩
        have cS4 := hM2.step hz.out hll.out ⟨4, ⟨#[]⟩, .slice none 0 0, 0, ⟨#[]⟩⟩ hlt2 h0k.out hn0.out hK4.out.1 hK4.out.2
        have CS : Hid (∀ Z, M1 f (N1 wb wn.heap.size wS.heap.size wo.heap.size Y3.heap.size) Z a st → Nf (N1 wb wn.heap.size wS.heap.size wo.heap.size Y3.heap.size) Y Z → Z.heap[wo.heap.size]? = some (.cells #[.int .i64 c.k, .string c.nm, .slice none 0 0, .int .i64 c.cnt, .string ⟨#[]⟩] 45) ∧ Calls Tryd.prog 11 #[.pointer (some ⟨a, 0, none⟩), .agg #[.int .i64 c.k, .string c.nm, .slice none 0 0, .int .i64 c.cnt, .string ⟨#[]⟩]] Z fun r w' => r = .returned (.int .i64 0) ∧ M1 f (N0 wb wn.heap.size wS.heap.size) w' a (endS f.toks newZ (cs.take (j + 1))) ∧ Nf (N0 wb wn.heap.size wS.heap.size) wS w') := ⟨fun Z hZ hNZ => by
          refine ⟨(hNZ.block _ hb9l.out).trans hB9, ?_⟩
          refine (hZ.step hz.out hll.out ⟨c.k, c.nm, .slice none 0 0, c.cnt, ⟨#[]⟩⟩ (fun k hk => Nat.lt_of_lt_of_le (hlt2 k hk) hNZ.size) hco.out hnm.out hho1.out hho2.out.symm).mono ?_
          rintro r w' ⟨e1, e2, e3⟩
          refine ⟨e1, e2.less N1.less, hN.out.trans ((hNY.trans (hNZ.mono N1.less)).trans (e3.mono N1.less))⟩⟩
        have y0 : Y.cell? ⟨wo.heap.size, 0, none⟩ = some (.int .i64 c.k) := cell_at hB9 0
        clear STEP hNY hB9 hM2 hlt2 hl9
        have F1 : True := trivial
        go_upto_region 20 with (first
          | (go_at_call 11; clear F1; refine cS4.mono ?_; rintro _ Z ⟨rfl, hZ, hNZ⟩; obtain ⟨hB8, cSc⟩ := CS.out Z hZ hNZ; have q0 : Z.cell? ⟨wo.heap.size, 0, none⟩ = some (.int .i64 c.k) := cell_at hB8 0; have q1 : Z.cell? ⟨wo.heap.size, 1, none⟩ = some (.string c.nm) := cell_at hB8 1; have q2 : Z.cell? ⟨wo.heap.size, 2, none⟩ = some (.slice none 0 0) := cell_at hB8 2; have q3 : Z.cell? ⟨wo.heap.size, 3, none⟩ = some (.int .i64 c.cnt) := cell_at hB8 3; have q4 : Z.cell? ⟨wo.heap.size, 4, none⟩ = some (.string ⟨#[]⟩) := cell_at hB8 4; clear hZ hNZ hB8)
          | (go_at_call 11; refine cSc.mono ?_; rintro _ Z2 ⟨rfl, hZ2, hN2⟩; have HZ2 : Hid _ := ⟨And.intro hZ2 hN2⟩; clear hZ2 hN2))
        go_wp2_with fail
        go_roundw
        case rel => exact ⟨j + 1, by omega, by go_num, HZ2⟩
        case measure => simp [RowKit.intOf]; omega
      · have g1 : (c.k == 1) = false := by simp [hk1]
        go_upto_region 18 with fail
        have hY := bel1 wo (.cells #[.int .i64 c.k, .string c.nm, .slice none 0 0, .int .i64 c.cnt, .string ⟨#[]⟩] 45)
        have hB9 : (wo.alloc (.cells #[.int .i64 c.k, .string c.nm, .slice none 0 0, .int .i64 c.cnt, .string ⟨#[]⟩] 45)).heap[wo.heap.size]? = some (.cells #[.int .i64 c.k, .string c.nm, .slice none 0 0, .int .i64 c.cnt, .string ⟨#[]⟩] 45) := heap_al _ _
        obtain ⟨hM2, hlt2⟩ := STEP.out _ hY
        generalize wo.alloc (.cells #[.int .i64 c.k, .string c.nm, .slice none 0 0, .int .i64 c.cnt, .string ⟨#[]⟩] 45) = Y at hY hB9 hM2 hlt2
        have hNY : Nf (N0 wb wn.heap.size wS.heap.size) wo Y := Nf.of_below hY (N0.lt (by omega) (by have := hsz'.out; omega))
        have hl9 : wo.heap.size < Y.heap.size := (Array.getElem?_eq_some_iff.1 hB9).1
        clear hY
        have hK4 : Hid ((stepZ f.toks st 4 0 ⟨#[]⟩).1 = 140 ∧ (stepZ f.toks st 4 0 ⟨#[]⟩).2 = st) := ⟨four_no, stepZ_err _ _ _ _ _ (by rw [four_no]; decide)⟩
        have h0k : Hid (i64ok 0) := ⟨⟨by decide, by decide⟩⟩
        have hn0 : Hid ((⟨#[]⟩ : ByteArray).size ≤ maxLen) := ⟨by decide⟩
        have hb9l : Hid (N1 wb wn.heap.size wS.heap.size wo.heap.size Y.heap.size wo.heap.size) := ⟨.inr ⟨Nat.le_refl _, hl9⟩⟩
        have cS4 := hM2.step hz.out hll.out ⟨4, ⟨#[]⟩, .slice none 0 0, 0, ⟨#[]⟩⟩ hlt2 h0k.out hn0.out hK4.out.1 hK4.out.2
        have CS : Hid (∀ Z, M1 f (N1 wb wn.heap.size wS.heap.size wo.heap.size Y.heap.size) Z a st → Nf (N1 wb wn.heap.size wS.heap.size wo.heap.size Y.heap.size) Y Z → Z.heap[wo.heap.size]? = some (.cells #[.int .i64 c.k, .string c.nm, .slice none 0 0, .int .i64 c.cnt, .string ⟨#[]⟩] 45) ∧ Calls Tryd.prog 11 #[.pointer (some ⟨a, 0, none⟩), .agg #[.int .i64 c.k, .string c.nm, .slice none 0 0, .int .i64 c.cnt, .string ⟨#[]⟩]] Z fun r w' => r = .returned (.int .i64 0) ∧ M1 f (N0 wb wn.heap.size wS.heap.size) w' a (endS f.toks newZ (cs.take (j + 1))) ∧ Nf (N0 wb wn.heap.size wS.heap.size) wS w') := ⟨fun Z hZ hNZ => by
          refine ⟨(hNZ.block _ hb9l.out).trans hB9, ?_⟩
          refine (hZ.step hz.out hll.out ⟨c.k, c.nm, .slice none 0 0, c.cnt, ⟨#[]⟩⟩ (fun k hk => Nat.lt_of_lt_of_le (hlt2 k hk) hNZ.size) hco.out hnm.out hho1.out hho2.out.symm).mono ?_
          rintro r w' ⟨e1, e2, e3⟩
          refine ⟨e1, e2.less N1.less, hN.out.trans ((hNY.trans (hNZ.mono N1.less)).trans (e3.mono N1.less))⟩⟩
        have y0 : Y.cell? ⟨wo.heap.size, 0, none⟩ = some (.int .i64 c.k) := cell_at hB9 0
        clear STEP hNY hB9 hM2 hlt2 hl9
        have F1 : True := trivial
        go_upto_region 20 with (first
          | (go_at_call 11; clear F1; refine cS4.mono ?_; rintro _ Z ⟨rfl, hZ, hNZ⟩; obtain ⟨hB8, cSc⟩ := CS.out Z hZ hNZ; have q0 : Z.cell? ⟨wo.heap.size, 0, none⟩ = some (.int .i64 c.k) := cell_at hB8 0; have q1 : Z.cell? ⟨wo.heap.size, 1, none⟩ = some (.string c.nm) := cell_at hB8 1; have q2 : Z.cell? ⟨wo.heap.size, 2, none⟩ = some (.slice none 0 0) := cell_at hB8 2; have q3 : Z.cell? ⟨wo.heap.size, 3, none⟩ = some (.int .i64 c.cnt) := cell_at hB8 3; have q4 : Z.cell? ⟨wo.heap.size, 4, none⟩ = some (.string ⟨#[]⟩) := cell_at hB8 4; clear hZ hNZ hB8)
          | (go_at_call 11; refine cSc.mono ?_; rintro _ Z2 ⟨rfl, hZ2, hN2⟩; have HZ2 : Hid _ := ⟨And.intro hZ2 hN2⟩; clear hZ2 hN2))
        go_wp2_with fail
        go_roundw
        case rel => exact ⟨j + 1, by omega, by go_num, HZ2⟩
        case measure => simp [RowKit.intOf]; omega
    · obtain rfl : j = cs.length := by omega
      rw [List.take_length] at hM
      obtain ⟨ov, hov, hend⟩ := hMsg.out.fin
      generalize hsE : endS f.toks newZ cs = sE at hM hend
      have hNo : Hid (∀ (k cnt : Int) (nm : ByteArray), (k = 1 ∨ k = 2 ∨ k = 3) → (stepZ f.toks sE k cnt nm).1 = 140 ∧ (stepZ f.toks sE k cnt nm).2 = sE) := ⟨fun k cnt nm hk => by
        have h1 : (stepZ f.toks sE k cnt nm).1 = 140 := by rw [hend]; exact end_no hov k cnt nm hk
        exact ⟨h1, stepZ_err _ _ _ _ _ (by rw [h1]; decide)⟩⟩
      have hDone : Hid (doneB f.toks sE = true) := ⟨by rw [hend]; exact end_done hov⟩
      have hsE' : Hid _ := ⟨hsE⟩
      have f12 := (FmX.out wo hBn).c12
      simp only [Nat.zero_add] at f12
      have d1 : decide ((cs.length : Int) < cs.length) = false := by simp
      have hnn := hnS.out
      clear hend hov hsE hBn hCw hsz hjl hj
      go_upto_region 22 with fail
      clear d1 f12
      go_loopw [72] (fun q wy => ∃ i : Nat, i ≤ f.toks.length ∧ q = .int .i64 (i : Int) ∧ Hid (M1 f (N0 wb wn.heap.size wS.heap.size) wy a sE ∧ Nf (N0 wb wn.heap.size wS.heap.size) wS wy)) (fun q _ => f.toks.length - (RowKit.intOf q).toNat)
      case atStart => exact ⟨0, Nat.zero_le _, by go_num, ⟨hM.out, hN.out⟩⟩
      case round =>
        clear hM hN
        obtain ⟨wo2, rfl⟩ : ∃ wo2, wo2 = wr := ⟨_, rfl⟩
        obtain ⟨i, hi, rfl, hI⟩ := hrel
        have hM : Hid _ := ⟨hI.out.1⟩
        have hN : Hid _ := ⟨hI.out.2⟩
        clear hI
        have hlb := hll.out
        obtain ⟨hBn, hCw, hsz⟩ := hXS.out wo2 hN.out
        by_cases hil : i < f.toks.length
        · obtain ⟨y, hy⟩ : ∃ y, f.toks[i]? = some y := ⟨f.toks[i], List.getElem?_eq_getElem hil⟩
          obtain ⟨gy, oy, py, cy, hpx, hgy, hTy, _, _, hOy⟩ := (TX.out wo2 hBn).at hy
          subst hpx
          have lT : Hid _ := ⟨hTy.load⟩
          have sT : Hid _ := ⟨fun z hz => st_new wo2 z hz y py cy⟩
          have hii : (i : Int) < f.toks.length := by omega
          have hX : Hid ((wo2.alloc (tkO y py cy)).heap[wo2.heap.size]? = some (tkO y py cy)) := ⟨heap_al _ _⟩
          have hbY : Hid (Below wo2.heap.size wo2 (wo2.alloc (tkO y py cy))) := ⟨bel1 _ _⟩
          have hnmy : Hid (y.name.size ≤ maxLen) := ⟨Nat.le_trans hOy.name (by decide)⟩
          have hszz : Hid _ := ⟨hsz⟩
          clear hTy hy hBn hCw hsz hgy hOy
          go_upto_region 24 with (first
            | (guard_target =~ wpList _ _ _ (Oper.mk _ (Op.load 42 _) _ _ _ _ :: _) _ _; go_must (refine wpList_ld 42 (.tmp 74) rfl rfl _ _ rfl lT.out ?_); simp only [pts])
            | (guard_target =~ wpList _ _ _ (Oper.mk _ (Op.store 42 _ _) _ _ _ _ :: _) _ _; go_must (refine wpList_st 42 (.tmp 12) (.tmp 75) rfl rfl _ _ rfl rfl (sT.out _ rfl) ?_); simp only [pts]))
          clear lT sT
          generalize wo2.alloc (tkO y py cy) = Y at hX hbY
          have hx := tk_of hX.out
          have x0 := hx.c0
          have x1 := hx.c1
          simp only [Nat.zero_add] at x1
          clear hx
          have h0k : Hid (i64ok 0) := ⟨⟨by decide, by decide⟩⟩
          have CS : Hid (∀ kk : Int, (kk = 1 ∨ kk = 2 ∨ kk = 3) → Calls Tryd.prog 11 #[.pointer (some ⟨a, 0, none⟩), .agg #[.int .i64 kk, .string y.name, .slice none 0 0, .int .i64 0, .string ⟨#[]⟩]] Y fun r w' => r = .returned (.int .i64 140) ∧ Hid (M1 f (N0 wb wn.heap.size wS.heap.size) w' a sE ∧ Nf (N0 wb wn.heap.size wS.heap.size) wS w')) := ⟨fun kk hkk => by
            have hs := hbY.out.size
            have hz2 := hszz.out
            have e := hNo.out kk 0 y.name hkk
            refine ((hM.out.below hbY.out).step hz.out hll.out ⟨kk, y.name, .slice none 0 0, 0, ⟨#[]⟩⟩ (N0.lt (by omega) (by omega)) h0k.out hnmy.out e.1 e.2).mono ?_
            rintro r w' ⟨e1, e2, e3⟩
            exact ⟨e1, ⟨e2, (hN.out.trans (Nf.of_below hbY.out (N0.lt (by omega) (by omega)))).trans e3⟩⟩⟩
          have hsame : Hid (M1 f (N0 wb wn.heap.size wS.heap.size) Y a sE ∧ Nf (N0 wb wn.heap.size wS.heap.size) wS Y) := ⟨hM.out.below hbY.out, hN.out.trans (Nf.of_below hbY.out (N0.lt (by have := hszz.out; omega) (by have := hszz.out; omega)))⟩
          by_cases h6 : y.op = 6
          · have c6 : (y.op == 6) = true := by simp [h6]
            have c4 : (y.op == 4) = false := by simp [h6]
            have cS := CS.out 3 (.inr (.inr rfl))
            clear h6
            go_wp2_with (go_at_call 11; refine cS.mono ?_; rintro _ Z ⟨rfl, HZ⟩)
            go_roundw
            case rel => exact ⟨i + 1, by omega, by go_num, HZ⟩
            case measure => simp [RowKit.intOf]; omega
          · have c6 : (y.op == 6) = false := by simp [h6]
            by_cases h4 : y.op = 4
            · have c4 : (y.op == 4) = true := by simp [h4]
              have cS := CS.out 1 (.inl rfl)
              clear h6 h4
              go_wp2_with (go_at_call 11; refine cS.mono ?_; rintro _ Z ⟨rfl, HZ⟩)
              go_roundw
              case rel => exact ⟨i + 1, by omega, by go_num, HZ⟩
              case measure => simp [RowKit.intOf]; omega
            · have c4 : (y.op == 4) = false := by simp [h4]
              clear h6 h4
              go_wp2_with fail
              go_roundw
              case rel => exact ⟨i + 1, by omega, by go_num, hsame⟩
              case measure => simp [RowKit.intOf]; omega
        · obtain rfl : i = f.toks.length := by omega
          have d1 : decide ((f.toks.length : Int) < f.toks.length) = false := by simp
          have hk := FmX.out wo2 hBn
          have k0 := hk.c0; have k1 := hk.c1; have k2 := hk.c2; have k3 := hk.c3; have k4 := hk.c4; have k5 := hk.c5; have k6 := hk.c6; have k7 := hk.c7; have k8 := hk.c8; have k9 := hk.c9; have k10 := hk.c10; have k11 := hk.c11; have k12 := hk.c12
          clear hk
          simp only [Nat.zero_add] at k1 k2 k3 k4 k5 k6 k7 k8 k9 k10 k11 k12
          have cN2 := cNX.out wo2 hBn
          have hszz : Hid _ := ⟨hsz⟩
          have T2 : Hid (∀ (a2 : Nat) (X : World), Mc f X a2 newZ (fun k => wo2.heap.size ≤ k ∧ k < X.heap.size) → Below wo2.heap.size wo2 X → M2 f (N0 wb wn.heap.size wS.heap.size) X a sE a2 newZ ∧ Nf (N0 wb wn.heap.size wS.heap.size) wS X) := ⟨fun a2 X h1 h2 => ⟨hM.out.two h2 (N0.lt (by omega) (by have := hszz.out; omega)) h1, hN.out.trans (Nf.of_below h2 (N0.lt (by omega) (by have := hszz.out; omega)))⟩⟩
          clear hBn hCw hsz hil hi
          go_upto_region 34 with (go_at_call 6; refine cN2.mono ?_; rintro _ X ⟨a2, rfl, q1, q2⟩; have hT2 : Hid _ := ⟨T2.out a2 X q1 q2⟩; clear q1 q2; clear k0 k1 k2 k3 k4 k5 k6 k7 k8 k9 k10 k11 k12)
          clear cN2 d1 T2 hM hN
          go_loopw [110] (fun q wy => ∃ j : Nat, j ≤ cs.length ∧ q = .int .i64 (j : Int) ∧ Hid (M2 f (N0 wb wn.heap.size wS.heap.size) wy a sE a2 (endS f.toks newZ (cs.take j)) ∧ Nf (N0 wb wn.heap.size wS.heap.size) wS wy)) (fun q _ => cs.length - (RowKit.intOf q).toNat)
          case atStart => exact ⟨0, Nat.zero_le _, by go_num, hT2⟩
          case round =>
            clear hT2
            obtain ⟨wo3, rfl⟩ : ∃ wo3, wo3 = wr := ⟨_, rfl⟩
            obtain ⟨j, hj, rfl, hI⟩ := hrel
            have hM : Hid _ := ⟨hI.out.1⟩
            have hN : Hid _ := ⟨hI.out.2⟩
            clear hI
            obtain ⟨hBn, hCw, hsz⟩ := hXS.out wo3 hN.out
            by_cases hjl : j < cs.length
            · obtain ⟨c, hc⟩ : ∃ c, cs[j]? = some c := ⟨cs[j], List.getElem?_eq_getElem hjl⟩
              obtain ⟨gv3, hpv3, c0, c1, c2, c3, c4⟩ := hCw.cell hc
              subst hpv3
              obtain ⟨ho1, ho2⟩ := okS_at hMsg.out.ok hc
              obtain ⟨hco, hnm⟩ := call_ok hMsg.out hnmX.out (List.mem_of_getElem? hc)
              generalize hst : endS f.toks newZ (cs.take j) = st at hM ho1 ho2
              have hji : (j : Int) < cs.length := by omega
              have hY := bel1 wo3 (.cells #[.int .i64 c.k, .string c.nm, .slice none 0 0, .int .i64 c.cnt, .string ⟨#[]⟩] 45)
              have hs1 := hY.size
              have hlt2 : ∀ k, N0 wb wn.heap.size wS.heap.size k → k < (wo3.alloc (.cells #[.int .i64 c.k, .string c.nm, .slice none 0 0, .int .i64 c.cnt, .string ⟨#[]⟩] 45)).heap.size := N0.lt (by omega) (by omega)
              have cS := (hM.out.below hY).stepB hz.out hll.out ⟨c.k, c.nm, .slice none 0 0, c.cnt, ⟨#[]⟩⟩ hlt2 hco hnm ho1 ho2.symm
              have hNY : Hid (Nf (N0 wb wn.heap.size wS.heap.size) wS (wo3.alloc (.cells #[.int .i64 c.k, .string c.nm, .slice none 0 0, .int .i64 c.cnt, .string ⟨#[]⟩] 45))) := ⟨hN.out.trans (Nf.of_below hY (N0.lt (by omega) (by omega)))⟩
              have hcb := hcl.out
              clear hBn hCw hsz ho1 ho2 hc hY hs1 hlt2 hco hnm
              go_wp2_with (go_at_call 11; refine cS.mono ?_; rintro _ Z ⟨rfl, q1, q2⟩; have HZ : Hid _ := ⟨And.intro q1 (hNY.out.trans q2)⟩; clear q1 q2)
              go_roundw
              case rel => exact ⟨j + 1, by omega, by go_num, HZ⟩
              case measure => simp [RowKit.intOf]; omega
            · obtain rfl : j = cs.length := by omega
              rw [List.take_length, hsE'.out] at hM
              have d1 : decide ((cs.length : Int) < cs.length) = false := by simp
              have hszz : Hid _ := ⟨hsz⟩
              have hfin : Hid (∀ X, Nf (N0 wb wn.heap.size wS.heap.size) wS X → Below w.heap.size w X) := ⟨fun X hX => by
                exact FB.out X (hXS.out X hX).1⟩
              have h0k : Hid (i64ok 0) := ⟨⟨by decide, by decide⟩⟩
              have hn0 : Hid ((⟨#[]⟩ : ByteArray).size ≤ maxLen) := ⟨by decide⟩
              have hle : Hid ((lfZ sE).length ≤ 1000000) := ⟨Nat.le_trans (lfZ_le hM.out.k2.ok) (by decide)⟩
              have F1 : True := trivial
              have F2 : True := trivial
              have F3 : True := trivial
              have F4 : True := trivial
              clear hBn hCw hsz hjl hj
              go_wp2_with (first
                | (go_at_call 7; clear F1; refine hM.out.k2.doneA.mono ?_; rintro _ w9 ⟨hr9, hb9⟩; rw [hDone.out] at hr9; subst hr9; replace hN : Hid (Nf (N0 wb wn.heap.size wS.heap.size) wS w9) := ⟨hN.out.trans (Nf.of_below hb9 (N0.lt (by have := hszz.out; omega) (by have := hszz.out; omega)))⟩; replace hM : Hid (M2 f (N0 wb wn.heap.size wS.heap.size) w9 a sE a2 sE) := ⟨hM.out.below hb9⟩; replace hszz : Hid (wS.heap.size ≤ w9.heap.size) := ⟨hN.out.size⟩; clear hb9)
                | (go_at_call 7; clear F2; refine hM.out.k2.doneB.mono ?_; rintro _ w9 ⟨hr9, hb9⟩; rw [hDone.out] at hr9; subst hr9; replace hN : Hid (Nf (N0 wb wn.heap.size wS.heap.size) wS w9) := ⟨hN.out.trans (Nf.of_below hb9 (N0.lt (by have := hszz.out; omega) (by have := hszz.out; omega)))⟩; replace hM : Hid (M2 f (N0 wb wn.heap.size wS.heap.size) w9 a sE a2 sE) := ⟨hM.out.below hb9⟩; replace hszz : Hid (wS.heap.size ≤ w9.heap.size) := ⟨hN.out.size⟩; clear hb9)
                | (go_at_call 7; refine hM.out.k2.doneA.mono ?_; rintro _ w9 ⟨hr9, hb9⟩; rw [hDone.out] at hr9; subst hr9; replace hN : Hid (Nf (N0 wb wn.heap.size wS.heap.size) wS w9) := ⟨hN.out.trans (Nf.of_below hb9 (N0.lt (by have := hszz.out; omega) (by have := hszz.out; omega)))⟩; replace hM : Hid (M2 f (N0 wb wn.heap.size wS.heap.size) w9 a sE a2 sE) := ⟨hM.out.below hb9⟩; replace hszz : Hid (wS.heap.size ≤ w9.heap.size) := ⟨hN.out.size⟩; clear hb9)
                | (go_at_call 8; clear F3; refine hM.out.k2.insB.mono ?_; rintro _ w9 ⟨rfl, hb9⟩; replace hN : Hid (Nf (N0 wb wn.heap.size wS.heap.size) wS w9) := ⟨hN.out.trans (Nf.of_below hb9 (N0.lt (by have := hszz.out; omega) (by have := hszz.out; omega)))⟩; replace hM : Hid (M2 f (N0 wb wn.heap.size wS.heap.size) w9 a sE a2 sE) := ⟨hM.out.below hb9⟩; replace hszz : Hid (wS.heap.size ≤ w9.heap.size) := ⟨hN.out.size⟩; clear hb9)
                | (go_at_call 8; refine hM.out.k2.insA.mono ?_; rintro _ w9 ⟨rfl, hb9⟩; replace hN : Hid (Nf (N0 wb wn.heap.size wS.heap.size) wS w9) := ⟨hN.out.trans (Nf.of_below hb9 (N0.lt (by have := hszz.out; omega) (by have := hszz.out; omega)))⟩; replace hM : Hid (M2 f (N0 wb wn.heap.size wS.heap.size) w9 a sE a2 sE) := ⟨hM.out.below hb9⟩; replace hszz : Hid (wS.heap.size ≤ w9.heap.size) := ⟨hN.out.size⟩; clear hb9)
                | (go_at_call 9; clear F4; refine hM.out.k2.leftB.mono ?_; rintro _ w9 ⟨p1, c1, rfl, hN1, hb9⟩; have hs1 : Hid _ := ⟨hN1.nsl⟩; replace hN : Hid (Nf (N0 wb wn.heap.size wS.heap.size) wS w9) := ⟨hN.out.trans (Nf.of_below hb9 (N0.lt (by have := hszz.out; omega) (by have := hszz.out; omega)))⟩; replace hM : Hid (M2 f (N0 wb wn.heap.size wS.heap.size) w9 a sE a2 sE) := ⟨hM.out.below hb9⟩; replace hszz : Hid (wS.heap.size ≤ w9.heap.size) := ⟨hN.out.size⟩; clear hb9 hN1)
                | (go_at_call 9; refine hM.out.k2.leftA.mono ?_; rintro _ w9 ⟨p2, c2, rfl, hN2, hb9⟩; have hs2 : Hid _ := ⟨hN2.nsl⟩; replace hs1 : Hid _ := ⟨hs1.out.below hb9⟩; replace hN : Hid (Nf (N0 wb wn.heap.size wS.heap.size) wS w9) := ⟨hN.out.trans (Nf.of_below hb9 (N0.lt (by have := hszz.out; omega) (by have := hszz.out; omega)))⟩; replace hM : Hid (M2 f (N0 wb wn.heap.size wS.heap.size) w9 a sE a2 sE) := ⟨hM.out.below hb9⟩; replace hszz : Hid (wS.heap.size ≤ w9.heap.size) := ⟨hN.out.size⟩; clear hb9 hN2)
                | (go_at_call 10; refine (sameInts_any (lfZ sE) (lfZ sE) p1 p2 c1 c2 _ hs1.out hs2.out hle.out).mono ?_; rintro _ w9 ⟨rfl, hb9⟩; replace hN : Hid (Nf (N0 wb wn.heap.size wS.heap.size) wS w9) := ⟨hN.out.trans (Nf.of_below hb9 (N0.lt (by have := hszz.out; omega) (by have := hszz.out; omega)))⟩; replace hM : Hid (M2 f (N0 wb wn.heap.size wS.heap.size) w9 a sE a2 sE) := ⟨hM.out.below hb9⟩; replace hszz : Hid (wS.heap.size ≤ w9.heap.size) := ⟨hN.out.size⟩; clear hb9)
                | (go_at_call 11; refine (hM.out.stepA hz.out hll.out ⟨2, ⟨#[]⟩, .slice none 0 0, 0, ⟨#[]⟩⟩ (N0.lt (by have := hszz.out; omega) (by have := hszz.out; omega)) h0k.out hn0.out (hNo.out 2 0 ⟨#[]⟩ (.inr (.inl rfl))).1 (hNo.out 2 0 ⟨#[]⟩ (.inr (.inl rfl))).2).mono ?_; rintro _ w9 ⟨rfl, q1, q2⟩; replace hM : Hid (M2 f (N0 wb wn.heap.size wS.heap.size) w9 a sE a2 sE) := ⟨q1⟩; replace hN : Hid (Nf (N0 wb wn.heap.size wS.heap.size) wS w9) := ⟨hN.out.trans q2⟩; replace hszz : Hid (wS.heap.size ≤ w9.heap.size) := ⟨hN.out.size⟩; clear q1 q2))
              go_ret
              exact ⟨rfl, hfin.out _ hN.out⟩
end Go.Proofs.YtepnmfgbflogkaaDoor
