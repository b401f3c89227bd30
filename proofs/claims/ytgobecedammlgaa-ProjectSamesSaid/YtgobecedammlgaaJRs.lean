/- Are two forms the same: the document's Same. -/
import Derived.Test.YtgobecedammlgaaJRf
namespace Go.Proofs.Ytgobecedammlgaa
open Go.ChangeShapes Go.WideShapes Go.ChangeAt Go.RowKit

/-- A load of something great, in a region that draws its order. -/
theorem lx_ld {P : Program} {ops : Array Oper} {C : World → Prop} {Q : Exit → Act → World → Prop} {d : Option Tmp} {t ty : TypeId} {x : Operand} {ps : String} {af : Array Edge} {gd : Option (Nat × Bool)} {r : List Oper} {a : Act} {w : World} {p v : Value}
    (hl : ∀ W, C W → (Instr.loadAt t p).run P W = .ok v W) (hx : a.eval x = p) (hw : Region.wanted ⟨d, .load t x, ty, ps, af, gd⟩ (yielded ops a.tmps) = true) (h : Lx P ops C Q r (a.put d v) w) : Lx P ops C Q (⟨d, .load t x, ty, ps, af, gd⟩ :: r) a w :=
  lx_read hw rfl fun K hK => ⟨v, fun W hW => by
    unfold Oper.quietAt execOp
    simp only [hx, hl W hW, Sem.run_bind, Result.andThen_ok, Sem.run_pure]
    exact ⟨rfl, rfl⟩, hK _ h⟩
theorem fm_of {w : World} {g : Nat} {f : Fm} {pp : Option Addr} {cp : Nat} (h : w.heap[g]? = some (fmO f pp cp)) : FmC w g 0 f pp cp :=
  ⟨cell_at h 0, cell_at h 1, cell_at h 2, cell_at h 3, cell_at h 4, cell_at h 5, cell_at h 6, cell_at h 7, cell_at h 8, cell_at h 9, cell_at h 10, cell_at h 11, cell_at h 12⟩
theorem fm_eq {f g : Fm} : f = g ↔ (f.ord = g.ord ∧ f.sch = g.sch ∧ f.ver = g.ver ∧ f.hsz = g.hsz ∧ f.hb.p = g.hb.p ∧ f.hb.o = g.hb.o ∧ f.ht.p = g.ht.p ∧ f.ht.o = g.ht.o ∧ f.hs.p = g.hs.p ∧ f.hs.o = g.hs.o ∧ f.hv.p = g.hv.p ∧ f.hv.o = g.hv.o) ∧ f.toks = g.toks := by
  obtain ⟨or1, sc1, ve1, hz1, ⟨bp1, bo1⟩, ⟨tp1, to1⟩, ⟨sp1, so1⟩, ⟨vp1, vo1⟩, l1⟩ := f
  obtain ⟨or2, sc2, ve2, hz2, ⟨bp2, bo2⟩, ⟨tp2, to2⟩, ⟨sp2, so2⟩, ⟨vp2, vo2⟩, l2⟩ := g
  simp only [Fm.mk.injEq, Sp.mk.injEq]
  constructor
  · rintro ⟨h1, h2, h3, h4, ⟨h5, h6⟩, ⟨h7, h8⟩, ⟨h9, h10⟩, ⟨h11, h12⟩, h13⟩; exact ⟨⟨h1, h2, h3, h4, h5, h6, h7, h8, h9, h10, h11, h12⟩, h13⟩
  · rintro ⟨⟨h1, h2, h3, h4, h5, h6, h7, h8, h9, h10, h11, h12⟩, h13⟩; exact ⟨h1, h2, h3, h4, ⟨h5, h6⟩, ⟨h7, h8⟩, ⟨h9, h10⟩, ⟨h11, h12⟩, h13⟩
theorem Ans.said {r : Ending} {P : Prop} (h : Ans r P) {b : Bool} (hb : P ↔ b = true) : r = .returned (.bool b) := by
  obtain ⟨c, rfl, hc⟩ := h
  rw [hb] at hc
  congr 2
  cases c <;> cases b <;> simp_all
theorem ent_refSame : ∀ ag w, (callFunc 7 ag).run Try.prog w = .ok (.enter 7 ag) w := enters_of Try.func7 (by kernel_rfl) rfl
set_option maxRecDepth 20000 in
set_option maxHeartbeats 4000000 in
theorem refSame_any (f g : Fm) (pa pb : Option Addr) (ca cb : Nat) (w : World) (ha : TkL w pa w.heap.size f.toks) (hb : TkL w pb w.heap.size g.toks) :
    Calls Try.prog 4 #[fmV f pa ca, fmV g pb cb] w fun r w' => Ans r (f = g) ∧ Below w.heap.size w w' := by
  have hA := fm_of (two_1 w (fmO f pa ca) (fmO g pb cb))
  have hC := fm_of (two_2 w (fmO f pa ca) (fmO g pb cb))
  have HB : Hid (Below w.heap.size w ((w.alloc (fmO f pa ca)).alloc (fmO g pb cb))) := ⟨two_b w _ _⟩
  have HS : Hid (w.heap.size + 1 < ((w.alloc (fmO f pa ca)).alloc (fmO g pb cb)).heap.size) := ⟨by simp⟩
  replace ha := (ha.below HB.out).mono HB.out.size
  replace hb := (hb.below HB.out).mono HB.out.size
  generalize hW : (w.alloc (fmO f pa ca)).alloc (fmO g pb cb) = W at hA hC HB HS ha hb
  simp only [fmO] at hW
  have x0 : W.cell? ⟨w.heap.size, 0, none⟩ = some (.int .i64 f.ord) := hA.c0
  have x1 : W.cell? ⟨w.heap.size, 1, none⟩ = some (.int .i64 f.sch) := hA.c1
  have x2 : W.cell? ⟨w.heap.size, 2, none⟩ = some (.int .i64 f.ver) := hA.c2
  have x3 : W.cell? ⟨w.heap.size, 3, none⟩ = some (.int .i64 f.hsz) := hA.c3
  have x4 : W.cell? ⟨w.heap.size, 4, none⟩ = some (.int .i64 f.hb.p) := hA.c4
  have x5 : W.cell? ⟨w.heap.size, 5, none⟩ = some (.int .i64 f.hb.o) := hA.c5
  have x6 : W.cell? ⟨w.heap.size, 6, none⟩ = some (.int .i64 f.ht.p) := hA.c6
  have x7 : W.cell? ⟨w.heap.size, 7, none⟩ = some (.int .i64 f.ht.o) := hA.c7
  have x8 : W.cell? ⟨w.heap.size, 8, none⟩ = some (.int .i64 f.hs.p) := hA.c8
  have x9 : W.cell? ⟨w.heap.size, 9, none⟩ = some (.int .i64 f.hs.o) := hA.c9
  have x10 : W.cell? ⟨w.heap.size, 10, none⟩ = some (.int .i64 f.hv.p) := hA.c10
  have x11 : W.cell? ⟨w.heap.size, 11, none⟩ = some (.int .i64 f.hv.o) := hA.c11
  have x12 : W.cell? ⟨w.heap.size, 12, none⟩ = some (.slice pa f.toks.length ca) := hA.c12
  have y0 : W.cell? ⟨w.heap.size + 1, 0, none⟩ = some (.int .i64 g.ord) := hC.c0
  have y1 : W.cell? ⟨w.heap.size + 1, 1, none⟩ = some (.int .i64 g.sch) := hC.c1
  have y2 : W.cell? ⟨w.heap.size + 1, 2, none⟩ = some (.int .i64 g.ver) := hC.c2
  have y3 : W.cell? ⟨w.heap.size + 1, 3, none⟩ = some (.int .i64 g.hsz) := hC.c3
  have y4 : W.cell? ⟨w.heap.size + 1, 4, none⟩ = some (.int .i64 g.hb.p) := hC.c4
  have y5 : W.cell? ⟨w.heap.size + 1, 5, none⟩ = some (.int .i64 g.hb.o) := hC.c5
  have y6 : W.cell? ⟨w.heap.size + 1, 6, none⟩ = some (.int .i64 g.ht.p) := hC.c6
  have y7 : W.cell? ⟨w.heap.size + 1, 7, none⟩ = some (.int .i64 g.ht.o) := hC.c7
  have y8 : W.cell? ⟨w.heap.size + 1, 8, none⟩ = some (.int .i64 g.hs.p) := hC.c8
  have y9 : W.cell? ⟨w.heap.size + 1, 9, none⟩ = some (.int .i64 g.hs.o) := hC.c9
  have y10 : W.cell? ⟨w.heap.size + 1, 10, none⟩ = some (.int .i64 g.hv.p) := hC.c10
  have y11 : W.cell? ⟨w.heap.size + 1, 11, none⟩ = some (.int .i64 g.hv.o) := hC.c11
  have y12 : W.cell? ⟨w.heap.size + 1, 12, none⟩ = some (.slice pb g.toks.length cb) := hC.c12
  replace hA : Hid (FmC W w.heap.size 0 f pa ca) := ⟨hA⟩
  replace hC : Hid (FmC W (w.heap.size + 1) 0 g pb cb) := ⟨hC⟩
  have hll := ha.len
  by_cases hE : (f.ord = g.ord ∧ f.sch = g.sch ∧ f.ver = g.ver ∧ f.hsz = g.hsz ∧ f.hb.p = g.hb.p ∧ f.hb.o = g.hb.o ∧ f.ht.p = g.ht.p ∧ f.ht.o = g.ht.o ∧ f.hs.p = g.hs.p ∧ f.hs.o = g.hs.o ∧ f.hv.p = g.hv.p ∧ f.hv.o = g.hv.o) ∧ f.toks.length = g.toks.length
  · have HE : Hid ((f.ord = g.ord ∧ f.sch = g.sch ∧ f.ver = g.ver ∧ f.hsz = g.hsz ∧ f.hb.p = g.hb.p ∧ f.hb.o = g.hb.o ∧ f.ht.p = g.ht.p ∧ f.ht.o = g.ht.o ∧ f.hs.p = g.hs.p ∧ f.hs.o = g.hs.o ∧ f.hv.p = g.hv.p ∧ f.hv.o = g.hv.o) ∧ f.toks.length = g.toks.length) := ⟨hE⟩
    have HF : Hid (f = g ↔ f.toks = g.toks) := ⟨by rw [fm_eq]; simp [hE.1]⟩
    obtain ⟨⟨e0, e1, e2, e3, e4, e5, e6, e7, e8, e9, e10, e11⟩, e12⟩ := hE
    have b1 : ((f.toks.length : Int) != (g.toks.length : Int)) = false := by simp [e12]
    clear e12
    simp only [e0, e1, e2, e3, e4, e5, e6, e7, e8, e9, e10, e11] at hW
    go_enter Try.func4, Try.ntmps4
    go_wp2_with fail
    clear e0 e1 e2 e3 e4 e5 e6 e7 e8 e9 e10 e11 b1 x0 x1 x2 x3 x4 x5 x6 x7 x8 x9 x10 x11 y0 y1 y2 y3 y4 y5 y6 y7 y8 y9 y10 y11 hW
    go_loopw [5, 6] (fun i k wr => ∃ j : Nat, j ≤ f.toks.length ∧ i = .int .i64 j ∧ Below W.heap.size W wr ∧ Hid (f.toks = g.toks ↔ f.toks.drop j = g.toks.drop j) ∧ k = k) (fun i _ _ => f.toks.length - (RowKit.intOf i).toNat)
    case atStart => exact ⟨0, Nat.zero_le _, rfl, Below.refl _ _, ⟨Iff.rfl⟩, rfl⟩
    case round =>
      clear x12 y12
      obtain ⟨j, hj, rfl, hB, hq, -⟩ := hrel
      have kA := hA.out.below (Nat.lt_of_succ_lt HS.out) hB
      have kC := hC.out.below HS.out hB
      have x12 : wr.cell? ⟨w.heap.size, 12, none⟩ = some (.slice pa f.toks.length ca) := kA.c12
      have y12 : wr.cell? ⟨w.heap.size + 1, 12, none⟩ = some (.slice pb g.toks.length cb) := kC.c12
      by_cases hlt : j < f.toks.length
      · obtain ⟨a, hx⟩ : ∃ a, f.toks[j]? = some a := ⟨f.toks[j], List.getElem?_eq_getElem hlt⟩
        obtain ⟨b, hy⟩ : ∃ b, g.toks[j]? = some b := ⟨g.toks[j]'(by have := HE.out.2; omega), List.getElem?_eq_getElem (by have := HE.out.2; omega)⟩
        obtain ⟨g1, o1, p1, c1, rfl, hg1, hT, hT1, hT2, hTo⟩ := (ha.below hB).at hx
        obtain ⟨g2, o2, p2, c2, rfl, hg2, hU, hU1, hU2, hUo⟩ := (hb.below hB).at hy
        have hlti : (j : Int) < f.toks.length := by omega
        have hltm : (j : Int) < g.toks.length := by have := HE.out.2; omega
        have hd : Hid (f.toks = g.toks ↔ a = b ∧ f.toks.drop (j + 1) = g.toks.drop (j + 1)) := ⟨by rw [hq.out, drop_at hx, drop_at hy, List.cons.injEq]⟩
        have hsz := hB.size
        obtain ⟨q, hqq⟩ : ∃ q : Bool, a = b ↔ q = true := by
          by_cases e : a = b
          · exact ⟨true, by simp [e]⟩
          · exact ⟨false, by simp [e]⟩
        obtain ⟨p, p0, pB, hN, f12, g12, lA, lC, cS⟩ : ∃ p : World → Prop, p wr.drew ∧ (∀ W', p W' → Below W.heap.size W W') ∧ Nonempty (CW p) ∧
            (∀ θ : CW p, θ.w.cell? ⟨w.heap.size, 12, none⟩ = some (.slice (some ⟨g1, o1, none⟩) f.toks.length ca)) ∧
            (∀ θ : CW p, θ.w.cell? ⟨w.heap.size + 1, 12, none⟩ = some (.slice (some ⟨g2, o2, none⟩) g.toks.length cb)) ∧
            (∀ W', (∃ θ : CW p, W' = θ.w) → (Instr.loadAt 38 (.pointer (some ⟨g1, o1 + j * 21, none⟩))).run Try.prog W' = .ok (tkV a p1 c1) W') ∧
            (∀ W', (∃ θ : CW p, W' = θ.w) → (Instr.loadAt 38 (.pointer (some ⟨g2, o2 + j * 21, none⟩))).run Try.prog W' = .ok (tkV b p2 c2) W') ∧
            (∀ W', p W' → Calls Try.prog 7 #[tkV a p1 c1, tkV b p2 c2] W' fun e w' => e = .returned (.bool q) ∧ p w') :=
          ⟨Below wr.heap.size wr, (Below.refl _ _).drew, fun _ h => hB.trans (h.mono hsz), ⟨⟨_, Below.refl _ _⟩⟩,
            fun θ => (θ.h.cell (p := ⟨w.heap.size, 12, none⟩) (Nat.lt_of_lt_of_le (Nat.lt_of_succ_lt HS.out) hsz)).trans x12,
            fun θ => (θ.h.cell (p := ⟨w.heap.size + 1, 12, none⟩) (Nat.lt_of_lt_of_le HS.out hsz)).trans y12,
            (by rintro _ ⟨θ, rfl⟩; exact (hT.below (Nat.lt_of_lt_of_le hg1 hsz) θ.h).load),
            (by rintro _ ⟨θ, rfl⟩; exact (hU.below (Nat.lt_of_lt_of_le hg2 hsz) θ.h).load),
            fun W' h => (refSameTk_any a b p1 p2 c1 c2 W' ((hT1.below (h.mono hsz)).mono (Nat.le_trans hsz h.size)) ((hU1.below (h.mono hsz)).mono (Nat.le_trans hsz h.size)) hTo.cst).mono fun e w' hh => ⟨hh.1.said hqq, h.trans (hh.2.mono h.size)⟩⟩
        replace hqq : Hid (a = b ↔ q = true) := ⟨hqq⟩
        clear hq hx hy hT hU hT1 hU1 hT2 hU2 hTo hUo ha hb kA kC
        go_wp2_with fail
        refine wp_region_lp p (by kernel_rfl) (by kernel_rfl) (fun _ _ d _ _ h => by cases d <;> exact h) p0 fun W' hp => ?_
        clear x12 y12
        repeat (first
          | (guard_target =~ Lx _ _ _ _ (Oper.mk _ (Op.load 38 _) _ _ _ _ :: _) _ _; (first | refine lx_ld lA rfl rfl ?_ | refine lx_ld lC rfl rfl ?_); simp only [pts])
          | (refine lx_one rfl ?_; (first | go_big_quiet_skip | (go_big_quiet_want; go_big_quiet_op; go_big_quiet_on)); refine wpQuiet_nil ?_)
          | (refine lx_p2 ent_refSame cS hp rfl rfl (by rfl) ?_; clear hp; intro W' hp; simp only [pts])
          | (refine lx_skip (by rfl) ?_; simp only [pts]))
        refine lx_done ?_
        have HP : Hid (Below W.heap.size W W') := ⟨pB _ hp⟩
        clear pB cS lA lC f12 g12 hN p0
        cases q with
        | false =>
          have HX : Hid (¬ f = g) := ⟨fun e => absurd (hqq.out.1 (hd.out.1 (HF.out.1 e)).1) (by decide)⟩
          clear hqq hd
          go_wp2_with fail
          go_ret
          exact ⟨Ans.no HX.out, HB.out.trans (HP.out.mono HB.out.size)⟩
        | true =>
          have HX : Hid (f.toks = g.toks ↔ f.toks.drop (j + 1) = g.toks.drop (j + 1)) := ⟨by rw [hd.out]; simp [hqq.out.2 rfl]⟩
          clear hqq hd
          go_wp2_with fail
          go_roundw
          case rel => exact ⟨j + 1, by omega, by go_num, HP.out, HX, trivial⟩
          case measure => simp [RowKit.intOf]; omega
      · obtain rfl : j = f.toks.length := by omega
        have HX : Hid (f = g) := ⟨by rw [HF.out, hq.out, List.drop_length, HE.out.2, List.drop_length]⟩
        clear hq kA kC
        go_wp2_with fail
        go_ret
        exact ⟨Ans.yes HX.out, HB.out.trans (hB.mono HB.out.size)⟩
  · have HX : Hid (¬ f = g) := ⟨fun e => hE (by rw [e]; exact ⟨⟨rfl, rfl, rfl, rfl, rfl, rfl, rfl, rfl, rfl, rfl, rfl, rfl⟩, rfl⟩)⟩
    replace hE : Hid (¬ ((f.ord = g.ord ∧ f.sch = g.sch ∧ f.ver = g.ver ∧ f.hsz = g.hsz ∧ f.hb.p = g.hb.p ∧ f.hb.o = g.hb.o ∧ f.ht.p = g.ht.p ∧ f.ht.o = g.ht.o ∧ f.hs.p = g.hs.p ∧ f.hs.o = g.hs.o ∧ f.hv.p = g.hv.p ∧ f.hv.o = g.hv.o) ∧ f.toks.length = g.toks.length)) := ⟨hE⟩
    clear ha hb
    go_enter Try.func4, Try.ntmps4
    go_wp2_with fail
    all_goals first
      | (go_ret; exact ⟨Ans.no HX.out, HB.out⟩)
      | (exfalso; exact hE.out ⟨⟨by assumption, by assumption, by assumption, by assumption, by assumption, by assumption, by assumption, by assumption, by assumption, by assumption, by assumption, by assumption⟩, by have := bne_eq_false_iff_eq.1 (by assumption : ((f.toks.length : Int) != (g.toks.length : Int)) = false); omega⟩)
end Go.Proofs.Ytgobecedammlgaa
