/- CuK, CuL. -/
import Derived.Test.YtgklippjoikadaaDoorK13
namespace Go.Proofs.YtgklippjoikadaaDoor
open Go.ChangeShapes Go.WideShapes Go.ChangeAt Go.RowKit

def gwE (g : Bool) (len en : Nat) (size : Int) : Int := if g then clE len en size else 1
def gwN (g : Bool) (len en : Nat) (size : Int) : Nat := if g then clN len en size else en
def gwV (g : Bool) (hi : Bool) (len st en : Nat) (f : Nat → Int) (size : Int) (s : Int × Int) : Int := if gwE g len en size = 0 then getW hi st (clN len en size) f (en + s.2) s.1 else 0
theorem RdA.of_below {w w1 w' : World} {vb : Nat} {vs : List Int} (h : RdA w1 w' vb vs) (hb : w.heap.size ≤ w1.heap.size) : RdA w w' vb vs := ⟨Nat.le_trans hb h.new, h.lt, h.c⟩
theorem four_set {W : World} {b : Nat} {v0 v1 v2 v3 u0 u1 u2 u3 : Value} (h0 : W.cell? ⟨b, 0, none⟩ = some u0) (h1 : W.cell? ⟨b, 1, none⟩ = some u1) (h2 : W.cell? ⟨b, 2, none⟩ = some u2) (h3 : W.cell? ⟨b, 3, none⟩ = some u3) :
    ((((W.setCell ⟨b, 0, none⟩ v0).setCell ⟨b, 1, none⟩ v1).setCell ⟨b, 2, none⟩ v2).setCell ⟨b, 3, none⟩ v3).cell? ⟨b, 0, none⟩ = some v0 ∧ ((((W.setCell ⟨b, 0, none⟩ v0).setCell ⟨b, 1, none⟩ v1).setCell ⟨b, 2, none⟩ v2).setCell ⟨b, 3, none⟩ v3).cell? ⟨b, 1, none⟩ = some v1 ∧
    ((((W.setCell ⟨b, 0, none⟩ v0).setCell ⟨b, 1, none⟩ v1).setCell ⟨b, 2, none⟩ v2).setCell ⟨b, 3, none⟩ v3).cell? ⟨b, 2, none⟩ = some v2 ∧ ((((W.setCell ⟨b, 0, none⟩ v0).setCell ⟨b, 1, none⟩ v1).setCell ⟨b, 2, none⟩ v2).setCell ⟨b, 3, none⟩ v3).cell? ⟨b, 3, none⟩ = some v3 := by
  have o : ∀ (X : World) (i j : Nat) (v : Value), i ≠ j → (X.setCell ⟨b, i, none⟩ v).cell? ⟨b, j, none⟩ = X.cell? ⟨b, j, none⟩ := fun X i j v h => World.cell?_setCell_other _ _ _ _ (fun e => h (congrArg Addr.off e))
  refine ⟨?_, ?_, ?_, ?_⟩
  · rw [o _ 3 0 _ (by decide), o _ 2 0 _ (by decide), o _ 1 0 _ (by decide)]; exact World.cell?_setCell_same _ _ _ h0
  · rw [o _ 3 1 _ (by decide), o _ 2 1 _ (by decide)]; exact World.cell?_setCell_same _ _ _ ((o _ 0 1 _ (by decide)).trans h1)
  · rw [o _ 3 2 _ (by decide)]; exact World.cell?_setCell_same _ _ _ ((o _ 1 2 _ (by decide)).trans ((o _ 0 2 _ (by decide)).trans h2))
  · exact World.cell?_setCell_same _ _ _ ((o _ 2 3 _ (by decide)).trans ((o _ 1 3 _ (by decide)).trans ((o _ 0 3 _ (by decide)).trans h3)))
theorem st4 {W : World} {b : Nat} {x0 x1 x2 x3 : Int} {u0 u1 u2 u3 : Value} (h0 : W.cell? ⟨b, 0, none⟩ = some u0) (h1 : W.cell? ⟨b, 1, none⟩ = some u1) (h2 : W.cell? ⟨b, 2, none⟩ = some u2) (h3 : W.cell? ⟨b, 3, none⟩ = some u3) (hf : ∀ i, W.frozen? ⟨b, i, none⟩ = false) :
    (Instr.storeAt 54 (.pointer (some ⟨b, 0, none⟩)) (.agg #[.int .u64 x0, .int .u64 x1, .int .u64 x2, .int .u64 x3])).run Tryd.prog W.drew = .ok () ((((W.drew.setCell ⟨b, 0, none⟩ (.int .u64 x0)).setCell ⟨b, 1, none⟩ (.int .u64 x1)).setCell ⟨b, 2, none⟩ (.int .u64 x2)).setCell ⟨b, 3, none⟩ (.int .u64 x3)) := by
  simp [go_sem, h0, h1, h2, h3, hf]
/-- A store of something great, in a region that draws its order. -/
theorem lx_st {P : Program} {ops : Array Oper} {C : World → Prop} {Q : Exit → Act → World → Prop} {d : Option Tmp} {t ty : TypeId} {x y : Operand} {ps : String} {af : Array Edge} {gd : Option (Nat × Bool)} {r : List Oper} {a : Act} {w w' : World} {p v : Value}
    (hr : (Instr.storeAt t p v).run P w = .ok () w') (hC : C w') (hx : a.eval x = p) (hy : a.eval y = v) (hw : Region.wanted ⟨d, .store t x y, ty, ps, af, gd⟩ (yielded ops a.tmps) = true) (h : Lx P ops C Q r (a.put d undef) w') : Lx P ops C Q (⟨d, .store t x y, ty, ps, af, gd⟩ :: r) a w :=
  lx_act hw rfl fun K hK => by
    unfold Oper.wp execOp
    simp only [hx, hy, hr, Sem.run_bind, Result.andThen_ok]
    exact hK _ _ hC h
set_option maxRecDepth 20000 in
set_option maxHeartbeats 1000000 in
theorem GetHead_any {w : World} {c g len cap st en : Nat} {hi : Bool} {f : Nat → Int} (h : Cs w c 0 g len cap st en hi f) (kt : KT w) (zc : 0 < c) (zg : 0 < g) (d : Hd) :
    Calls Tryd.prog 18 #[.pointer (some ⟨c, 0, none⟩), hdV d] w fun e w' => e = .returned (.tuple #[.agg #[.int .u64 (gwV (headG d) hi len st en f d.size (d.b.p, d.b.o)), .int .u64 (gwV (headG d) hi len st en f d.size (d.t.p, d.t.o)), .int .u64 (gwV (headG d) hi len st en f d.size (d.s.p, d.s.o)), .int .u64 (gwV (headG d) hi len st en f d.size (d.v.p, d.v.o))], .int .i64 (gwE (headG d) len en d.size)]) ∧ Cs w' c 0 g len cap st (gwN (headG d) len en d.size) hi f ∧ Cb c 0 g w w' := by
  have G := fun W (hW : Below w.heap.size w W) => isHead_any d W (kt.below kt.pos hW)
  unfold gwV gwE gwN
  have H : Hid (Cs w c 0 g len cap st en hi f) := h
  cases hg : headG d with
  | false =>
    rw [hg] at G
    clear h
    have e0 : (if false = true then clE len en d.size else 1) = 1 := rfl
    rw [e0, if_neg (by decide), if_neg (by decide), if_neg (by decide), if_neg (by decide), if_neg (by decide)]
    clear e0
    go_enter Tryd.func18, Tryd.ntmps18
    go_wp2_with (go_at_call 36; refine (G _ (bel2 _ _ _)).mono ?_; rintro e w1 ⟨rfl, hb1⟩; obtain ⟨hc1, hf1⟩ := bcell hb1)
    have lt1 : w.heap.size + 1 < ((w.alloc (.cells #[.int .i64 d.size, .int .i64 d.b.p, .int .i64 d.b.o, .int .i64 d.t.p, .int .i64 d.t.o, .int .i64 d.s.p, .int .i64 d.s.o, .int .i64 d.v.p, .int .i64 d.v.o] 42)).alloc (.cells #[.int .u64 0, .int .u64 0, .int .u64 0, .int .u64 0] 54)).heap.size := by simp
    obtain ⟨q0, q1, q2, q3⟩ := four_set (W := w1) (b := w.heap.size + 1) (v0 := .int .u64 0) (v1 := .int .u64 0) (v2 := .int .u64 0) (v3 := .int .u64 0) (u0 := .int .u64 0) (u1 := .int .u64 0) (u2 := .int .u64 0) (u3 := .int .u64 0) ((hc1 _ 0 lt1).trans (by simp)) ((hc1 _ 1 lt1).trans (by simp)) ((hc1 _ 2 lt1).trans (by simp)) ((hc1 _ 3 lt1).trans (by simp))
    have z := H.out.lt
    have zr := H.out.row.lt
    have nc : w.heap.size + 1 ≠ c := by omega
    have ng : w.heap.size + 1 ≠ g := by omega
    have B := belT (bel2 _ _ _) hb1
    exact bodyPost_ret (v := .tuple #[.agg #[.int .u64 0, .int .u64 0, .int .u64 0, .int .u64 0], .int .i64 1]) (by simp [results, Tryd.results18, go_sem, q0, q1, q2, q3]) rfl ⟨rfl, ((((H.out.below B).set nc ng).set nc ng).set nc ng).set nc ng, ((((Cb.of_below B z).set (by omega) nc ng).set (by omega) nc ng).set (by omega) nc ng).set (by omega) nc ng⟩
  | true =>
    rw [hg] at G
    obtain ⟨hsz, hsp⟩ := goods_ok hg
    have RD := fun W (hW : Below w.heap.size w W) b (hb : w.heap.size ≤ b) (hr : SpRow W b (hdS d)) => read_any (h.below hW) (kt.below kt.pos hW) zc zg d.size (hdS d) b 4 hr (fun s hs => goodB_off (hsp s hs) hsz.2) (by simp [hdS]) (by have := h.lt; omega) (by have := h.row.lt; omega) hsz.1 hsz.2
    have hl : (hdS d).length = 4 := rfl
    rw [hl] at RD
    clear h hsp hsz hl hg
    rw [if_pos rfl, if_pos rfl]
    generalize clE len en d.size = E at RD ⊢
    have z := H.out.lt
    have zr := H.out.row.lt
    have nc : w.heap.size + 1 ≠ c := by omega
    have ng : w.heap.size + 1 ≠ g := by omega
    have RS : ∀ (o1 : Obj) (w1 : World), Below ((w.alloc o1).alloc (.cells #[.int .u64 0, .int .u64 0, .int .u64 0, .int .u64 0] 54)).heap.size ((w.alloc o1).alloc (.cells #[.int .u64 0, .int .u64 0, .int .u64 0, .int .u64 0] 54)) w1 → ∀ {o2 : Obj} (w2 : World), Cb c 0 g (w1.alloc o2) w2 → w2.cell? ⟨w.heap.size + 1, 0, none⟩ = some (.int .u64 0) ∧ w2.cell? ⟨w.heap.size + 1, 1, none⟩ = some (.int .u64 0) ∧ w2.cell? ⟨w.heap.size + 1, 2, none⟩ = some (.int .u64 0) ∧ w2.cell? ⟨w.heap.size + 1, 3, none⟩ = some (.int .u64 0) ∧ (∀ i, w2.frozen? ⟨w.heap.size + 1, i, none⟩ = false) := fun o1 w1 hb1 o2 w2 hc => by
      have l1 : w.heap.size + 1 < ((w.alloc o1).alloc (.cells #[.int .u64 0, .int .u64 0, .int .u64 0, .int .u64 0] 54)).heap.size := by simp
      have l2 := Nat.lt_of_lt_of_le l1 hb1.size
      have l3 : w.heap.size + 1 < (w1.alloc o2).heap.size := by simp; omega
      have hcel : ∀ i, w2.cell? ⟨w.heap.size + 1, i, none⟩ = ((w.alloc o1).alloc (.cells #[.int .u64 0, .int .u64 0, .int .u64 0, .int .u64 0] 54)).cell? ⟨w.heap.size + 1, i, none⟩ := fun i => (hc.at l3 nc ng).trans ((World.cell?_alloc_lt _ _ _ l2).trans (hb1.cell (p := ⟨w.heap.size + 1, i, none⟩) l1))
      refine ⟨(hcel 0).trans (by simp), (hcel 1).trans (by simp), (hcel 2).trans (by simp), (hcel 3).trans (by simp), fun i => ?_⟩
      rw [World.frozen?_of_block (w := w1.alloc o2) (hc.block _ l3 nc ng), (bel1 w1 o2).frozen (p := ⟨w.heap.size + 1, i, none⟩) l2, hb1.frozen (p := ⟨w.heap.size + 1, i, none⟩) l1]
      simp
    by_cases hE : E = 0
    · subst hE
      rw [if_pos rfl, if_pos rfl, if_pos rfl, if_pos rfl]
      go_enter Tryd.func18, Tryd.ntmps18
      go_wp2_with (first
        | (go_at_call 36; refine (G _ (bel2 _ _ _)).mono ?_; rintro e w1 ⟨rfl, hb1⟩; obtain ⟨hc1, hf1⟩ := bcell hb1)
        | (go_at_call 46; refine (RD _ (belT (belT (bel2 _ _ _) hb1) (bel1 _ _)) w1.heap.size (belT (bel2 _ _ _) hb1).size (sp_new4' rfl)).mono ?_; rintro e w2 ⟨R0, R1, R2⟩; obtain ⟨vb, vc, rfl, A⟩ := R0.yes rfl; obtain ⟨r0, r1, r2, r3, r4⟩ := RS _ w1 hb1 w2 R2; have a0 : w2.cell? ⟨vb, 0, none⟩ = some (.int .u64 (getW hi st (clN len en d.size) f (en + d.b.o) d.b.p)) := A.c 0 _ rfl; have a1 : w2.cell? ⟨vb, 1, none⟩ = some (.int .u64 (getW hi st (clN len en d.size) f (en + d.t.o) d.t.p)) := A.c 1 _ rfl; have a2 : w2.cell? ⟨vb, 2, none⟩ = some (.int .u64 (getW hi st (clN len en d.size) f (en + d.s.o) d.s.p)) := A.c 2 _ rfl; have a3 : w2.cell? ⟨vb, 3, none⟩ = some (.int .u64 (getW hi st (clN len en d.size) f (en + d.v.o) d.v.p)) := A.c 3 _ rfl))
      have nv : ¬ vb = w.heap.size + 1 := by have := A.new; have := hb1.size; simp at this; simp at *; omega
      have nv' : ¬ w.heap.size + 1 = vb := by omega
      have RW : Hid (RdA _ w2 vb _) := A
      obtain ⟨g0, hg0⟩ : ∃ x, getW hi st (clN len en d.size) f (en + d.b.o) d.b.p = x := ⟨_, rfl⟩
      obtain ⟨g1, hg1⟩ : ∃ x, getW hi st (clN len en d.size) f (en + d.t.o) d.t.p = x := ⟨_, rfl⟩
      obtain ⟨g2, hg2⟩ : ∃ x, getW hi st (clN len en d.size) f (en + d.s.o) d.s.p = x := ⟨_, rfl⟩
      obtain ⟨g3, hg3⟩ : ∃ x, getW hi st (clN len en d.size) f (en + d.v.o) d.v.p = x := ⟨_, rfl⟩
      rw [hg0] at a0
      rw [hg1] at a1
      rw [hg2] at a2
      rw [hg3] at a3
      have hst : (Instr.storeAt 54 (.pointer (some ⟨w.heap.size + 1, 0, none⟩)) (.agg #[.int .u64 g0, .int .u64 g1, .int .u64 g2, .int .u64 g3])).run Tryd.prog w2.drew = .ok () ((((w2.drew.setCell ⟨w.heap.size + 1, 0, none⟩ (.int .u64 g0)).setCell ⟨w.heap.size + 1, 1, none⟩ (.int .u64 g1)).setCell ⟨w.heap.size + 1, 2, none⟩ (.int .u64 g2)).setCell ⟨w.heap.size + 1, 3, none⟩ (.int .u64 g3)) := st4 r0 r1 r2 r3 r4
      have far : ∀ i, ((((w2.drew.setCell ⟨w.heap.size + 1, 0, none⟩ (.int .u64 g0)).setCell ⟨w.heap.size + 1, 1, none⟩ (.int .u64 g1)).setCell ⟨w.heap.size + 1, 2, none⟩ (.int .u64 g2)).setCell ⟨w.heap.size + 1, 3, none⟩ (.int .u64 g3)).cell? ⟨vb, i, none⟩ = w2.cell? ⟨vb, i, none⟩ := fun i => by rw [World.cell?_setCell_far _ _ _ _ nv', World.cell?_setCell_far _ _ _ _ nv', World.cell?_setCell_far _ _ _ _ nv', World.cell?_setCell_far _ _ _ _ nv']; rfl
      obtain ⟨p, p0, pS, hN, f0, f1, f2, f3⟩ : ∃ p : World → Prop, p w2.drew ∧ p ((((w2.drew.setCell ⟨w.heap.size + 1, 0, none⟩ (.int .u64 g0)).setCell ⟨w.heap.size + 1, 1, none⟩ (.int .u64 g1)).setCell ⟨w.heap.size + 1, 2, none⟩ (.int .u64 g2)).setCell ⟨w.heap.size + 1, 3, none⟩ (.int .u64 g3)) ∧ Nonempty (CW p) ∧ (∀ θ : CW p, θ.w.cell? ⟨vb, 0, none⟩ = some (.int .u64 g0)) ∧ (∀ θ : CW p, θ.w.cell? ⟨vb, 1, none⟩ = some (.int .u64 g1)) ∧ (∀ θ : CW p, θ.w.cell? ⟨vb, 2, none⟩ = some (.int .u64 g2)) ∧ (∀ θ : CW p, θ.w.cell? ⟨vb, 3, none⟩ = some (.int .u64 g3)) :=
        ⟨fun W => W.cell? ⟨vb, 0, none⟩ = some (.int .u64 g0) ∧ W.cell? ⟨vb, 1, none⟩ = some (.int .u64 g1) ∧ W.cell? ⟨vb, 2, none⟩ = some (.int .u64 g2) ∧ W.cell? ⟨vb, 3, none⟩ = some (.int .u64 g3), ⟨a0, a1, a2, a3⟩, ⟨(far 0).trans a0, (far 1).trans a1, (far 2).trans a2, (far 3).trans a3⟩, ⟨⟨w2, a0, a1, a2, a3⟩⟩, fun θ => θ.h.1, fun θ => θ.h.2.1, fun θ => θ.h.2.2.1, fun θ => θ.h.2.2.2⟩
      refine wp_region_lx p (by kernel_rfl) (by kernel_rfl) (fun _ _ d _ _ h => by cases d <;> exact h) p0 ?_
      repeat (refine lx_one rfl ?_; (first | go_big_quiet_skip | (go_big_quiet_want; go_big_quiet_op; go_big_quiet_on)); refine wpQuiet_nil ?_)
      refine lx_st hst ⟨⟨_, pS⟩, rfl⟩ rfl rfl (by rfl) ?_
      simp only [pts]
      repeat (refine lx_one rfl ?_; (first | go_big_quiet_skip | (go_big_quiet_want; go_big_quiet_op; go_big_quiet_on)); refine wpQuiet_nil ?_)
      refine lx_done ?_
      go_wp2_with fail
      obtain ⟨q0, q1, q2, q3⟩ := four_set (W := w2) (b := w.heap.size + 1) (v0 := .int .u64 g0) (v1 := .int .u64 g1) (v2 := .int .u64 g2) (v3 := .int .u64 g3) (u0 := .int .u64 0) (u1 := .int .u64 0) (u2 := .int .u64 0) (u3 := .int .u64 0) r0 r1 r2 r3
      have R1' := R1.below (Below.refl _ _).drew
      have R2' := ((Cb.of_below (belT (belT (bel2 _ _ _) hb1) (bel1 _ _)) z).trans R2).trans (Cb.of_below (Below.refl _ _).drew R1.lt)
      exact bodyPost_ret (v := .tuple #[.agg #[.int .u64 g0, .int .u64 g1, .int .u64 g2, .int .u64 g3], .int .i64 0]) (by simp [results, Tryd.results18, go_sem, q0, q1, q2, q3]) rfl ⟨by rw [hg0, hg1, hg2, hg3], (((R1'.set nc ng).set nc ng).set nc ng).set nc ng, (((R2'.set (by omega) nc ng).set (by omega) nc ng).set (by omega) nc ng).set (by omega) nc ng⟩
    · have hE' : (E != 0) = true := by simpa using hE
      rw [if_neg hE, if_neg hE, if_neg hE, if_neg hE]
      go_enter Tryd.func18, Tryd.ntmps18
      go_wp2_with (first
        | (go_at_call 36; refine (G _ (bel2 _ _ _)).mono ?_; rintro e w1 ⟨rfl, hb1⟩; obtain ⟨hc1, hf1⟩ := bcell hb1)
        | (go_at_call 46; refine (RD _ (belT (belT (bel2 _ _ _) hb1) (bel1 _ _)) w1.heap.size (belT (bel2 _ _ _) hb1).size (sp_new4' rfl)).mono ?_; rintro e w2 ⟨R0, R1, R2⟩; obtain rfl := R0.no hE; obtain ⟨r0, r1, r2, r3, r4⟩ := RS _ w1 hb1 w2 R2))
      obtain ⟨q0, q1, q2, q3⟩ := four_set (W := w2) (b := w.heap.size + 1) (v0 := .int .u64 0) (v1 := .int .u64 0) (v2 := .int .u64 0) (v3 := .int .u64 0) (u0 := .int .u64 0) (u1 := .int .u64 0) (u2 := .int .u64 0) (u3 := .int .u64 0) r0 r1 r2 r3
      have R2' := (Cb.of_below (belT (belT (bel2 _ _ _) hb1) (bel1 _ _)) z).trans R2
      exact bodyPost_ret (v := .tuple #[.agg #[.int .u64 0, .int .u64 0, .int .u64 0, .int .u64 0], .int .i64 E]) (by simp [results, Tryd.results18, go_sem, q0, q1, q2, q3]) rfl ⟨rfl, (((R1.set nc ng).set nc ng).set nc ng).set nc ng, (((R2'.set (by omega) nc ng).set (by omega) nc ng).set (by omega) nc ng).set (by omega) nc ng⟩
end Go.Proofs.YtgklippjoikadaaDoor
namespace Go.Proofs.YtgklippjoikadaaDoor
open Go.ChangeShapes Go.WideShapes Go.ChangeAt Go.RowKit

def i64W (x : Int) : Int := wrap64 x
set_option maxRecDepth 20000 in
set_option maxHeartbeats 1000000 in
theorem GetDim_any {w : World} {c g len cap st en : Nat} {hi : Bool} {f : Nat → Int} (h : Cs w c 0 g len cap st en hi f) (kt : KT w) (zc : 0 < c) (zg : 0 < g) (t : Tk) (pc : Option Addr) (cc : Nat) :
    Calls Tryd.prog 20 #[.pointer (some ⟨c, 0, none⟩), tkV t pc cc] w fun e w' => e = .returned (.tuple #[.int .i64 (i64W (gwV (dimG t) hi len st en f t.siz (t.a.p, t.a.o))), .int .i64 (i64W (gwV (dimG t) hi len st en f t.siz (t.b.p, t.b.o))), .int .i64 (gwE (dimG t) len en t.siz)]) ∧ Cs w' c 0 g len cap st (gwN (dimG t) len en t.siz) hi f ∧ Cb c 0 g w w' := by
  have G := fun W (hW : Below w.heap.size w W) => isDim_any t pc cc W (kt.below kt.pos hW)
  have LD := (tk_of (heap_al w (tkO t pc cc))).load
  unfold gwV gwE gwN
  have H : Hid (Cs w c 0 g len cap st en hi f) := h
  cases hg : dimG t with
  | false =>
    rw [hg] at G
    clear h
    have e0 : (if false = true then clE len en t.siz else 1) = 1 := rfl
    rw [e0, if_neg (by decide), if_neg (by decide), if_neg (by decide)]
    have e1 : i64W 0 = 0 := by unfold i64W wrap64; omega
    rw [e1]
    clear e0 e1
    go_enter Tryd.func20, Tryd.ntmps20
    go_wp2_with (first | (go_at_call 43; refine (G _ (bel1 _ _)).mono ?_; rintro e w1 ⟨rfl, hb1⟩) | (guard_target =~ wpList _ _ _ (Oper.mk _ (Op.load 48 _) _ _ _ _ :: _) _ _; go_must (refine wpList_ld 48 _ rfl rfl _ _ rfl LD ?_); simp only [pts]))
    exact bodyPost_ret (v := .tuple #[.int .i64 0, .int .i64 0, .int .i64 1]) (by simp [results, Tryd.results20, go_sem]) rfl ⟨rfl, H.out.below (belT (bel1 _ _) hb1), Cb.of_below (belT (bel1 _ _) hb1) H.out.lt⟩
  | true =>
    rw [hg] at G
    obtain ⟨hsz, hsp⟩ := goods_ok (dim_ok hg)
    have RD := fun W (hW : Below w.heap.size w W) b (hb : w.heap.size ≤ b) (hr : SpRow W b (dimS t)) => read_any (h.below hW) (kt.below kt.pos hW) zc zg t.siz (dimS t) b 2 hr (fun s hs => goodB_off (hsp s hs) hsz.2) (by simp [dimS]) (by have := h.lt; omega) (by have := h.row.lt; omega) hsz.1 hsz.2
    have hl : (dimS t).length = 2 := rfl
    rw [hl] at RD
    clear h hsp hsz hl hg
    rw [if_pos rfl, if_pos rfl]
    generalize clE len en t.siz = E at RD ⊢
    by_cases hE : E = 0
    · subst hE
      rw [if_pos rfl, if_pos rfl]
      go_enter Tryd.func20, Tryd.ntmps20
      go_wp2_with (first
        | (go_at_call 43; refine (G _ (bel1 _ _)).mono ?_; rintro e w1 ⟨rfl, hb1⟩; obtain ⟨hc1, hf1⟩ := bcell hb1)
        | (guard_target =~ wpList _ _ _ (Oper.mk _ (Op.load 48 _) _ _ _ _ :: _) _ _; go_must (refine wpList_ld 48 _ rfl rfl _ _ rfl LD ?_); simp only [pts])
        | (go_at_call 46; refine (RD _ (belT (belT (bel1 _ _) hb1) (bel1 _ _)) w1.heap.size (belT (bel1 _ _) hb1).size (sp_new2' rfl)).mono ?_; rintro e w2 ⟨R0, R1, R2⟩; obtain ⟨vb, vc, rfl, A⟩ := R0.yes rfl; have a0 : w2.cell? ⟨vb, 0, none⟩ = some (.int .u64 (getW hi st (clN len en t.siz) f (en + t.a.o) t.a.p)) := A.c 0 _ rfl; have a1 : w2.cell? ⟨vb, 1, none⟩ = some (.int .u64 (getW hi st (clN len en t.siz) f (en + t.b.o) t.b.p)) := A.c 1 _ rfl))
      go_quiet (fail)
      go_wp2_with fail
      exact bodyPost_ret (v := .tuple #[.int .i64 (i64W (getW hi st (clN len en t.siz) f (en + t.a.o) t.a.p)), .int .i64 (i64W (getW hi st (clN len en t.siz) f (en + t.b.o) t.b.p)), .int .i64 0]) (by simp [results, Tryd.results20, go_sem, i64W]) rfl ⟨rfl, R1.below dN, ((Cb.of_below (belT (belT (bel1 _ _) hb1) (bel1 _ _)) H.out.lt).trans R2).trans (Cb.of_below dN R1.lt)⟩
    · have hE' : (E != 0) = true := by simpa using hE
      rw [if_neg hE, if_neg hE]
      have e1 : i64W 0 = 0 := by unfold i64W wrap64; omega
      rw [e1]
      clear e1
      go_enter Tryd.func20, Tryd.ntmps20
      go_wp2_with (first
        | (go_at_call 43; refine (G _ (bel1 _ _)).mono ?_; rintro e w1 ⟨rfl, hb1⟩; obtain ⟨hc1, hf1⟩ := bcell hb1)
        | (guard_target =~ wpList _ _ _ (Oper.mk _ (Op.load 48 _) _ _ _ _ :: _) _ _; go_must (refine wpList_ld 48 _ rfl rfl _ _ rfl LD ?_); simp only [pts])
        | (go_at_call 46; refine (RD _ (belT (belT (bel1 _ _) hb1) (bel1 _ _)) w1.heap.size (belT (bel1 _ _) hb1).size (sp_new2' rfl)).mono ?_; rintro e w2 ⟨R0, R1, R2⟩; obtain rfl := R0.no hE))
      exact bodyPost_ret (v := .tuple #[.int .i64 0, .int .i64 0, .int .i64 E]) (by simp [results, Tryd.results20, go_sem]) rfl ⟨rfl, R1, (Cb.of_below (belT (belT (bel1 _ _) hb1) (bel1 _ _)) H.out.lt).trans R2⟩
end Go.Proofs.YtgklippjoikadaaDoor
