/- CuW12, CuW13. -/
import Derived.Test.YtgklippjoikadaaDoorK28
import Derived.Deep.RegionLaw
import Derived.Test.YtgklippjoikadaaDoorK29
import Derived.Test.YtgklippjoikadaaDoorK30
namespace Go.Proofs.YtgklippjoikadaaDoor
open Go.ChangeShapes Go.WideShapes Go.ChangeAt Go.RowKit

/-- One byte written into both buffers. -/
def setAt (f : Nat → Int) (a : Nat) (v : Int) : Nat → Int := fun j => if j = a then v else f j
theorem same_fin {w W : World} {c x gF gD len capF capD st en : Nat} {hi : Bool} {fF fD : Nat → Int} (h : Two w c x gF gD len capF capD st en hi fF fD) (hW : Below w.heap.size w W) : PlP c x gF gD len capF capD st hi fF w (.returned (.bool true)) W :=
  pl_fin h hW (Cb.refl _ _ _ _) (h.p.below hW) (Cb.refl _ _ _ _) (h.d.below hW) h.agr fun _ _ => rfl
theorem Cs.poke {W : World} {c o g len cap st en : Nat} {hi : Bool} {f : Nat → Int} (h : Cs W c o g len cap st en hi f) (a : Nat) (v : Int) (hv : 0 ≤ v ∧ v ≤ 255) : Cs (W.setCell ⟨g, a, none⟩ (.int .u8 v)) c o g len cap st en hi (setAt f a v) :=
  h.only (only_setCell (Only.refl _ _) _ _) ((h.row.set a (.int .u8 v)).congr fun j _ => by unfold setAt; split <;> rfl) fun j => by unfold setAt; split; exact hv; exact h.bd j
theorem poke_fin {w W : World} {c x gF gD len capF capD st en : Nat} {hi : Bool} {fF fD : Nat → Int} (h : Two w c x gF gD len capF capD st en hi fF fD) (hW : Below w.heap.size w W) (a : Nat) (ha : a < len) (v : Int) (hv : 0 ≤ v ∧ v ≤ 255) : PlP c x gF gD len capF capD st hi fF w (.returned (.bool true)) ((W.setCell ⟨gF, a, none⟩ (.int .u8 v)).drew.setCell ⟨gD, a, none⟩ (.int .u8 v)) := by
  have P1 := ((h.p.below hW).poke a v hv).below (Below.refl _ _).drew
  have D1 : Cb c 0 gF W (W.setCell ⟨gF, a, none⟩ (.int .u8 v)).drew := (Cb.of_only (only_setCell (Only.refl _ _) _ _) (h.p.below hW).lt h.p.ne).trans (Cb.of_below (Below.refl _ _).drew ((h.p.below hW).poke a v hv).lt)
  have P2 := (h.d.below hW).other D1 h.n1 h.n2 h.n3 h.n4
  have D2 : Cb x 1 gD (W.setCell ⟨gF, a, none⟩ (.int .u8 v)).drew ((W.setCell ⟨gF, a, none⟩ (.int .u8 v)).drew.setCell ⟨gD, a, none⟩ (.int .u8 v)) := Cb.of_only (only_setCell (Only.refl _ _) _ _) P2.lt P2.ne
  refine pl_fin h hW D1 P1 D2 (P2.poke a v hv) (fun j hj => ?_) (fun j hj => ?_)
  · unfold setAt
    rw [h.agr j hj]
  · unfold setAt
    rw [if_neg (by omega)]
theorem st_byte {W : World} {g cap a : Nat} {f : Nat → Int} (h : W.rowIs g 5 cap (fun j => .int .u8 (f j))) (ha : a < cap) {v : Int} : (Instr.storeAt 5 (.pointer (some ⟨g, a, none⟩)) (.int .u8 v)).run Tryd.prog W = .ok () (W.setCell ⟨g, a, none⟩ (.int .u8 v)) := by
  have h0 := h.cell ha
  have h1 := h.frozen a
  simp [go_sem, h0, h1]
theorem clsPk (o : Op1) (pc : Option Addr) (cc : Nat) (X x gF gD len capF capD : Nat) {W : World} (h : W.heap[X]? = some (opO o pc cc)) (h5 : W.cell? ⟨x, 5, none⟩ = some (.slice (some ⟨gF, 0, none⟩) len capF)) (h6 : W.cell? ⟨x, 6, none⟩ = some (.slice (some ⟨gD, 0, none⟩) len capD)) :
    ∃ p : World → Prop, (∀ V, V.heap[X]? = some (opO o pc cc) → V.cell? ⟨x, 5, none⟩ = some (.slice (some ⟨gF, 0, none⟩) len capF) → V.cell? ⟨x, 6, none⟩ = some (.slice (some ⟨gD, 0, none⟩) len capD) → p V) ∧ Nonempty (CW p) ∧ (∀ j u, (opC o pc cc)[j]? = some u → ∀ θ : CW p, θ.w.cell? ⟨X, j, none⟩ = some u) ∧ (∀ θ : CW p, θ.w.cell? ⟨x, 5, none⟩ = some (.slice (some ⟨gF, 0, none⟩) len capF)) ∧ (∀ θ : CW p, θ.w.cell? ⟨x, 6, none⟩ = some (.slice (some ⟨gD, 0, none⟩) len capD)) :=
  ⟨fun V => V.heap[X]? = some (opO o pc cc) ∧ V.cell? ⟨x, 5, none⟩ = some (.slice (some ⟨gF, 0, none⟩) len capF) ∧ V.cell? ⟨x, 6, none⟩ = some (.slice (some ⟨gD, 0, none⟩) len capD), fun _ a b c => ⟨a, b, c⟩, ⟨⟨W, h, h5, h6⟩⟩, fun j u hu θ => by have := (opM_of θ.h.1).c j u hu; rwa [Nat.zero_add] at this, fun θ => θ.h.2.1, fun θ => θ.h.2.2⟩
set_option maxRecDepth 20000 in
set_option maxHeartbeats 2000000 in
theorem plays_11 {w : World} {x c gF gD len capF capD st en : Nat} {hi : Bool} {fF fD : Nat → Int} (h : Two w c x gF gD len capF capD st en hi fF fD) (o : Op1) (pc : Option Addr) (cc : Nat) (ok : OpOk o) (hk : o.k = 11) :
    Calls Tryd.prog 9 #[.pointer (some ⟨x, 0, none⟩), opV o pc cc] w (PlP c x gF gD len capF capD st hi fF w) := by
  have hB := bel1 w (opO o pc cc)
  have hC := h.below hB
  have H : Hid (Two w c x gF gD len capF capD st en hi fF fD) := h
  have hx := h.ptr
  have x0 := blk_of_cell hx
  have d0 : (o.k == 0) = false := by rw [hk]; rfl
  have d1 : (o.k == 1) = false := by rw [hk]; rfl
  have d2 : (o.k == 2) = false := by rw [hk]; rfl
  have d3 : (o.k == 3) = false := by rw [hk]; rfl
  have d4 : (o.k == 4) = false := by rw [hk]; rfl
  have d5 : (o.k == 5) = false := by rw [hk]; rfl
  have d6 : (o.k == 6) = false := by rw [hk]; rfl
  have d7 : (o.k == 7) = false := by rw [hk]; rfl
  have d8 : (o.k == 8) = false := by rw [hk]; rfl
  have d9 : (o.k == 9) = false := by rw [hk]; rfl
  have d10 : (o.k == 10) = false := by rw [hk]; rfl
  have d11 : (o.k == 11) = true := by rw [hk]; rfl
  have b5 := h.bB
  have b6 := h.bD
  by_cases h0 : o.at_ < 0
  · have g0 : decide (0 ≤ o.at_) = false := decide_eq_false (by omega)
    clear h hC hB hk ok h0
    go_enter Tryd.func9, Tryd.ntmps9
    go_wp2_with fail
    go_quiet (fail)
    go_wp2_with fail
    go_ret
    exact same_fin H.out (below_drewN (bel1 _ _) _)
  have g0 : decide (0 ≤ o.at_) = true := decide_eq_true (by omega)
  by_cases h1 : (len : Int) ≤ o.at_
  · have g1 : decide (o.at_ < (len : Int)) = false := decide_eq_false (by omega)
    clear h hC hB hk ok h0 h1
    go_enter Tryd.func9, Tryd.ntmps9
    go_wp2_with fail
    go_quiet (fail)
    go_wp2_with fail
    go_ret
    exact same_fin H.out (below_drewN (bel1 _ _) _)
  have g1 : decide (o.at_ < (len : Int)) = true := decide_eq_true (by omega)
  obtain ⟨a, ea⟩ : ∃ a : Nat, o.at_ = a := ⟨o.at_.toNat, by omega⟩
  have la : a < len := by omega
  have h3 := h.p.h3
  have h4 := h.d.h3
  have oX := ok.x
  clear h0 h1
  have X0 := heap_al w (opO o pc cc)
  have xg : w.heap.size ≠ gF := by have := h.p.row.lt; omega
  have xd : w.heap.size ≠ gD := by have := h.d.row.lt; omega
  obtain ⟨p, pI, pN, pC, p5, p6⟩ := clsPk o pc cc w.heap.size x gF gD len capF capD X0 hC.bB hC.bD
  have c1 := pC 1 _ rfl
  have c4 := pC 4 _ rfl
  have c1' : (opC o pc cc)[1]? = some (.int .i64 (a : Int)) := by rw [← ea]; rfl
  replace c1 := pC 1 _ c1'
  clear c1'
  have l1 : (a : Int) < (len : Int) := by omega
  have P0 : ∀ n, p ((w.alloc (opO o pc cc)).drewN n).drew := fun n => pI _ X0 hC.bB hC.bD
  have S1 : ∀ n v, (Instr.storeAt 5 (.pointer (some ⟨gF, a, none⟩)) (.int .u8 v)).run Tryd.prog ((w.alloc (opO o pc cc)).drewN n).drew = .ok () (((w.alloc (opO o pc cc)).drewN n).drew.setCell ⟨gF, a, none⟩ (.int .u8 v)) := fun n v => st_byte ((hC.p.below (below_drewN (Below.refl _ _) n).drew).row) (by omega)
  have R2 : ∀ n v, 0 ≤ v ∧ v ≤ 255 → Cs (((w.alloc (opO o pc cc)).drewN n).drew.setCell ⟨gF, a, none⟩ (.int .u8 v)).drew x 1 gD len capD st en hi fD := fun n v hv => ((hC.d.below (below_drewN (Below.refl _ _) n).drew).other (Cb.of_only (c := c) (o := 0) (only_setCell (Only.refl _ _) _ _) (hC.p.below (below_drewN (Below.refl _ _) n).drew).lt hC.p.ne) hC.n1 hC.n2 hC.n3 hC.n4).below (Below.refl _ _).drew
  have S2 : ∀ n v u, 0 ≤ v ∧ v ≤ 255 → (Instr.storeAt 5 (.pointer (some ⟨gD, a, none⟩)) (.int .u8 u)).run Tryd.prog (((w.alloc (opO o pc cc)).drewN n).drew.setCell ⟨gF, a, none⟩ (.int .u8 v)).drew = .ok () ((((w.alloc (opO o pc cc)).drewN n).drew.setCell ⟨gF, a, none⟩ (.int .u8 v)).drew.setCell ⟨gD, a, none⟩ (.int .u8 u)) := fun n v u hv => st_byte (R2 n v hv).row (by omega)
  have P1 : ∀ n v, p (((w.alloc (opO o pc cc)).drewN n).drew.setCell ⟨gF, a, none⟩ (.int .u8 v)) := fun n v => pI _ ((set_oth xg).trans X0) ((World.cell?_of_block (w := w.alloc (opO o pc cc)) (set_oth (W := ((w.alloc (opO o pc cc)).drewN n).drew) h.n2)).trans hC.bB) ((World.cell?_of_block (w := w.alloc (opO o pc cc)) (set_oth (W := ((w.alloc (opO o pc cc)).drewN n).drew) h.n2)).trans hC.bD)
  have P3 : ∀ n v, p (((w.alloc (opO o pc cc)).drewN n).drew.setCell ⟨gF, a, none⟩ (.int .u8 v)).drew := fun n v => pI _ ((set_oth xg).trans X0) ((World.cell?_of_block (w := w.alloc (opO o pc cc)) (set_oth (W := ((w.alloc (opO o pc cc)).drewN n).drew) h.n2)).trans hC.bB) ((World.cell?_of_block (w := w.alloc (opO o pc cc)) (set_oth (W := ((w.alloc (opO o pc cc)).drewN n).drew) h.n2)).trans hC.bD)
  have xD : x ≠ gD := h.d.ne
  have P2 : ∀ n v u, p ((((w.alloc (opO o pc cc)).drewN n).drew.setCell ⟨gF, a, none⟩ (.int .u8 v)).drew.setCell ⟨gD, a, none⟩ (.int .u8 u)) := fun n v u => pI _ ((set_oth xd).trans ((set_oth xg).trans X0)) ((World.cell?_of_block (w := w.alloc (opO o pc cc)) ((set_oth xD).trans (set_oth (W := ((w.alloc (opO o pc cc)).drewN n).drew) h.n2))).trans hC.bB) ((World.cell?_of_block (w := w.alloc (opO o pc cc)) ((set_oth xD).trans (set_oth (W := ((w.alloc (opO o pc cc)).drewN n).drew) h.n2))).trans hC.bD)
  have FIN : Hid (∀ n v, 0 ≤ v ∧ v ≤ 255 → PlP c x gF gD len capF capD st hi fF w (.returned (.bool true)) ((((w.alloc (opO o pc cc)).drewN n).drew.setCell ⟨gF, a, none⟩ (.int .u8 v)).drew.setCell ⟨gD, a, none⟩ (.int .u8 v))) := fun n v hv => poke_fin h (belT hB (below_drewN (Below.refl _ _) n).drew) a la v hv
  have hw8 : 0 ≤ IntKind.u8.wrap o.x ∧ IntKind.u8.wrap o.x ≤ 255 := by unfold IntKind.wrap; simp [IntKind.signed, IntKind.bits]; omega
  replace S1 := fun n => S1 n (IntKind.u8.wrap o.x)
  replace S2 := fun n => S2 n (IntKind.u8.wrap o.x) (IntKind.u8.wrap o.x) hw8
  replace P1 := fun n => P1 n (IntKind.u8.wrap o.x)
  replace P3 := fun n => P3 n (IntKind.u8.wrap o.x)
  replace P2 := fun n => P2 n (IntKind.u8.wrap o.x) (IntKind.u8.wrap o.x)
  replace FIN : Hid _ := fun n => FIN.out n (IntKind.u8.wrap o.x) hw8
  clear h hC hB hk ok R2 ea pC pI X0 H la hw8
  go_enter Tryd.func9, Tryd.ntmps9
  go_wp2_with fail
  go_quiet (fail)
  go_wp2_with fail
  refine wp_region_lx p (by kernel_rfl) (by kernel_rfl) (fun _ _ d _ _ h => by cases d <;> exact h) (P0 _) ?_
  repeat (refine lx_one rfl ?_; (first | go_big_quiet_skip | (go_big_quiet_want; go_big_quiet_op; go_big_quiet_on)); refine wpQuiet_nil ?_)
  refine lx_st (S1 _) ⟨⟨_, P1 _⟩, rfl⟩ rfl rfl (by rfl) ?_
  simp only [pts]
  refine lx_done ?_
  go_wp2_with fail
  refine wp_region_lx p (by kernel_rfl) (by kernel_rfl) (fun _ _ d _ _ h => by cases d <;> exact h) (P3 _) ?_
  repeat (refine lx_one rfl ?_; (first | go_big_quiet_skip | (go_big_quiet_want; go_big_quiet_op; go_big_quiet_on)); refine wpQuiet_nil ?_)
  refine lx_st (S2 _) ⟨⟨_, P2 _⟩, rfl⟩ rfl rfl (by rfl) ?_
  simp only [pts]
  refine lx_done ?_
  go_wp2_with fail
  go_ret
  exact FIN.out _
set_option maxRecDepth 20000 in
set_option maxHeartbeats 2000000 in
theorem plays_no {w : World} {x c gF gD len capF capD st en : Nat} {hi : Bool} {fF fD : Nat → Int} (h : Two w c x gF gD len capF capD st en hi fF fD) (o : Op1) (pc : Option Addr) (cc : Nat) (hk : o.k < 0 ∨ 12 ≤ o.k) :
    Calls Tryd.prog 9 #[.pointer (some ⟨x, 0, none⟩), opV o pc cc] w (PlP c x gF gD len capF capD st hi fF w) := by
  have H : Hid (Two w c x gF gD len capF capD st en hi fF fD) := h
  have hx := h.ptr
  have x0 := blk_of_cell hx
  have d0 : (o.k == 0) = false := by simp; omega
  have d1 : (o.k == 1) = false := by simp; omega
  have d2 : (o.k == 2) = false := by simp; omega
  have d3 : (o.k == 3) = false := by simp; omega
  have d4 : (o.k == 4) = false := by simp; omega
  have d5 : (o.k == 5) = false := by simp; omega
  have d6 : (o.k == 6) = false := by simp; omega
  have d7 : (o.k == 7) = false := by simp; omega
  have d8 : (o.k == 8) = false := by simp; omega
  have d9 : (o.k == 9) = false := by simp; omega
  have d10 : (o.k == 10) = false := by simp; omega
  have d11 : (o.k == 11) = false := by simp; omega
  clear h hk
  go_enter Tryd.func9, Tryd.ntmps9
  go_wp2_with fail
  go_ret
  exact same_fin H.out (bel1 _ _)
end Go.Proofs.YtgklippjoikadaaDoor
namespace Go.Proofs.YtgklippjoikadaaDoor
open Go.ChangeShapes Go.WideShapes Go.ChangeAt Go.RowKit

theorem plays_any {w : World} {x c gF gD len capF capD st en : Nat} {hi : Bool} {fF fD : Nat → Int} (h : Two w c x gF gD len capF capD st en hi fF fD) (kt : KT w) (o : Op1) (pc : Option Addr) (cc : Nat) (ok : OpOk o) :
    Calls Tryd.prog 9 #[.pointer (some ⟨x, 0, none⟩), opV o pc cc] w (PlP c x gF gD len capF capD st hi fF w) := by
  have hk : (o.k < 0 ∨ 12 ≤ o.k) ∨ o.k = 0 ∨ o.k = 1 ∨ o.k = 2 ∨ o.k = 3 ∨ o.k = 4 ∨ o.k = 5 ∨ o.k = 6 ∨ o.k = 7 ∨ o.k = 8 ∨ o.k = 9 ∨ o.k = 10 ∨ o.k = 11 := by omega
  rcases hk with hk | hk | hk | hk | hk | hk | hk | hk | hk | hk | hk | hk | hk
  · exact plays_no h o pc cc hk
  · exact plays_0 h kt o pc cc ok hk
  · exact plays_1 h kt o pc cc ok hk
  · exact plays_2 h kt o pc cc ok hk
  · exact plays_3 h kt o pc cc ok hk
  · exact plays_4 h kt o pc cc ok hk
  · exact plays_5 h kt o pc cc ok hk
  · exact plays_6 h kt o pc cc ok hk
  · exact plays_7 h kt o pc cc ok hk
  · exact plays_8 h kt o pc cc ok hk
  · exact plays_9 h kt o pc cc ok hk
  · exact plays_10 h kt o pc cc ok hk
  · exact plays_11 h o pc cc ok hk
end Go.Proofs.YtgklippjoikadaaDoor
