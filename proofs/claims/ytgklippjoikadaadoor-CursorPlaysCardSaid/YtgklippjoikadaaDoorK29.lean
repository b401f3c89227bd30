/- CuW5, CuW6, CuW7. -/
import Derived.Test.YtgklippjoikadaaDoorK28
namespace Go.Proofs.YtgklippjoikadaaDoor
open Go.ChangeShapes Go.WideShapes Go.ChangeAt Go.RowKit

set_option maxRecDepth 20000 in
set_option maxHeartbeats 2000000 in
theorem plays_4 {w : World} {x c gF gD len capF capD st en : Nat} {hi : Bool} {fF fD : Nat → Int} (h : Two w c x gF gD len capF capD st en hi fF fD) (kt : KT w) (o : Op1) (pc : Option Addr) (cc : Nat) (ok : OpOk o) (hk : o.k = 4) :
    Calls Tryd.prog 9 #[.pointer (some ⟨x, 0, none⟩), opV o pc cc] w (PlP c x gF gD len capF capD st hi fF w) := by
  have hB := (bel1 w (opO o pc cc)).drew
  have hC := h.below hB
  have kC := kt.below kt.pos hB
  have X0 : (w.alloc (opO o pc cc)).drew.heap[w.heap.size]? = some (opO o pc cc) := heap_al w (opO o pc cc)
  have xc : w.heap.size ≠ c := by have := h.p.lt; omega
  have xg : w.heap.size ≠ gF := by have := h.p.row.lt; omega
  have xx : w.heap.size ≠ x := by have := h.d.lt; omega
  have xd : w.heap.size ≠ gD := by have := h.d.row.lt; omega
  have CON : Calls Tryd.prog 28 #[.pointer (some ⟨c, 0, none⟩), .int .i64 o.at_, .int .i64 o.n, .string o.s] (w.alloc (opO o pc cc)).drew fun e w1 => e = .returned (.int .i64 (setE st en o.at_ o.n o.s)) ∧ Hid (Cs w1 c 0 gF len capF st (en) hi (setF st en fF o.at_ o.n o.s)) ∧ Hid (Cb c 0 gF (w.alloc (opO o pc cc)).drew w1) ∧ Hid (w1.heap[w.heap.size]? = some (opO o pc cc)) ∧ Hid (Calls Tryd.prog 29 #[.pointer (some ⟨x, 1, none⟩), .int .i64 o.at_, .int .i64 o.n, .string o.s] w1 fun e w2 => e = .returned (.int .i64 (setE st en o.at_ o.n o.s)) ∧ Hid (Cs w2 x 1 gD len capD st (en) hi (setF st en fD o.at_ o.n o.s)) ∧ Hid (Cb x 1 gD w1 w2)) := by
    refine (SetCu_any hC.p o.at_ o.n o.s ok.n).mono ?_
    rintro e w1 ⟨rfl, P1, P2⟩
    have C1 : Cs w1 c 0 gF len capF st (en) hi (setF st en fF o.at_ o.n o.s) := P1
    have D1 : Cb c 0 gF (w.alloc (opO o pc cc)).drew w1 := Cb.of_only P2 hC.p.lt hC.p.ne
    have hd := hC.d.other D1 hC.n1 hC.n2 hC.n3 hC.n4
    refine ⟨rfl, C1, D1, (D1.block _ (lt_of_blk X0) xc xg).trans X0, ?_⟩
    have hq := rSet_any hd o.at_ o.n o.s
    skip
    refine hq.mono ?_
    rintro e w2 ⟨rfl, P1, P2⟩
    exact ⟨rfl, P1, Cb.of_only P2 hd.lt hd.ne⟩
  have FIN : Hid (∀ w1 w2, Cb c 0 gF (w.alloc (opO o pc cc)).drew w1 → Cs w1 c 0 gF len capF st (en) hi (setF st en fF o.at_ o.n o.s) → Cb x 1 gD w1 w2 → Cs w2 x 1 gD len capD st (en) hi (setF st en fD o.at_ o.n o.s) → PlP c x gF gD len capF capD st hi fF w (.returned (.bool true)) w2) := fun w1 w2 D1 P1 D2 P2 => pl_fin h hB D1 P1 D2 P2 (setF_agr h.agr _ _ _) (fun j hj => by have W := wi_set (f := fF) (st := st) h.p.h2 o.at_ o.n o.s; exact W.out j (.inr (Nat.le_trans W.lt hj)))
  have hx := h.ptr
  have x0 := blk_of_cell hx
  have d0 : (o.k == 0) = false := by rw [hk]; rfl
  have d1 : (o.k == 1) = false := by rw [hk]; rfl
  have d2 : (o.k == 2) = false := by rw [hk]; rfl
  have d3 : (o.k == 3) = false := by rw [hk]; rfl
  have d4 : (o.k == 4) = true := by rw [hk]; rfl
  clear h hC hB kt kC hk ok
  go_enter Tryd.func9, Tryd.ntmps9
  obtain ⟨p, pI, pN, pC, LT, LH⟩ := clsOp o pc cc w.heap.size X0
  go_wp2_with fail
  have c1 := pC 1 _ rfl
  have c2 := pC 2 _ rfl
  have c5 := pC 5 _ rfl
  refine wp_region_pp p [0, 1, 2, 3, 4, 5, 6, 8, 9, 10, 11, 12, 13, 14, 7, 15, 16, 17] (by kernel_rfl) (by kernel_rfl) (fun _ _ d _ _ h => by cases d <;> exact h) (pI _ X0) ?_
  repeat (first | (refine lx_one rfl ?_; (first | go_big_quiet_skip | (go_big_quiet_want; go_big_quiet_op; go_big_quiet_on)); refine wpQuiet_nil ?_))
  refine lx_call4 ent_cSetChars CON rfl rfl rfl rfl (by rfl) (fun w1 hR => ?_)
  obtain ⟨C1, D1, Xb, REF⟩ := hR
  refine ⟨⟨⟨w1, pI _ Xb.out⟩, rfl⟩, ?_⟩
  simp only [pts]
  refine lx_call4 ent_rSetChars REF.out rfl rfl rfl rfl (by rfl) (fun w2 hR => ?_)
  obtain ⟨C2, D2⟩ := hR
  refine ⟨⟨⟨w2, pI _ ((D2.out.block _ (lt_of_blk Xb.out) xx xd).trans Xb.out)⟩, rfl⟩, ?_⟩
  simp only [pts]
  repeat (refine lx_one rfl ?_; (first | go_big_quiet_skip | (go_big_quiet_want; go_big_quiet_op; go_big_quiet_on)); refine wpQuiet_nil ?_)
  refine lx_done ?_
  go_wp2_with fail
  go_ret
  exact FIN.out w1 w2 D1.out C1.out D2.out C2.out
end Go.Proofs.YtgklippjoikadaaDoor
namespace Go.Proofs.YtgklippjoikadaaDoor
open Go.ChangeShapes Go.WideShapes Go.ChangeAt Go.RowKit

set_option maxRecDepth 20000 in
set_option maxHeartbeats 2000000 in
theorem plays_5 {w : World} {x c gF gD len capF capD st en : Nat} {hi : Bool} {fF fD : Nat → Int} (h : Two w c x gF gD len capF capD st en hi fF fD) (kt : KT w) (o : Op1) (pc : Option Addr) (cc : Nat) (ok : OpOk o) (hk : o.k = 5) :
    Calls Tryd.prog 9 #[.pointer (some ⟨x, 0, none⟩), opV o pc cc] w (PlP c x gF gD len capF capD st hi fF w) := by
  have hB := (bel1 w (opO o pc cc)).drew
  have hC := h.below hB
  have kC := kt.below kt.pos hB
  have X0 : (w.alloc (opO o pc cc)).drew.heap[w.heap.size]? = some (opO o pc cc) := heap_al w (opO o pc cc)
  have xc : w.heap.size ≠ c := by have := h.p.lt; omega
  have xg : w.heap.size ≠ gF := by have := h.p.row.lt; omega
  have xx : w.heap.size ≠ x := by have := h.d.lt; omega
  have xd : w.heap.size ≠ gD := by have := h.d.row.lt; omega
  have CON : Calls Tryd.prog 13 #[.pointer (some ⟨c, 0, none⟩), hdV o.h, fourV o.v] (w.alloc (opO o pc cc)).drew fun e w1 => e = .returned (.int .i64 (pwE (headG o.h) len en o.h.size (hdN o.h o.v))) ∧ Hid (Cs w1 c 0 gF len capF st (pwN (headG o.h) len en o.h.size (hdN o.h o.v)) hi (pwF (headG o.h) hi len st en fF o.h.size (hdN o.h o.v))) ∧ Hid (Cb c 0 gF (w.alloc (opO o pc cc)).drew w1) ∧ Hid (w1.heap[w.heap.size]? = some (opO o pc cc)) ∧ Hid (Calls Tryd.prog 30 #[.pointer (some ⟨x, 1, none⟩), hdV o.h, fourV o.v] w1 fun e w2 => e = .returned (.int .i64 (pwE (headG o.h) len en o.h.size (hdN o.h o.v))) ∧ Hid (Cs w2 x 1 gD len capD st (pwN (headG o.h) len en o.h.size (hdN o.h o.v)) hi (pwF (headG o.h) hi len st en fD o.h.size (hdN o.h o.v))) ∧ Hid (Cb x 1 gD w1 w2)) := by
    refine (PutHead_any hC.p kC hC.kc hC.kg o.h o.v ok.v).mono ?_
    rintro e w1 ⟨rfl, P1, P2⟩
    have C1 : Cs w1 c 0 gF len capF st (pwN (headG o.h) len en o.h.size (hdN o.h o.v)) hi (pwF (headG o.h) hi len st en fF o.h.size (hdN o.h o.v)) := P1
    have D1 : Cb c 0 gF (w.alloc (opO o pc cc)).drew w1 := P2
    have hd := hC.d.other D1 hC.n1 hC.n2 hC.n3 hC.n4
    refine ⟨rfl, C1, D1, (D1.block _ (lt_of_blk X0) xc xg).trans X0, ?_⟩
    have hq := rPutHead_any hd o.h o.v ok.v
    skip
    refine hq.mono ?_
    rintro e w2 ⟨rfl, P1, P2⟩
    exact ⟨rfl, P1, P2⟩
  have FIN : Hid (∀ w1 w2, Cb c 0 gF (w.alloc (opO o pc cc)).drew w1 → Cs w1 c 0 gF len capF st (pwN (headG o.h) len en o.h.size (hdN o.h o.v)) hi (pwF (headG o.h) hi len st en fF o.h.size (hdN o.h o.v)) → Cb x 1 gD w1 w2 → Cs w2 x 1 gD len capD st (pwN (headG o.h) len en o.h.size (hdN o.h o.v)) hi (pwF (headG o.h) hi len st en fD o.h.size (hdN o.h o.v)) → PlP c x gF gD len capF capD st hi fF w (.returned (.bool true)) w2) := fun w1 w2 D1 P1 D2 P2 => pl_fin h hB D1 P1 D2 P2 (pwF_agr h.agr _ _ _ _) (fun j hj => by have W := wi_pw (hi := hi) (f := fF) (st := st) (headG o.h) h.p.h1 h.p.h2 o.h.size (hdN o.h o.v); exact W.out j (.inr (Nat.le_trans W.lt hj)))
  have hx := h.ptr
  have x0 := blk_of_cell hx
  have d0 : (o.k == 0) = false := by rw [hk]; rfl
  have d1 : (o.k == 1) = false := by rw [hk]; rfl
  have d2 : (o.k == 2) = false := by rw [hk]; rfl
  have d3 : (o.k == 3) = false := by rw [hk]; rfl
  have d4 : (o.k == 4) = false := by rw [hk]; rfl
  have d5 : (o.k == 5) = true := by rw [hk]; rfl
  clear h hC hB kt kC hk ok
  go_enter Tryd.func9, Tryd.ntmps9
  obtain ⟨p, pI, pN, pC, LT, LH⟩ := clsOp o pc cc w.heap.size X0
  go_wp2_with fail
  have c15 := pC 15 _ rfl
  have c16 := pC 16 _ rfl
  have c17 := pC 17 _ rfl
  have c18 := pC 18 _ rfl
  refine wp_region_pp p [0, 1, 2, 3, 4, 5, 6, 7, 8, 9, 10, 11, 12, 13, 14, 15, 17, 18, 19, 20, 21, 22, 23, 24, 25, 26, 27, 28, 29, 30, 31, 32, 16, 33, 34, 35] (by kernel_rfl) (by kernel_rfl) (fun _ _ d _ _ h => by cases d <;> exact h) (pI _ X0) ?_
  repeat (first | (refine lx_ldO LH rfl (by rfl) ?_; simp only [pts]) | (refine lx_one rfl ?_; (first | go_big_quiet_skip | (go_big_quiet_want; go_big_quiet_op; go_big_quiet_on)); refine wpQuiet_nil ?_))
  refine lx_call3 ent_cPutHead CON rfl rfl rfl (by rfl) (fun w1 hR => ?_)
  obtain ⟨C1, D1, Xb, REF⟩ := hR
  refine ⟨⟨⟨w1, pI _ Xb.out⟩, rfl⟩, ?_⟩
  simp only [pts]
  refine lx_call3 ent_rPutHead REF.out rfl rfl rfl (by rfl) (fun w2 hR => ?_)
  obtain ⟨C2, D2⟩ := hR
  refine ⟨⟨⟨w2, pI _ ((D2.out.block _ (lt_of_blk Xb.out) xx xd).trans Xb.out)⟩, rfl⟩, ?_⟩
  simp only [pts]
  repeat (refine lx_one rfl ?_; (first | go_big_quiet_skip | (go_big_quiet_want; go_big_quiet_op; go_big_quiet_on)); refine wpQuiet_nil ?_)
  refine lx_done ?_
  go_wp2_with fail
  go_ret
  exact FIN.out w1 w2 D1.out C1.out D2.out C2.out
end Go.Proofs.YtgklippjoikadaaDoor
namespace Go.Proofs.YtgklippjoikadaaDoor
open Go.ChangeShapes Go.WideShapes Go.ChangeAt Go.RowKit

set_option maxRecDepth 20000 in
set_option maxHeartbeats 2000000 in
theorem plays_6 {w : World} {x c gF gD len capF capD st en : Nat} {hi : Bool} {fF fD : Nat → Int} (h : Two w c x gF gD len capF capD st en hi fF fD) (kt : KT w) (o : Op1) (pc : Option Addr) (cc : Nat) (_ok : OpOk o) (hk : o.k = 6) :
    Calls Tryd.prog 9 #[.pointer (some ⟨x, 0, none⟩), opV o pc cc] w (PlP c x gF gD len capF capD st hi fF w) := by
  have hM := opM_new w o pc cc
  have hB := bel1 w (opO o pc cc)
  have hC := h.below hB
  have kC := kt.below kt.pos hB
  have X0 := heap_al w (opO o pc cc)
  have xc : w.heap.size ≠ c := by have := h.p.lt; omega
  have xg : w.heap.size ≠ gF := by have := h.p.row.lt; omega
  have ZX : Hid (∀ w1 : World, w.heap.size ≤ w1.heap.size → w1.heap.size ≠ x) := fun w1 hz => by have := h.d.lt; omega
  have ZG : Hid (∀ w1 : World, w.heap.size ≤ w1.heap.size → w1.heap.size ≠ gD) := fun w1 hz => by have := h.d.row.lt; omega
  have CON : Calls Tryd.prog 18 #[.pointer (some ⟨c, 0, none⟩), hdV o.h] (w.alloc (opO o pc cc)) fun e w1 => e = .returned (.tuple #[.agg #[.int .u64 (gwV (headG o.h) hi len st en fF o.h.size (o.h.b.p, o.h.b.o)), .int .u64 (gwV (headG o.h) hi len st en fF o.h.size (o.h.t.p, o.h.t.o)), .int .u64 (gwV (headG o.h) hi len st en fF o.h.size (o.h.s.p, o.h.s.o)), .int .u64 (gwV (headG o.h) hi len st en fF o.h.size (o.h.v.p, o.h.v.o))], .int .i64 (gwE (headG o.h) len en o.h.size)]) ∧ Hid (Cs w1 c 0 gF len capF st (gwN (headG o.h) len en o.h.size) hi (fF)) ∧ Hid (Cb c 0 gF (w.alloc (opO o pc cc)) w1) ∧ Hid (w1.heap[w.heap.size]? = some (opO o pc cc)) ∧ Hid (∀ W, Below w1.heap.size w1 W → Calls Tryd.prog 31 #[.pointer (some ⟨x, 1, none⟩), hdV o.h] W fun e w2 => e = .returned (.tuple #[.agg #[.int .u64 (gwV (headG o.h) hi len st en fF o.h.size (o.h.b.p, o.h.b.o)), .int .u64 (gwV (headG o.h) hi len st en fF o.h.size (o.h.t.p, o.h.t.o)), .int .u64 (gwV (headG o.h) hi len st en fF o.h.size (o.h.s.p, o.h.s.o)), .int .u64 (gwV (headG o.h) hi len st en fF o.h.size (o.h.v.p, o.h.v.o))], .int .i64 (gwE (headG o.h) len en o.h.size)]) ∧ Hid (Cs w2 x 1 gD len capD st (gwN (headG o.h) len en o.h.size) hi (fD)) ∧ Hid (Cb x 1 gD W w2)) := by
    refine (GetHead_any hC.p kC hC.kc hC.kg o.h).mono ?_
    rintro e w1 ⟨rfl, P1, P2⟩
    have C1 : Cs w1 c 0 gF len capF st (gwN (headG o.h) len en o.h.size) hi (fF) := P1
    have D1 : Cb c 0 gF (w.alloc (opO o pc cc)) w1 := P2
    have hd := hC.d.other D1 hC.n1 hC.n2 hC.n3 hC.n4
    refine ⟨rfl, C1, D1, (D1.block _ (by simp) xc xg).trans X0, ?_⟩
    intro W hW
    have hq := rGetHead_any (hd.below hW) o.h
    rw [← gwV_agr hC.agr hC.p.h2, ← gwV_agr hC.agr hC.p.h2, ← gwV_agr hC.agr hC.p.h2, ← gwV_agr hC.agr hC.p.h2] at hq
    refine hq.mono ?_
    rintro e w2 ⟨rfl, P1, P2⟩
    exact ⟨rfl, P1, P2⟩
  have FIN : Hid (∀ w1 w2, Cb c 0 gF (w.alloc (opO o pc cc)) w1 → Cs w1 c 0 gF len capF st (gwN (headG o.h) len en o.h.size) hi (fF) → Cb x 1 gD w1 w2 → Cs w2 x 1 gD len capD st (gwN (headG o.h) len en o.h.size) hi (fD) → PlP c x gF gD len capF capD st hi fF w (.returned (.bool true)) w2) := fun w1 w2 D1 P1 D2 P2 => pl_fin h hB D1 P1 D2 P2 (h.agr) (fun _ _ => rfl)
  have hx := h.ptr
  have x0 := blk_of_cell hx
  have d0 : (o.k == 0) = false := by rw [hk]; rfl
  have d1 : (o.k == 1) = false := by rw [hk]; rfl
  have d2 : (o.k == 2) = false := by rw [hk]; rfl
  have d3 : (o.k == 3) = false := by rw [hk]; rfl
  have d4 : (o.k == 4) = false := by rw [hk]; rfl
  have d5 : (o.k == 5) = false := by rw [hk]; rfl
  have d6 : (o.k == 6) = true := by rw [hk]; rfl
  have LD : (Instr.loadAt 42 (.pointer (some ⟨w.heap.size, 6, none⟩))).run Tryd.prog (w.alloc (opO o pc cc)) = .ok (hdV o.h) (w.alloc (opO o pc cc)) := by have := ld_hdv hM; rwa [Nat.zero_add] at this
  clear h hC hM hB kt kC hk
  generalize gwV (headG o.h) hi len st en fF o.h.size (o.h.b.p, o.h.b.o) = G0 at CON FIN
  generalize gwV (headG o.h) hi len st en fF o.h.size (o.h.t.p, o.h.t.o) = G1 at CON FIN
  generalize gwV (headG o.h) hi len st en fF o.h.size (o.h.s.p, o.h.s.o) = G2 at CON FIN
  generalize gwV (headG o.h) hi len st en fF o.h.size (o.h.v.p, o.h.v.o) = G3 at CON FIN
  generalize gwE (headG o.h) len en o.h.size = G4 at CON FIN
  generalize gwN (headG o.h) len en o.h.size = G5 at CON FIN
  go_enter Tryd.func9, Tryd.ntmps9
  have w0 := xg
  have xx : x < w.heap.size := x0
  have x1 : w.heap.size ≠ x := by omega
  go_wp2_with (first
    | (guard_target =~ wpList _ _ _ (Oper.mk _ (Op.load 42 _) _ _ _ _ :: _) _ _; go_must (first | refine wpList_ld 42 _ rfl rfl _ _ rfl LD ?_ | refine wpList_ld 42 _ rfl rfl _ _ rfl LD2 ?_); simp only [pts])
    | (go_at_call 18; refine CON.mono ?_; rintro e w1 ⟨rfl, C1, D1, Xb, REF⟩; have X9 := lt_of_blk Xb.out; have LD2 : (Instr.loadAt 42 (.pointer (some ⟨w.heap.size, 6, none⟩))).run Tryd.prog (w1.alloc (.cells #[.int .u64 G0, .int .u64 G1, .int .u64 G2, .int .u64 G3] 54)) = .ok (hdV o.h) (w1.alloc (.cells #[.int .u64 G0, .int .u64 G1, .int .u64 G2, .int .u64 G3] 54)) := (by have := ld_hdv (opM_of (((bel1 w1 (.cells #[.int .u64 G0, .int .u64 G1, .int .u64 G2, .int .u64 G3] 54)).block _ X9).trans Xb.out)); rwa [Nat.zero_add] at this); have RF := REF.out (w1.alloc (.cells #[.int .u64 G0, .int .u64 G1, .int .u64 G2, .int .u64 G3] 54)) (bel1 _ _); have Bb : Hid (Below w1.heap.size w1 (w1.alloc (.cells #[.int .u64 G0, .int .u64 G1, .int .u64 G2, .int .u64 G3] 54))) := bel1 _ _; have Yb : Hid ((w1.alloc (.cells #[.int .u64 G0, .int .u64 G1, .int .u64 G2, .int .u64 G3] 54)).heap[w1.heap.size]? = some (.cells #[.int .u64 G0, .int .u64 G1, .int .u64 G2, .int .u64 G3] 54)) := heap_al _ _; clear CON REF)
    | (go_at_call 31; refine RF.mono ?_; rintro e w2 ⟨rfl, C2, D2⟩; have Zb : Hid (w2.heap[w1.heap.size]? = some (.cells #[.int .u64 G0, .int .u64 G1, .int .u64 G2, .int .u64 G3] 54)) := (D2.out.block _ (lt_of_blk Yb.out) (ZX.out w1 (Nat.le_of_lt X9)) (ZG.out w1 (Nat.le_of_lt X9))).trans Yb.out; have z9 := lt_of_blk Zb.out; have e0 : w2.cell? ⟨w1.heap.size, 0, none⟩ = _ := cell_at Zb.out 0; have e1 : w2.cell? ⟨w1.heap.size, 1, none⟩ = _ := cell_at Zb.out 1; have e2 : w2.cell? ⟨w1.heap.size, 2, none⟩ = _ := cell_at Zb.out 2; have e3 : w2.cell? ⟨w1.heap.size, 3, none⟩ = _ := cell_at Zb.out 3; have nz : ¬ w1.heap.size = w2.heap.size := (by omega)))
  go_ret
  exact FIN.out _ _ (D1.out.trans (Cb.of_below Bb.out C1.out.lt)) (C1.out.below Bb.out) (D2.out.trans (Cb.of_below (bel1 _ _) C2.out.lt)) (C2.out.below (bel1 _ _))
end Go.Proofs.YtgklippjoikadaaDoor
