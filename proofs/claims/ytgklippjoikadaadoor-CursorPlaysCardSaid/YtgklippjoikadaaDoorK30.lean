/- CuW8, CuW9, CuW10, CuW11. -/
import Derived.Test.YtgklippjoikadaaDoorK28
namespace Go.Proofs.YtgklippjoikadaaDoor
open Go.ChangeShapes Go.WideShapes Go.ChangeAt Go.RowKit

set_option maxRecDepth 20000 in
set_option maxHeartbeats 2000000 in
theorem plays_7 {w : World} {x c gF gD len capF capD st en : Nat} {hi : Bool} {fF fD : Nat → Int} (h : Two w c x gF gD len capF capD st en hi fF fD) (kt : KT w) (o : Op1) (pc : Option Addr) (cc : Nat) (ok : OpOk o) (hk : o.k = 7) :
    Calls Tryd.prog 9 #[.pointer (some ⟨x, 0, none⟩), opV o pc cc] w (PlP c x gF gD len capF capD st hi fF w) := by
  have hB := (bel1 w (opO o pc cc)).drew
  have hC := h.below hB
  have kC := kt.below kt.pos hB
  have X0 : (w.alloc (opO o pc cc)).drew.heap[w.heap.size]? = some (opO o pc cc) := heap_al w (opO o pc cc)
  have xc : w.heap.size ≠ c := by have := h.p.lt; omega
  have xg : w.heap.size ≠ gF := by have := h.p.row.lt; omega
  have xx : w.heap.size ≠ x := by have := h.d.lt; omega
  have xd : w.heap.size ≠ gD := by have := h.d.row.lt; omega
  have CON : Calls Tryd.prog 16 #[.pointer (some ⟨c, 0, none⟩), tkV o.t pc cc, .int .i64 o.at_, .int .i64 o.n] (w.alloc (opO o pc cc)).drew fun e w1 => e = .returned (.int .i64 (pwE (dimG o.t) len en o.t.siz (dimN o.t o.at_ o.n))) ∧ Hid (Cs w1 c 0 gF len capF st (pwN (dimG o.t) len en o.t.siz (dimN o.t o.at_ o.n)) hi (pwF (dimG o.t) hi len st en fF o.t.siz (dimN o.t o.at_ o.n))) ∧ Hid (Cb c 0 gF (w.alloc (opO o pc cc)).drew w1) ∧ Hid (w1.heap[w.heap.size]? = some (opO o pc cc)) ∧ Hid (Calls Tryd.prog 32 #[.pointer (some ⟨x, 1, none⟩), tkV o.t pc cc, .int .i64 o.at_, .int .i64 o.n] w1 fun e w2 => e = .returned (.int .i64 (pwE (dimG o.t) len en o.t.siz (dimN o.t o.at_ o.n))) ∧ Hid (Cs w2 x 1 gD len capD st (pwN (dimG o.t) len en o.t.siz (dimN o.t o.at_ o.n)) hi (pwF (dimG o.t) hi len st en fD o.t.siz (dimN o.t o.at_ o.n))) ∧ Hid (Cb x 1 gD w1 w2)) := by
    refine (PutDim_any hC.p kC hC.kc hC.kg o.t pc cc o.at_ o.n).mono ?_
    rintro e w1 ⟨rfl, P1, P2⟩
    have C1 : Cs w1 c 0 gF len capF st (pwN (dimG o.t) len en o.t.siz (dimN o.t o.at_ o.n)) hi (pwF (dimG o.t) hi len st en fF o.t.siz (dimN o.t o.at_ o.n)) := P1
    have D1 : Cb c 0 gF (w.alloc (opO o pc cc)).drew w1 := P2
    have hd := hC.d.other D1 hC.n1 hC.n2 hC.n3 hC.n4
    refine ⟨rfl, C1, D1, (D1.block _ (lt_of_blk X0) xc xg).trans X0, ?_⟩
    have hq := rPutDim_any hd o.t pc cc o.at_ o.n ok.a1 ok.n1
    skip
    refine hq.mono ?_
    rintro e w2 ⟨rfl, P1, P2⟩
    exact ⟨rfl, P1, P2⟩
  have FIN : Hid (∀ w1 w2, Cb c 0 gF (w.alloc (opO o pc cc)).drew w1 → Cs w1 c 0 gF len capF st (pwN (dimG o.t) len en o.t.siz (dimN o.t o.at_ o.n)) hi (pwF (dimG o.t) hi len st en fF o.t.siz (dimN o.t o.at_ o.n)) → Cb x 1 gD w1 w2 → Cs w2 x 1 gD len capD st (pwN (dimG o.t) len en o.t.siz (dimN o.t o.at_ o.n)) hi (pwF (dimG o.t) hi len st en fD o.t.siz (dimN o.t o.at_ o.n)) → PlP c x gF gD len capF capD st hi fF w (.returned (.bool true)) w2) := fun w1 w2 D1 P1 D2 P2 => pl_fin h hB D1 P1 D2 P2 (pwF_agr h.agr _ _ _ _) (fun j hj => by have W := wi_pw (hi := hi) (f := fF) (st := st) (dimG o.t) h.p.h1 h.p.h2 o.t.siz (dimN o.t o.at_ o.n); exact W.out j (.inr (Nat.le_trans W.lt hj)))
  have hx := h.ptr
  have x0 := blk_of_cell hx
  have d0 : (o.k == 0) = false := by rw [hk]; rfl
  have d1 : (o.k == 1) = false := by rw [hk]; rfl
  have d2 : (o.k == 2) = false := by rw [hk]; rfl
  have d3 : (o.k == 3) = false := by rw [hk]; rfl
  have d4 : (o.k == 4) = false := by rw [hk]; rfl
  have d5 : (o.k == 5) = false := by rw [hk]; rfl
  have d6 : (o.k == 6) = false := by rw [hk]; rfl
  have d7 : (o.k == 7) = true := by rw [hk]; rfl
  clear h hC hB kt kC hk ok
  go_enter Tryd.func9, Tryd.ntmps9
  obtain ⟨p, pI, pN, pC, LT, LH⟩ := clsOp o pc cc w.heap.size X0
  go_wp2_with fail
  have c1 := pC 1 _ rfl
  have c2 := pC 2 _ rfl
  refine wp_region_pp p [0, 1, 2, 3, 4, 5, 6, 8, 9, 10, 11, 12, 13, 14, 7, 15, 16, 17] (by kernel_rfl) (by kernel_rfl) (fun _ _ d _ _ h => by cases d <;> exact h) (pI _ X0) ?_
  repeat (first | (refine lx_ldO LT rfl (by rfl) ?_; simp only [pts]) | (refine lx_one rfl ?_; (first | go_big_quiet_skip | (go_big_quiet_want; go_big_quiet_op; go_big_quiet_on)); refine wpQuiet_nil ?_))
  refine lx_call4 ent_cPutDim CON rfl rfl rfl rfl (by rfl) (fun w1 hR => ?_)
  obtain ⟨C1, D1, Xb, REF⟩ := hR
  refine ⟨⟨⟨w1, pI _ Xb.out⟩, rfl⟩, ?_⟩
  simp only [pts]
  refine lx_call4 ent_rPutDim REF.out rfl rfl rfl rfl (by rfl) (fun w2 hR => ?_)
  obtain ⟨C2, D2⟩ := hR
  refine ⟨⟨⟨w2, pI _ ((D2.out.block _ (lt_of_blk Xb.out) xx xd).trans Xb.out)⟩, rfl⟩, ?_⟩
  simp only [pts]
  repeat (refine lx_one rfl ?_; (first | go_big_quiet_skip | (go_big_quiet_want; go_big_quiet_op; go_big_quiet_on)); refine wpQuiet_nil ?_)
  refine lx_done ?_
  go_wp2_with fail
  go_ret
  exact FIN.out w1 w2 D1.out C1.out D2.out C2.out
end Go.Proofs.YtgklippjoikadaaDoor
namespace Go.Proofs.YtgklippjoikadaaDoor
open Go.ChangeShapes Go.WideShapes Go.ChangeAt Go.RowKit

set_option maxRecDepth 20000 in
set_option maxHeartbeats 2000000 in
theorem plays_8 {w : World} {x c gF gD len capF capD st en : Nat} {hi : Bool} {fF fD : Nat → Int} (h : Two w c x gF gD len capF capD st en hi fF fD) (kt : KT w) (o : Op1) (pc : Option Addr) (cc : Nat) (_ok : OpOk o) (hk : o.k = 8) :
    Calls Tryd.prog 9 #[.pointer (some ⟨x, 0, none⟩), opV o pc cc] w (PlP c x gF gD len capF capD st hi fF w) := by
  have hM := opM_new w o pc cc
  have hB := bel1 w (opO o pc cc)
  have hC := h.below hB
  have kC := kt.below kt.pos hB
  have X0 := heap_al w (opO o pc cc)
  have xc : w.heap.size ≠ c := by have := h.p.lt; omega
  have xg : w.heap.size ≠ gF := by have := h.p.row.lt; omega
  have CON : Calls Tryd.prog 20 #[.pointer (some ⟨c, 0, none⟩), tkV o.t pc cc] (w.alloc (opO o pc cc)) fun e w1 => e = .returned (.tuple #[.int .i64 (i64W (gwV (dimG o.t) hi len st en fF o.t.siz (o.t.a.p, o.t.a.o))), .int .i64 (i64W (gwV (dimG o.t) hi len st en fF o.t.siz (o.t.b.p, o.t.b.o))), .int .i64 (gwE (dimG o.t) len en o.t.siz)]) ∧ Hid (Cs w1 c 0 gF len capF st (gwN (dimG o.t) len en o.t.siz) hi (fF)) ∧ Hid (Cb c 0 gF (w.alloc (opO o pc cc)) w1) ∧ Hid (w1.heap[w.heap.size]? = some (opO o pc cc)) ∧ Hid (Calls Tryd.prog 33 #[.pointer (some ⟨x, 1, none⟩), tkV o.t pc cc] w1 fun e w2 => e = .returned (.tuple #[.int .i64 (i64W (gwV (dimG o.t) hi len st en fF o.t.siz (o.t.a.p, o.t.a.o))), .int .i64 (i64W (gwV (dimG o.t) hi len st en fF o.t.siz (o.t.b.p, o.t.b.o))), .int .i64 (gwE (dimG o.t) len en o.t.siz)]) ∧ Hid (Cs w2 x 1 gD len capD st (gwN (dimG o.t) len en o.t.siz) hi (fD)) ∧ Hid (Cb x 1 gD w1 w2)) := by
    refine (GetDim_any hC.p kC hC.kc hC.kg o.t pc cc).mono ?_
    rintro e w1 ⟨rfl, P1, P2⟩
    have C1 : Cs w1 c 0 gF len capF st (gwN (dimG o.t) len en o.t.siz) hi (fF) := P1
    have D1 : Cb c 0 gF (w.alloc (opO o pc cc)) w1 := P2
    have hd := hC.d.other D1 hC.n1 hC.n2 hC.n3 hC.n4
    refine ⟨rfl, C1, D1, (D1.block _ (by simp) xc xg).trans X0, ?_⟩
    have hq := rGetDim_any hd o.t pc cc
    rw [← gwV_agr hC.agr hC.p.h2, ← gwV_agr hC.agr hC.p.h2] at hq
    refine hq.mono ?_
    rintro e w2 ⟨rfl, P1, P2⟩
    exact ⟨rfl, P1, P2⟩
  have FIN : Hid (∀ w1 w2, Cb c 0 gF (w.alloc (opO o pc cc)) w1 → Cs w1 c 0 gF len capF st (gwN (dimG o.t) len en o.t.siz) hi (fF) → Cb x 1 gD w1 w2 → Cs w2 x 1 gD len capD st (gwN (dimG o.t) len en o.t.siz) hi (fD) → PlP c x gF gD len capF capD st hi fF w (.returned (.bool true)) w2) := fun w1 w2 D1 P1 D2 P2 => pl_fin h hB D1 P1 D2 P2 (h.agr) (fun _ _ => rfl)
  have hx := h.ptr
  have x0 := blk_of_cell hx
  have d0 : (o.k == 0) = false := by rw [hk]; rfl
  have d1 : (o.k == 1) = false := by rw [hk]; rfl
  have d2 : (o.k == 2) = false := by rw [hk]; rfl
  have d3 : (o.k == 3) = false := by rw [hk]; rfl
  have d4 : (o.k == 4) = false := by rw [hk]; rfl
  have d5 : (o.k == 5) = false := by rw [hk]; rfl
  have d6 : (o.k == 6) = false := by rw [hk]; rfl
  have d7 : (o.k == 7) = false := by rw [hk]; rfl
  have d8 : (o.k == 8) = true := by rw [hk]; rfl
  have LD := hM.tk.load
  rw [Nat.zero_add] at LD
  clear h hC hM hB kt kC hk
  generalize i64W (gwV (dimG o.t) hi len st en fF o.t.siz (o.t.a.p, o.t.a.o)) = G0 at CON FIN
  generalize i64W (gwV (dimG o.t) hi len st en fF o.t.siz (o.t.b.p, o.t.b.o)) = G1 at CON FIN
  generalize gwE (dimG o.t) len en o.t.siz = G2 at CON FIN
  generalize gwN (dimG o.t) len en o.t.siz = G3 at CON FIN
  go_enter Tryd.func9, Tryd.ntmps9
  go_wp2_with (first
    | (guard_target =~ wpList _ _ _ (Oper.mk _ (Op.load 48 _) _ _ _ _ :: _) _ _; go_must (first | refine wpList_ld 48 _ rfl rfl _ _ rfl LD ?_ | refine wpList_ld 48 _ rfl rfl _ _ rfl LD2 ?_); simp only [pts])
    | (go_at_call 20; refine CON.mono ?_; rintro e w1 ⟨rfl, C1, D1, Xb, REF⟩; have X9 := lt_of_blk Xb.out; have LD2 : (Instr.loadAt 48 (.pointer (some ⟨w.heap.size, 19, none⟩))).run Tryd.prog w1 = .ok (tkV o.t pc cc) w1 := by { have := (opM_of Xb.out).tk.load; rwa [Nat.zero_add] at this };  clear CON)
    | (go_at_call 33; refine REF.out.mono ?_; rintro e w2 ⟨rfl, C2, D2⟩; clear REF))
  go_ret
  exact FIN.out w1 w2 D1.out C1.out D2.out C2.out
end Go.Proofs.YtgklippjoikadaaDoor
namespace Go.Proofs.YtgklippjoikadaaDoor
open Go.ChangeShapes Go.WideShapes Go.ChangeAt Go.RowKit

set_option maxRecDepth 20000 in
set_option maxHeartbeats 2000000 in
theorem plays_9 {w : World} {x c gF gD len capF capD st en : Nat} {hi : Bool} {fF fD : Nat → Int} (h : Two w c x gF gD len capF capD st en hi fF fD) (kt : KT w) (o : Op1) (pc : Option Addr) (cc : Nat) (ok : OpOk o) (hk : o.k = 9) :
    Calls Tryd.prog 9 #[.pointer (some ⟨x, 0, none⟩), opV o pc cc] w (PlP c x gF gD len capF capD st hi fF w) := by
  have hB := (bel1 w (opO o pc cc)).drew
  have hC := h.below hB
  have kC := kt.below kt.pos hB
  have X0 : (w.alloc (opO o pc cc)).drew.heap[w.heap.size]? = some (opO o pc cc) := heap_al w (opO o pc cc)
  have xc : w.heap.size ≠ c := by have := h.p.lt; omega
  have xg : w.heap.size ≠ gF := by have := h.p.row.lt; omega
  have xx : w.heap.size ≠ x := by have := h.d.lt; omega
  have xd : w.heap.size ≠ gD := by have := h.d.row.lt; omega
  have CON : Calls Tryd.prog 17 #[.pointer (some ⟨c, 0, none⟩), tkV o.t pc cc, .string o.s] (w.alloc (opO o pc cc)).drew fun e w1 => e = .returned (.int .i64 (pdE len en o.t o.s.size)) ∧ Hid (Cs w1 c 0 gF len capF st (pdN len en o.t o.s.size) hi (pdF hi len st en fF o.t o.s)) ∧ Hid (Cb c 0 gF (w.alloc (opO o pc cc)).drew w1) ∧ Hid (w1.heap[w.heap.size]? = some (opO o pc cc)) ∧ Hid (Calls Tryd.prog 34 #[.pointer (some ⟨x, 1, none⟩), tkV o.t pc cc, .string o.s] w1 fun e w2 => e = .returned (.int .i64 (pdE len en o.t o.s.size)) ∧ Hid (Cs w2 x 1 gD len capD st (pdN len en o.t o.s.size) hi (pdF hi len st en fD o.t o.s)) ∧ Hid (Cb x 1 gD w1 w2)) := by
    refine (PutData_any hC.p kC hC.kc hC.kg o.t pc cc o.s ok.s).mono ?_
    rintro e w1 ⟨rfl, P1, P2⟩
    have C1 : Cs w1 c 0 gF len capF st (pdN len en o.t o.s.size) hi (pdF hi len st en fF o.t o.s) := P1
    have D1 : Cb c 0 gF (w.alloc (opO o pc cc)).drew w1 := P2
    have hd := hC.d.other D1 hC.n1 hC.n2 hC.n3 hC.n4
    refine ⟨rfl, C1, D1, (D1.block _ (lt_of_blk X0) xc xg).trans X0, ?_⟩
    have hq := rPutData_any hd o.t pc cc o.s ok.s
    skip
    refine hq.mono ?_
    rintro e w2 ⟨rfl, P1, P2⟩
    exact ⟨rfl, P1, P2⟩
  have FIN : Hid (∀ w1 w2, Cb c 0 gF (w.alloc (opO o pc cc)).drew w1 → Cs w1 c 0 gF len capF st (pdN len en o.t o.s.size) hi (pdF hi len st en fF o.t o.s) → Cb x 1 gD w1 w2 → Cs w2 x 1 gD len capD st (pdN len en o.t o.s.size) hi (pdF hi len st en fD o.t o.s) → PlP c x gF gD len capF capD st hi fF w (.returned (.bool true)) w2) := fun w1 w2 D1 P1 D2 P2 => pl_fin h hB D1 P1 D2 P2 (pdF_agr h.agr _ _ _) (fun j hj => by have W := wi_pd (hi := hi) (f := fF) (st := st) h.p.h1 h.p.h2 o.t o.s; exact W.out j (.inr (Nat.le_trans W.lt hj)))
  have hx := h.ptr
  have x0 := blk_of_cell hx
  have d0 : (o.k == 0) = false := by rw [hk]; rfl
  have d1 : (o.k == 1) = false := by rw [hk]; rfl
  have d2 : (o.k == 2) = false := by rw [hk]; rfl
  have d3 : (o.k == 3) = false := by rw [hk]; rfl
  have d4 : (o.k == 4) = false := by rw [hk]; rfl
  have d5 : (o.k == 5) = false := by rw [hk]; rfl
  have d6 : (o.k == 6) = false := by rw [hk]; rfl
  have d7 : (o.k == 7) = false := by rw [hk]; rfl
  have d8 : (o.k == 8) = false := by rw [hk]; rfl
  have d9 : (o.k == 9) = true := by rw [hk]; rfl
  clear h hC hB kt kC hk ok
  go_enter Tryd.func9, Tryd.ntmps9
  obtain ⟨p, pI, pN, pC, LT, LH⟩ := clsOp o pc cc w.heap.size X0
  go_wp2_with fail
  have c5 := pC 5 _ rfl
  refine wp_region_pp p [0, 1, 2, 3, 4, 6, 7, 8, 9, 10, 5, 11, 12, 13] (by kernel_rfl) (by kernel_rfl) (fun _ _ d _ _ h => by cases d <;> exact h) (pI _ X0) ?_
  repeat (first | (refine lx_ldO LT rfl (by rfl) ?_; simp only [pts]) | (refine lx_one rfl ?_; (first | go_big_quiet_skip | (go_big_quiet_want; go_big_quiet_op; go_big_quiet_on)); refine wpQuiet_nil ?_))
  refine lx_call3 ent_cPutData CON rfl rfl rfl (by rfl) (fun w1 hR => ?_)
  obtain ⟨C1, D1, Xb, REF⟩ := hR
  refine ⟨⟨⟨w1, pI _ Xb.out⟩, rfl⟩, ?_⟩
  simp only [pts]
  refine lx_call3 ent_rPutData REF.out rfl rfl rfl (by rfl) (fun w2 hR => ?_)
  obtain ⟨C2, D2⟩ := hR
  refine ⟨⟨⟨w2, pI _ ((D2.out.block _ (lt_of_blk Xb.out) xx xd).trans Xb.out)⟩, rfl⟩, ?_⟩
  simp only [pts]
  repeat (refine lx_one rfl ?_; (first | go_big_quiet_skip | (go_big_quiet_want; go_big_quiet_op; go_big_quiet_on)); refine wpQuiet_nil ?_)
  refine lx_done ?_
  go_wp2_with fail
  go_ret
  exact FIN.out w1 w2 D1.out C1.out D2.out C2.out
end Go.Proofs.YtgklippjoikadaaDoor
namespace Go.Proofs.YtgklippjoikadaaDoor
open Go.ChangeShapes Go.WideShapes Go.ChangeAt Go.RowKit

set_option maxRecDepth 20000 in
set_option maxHeartbeats 2000000 in
theorem plays_10 {w : World} {x c gF gD len capF capD st en : Nat} {hi : Bool} {fF fD : Nat → Int} (h : Two w c x gF gD len capF capD st en hi fF fD) (kt : KT w) (o : Op1) (pc : Option Addr) (cc : Nat) (_ok : OpOk o) (hk : o.k = 10) :
    Calls Tryd.prog 9 #[.pointer (some ⟨x, 0, none⟩), opV o pc cc] w (PlP c x gF gD len capF capD st hi fF w) := by
  have hM := opM_new w o pc cc
  have hB := bel1 w (opO o pc cc)
  have hC := h.below hB
  have kC := kt.below kt.pos hB
  have X0 := heap_al w (opO o pc cc)
  have xc : w.heap.size ≠ c := by have := h.p.lt; omega
  have xg : w.heap.size ≠ gF := by have := h.p.row.lt; omega
  have CON : Calls Tryd.prog 21 #[.pointer (some ⟨c, 0, none⟩), tkV o.t pc cc] (w.alloc (opO o pc cc)) fun e w1 => e = .returned (.tuple #[.string (gdT hi len st en fF o.t), .int .i64 (gdE hi len st en fF o.t)]) ∧ Hid (Cs w1 c 0 gF len capF st (gdN hi len st en fF o.t) hi (fF)) ∧ Hid (Cb c 0 gF (w.alloc (opO o pc cc)) w1) ∧ Hid (w1.heap[w.heap.size]? = some (opO o pc cc)) ∧ Hid (Calls Tryd.prog 35 #[.pointer (some ⟨x, 1, none⟩), tkV o.t pc cc] w1 fun e w2 => e = .returned (.tuple #[.string (gdT hi len st en fF o.t), .int .i64 (gdE hi len st en fF o.t)]) ∧ Hid (Cs w2 x 1 gD len capD st (gdN hi len st en fF o.t) hi (fD)) ∧ Hid (Cb x 1 gD w1 w2)) := by
    refine (GetData_any hC.p kC hC.kc hC.kg o.t pc cc).mono ?_
    rintro e w1 ⟨rfl, P1, P2⟩
    have C1 : Cs w1 c 0 gF len capF st (gdN hi len st en fF o.t) hi (fF) := P1
    have D1 : Cb c 0 gF (w.alloc (opO o pc cc)) w1 := P2
    have hd := hC.d.other D1 hC.n1 hC.n2 hC.n3 hC.n4
    refine ⟨rfl, C1, D1, (D1.block _ (by simp) xc xg).trans X0, ?_⟩
    have hq := rGetData_any hd o.t pc cc
    rw [← gdT_agr hC.agr, ← gdE_agr hC.agr, ← gdN_agr hC.agr] at hq
    refine hq.mono ?_
    rintro e w2 ⟨rfl, P1, P2⟩
    exact ⟨rfl, P1, P2⟩
  have FIN : Hid (∀ w1 w2, Cb c 0 gF (w.alloc (opO o pc cc)) w1 → Cs w1 c 0 gF len capF st (gdN hi len st en fF o.t) hi (fF) → Cb x 1 gD w1 w2 → Cs w2 x 1 gD len capD st (gdN hi len st en fF o.t) hi (fD) → PlP c x gF gD len capF capD st hi fF w (.returned (.bool true)) w2) := fun w1 w2 D1 P1 D2 P2 => pl_fin h hB D1 P1 D2 P2 (h.agr) (fun _ _ => rfl)
  have hx := h.ptr
  have x0 := blk_of_cell hx
  have d0 : (o.k == 0) = false := by rw [hk]; rfl
  have d1 : (o.k == 1) = false := by rw [hk]; rfl
  have d2 : (o.k == 2) = false := by rw [hk]; rfl
  have d3 : (o.k == 3) = false := by rw [hk]; rfl
  have d4 : (o.k == 4) = false := by rw [hk]; rfl
  have d5 : (o.k == 5) = false := by rw [hk]; rfl
  have d6 : (o.k == 6) = false := by rw [hk]; rfl
  have d7 : (o.k == 7) = false := by rw [hk]; rfl
  have d8 : (o.k == 8) = false := by rw [hk]; rfl
  have d9 : (o.k == 9) = false := by rw [hk]; rfl
  have d10 : (o.k == 10) = true := by rw [hk]; rfl
  have LD := hM.tk.load
  rw [Nat.zero_add] at LD
  clear h hC hM hB kt kC hk
  generalize gdT hi len st en fF o.t = G0 at CON FIN
  generalize gdE hi len st en fF o.t = G1 at CON FIN
  generalize gdN hi len st en fF o.t = G2 at CON FIN
  go_enter Tryd.func9, Tryd.ntmps9
  go_wp2_with (first
    | (guard_target =~ wpList _ _ _ (Oper.mk _ (Op.load 48 _) _ _ _ _ :: _) _ _; go_must (first | refine wpList_ld 48 _ rfl rfl _ _ rfl LD ?_ | refine wpList_ld 48 _ rfl rfl _ _ rfl LD2 ?_); simp only [pts])
    | (go_at_call 21; refine CON.mono ?_; rintro e w1 ⟨rfl, C1, D1, Xb, REF⟩; have X9 := lt_of_blk Xb.out; have LD2 : (Instr.loadAt 48 (.pointer (some ⟨w.heap.size, 19, none⟩))).run Tryd.prog w1 = .ok (tkV o.t pc cc) w1 := by { have := (opM_of Xb.out).tk.load; rwa [Nat.zero_add] at this };  clear CON)
    | (go_at_call 35; refine REF.out.mono ?_; rintro e w2 ⟨rfl, C2, D2⟩; clear REF))
  go_ret
  exact FIN.out w1 w2 D1.out C1.out D2.out C2.out
end Go.Proofs.YtgklippjoikadaaDoor
