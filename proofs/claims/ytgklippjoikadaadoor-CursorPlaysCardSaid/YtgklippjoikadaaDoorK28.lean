/- ILx2, CuW0, CuW1, CuW2, CuW3, CuW4. -/
import Derived.Test.YtgklippjoikadaaDoorK10
import Derived.Test.YtgklippjoikadaaDoorK17
import Derived.Test.YtgklippjoikadaaDoorK25
import Derived.Test.YtgklippjoikadaaDoorK27
import Derived.Test.YtgklippjoikadaaDoorK18
import Derived.Test.YtgklippjoikadaaDoorK20
import Derived.Test.YtgklippjoikadaaDoorK19
import Derived.Test.YtgklippjoikadaaDoorK21
namespace Go.Proofs.YtgklippjoikadaaDoor
open Go.ChangeShapes Go.WideShapes Go.ChangeAt Go.RowKit

theorem pick_map (l : List Oper) : ∀ sc : List Nat, sc.all (fun i => decide (i < l.length)) = true → sc.map (fun i => l.toArray[i]?) = (sc.filterMap fun i => l[i]?).map some
  | [], _ => rfl
  | i :: r, h => by
    rw [List.all_cons, Bool.and_eq_true, decide_eq_true_eq] at h
    rw [List.map_cons, List.filterMap_cons, List.getElem?_eq_getElem h.1, pick_map l r h.2]
    simp [h.1]
theorem wp_region_pp {P : Program} {Q : Exit → Act → World → Prop} {id : Nat} {a : Act} {w : World} {l : List Oper} (p : World → Prop) (sc : List Nat) (hm : P.follows .mixedOrders = true) (hv : (Region.noSelect l.toArray && schB .any l.toArray sc (Array.replicate l.length false) && (sc.length == l.length) && sc.all (fun i => decide (i < l.length))) = true)
    (hQ : ∀ c (a : Act) d v w, Q (.panic c) (a.put d v) w → Q (.panic c) a w) (hp : p w.drew) (h : Lx P l.toArray (fun W => ∃ θ : CW p, W = θ.w) Q (sc.filterMap fun i => l[i]?) a w.drew) : (Code.region id l.toArray true).wp P Q a w := by
  rw [Bool.and_eq_true] at hv
  exact wp_region_px p sc _ (pick_map l sc hv.2) hm hv.1 hQ hp h
end Go.Proofs.YtgklippjoikadaaDoor
namespace Go.Proofs.YtgklippjoikadaaDoor
open Go.ChangeShapes Go.WideShapes Go.ChangeAt Go.RowKit

/-- Of what was there only the two cursors' ends and their buffers may have turned. -/
structure Bo (c x gF gD : Nat) (w w' : World) : Prop where
  os : w'.os = w.os
  tape : w'.tape = w.tape
  output : w'.output = w.output
  size : w.heap.size ≤ w'.heap.size
  block : ∀ k, k < w.heap.size → k ≠ c → k ≠ x → k ≠ gF → k ≠ gD → w'.heap[k]? = w.heap[k]?
  cell : ∀ i, i ≠ 3 → w'.cell? ⟨x, i, none⟩ = w.cell? ⟨x, i, none⟩
theorem Bo.of {c x gF gD : Nat} {w w1 w2 : World} (h : Cb c 0 gF w w1) (k : Cb x 1 gD w1 w2) (hx : x < w.heap.size) (n1 : x ≠ c) (n2 : x ≠ gF) : Bo c x gF gD w w2 :=
  ⟨k.os.trans h.os, k.tape.trans h.tape, k.output.trans h.output, Nat.le_trans h.size k.size, fun i hi a b d e => (k.block i (Nat.lt_of_lt_of_le hi h.size) b e).trans (h.block i hi a d), fun i hi => (k.cell i hi).trans (h.at hx n1 n2)⟩
theorem Bo.below {c x gF gD B : Nat} {w w' : World} (h : Bo c x gF gD w w') (hc : B ≤ c) (hx : B ≤ x) (hg : B ≤ gF) (hd : B ≤ gD) (hB : B ≤ w.heap.size) : Below B w w' := ⟨h.os, h.tape, h.output, h.size, fun k hk => h.block k (by omega) (by omega) (by omega) (by omega) (by omega)⟩
/-- Both cursors, over buffers of the same bytes. -/
structure Two (W : World) (c x gF gD len capF capD st en : Nat) (hi : Bool) (fF fD : Nat → Int) : Prop where
  p : Cs W c 0 gF len capF st en hi fF
  d : Cs W x 1 gD len capD st en hi fD
  agr : Agr len fF fD
  ptr : W.cell? ⟨x, 0, none⟩ = some (.pointer (some ⟨c, 0, none⟩))
  bB : W.cell? ⟨x, 5, none⟩ = some (.slice (some ⟨gF, 0, none⟩) len capF)
  bD : W.cell? ⟨x, 6, none⟩ = some (.slice (some ⟨gD, 0, none⟩) len capD)
  n1 : x ≠ c
  n2 : x ≠ gF
  n3 : gD ≠ c
  n4 : gD ≠ gF
  kc : 0 < c
  kg : 0 < gF
theorem Two.below {W W' : World} {c x gF gD len capF capD st en : Nat} {hi : Bool} {fF fD : Nat → Int} (h : Two W c x gF gD len capF capD st en hi fF fD) (hb : Below W.heap.size W W') : Two W' c x gF gD len capF capD st en hi fF fD :=
  ⟨h.p.below hb, h.d.below hb, h.agr, (hb.cell (p := ⟨x, 0, none⟩) h.d.lt).trans h.ptr, (hb.cell (p := ⟨x, 5, none⟩) h.d.lt).trans h.bB, (hb.cell (p := ⟨x, 6, none⟩) h.d.lt).trans h.bD, h.n1, h.n2, h.n3, h.n4, h.kc, h.kg⟩
/-- What plays tells and leaves. -/
def PlP (c x gF gD len capF capD st : Nat) (hi : Bool) (fF : Nat → Int) (w : World) (e : Ending) (w' : World) : Prop := e = .returned (.bool true) ∧ ∃ (n : Nat) (fF' fD' : Nat → Int), Two w' c x gF gD len capF capD st n hi fF' fD' ∧ (∀ j, len ≤ j → fF' j = fF j) ∧ Bo c x gF gD w w'
theorem pl_fin {w W w1 w2 : World} {c x gF gD len capF capD st en n : Nat} {hi : Bool} {fF fD fF' fD' : Nat → Int} (h : Two w c x gF gD len capF capD st en hi fF fD) (hW : Below w.heap.size w W) (D1 : Cb c 0 gF W w1) (P1 : Cs w1 c 0 gF len capF st n hi fF') (D2 : Cb x 1 gD w1 w2) (P2 : Cs w2 x 1 gD len capD st n hi fD') (ag : Agr len fF' fD') (out : ∀ j, len ≤ j → fF' j = fF j) :
    PlP c x gF gD len capF capD st hi fF w (.returned (.bool true)) w2 := by
  have B := Bo.of ((Cb.of_below hW h.p.lt).trans D1) D2 h.d.lt h.n1 h.n2
  exact ⟨rfl, n, fF', fD', ⟨P1.other D2 (Ne.symm h.n1) (Ne.symm h.n3) (Ne.symm h.n2) (Ne.symm h.n4), P2, ag, (B.cell 0 (by decide)).trans h.ptr, (B.cell 5 (by decide)).trans h.bB, (B.cell 6 (by decide)).trans h.bD, h.n1, h.n2, h.n3, h.n4, h.kc, h.kg⟩, out, B⟩
theorem ld_hdv {W : World} {g b : Nat} {o : Op1} {pc : Option Addr} {cc : Nat} (h : OpM W g b o pc cc) : (Instr.loadAt 42 (.pointer (some ⟨g, b + 6, none⟩))).run Tryd.prog W = .ok (hdV o.h) W := by
  have hr : W.rangeAt g (b + 6) [.int .i64 o.h.size, .int .i64 o.h.b.p, .int .i64 o.h.b.o, .int .i64 o.h.t.p, .int .i64 o.h.t.o, .int .i64 o.h.s.p, .int .i64 o.h.s.o, .int .i64 o.h.v.p, .int .i64 o.h.v.o] := by
    intro j v hv
    have hj : j < 9 := (List.getElem?_eq_some_iff.1 hv).1
    have e := h.c (6 + j) v (by
      have hc : j = 0 ∨ j = 1 ∨ j = 2 ∨ j = 3 ∨ j = 4 ∨ j = 5 ∨ j = 6 ∨ j = 7 ∨ j = 8 := by omega
      rcases hc with rfl | rfl | rfl | rfl | rfl | rfl | rfl | rfl | rfl <;> exact hv)
    rw [← Nat.add_assoc] at e
    exact e
  exact run_loadAt_mid W g (b + 6) 42 _ _ hr Tryd.underlying42 rfl (by kernel_rfl)
/-- The law's op in a block of its own. -/
theorem opM_of {W : World} {g : Nat} {o : Op1} {pc : Option Addr} {cc : Nat} (h : W.heap[g]? = some (opO o pc cc)) : OpM W g 0 o pc cc := ⟨fun j u hu => by
    rw [Nat.zero_add, cell_at h j, List.getElem?_toArray]
    exact hu⟩
/-- The worlds in which the law's op lies as it is. -/
theorem clsOp (o : Op1) (pc : Option Addr) (cc : Nat) (X : Nat) {W : World} (h : W.heap[X]? = some (opO o pc cc)) : ∃ p : World → Prop, (∀ V, V.heap[X]? = some (opO o pc cc) → p V) ∧ Nonempty (CW p) ∧ (∀ j u, (opC o pc cc)[j]? = some u → ∀ θ : CW p, θ.w.cell? ⟨X, j, none⟩ = some u) ∧
    (∀ V, (∃ θ : CW p, V = θ.w) → (Instr.loadAt 48 (.pointer (some ⟨X, 19, none⟩))).run Tryd.prog V = .ok (tkV o.t pc cc) V) ∧ (∀ V, (∃ θ : CW p, V = θ.w) → (Instr.loadAt 42 (.pointer (some ⟨X, 6, none⟩))).run Tryd.prog V = .ok (hdV o.h) V) :=
  ⟨fun V => V.heap[X]? = some (opO o pc cc), fun _ h => h, ⟨⟨W, h⟩⟩, fun j u hu θ => by have := (opM_of θ.h).c j u hu; rwa [Nat.zero_add] at this, by
    rintro _ ⟨θ, rfl⟩
    have := (opM_of θ.h).tk.load
    rwa [Nat.zero_add] at this, by
    rintro _ ⟨θ, rfl⟩
    have := ld_hdv (opM_of θ.h)
    rwa [Nat.zero_add] at this⟩
section
variable {P : Program} {ops : Array Oper} {C : World → Prop} {Q : Exit → Act → World → Prop} {d : Option Tmp} {ty : TypeId} {ps : String} {af : Array Edge} {gd : Option (Nat × Bool)} {r : List Oper} {a : Act} {w : World}
theorem lx_ldO {t : TypeId} {x : Operand} {p v : Value} (hl : ∀ W, C W → (Instr.loadAt t p).run P W = .ok v W) (hx : a.eval x = p) (hw : Region.wanted ⟨d, .load t x, ty, ps, af, gd⟩ (yielded ops a.tmps) = true) (h : Lx P ops C Q r (a.put d v) w) : Lx P ops C Q (⟨d, .load t x, ty, ps, af, gd⟩ :: r) a w :=
  lx_read hw rfl fun K hK => ⟨v, fun W hW => by
    unfold Oper.quietAt execOp
    simp only [hx, hl W hW, Sem.run_bind, Result.andThen_ok, Sem.run_pure]
    exact ⟨rfl, rfl⟩, hK _ h⟩
end
theorem ent_cPut : ∀ ag w, (callFunc 15 ag).run Tryd.prog w = .ok (.enter 15 ag) w := enters_of Tryd.func15 (by kernel_rfl) rfl
theorem ent_cSetChars : ∀ ag w, (callFunc 28 ag).run Tryd.prog w = .ok (.enter 28 ag) w := enters_of Tryd.func28 (by kernel_rfl) rfl
theorem ent_cPutHead : ∀ ag w, (callFunc 13 ag).run Tryd.prog w = .ok (.enter 13 ag) w := enters_of Tryd.func13 (by kernel_rfl) rfl
theorem ent_cPutDim : ∀ ag w, (callFunc 16 ag).run Tryd.prog w = .ok (.enter 16 ag) w := enters_of Tryd.func16 (by kernel_rfl) rfl
theorem ent_cPutData : ∀ ag w, (callFunc 17 ag).run Tryd.prog w = .ok (.enter 17 ag) w := enters_of Tryd.func17 (by kernel_rfl) rfl
theorem ent_rPut : ∀ ag w, (callFunc 25 ag).run Tryd.prog w = .ok (.enter 25 ag) w := enters_of Tryd.func25 (by kernel_rfl) rfl
theorem ent_rSetChars : ∀ ag w, (callFunc 29 ag).run Tryd.prog w = .ok (.enter 29 ag) w := enters_of Tryd.func29 (by kernel_rfl) rfl
theorem ent_rPutHead : ∀ ag w, (callFunc 30 ag).run Tryd.prog w = .ok (.enter 30 ag) w := enters_of Tryd.func30 (by kernel_rfl) rfl
theorem ent_rPutDim : ∀ ag w, (callFunc 32 ag).run Tryd.prog w = .ok (.enter 32 ag) w := enters_of Tryd.func32 (by kernel_rfl) rfl
theorem ent_rPutData : ∀ ag w, (callFunc 34 ag).run Tryd.prog w = .ok (.enter 34 ag) w := enters_of Tryd.func34 (by kernel_rfl) rfl
end Go.Proofs.YtgklippjoikadaaDoor
namespace Go.Proofs.YtgklippjoikadaaDoor
open Go.ChangeShapes Go.WideShapes Go.ChangeAt Go.RowKit

set_option maxRecDepth 20000 in
set_option maxHeartbeats 2000000 in
theorem plays_0 {w : World} {x c gF gD len capF capD st en : Nat} {hi : Bool} {fF fD : Nat → Int} (h : Two w c x gF gD len capF capD st en hi fF fD) (kt : KT w) (o : Op1) (pc : Option Addr) (cc : Nat) (_ok : OpOk o) (hk : o.k = 0) :
    Calls Tryd.prog 9 #[.pointer (some ⟨x, 0, none⟩), opV o pc cc] w (PlP c x gF gD len capF capD st hi fF w) := by
  have hM := opM_new w o pc cc
  have hB := bel1 w (opO o pc cc)
  have hC := h.below hB
  have kC := kt.below kt.pos hB
  have X0 := heap_al w (opO o pc cc)
  have xc : w.heap.size ≠ c := by have := h.p.lt; omega
  have xg : w.heap.size ≠ gF := by have := h.p.row.lt; omega
  have CON : Calls Tryd.prog 14 #[.pointer (some ⟨c, 0, none⟩), .int .i64 o.n] (w.alloc (opO o pc cc)) fun e w1 => e = .returned (.tuple #[.int .i64 (clP len en o.n), .int .i64 (clE len en o.n)]) ∧ Hid (Cs w1 c 0 gF len capF st (clN len en o.n) hi (fF)) ∧ Hid (Cb c 0 gF (w.alloc (opO o pc cc)) w1) ∧ Hid (w1.heap[w.heap.size]? = some (opO o pc cc)) ∧ Hid (Calls Tryd.prog 23 #[.pointer (some ⟨x, 1, none⟩), .int .i64 o.n] w1 fun e w2 => e = .returned (.tuple #[.int .i64 (clP len en o.n), .int .i64 (clE len en o.n)]) ∧ Hid (Cs w2 x 1 gD len capD st (clN len en o.n) hi (fD)) ∧ Hid (Cb x 1 gD w1 w2)) := by
    refine (Claim_any hC.p o.n).mono ?_
    rintro e w1 ⟨rfl, P1, P2⟩
    have C1 : Cs w1 c 0 gF len capF st (clN len en o.n) hi (fF) := P1
    have D1 : Cb c 0 gF (w.alloc (opO o pc cc)) w1 := P2
    have hd := hC.d.other D1 hC.n1 hC.n2 hC.n3 hC.n4
    refine ⟨rfl, C1, D1, (D1.block _ (by simp) xc xg).trans X0, ?_⟩
    have hq := rClaim_any hd o.n
    skip
    refine hq.mono ?_
    rintro e w2 ⟨rfl, P1, P2⟩
    exact ⟨rfl, P1, P2⟩
  have FIN : Hid (∀ w1 w2, Cb c 0 gF (w.alloc (opO o pc cc)) w1 → Cs w1 c 0 gF len capF st (clN len en o.n) hi (fF) → Cb x 1 gD w1 w2 → Cs w2 x 1 gD len capD st (clN len en o.n) hi (fD) → PlP c x gF gD len capF capD st hi fF w (.returned (.bool true)) w2) := fun w1 w2 D1 P1 D2 P2 => pl_fin h hB D1 P1 D2 P2 (h.agr) (fun _ _ => rfl)
  have hx := h.ptr
  have x0 := blk_of_cell hx
  have d0 : (o.k == 0) = true := by rw [hk]; rfl
  clear h hC hM hB kt kC hk
  generalize clP len en o.n = G0 at CON FIN
  generalize clE len en o.n = G1 at CON FIN
  generalize clN len en o.n = G2 at CON FIN
  go_enter Tryd.func9, Tryd.ntmps9
  go_wp2_with (first
    | (go_at_call 14; refine CON.mono ?_; rintro e w1 ⟨rfl, C1, D1, Xb, REF⟩; have X9 := lt_of_blk Xb.out; have c2 : w1.cell? ⟨w.heap.size, 2, none⟩ = _ := cell_at Xb.out 2;  clear CON)
    | (go_at_call 23; refine REF.out.mono ?_; rintro e w2 ⟨rfl, C2, D2⟩; clear REF))
  go_ret
  exact FIN.out w1 w2 D1.out C1.out D2.out C2.out
end Go.Proofs.YtgklippjoikadaaDoor
namespace Go.Proofs.YtgklippjoikadaaDoor
open Go.ChangeShapes Go.WideShapes Go.ChangeAt Go.RowKit

set_option maxRecDepth 20000 in
set_option maxHeartbeats 2000000 in
theorem plays_1 {w : World} {x c gF gD len capF capD st en : Nat} {hi : Bool} {fF fD : Nat → Int} (h : Two w c x gF gD len capF capD st en hi fF fD) (kt : KT w) (o : Op1) (pc : Option Addr) (cc : Nat) (_ok : OpOk o) (hk : o.k = 1) :
    Calls Tryd.prog 9 #[.pointer (some ⟨x, 0, none⟩), opV o pc cc] w (PlP c x gF gD len capF capD st hi fF w) := by
  have hM := opM_new w o pc cc
  have hB := bel1 w (opO o pc cc)
  have hC := h.below hB
  have kC := kt.below kt.pos hB
  have X0 := heap_al w (opO o pc cc)
  have xc : w.heap.size ≠ c := by have := h.p.lt; omega
  have xg : w.heap.size ≠ gF := by have := h.p.row.lt; omega
  have CON : Calls Tryd.prog 19 #[.pointer (some ⟨c, 0, none⟩), .int .i64 o.at_, .int .i64 o.p] (w.alloc (opO o pc cc)) fun e w1 => e = .returned (.tuple #[.int .u64 (getW hi st en fF o.at_ o.p), .int .i64 (getE st en o.at_ o.p)]) ∧ Hid (Cs w1 c 0 gF len capF st (en) hi (fF)) ∧ Hid (Cb c 0 gF (w.alloc (opO o pc cc)) w1) ∧ Hid (w1.heap[w.heap.size]? = some (opO o pc cc)) ∧ Hid (Calls Tryd.prog 24 #[.pointer (some ⟨x, 1, none⟩), .int .i64 o.at_, .int .i64 o.p] w1 fun e w2 => e = .returned (.tuple #[.int .u64 (getW hi st en fF o.at_ o.p), .int .i64 (getE st en o.at_ o.p)]) ∧ Hid (Cs w2 x 1 gD len capD st (en) hi (fD)) ∧ Hid (Cb x 1 gD w1 w2)) := by
    refine (GetCu_any hC.p kC o.at_ o.p).mono ?_
    rintro e w1 ⟨rfl, P1⟩
    have C1 : Cs w1 c 0 gF len capF st (en) hi (fF) := hC.p.below P1
    have D1 : Cb c 0 gF (w.alloc (opO o pc cc)) w1 := Cb.of_below P1 hC.p.lt
    have hd := hC.d.other D1 hC.n1 hC.n2 hC.n3 hC.n4
    refine ⟨rfl, C1, D1, (D1.block _ (by simp) xc xg).trans X0, ?_⟩
    have hq := rGet_any hd o.at_ o.p
    rw [← getW_agr hC.agr hC.p.h2] at hq
    refine hq.mono ?_
    rintro e w2 ⟨rfl, P1⟩
    exact ⟨rfl, hd.below P1, Cb.of_below P1 hd.lt⟩
  have FIN : Hid (∀ w1 w2, Cb c 0 gF (w.alloc (opO o pc cc)) w1 → Cs w1 c 0 gF len capF st (en) hi (fF) → Cb x 1 gD w1 w2 → Cs w2 x 1 gD len capD st (en) hi (fD) → PlP c x gF gD len capF capD st hi fF w (.returned (.bool true)) w2) := fun w1 w2 D1 P1 D2 P2 => pl_fin h hB D1 P1 D2 P2 (h.agr) (fun _ _ => rfl)
  have hx := h.ptr
  have x0 := blk_of_cell hx
  have d0 : (o.k == 0) = false := by rw [hk]; rfl
  have d1 : (o.k == 1) = true := by rw [hk]; rfl
  clear h hC hM hB kt kC hk
  generalize getW hi st en fF o.at_ o.p = G0 at CON FIN
  generalize getE st en o.at_ o.p = G1 at CON FIN
  go_enter Tryd.func9, Tryd.ntmps9
  go_wp2_with (first
    | (go_at_call 19; refine CON.mono ?_; rintro e w1 ⟨rfl, C1, D1, Xb, REF⟩; have X9 := lt_of_blk Xb.out; have c1 : w1.cell? ⟨w.heap.size, 1, none⟩ = _ := cell_at Xb.out 1; have c3 : w1.cell? ⟨w.heap.size, 3, none⟩ = _ := cell_at Xb.out 3;  clear CON)
    | (go_at_call 24; refine REF.out.mono ?_; rintro e w2 ⟨rfl, C2, D2⟩; clear REF))
  go_ret
  exact FIN.out w1 w2 D1.out C1.out D2.out C2.out
end Go.Proofs.YtgklippjoikadaaDoor
namespace Go.Proofs.YtgklippjoikadaaDoor
open Go.ChangeShapes Go.WideShapes Go.ChangeAt Go.RowKit

set_option maxRecDepth 20000 in
set_option maxHeartbeats 2000000 in
theorem plays_2 {w : World} {x c gF gD len capF capD st en : Nat} {hi : Bool} {fF fD : Nat → Int} (h : Two w c x gF gD len capF capD st en hi fF fD) (kt : KT w) (o : Op1) (pc : Option Addr) (cc : Nat) (ok : OpOk o) (hk : o.k = 2) :
    Calls Tryd.prog 9 #[.pointer (some ⟨x, 0, none⟩), opV o pc cc] w (PlP c x gF gD len capF capD st hi fF w) := by
  have hB := (bel1 w (opO o pc cc)).drew
  have hC := h.below hB
  have kC := kt.below kt.pos hB
  have X0 : (w.alloc (opO o pc cc)).drew.heap[w.heap.size]? = some (opO o pc cc) := heap_al w (opO o pc cc)
  have xc : w.heap.size ≠ c := by have := h.p.lt; omega
  have xg : w.heap.size ≠ gF := by have := h.p.row.lt; omega
  have xx : w.heap.size ≠ x := by have := h.d.lt; omega
  have xd : w.heap.size ≠ gD := by have := h.d.row.lt; omega
  have CON : Calls Tryd.prog 15 #[.pointer (some ⟨c, 0, none⟩), .int .i64 o.at_, .int .i64 o.p, .int .u64 o.x] (w.alloc (opO o pc cc)).drew fun e w1 => e = .returned (.int .i64 (putE st en o.at_ o.p o.x)) ∧ Hid (Cs w1 c 0 gF len capF st (en) hi (putF hi st en fF o.at_ o.p o.x)) ∧ Hid (Cb c 0 gF (w.alloc (opO o pc cc)).drew w1) ∧ Hid (w1.heap[w.heap.size]? = some (opO o pc cc)) ∧ Hid (Calls Tryd.prog 25 #[.pointer (some ⟨x, 1, none⟩), .int .i64 o.at_, .int .i64 o.p, .int .u64 o.x] w1 fun e w2 => e = .returned (.int .i64 (putE st en o.at_ o.p o.x)) ∧ Hid (Cs w2 x 1 gD len capD st (en) hi (putF hi st en fD o.at_ o.p o.x)) ∧ Hid (Cb x 1 gD w1 w2)) := by
    refine (PutCu_any hC.p kC o.at_ o.p o.x ok.x.1 ok.x.2).mono ?_
    rintro e w1 ⟨rfl, P1, P2⟩
    have C1 : Cs w1 c 0 gF len capF st (en) hi (putF hi st en fF o.at_ o.p o.x) := P1
    have D1 : Cb c 0 gF (w.alloc (opO o pc cc)).drew w1 := Cb.of_only P2 hC.p.lt hC.p.ne
    have hd := hC.d.other D1 hC.n1 hC.n2 hC.n3 hC.n4
    refine ⟨rfl, C1, D1, (D1.block _ (lt_of_blk X0) xc xg).trans X0, ?_⟩
    have hq := rPut_any hd o.at_ o.p o.x ok.x.1 ok.x.2
    skip
    refine hq.mono ?_
    rintro e w2 ⟨rfl, P1, P2⟩
    exact ⟨rfl, P1, Cb.of_only P2 hd.lt hd.ne⟩
  have FIN : Hid (∀ w1 w2, Cb c 0 gF (w.alloc (opO o pc cc)).drew w1 → Cs w1 c 0 gF len capF st (en) hi (putF hi st en fF o.at_ o.p o.x) → Cb x 1 gD w1 w2 → Cs w2 x 1 gD len capD st (en) hi (putF hi st en fD o.at_ o.p o.x) → PlP c x gF gD len capF capD st hi fF w (.returned (.bool true)) w2) := fun w1 w2 D1 P1 D2 P2 => pl_fin h hB D1 P1 D2 P2 (putF_agr h.agr _ _ _) (fun j hj => by have W := wi_put (hi := hi) (f := fF) (st := st) h.p.h2 o.at_ o.p o.x; exact W.out j (.inr (Nat.le_trans W.lt hj)))
  have hx := h.ptr
  have x0 := blk_of_cell hx
  have d0 : (o.k == 0) = false := by rw [hk]; rfl
  have d1 : (o.k == 1) = false := by rw [hk]; rfl
  have d2 : (o.k == 2) = true := by rw [hk]; rfl
  clear h hC hB kt kC hk ok
  go_enter Tryd.func9, Tryd.ntmps9
  obtain ⟨p, pI, pN, pC, LT, LH⟩ := clsOp o pc cc w.heap.size X0
  go_wp2_with fail
  have c1 := pC 1 _ rfl
  have c3 := pC 3 _ rfl
  have c4 := pC 4 _ rfl
  refine wp_region_pp p [0, 1, 2, 3, 4, 5, 6, 8, 9, 10, 11, 12, 13, 14, 7, 15, 16, 17] (by kernel_rfl) (by kernel_rfl) (fun _ _ d _ _ h => by cases d <;> exact h) (pI _ X0) ?_
  repeat (first | (refine lx_one rfl ?_; (first | go_big_quiet_skip | (go_big_quiet_want; go_big_quiet_op; go_big_quiet_on)); refine wpQuiet_nil ?_))
  refine lx_call4 ent_cPut CON rfl rfl rfl rfl (by rfl) (fun w1 hR => ?_)
  obtain ⟨C1, D1, Xb, REF⟩ := hR
  refine ⟨⟨⟨w1, pI _ Xb.out⟩, rfl⟩, ?_⟩
  simp only [pts]
  refine lx_call4 ent_rPut REF.out rfl rfl rfl rfl (by rfl) (fun w2 hR => ?_)
  obtain ⟨C2, D2⟩ := hR
  refine ⟨⟨⟨w2, pI _ ((D2.out.block _ (lt_of_blk Xb.out) xx xd).trans Xb.out)⟩, rfl⟩, ?_⟩
  simp only [pts]
  repeat (refine lx_one rfl ?_; (first | go_big_quiet_skip | (go_big_quiet_want; go_big_quiet_op; go_big_quiet_on)); refine wpQuiet_nil ?_)
  refine lx_done ?_
  go_wp2_with fail
  go_ret
  exact FIN.out w1 w2 D1.out C1.out D2.out C2.out
end Go.Proofs.YtgklippjoikadaaDoor
namespace Go.Proofs.YtgklippjoikadaaDoor
open Go.ChangeShapes Go.WideShapes Go.ChangeAt Go.RowKit

set_option maxRecDepth 20000 in
set_option maxHeartbeats 2000000 in
theorem plays_3 {w : World} {x c gF gD len capF capD st en : Nat} {hi : Bool} {fF fD : Nat → Int} (h : Two w c x gF gD len capF capD st en hi fF fD) (kt : KT w) (o : Op1) (pc : Option Addr) (cc : Nat) (ok : OpOk o) (hk : o.k = 3) :
    Calls Tryd.prog 9 #[.pointer (some ⟨x, 0, none⟩), opV o pc cc] w (PlP c x gF gD len capF capD st hi fF w) := by
  have hM := opM_new w o pc cc
  have hB := bel1 w (opO o pc cc)
  have hC := h.below hB
  have kC := kt.below kt.pos hB
  have X0 := heap_al w (opO o pc cc)
  have xc : w.heap.size ≠ c := by have := h.p.lt; omega
  have xg : w.heap.size ≠ gF := by have := h.p.row.lt; omega
  have CON : Calls Tryd.prog 26 #[.pointer (some ⟨c, 0, none⟩), .int .i64 o.at_, .int .i64 o.n] (w.alloc (opO o pc cc)) fun e w1 => e = .returned (.tuple #[.string (chT st en fF o.at_ o.n), .int .i64 (chE st en o.at_ o.n)]) ∧ Hid (Cs w1 c 0 gF len capF st (en) hi (fF)) ∧ Hid (Cb c 0 gF (w.alloc (opO o pc cc)) w1) ∧ Hid (w1.heap[w.heap.size]? = some (opO o pc cc)) ∧ Hid (Calls Tryd.prog 27 #[.pointer (some ⟨x, 1, none⟩), .int .i64 o.at_, .int .i64 o.n] w1 fun e w2 => e = .returned (.tuple #[.string (chT st en fF o.at_ o.n), .int .i64 (chE st en o.at_ o.n)]) ∧ Hid (Cs w2 x 1 gD len capD st (en) hi (fD)) ∧ Hid (Cb x 1 gD w1 w2)) := by
    refine (CharsCu_any hC.p o.at_ o.n ok.n).mono ?_
    rintro e w1 ⟨rfl, P1⟩
    have C1 : Cs w1 c 0 gF len capF st (en) hi (fF) := hC.p.below P1
    have D1 : Cb c 0 gF (w.alloc (opO o pc cc)) w1 := Cb.of_below P1 hC.p.lt
    have hd := hC.d.other D1 hC.n1 hC.n2 hC.n3 hC.n4
    refine ⟨rfl, C1, D1, (D1.block _ (by simp) xc xg).trans X0, ?_⟩
    have hq := rChars_any hd o.at_ o.n ok.n
    rw [← chT_agr hC.agr hC.p.h2] at hq
    refine hq.mono ?_
    rintro e w2 ⟨rfl, P1⟩
    exact ⟨rfl, hd.below P1, Cb.of_below P1 hd.lt⟩
  have FIN : Hid (∀ w1 w2, Cb c 0 gF (w.alloc (opO o pc cc)) w1 → Cs w1 c 0 gF len capF st (en) hi (fF) → Cb x 1 gD w1 w2 → Cs w2 x 1 gD len capD st (en) hi (fD) → PlP c x gF gD len capF capD st hi fF w (.returned (.bool true)) w2) := fun w1 w2 D1 P1 D2 P2 => pl_fin h hB D1 P1 D2 P2 (h.agr) (fun _ _ => rfl)
  have hx := h.ptr
  have x0 := blk_of_cell hx
  have d0 : (o.k == 0) = false := by rw [hk]; rfl
  have d1 : (o.k == 1) = false := by rw [hk]; rfl
  have d2 : (o.k == 2) = false := by rw [hk]; rfl
  have d3 : (o.k == 3) = true := by rw [hk]; rfl
  clear h hC hM hB kt kC hk ok
  generalize chT st en fF o.at_ o.n = G0 at CON FIN
  generalize chE st en o.at_ o.n = G1 at CON FIN
  go_enter Tryd.func9, Tryd.ntmps9
  go_wp2_with (first
    | (go_at_call 26; refine CON.mono ?_; rintro e w1 ⟨rfl, C1, D1, Xb, REF⟩; have X9 := lt_of_blk Xb.out; have c1 : w1.cell? ⟨w.heap.size, 1, none⟩ = _ := cell_at Xb.out 1; have c2 : w1.cell? ⟨w.heap.size, 2, none⟩ = _ := cell_at Xb.out 2;  clear CON)
    | (go_at_call 27; refine REF.out.mono ?_; rintro e w2 ⟨rfl, C2, D2⟩; clear REF))
  go_ret
  exact FIN.out w1 w2 D1.out C1.out D2.out C2.out
end Go.Proofs.YtgklippjoikadaaDoor
