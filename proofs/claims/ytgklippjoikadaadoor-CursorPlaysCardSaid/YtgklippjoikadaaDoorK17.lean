/- CuR. -/
import Derived.Test.YtgklippjoikadaaDoorK16
namespace Go.Proofs.YtgklippjoikadaaDoor
open Go.ChangeShapes Go.WideShapes Go.ChangeAt Go.RowKit

abbrev opO (o : Op1) (pc : Option Addr) (cc : Nat) : Obj := .cells (opC o pc cc).toArray 50
theorem opM_new (w : World) (o : Op1) (pc : Option Addr) (cc : Nat) : OpM (w.alloc (opO o pc cc)) w.heap.size 0 o pc cc := ⟨fun j u hu => by
    rw [Nat.zero_add, cell_at (heap_al _ _) j, List.getElem?_toArray]
    exact hu⟩
/-- What does tells and leaves. -/
def DsP (hi : Bool) (len cap st en c g : Nat) (f : Nat → Int) (o : Op1) (w : World) (e : Ending) (w' : World) : Prop := e = .returned (.tuple #[.int .i64 (opE hi len st en f o), .bool (opW o)]) ∧ Cs w' c 0 g len cap st (opN hi len st en f o) hi (opF hi len st en f o) ∧ Cb c 0 g w w'
/-- The op's block is new: the cursor's work behind it, seen from ahead. -/
theorem cb_new {c o g : Nat} {w W w' : World} (h : Below w.heap.size w W) (hc : c < w.heap.size) (k : Cb c o g W w') : Cb c o g w w' := (Cb.of_below h hc).trans k
theorem blk_of_cell {w : World} {g o : Nat} {v : Value} (h : w.cell? ⟨g, o, none⟩ = some v) : g < w.heap.size := by
  rcases Nat.lt_or_ge g w.heap.size with h1 | h1
  · exact h1
  · simp [World.cell?, Array.getElem?_eq_none h1] at h
set_option maxRecDepth 20000 in
set_option maxHeartbeats 1000000 in
theorem does_0 {w : World} {x c g len cap st en : Nat} {hi : Bool} {f : Nat → Int} (h : Cs w c 0 g len cap st en hi f) (kt : KT w) (_zc : 0 < c) (_zg : 0 < g) (hx : w.cell? ⟨x, 0, none⟩ = some (.pointer (some ⟨c, 0, none⟩))) (o : Op1) (pc : Option Addr) (cc : Nat) (_ok : OpOk o) (hk : o.k = 0) :
    Calls Tryd.prog 22 #[.pointer (some ⟨x, 0, none⟩), opV o pc cc] w (DsP hi len cap st en c g f o w) := by
  have E1 : Hid (opE hi len st en f o = clE len en o.n) := by show opE hi len st en f o = _; unfold opE; rw [hk]; rfl
  have E2 : Hid (opN hi len st en f o = clN len en o.n) := by show opN hi len st en f o = _; unfold opN; rw [hk]; rfl
  have E3 : Hid (opF hi len st en f o = f) := by show opF hi len st en f o = _; unfold opF; rw [hk]; rfl
  have E4 : Hid (opW o = false) := by show opW o = _; unfold opW; rw [hk]; rfl
  have hM := opM_new w o pc cc
  have hB := bel1 w (opO o pc cc)
  have hC := h.below hB
  have kC := kt.below kt.pos hB
  have CON := Claim_any hC o.n
  have x0 := blk_of_cell hx
  have d0 : (o.k == 0) = true := by rw [hk]; rfl
  have H : Hid (Cs w c 0 g len cap st en hi f) := h
  have HC : Hid (Cs (w.alloc (opO o pc cc)) c 0 g len cap st en hi f) := hC
  have HB : Hid (Below w.heap.size w (w.alloc (opO o pc cc))) := hB
  clear h hC hM hB kt kC hk
  go_enter Tryd.func22, Tryd.ntmps22
  go_wp2_with (first
    | (go_at_call 14; refine CON.mono ?_; rintro e w1 ⟨rfl, P1, P2⟩))
  go_ret2
  refine ⟨by rw [E1.out, E4.out]; rfl, ?_, cb_new HB.out H.out.lt (P2)⟩
  rw [E2.out, E3.out]
  exact P1
set_option maxRecDepth 20000 in
set_option maxHeartbeats 1000000 in
theorem does_1 {w : World} {x c g len cap st en : Nat} {hi : Bool} {f : Nat → Int} (h : Cs w c 0 g len cap st en hi f) (kt : KT w) (_zc : 0 < c) (_zg : 0 < g) (hx : w.cell? ⟨x, 0, none⟩ = some (.pointer (some ⟨c, 0, none⟩))) (o : Op1) (pc : Option Addr) (cc : Nat) (_ok : OpOk o) (hk : o.k = 1) :
    Calls Tryd.prog 22 #[.pointer (some ⟨x, 0, none⟩), opV o pc cc] w (DsP hi len cap st en c g f o w) := by
  have E1 : Hid (opE hi len st en f o = getE st en o.at_ o.p) := by show opE hi len st en f o = _; unfold opE; rw [hk]; rfl
  have E2 : Hid (opN hi len st en f o = en) := by show opN hi len st en f o = _; unfold opN; rw [hk]; rfl
  have E3 : Hid (opF hi len st en f o = f) := by show opF hi len st en f o = _; unfold opF; rw [hk]; rfl
  have E4 : Hid (opW o = false) := by show opW o = _; unfold opW; rw [hk]; rfl
  have hM := opM_new w o pc cc
  have hB := bel1 w (opO o pc cc)
  have hC := h.below hB
  have kC := kt.below kt.pos hB
  have CON := GetCu_any hC kC o.at_ o.p
  have x0 := blk_of_cell hx
  have d0 : (o.k == 0) = false := by rw [hk]; rfl
  have d1 : (o.k == 1) = true := by rw [hk]; rfl
  have H : Hid (Cs w c 0 g len cap st en hi f) := h
  have HC : Hid (Cs (w.alloc (opO o pc cc)) c 0 g len cap st en hi f) := hC
  have HB : Hid (Below w.heap.size w (w.alloc (opO o pc cc))) := hB
  clear h hC hM hB kt kC hk
  go_enter Tryd.func22, Tryd.ntmps22
  go_wp2_with (first
    | (go_at_call 19; refine CON.mono ?_; rintro e w1 ⟨rfl, P1⟩))
  go_ret2
  refine ⟨by rw [E1.out, E4.out]; rfl, ?_, cb_new HB.out H.out.lt (Cb.of_below P1 HC.out.lt)⟩
  rw [E2.out, E3.out]
  exact HC.out.below P1
set_option maxRecDepth 20000 in
set_option maxHeartbeats 1000000 in
theorem does_2 {w : World} {x c g len cap st en : Nat} {hi : Bool} {f : Nat → Int} (h : Cs w c 0 g len cap st en hi f) (kt : KT w) (_zc : 0 < c) (_zg : 0 < g) (hx : w.cell? ⟨x, 0, none⟩ = some (.pointer (some ⟨c, 0, none⟩))) (o : Op1) (pc : Option Addr) (cc : Nat) (ok : OpOk o) (hk : o.k = 2) :
    Calls Tryd.prog 22 #[.pointer (some ⟨x, 0, none⟩), opV o pc cc] w (DsP hi len cap st en c g f o w) := by
  have E1 : Hid (opE hi len st en f o = putE st en o.at_ o.p o.x) := by show opE hi len st en f o = _; unfold opE; rw [hk]; rfl
  have E2 : Hid (opN hi len st en f o = en) := by show opN hi len st en f o = _; unfold opN; rw [hk]; rfl
  have E3 : Hid (opF hi len st en f o = putF hi st en f o.at_ o.p o.x) := by show opF hi len st en f o = _; unfold opF; rw [hk]; rfl
  have E4 : Hid (opW o = true) := by show opW o = _; unfold opW; rw [hk]; rfl
  have hM := opM_new w o pc cc
  have hB := bel1 w (opO o pc cc)
  have hC := h.below hB
  have kC := kt.below kt.pos hB
  have CON := PutCu_any hC kC o.at_ o.p o.x ok.x.1 ok.x.2
  have x0 := blk_of_cell hx
  have d0 : (o.k == 0) = false := by rw [hk]; rfl
  have d1 : (o.k == 1) = false := by rw [hk]; rfl
  have d2 : (o.k == 2) = true := by rw [hk]; rfl
  have H : Hid (Cs w c 0 g len cap st en hi f) := h
  have HC : Hid (Cs (w.alloc (opO o pc cc)) c 0 g len cap st en hi f) := hC
  have HB : Hid (Below w.heap.size w (w.alloc (opO o pc cc))) := hB
  clear h hC hM hB kt kC hk
  go_enter Tryd.func22, Tryd.ntmps22
  go_wp2_with (first
    | (go_at_call 15; refine CON.mono ?_; rintro e w1 ⟨rfl, P1, P2⟩))
  go_ret2
  refine ⟨by rw [E1.out, E4.out]; rfl, ?_, cb_new HB.out H.out.lt (Cb.of_only P2 HC.out.lt HC.out.ne)⟩
  rw [E2.out, E3.out]
  exact P1
set_option maxRecDepth 20000 in
set_option maxHeartbeats 1000000 in
theorem does_3 {w : World} {x c g len cap st en : Nat} {hi : Bool} {f : Nat → Int} (h : Cs w c 0 g len cap st en hi f) (kt : KT w) (_zc : 0 < c) (_zg : 0 < g) (hx : w.cell? ⟨x, 0, none⟩ = some (.pointer (some ⟨c, 0, none⟩))) (o : Op1) (pc : Option Addr) (cc : Nat) (ok : OpOk o) (hk : o.k = 3) :
    Calls Tryd.prog 22 #[.pointer (some ⟨x, 0, none⟩), opV o pc cc] w (DsP hi len cap st en c g f o w) := by
  have E1 : Hid (opE hi len st en f o = chE st en o.at_ o.n) := by show opE hi len st en f o = _; unfold opE; rw [hk]; rfl
  have E2 : Hid (opN hi len st en f o = en) := by show opN hi len st en f o = _; unfold opN; rw [hk]; rfl
  have E3 : Hid (opF hi len st en f o = f) := by show opF hi len st en f o = _; unfold opF; rw [hk]; rfl
  have E4 : Hid (opW o = false) := by show opW o = _; unfold opW; rw [hk]; rfl
  have hM := opM_new w o pc cc
  have hB := bel1 w (opO o pc cc)
  have hC := h.below hB
  have kC := kt.below kt.pos hB
  have CON := CharsCu_any hC o.at_ o.n ok.n
  have x0 := blk_of_cell hx
  have d0 : (o.k == 0) = false := by rw [hk]; rfl
  have d1 : (o.k == 1) = false := by rw [hk]; rfl
  have d2 : (o.k == 2) = false := by rw [hk]; rfl
  have d3 : (o.k == 3) = true := by rw [hk]; rfl
  have H : Hid (Cs w c 0 g len cap st en hi f) := h
  have HC : Hid (Cs (w.alloc (opO o pc cc)) c 0 g len cap st en hi f) := hC
  have HB : Hid (Below w.heap.size w (w.alloc (opO o pc cc))) := hB
  clear h hC hM hB kt kC hk
  go_enter Tryd.func22, Tryd.ntmps22
  go_wp2_with (first
    | (go_at_call 26; refine CON.mono ?_; rintro e w1 ⟨rfl, P1⟩))
  go_ret2
  refine ⟨by rw [E1.out, E4.out]; rfl, ?_, cb_new HB.out H.out.lt (Cb.of_below P1 HC.out.lt)⟩
  rw [E2.out, E3.out]
  exact HC.out.below P1
set_option maxRecDepth 20000 in
set_option maxHeartbeats 1000000 in
theorem does_4 {w : World} {x c g len cap st en : Nat} {hi : Bool} {f : Nat → Int} (h : Cs w c 0 g len cap st en hi f) (kt : KT w) (_zc : 0 < c) (_zg : 0 < g) (hx : w.cell? ⟨x, 0, none⟩ = some (.pointer (some ⟨c, 0, none⟩))) (o : Op1) (pc : Option Addr) (cc : Nat) (ok : OpOk o) (hk : o.k = 4) :
    Calls Tryd.prog 22 #[.pointer (some ⟨x, 0, none⟩), opV o pc cc] w (DsP hi len cap st en c g f o w) := by
  have E1 : Hid (opE hi len st en f o = setE st en o.at_ o.n o.s) := by show opE hi len st en f o = _; unfold opE; rw [hk]; rfl
  have E2 : Hid (opN hi len st en f o = en) := by show opN hi len st en f o = _; unfold opN; rw [hk]; rfl
  have E3 : Hid (opF hi len st en f o = setF st en f o.at_ o.n o.s) := by show opF hi len st en f o = _; unfold opF; rw [hk]; rfl
  have E4 : Hid (opW o = true) := by show opW o = _; unfold opW; rw [hk]; rfl
  have hM := opM_new w o pc cc
  have hB := bel1 w (opO o pc cc)
  have hC := h.below hB
  have kC := kt.below kt.pos hB
  have CON := SetCu_any hC o.at_ o.n o.s ok.n
  have x0 := blk_of_cell hx
  have d0 : (o.k == 0) = false := by rw [hk]; rfl
  have d1 : (o.k == 1) = false := by rw [hk]; rfl
  have d2 : (o.k == 2) = false := by rw [hk]; rfl
  have d3 : (o.k == 3) = false := by rw [hk]; rfl
  have d4 : (o.k == 4) = true := by rw [hk]; rfl
  have H : Hid (Cs w c 0 g len cap st en hi f) := h
  have HC : Hid (Cs (w.alloc (opO o pc cc)) c 0 g len cap st en hi f) := hC
  have HB : Hid (Below w.heap.size w (w.alloc (opO o pc cc))) := hB
  clear h hC hM hB kt kC hk
  go_enter Tryd.func22, Tryd.ntmps22
  go_wp2_with (first
    | (go_at_call 28; refine CON.mono ?_; rintro e w1 ⟨rfl, P1, P2⟩))
  go_ret2
  refine ⟨by rw [E1.out, E4.out]; rfl, ?_, cb_new HB.out H.out.lt (Cb.of_only P2 HC.out.lt HC.out.ne)⟩
  rw [E2.out, E3.out]
  exact P1
set_option maxRecDepth 20000 in
set_option maxHeartbeats 1000000 in
theorem does_5 {w : World} {x c g len cap st en : Nat} {hi : Bool} {f : Nat → Int} (h : Cs w c 0 g len cap st en hi f) (kt : KT w) (zc : 0 < c) (zg : 0 < g) (hx : w.cell? ⟨x, 0, none⟩ = some (.pointer (some ⟨c, 0, none⟩))) (o : Op1) (pc : Option Addr) (cc : Nat) (ok : OpOk o) (hk : o.k = 5) :
    Calls Tryd.prog 22 #[.pointer (some ⟨x, 0, none⟩), opV o pc cc] w (DsP hi len cap st en c g f o w) := by
  have E1 : Hid (opE hi len st en f o = pwE (headG o.h) len en o.h.size (hdN o.h o.v)) := by show opE hi len st en f o = _; unfold opE; rw [hk]; rfl
  have E2 : Hid (opN hi len st en f o = pwN (headG o.h) len en o.h.size (hdN o.h o.v)) := by show opN hi len st en f o = _; unfold opN; rw [hk]; rfl
  have E3 : Hid (opF hi len st en f o = pwF (headG o.h) hi len st en f o.h.size (hdN o.h o.v)) := by show opF hi len st en f o = _; unfold opF; rw [hk]; rfl
  have E4 : Hid (opW o = true) := by show opW o = _; unfold opW; rw [hk]; rfl
  have hM := opM_new w o pc cc
  have hB := bel1 w (opO o pc cc)
  have hC := h.below hB
  have kC := kt.below kt.pos hB
  have CON := PutHead_any hC kC zc zg o.h o.v ok.v
  have x0 := blk_of_cell hx
  have d0 : (o.k == 0) = false := by rw [hk]; rfl
  have d1 : (o.k == 1) = false := by rw [hk]; rfl
  have d2 : (o.k == 2) = false := by rw [hk]; rfl
  have d3 : (o.k == 3) = false := by rw [hk]; rfl
  have d4 : (o.k == 4) = false := by rw [hk]; rfl
  have d5 : (o.k == 5) = true := by rw [hk]; rfl
  have H : Hid (Cs w c 0 g len cap st en hi f) := h
  have HC : Hid (Cs (w.alloc (opO o pc cc)) c 0 g len cap st en hi f) := hC
  have HB : Hid (Below w.heap.size w (w.alloc (opO o pc cc))) := hB
  clear h hC hM hB kt kC hk
  go_enter Tryd.func22, Tryd.ntmps22
  go_wp2_with (first
    | (go_at_call 13; refine CON.mono ?_; rintro e w1 ⟨rfl, P1, P2⟩))
  go_ret2
  refine ⟨by rw [E1.out, E4.out]; rfl, ?_, cb_new HB.out H.out.lt (P2)⟩
  rw [E2.out, E3.out]
  exact P1
set_option maxRecDepth 20000 in
set_option maxHeartbeats 1000000 in
theorem does_6 {w : World} {x c g len cap st en : Nat} {hi : Bool} {f : Nat → Int} (h : Cs w c 0 g len cap st en hi f) (kt : KT w) (zc : 0 < c) (zg : 0 < g) (hx : w.cell? ⟨x, 0, none⟩ = some (.pointer (some ⟨c, 0, none⟩))) (o : Op1) (pc : Option Addr) (cc : Nat) (_ok : OpOk o) (hk : o.k = 6) :
    Calls Tryd.prog 22 #[.pointer (some ⟨x, 0, none⟩), opV o pc cc] w (DsP hi len cap st en c g f o w) := by
  have E1 : Hid (opE hi len st en f o = gwE (headG o.h) len en o.h.size) := by show opE hi len st en f o = _; unfold opE; rw [hk]; rfl
  have E2 : Hid (opN hi len st en f o = gwN (headG o.h) len en o.h.size) := by show opN hi len st en f o = _; unfold opN; rw [hk]; rfl
  have E3 : Hid (opF hi len st en f o = f) := by show opF hi len st en f o = _; unfold opF; rw [hk]; rfl
  have E4 : Hid (opW o = false) := by show opW o = _; unfold opW; rw [hk]; rfl
  have hM := opM_new w o pc cc
  have hB := bel1 w (opO o pc cc)
  have hC := h.below hB
  have kC := kt.below kt.pos hB
  have CON := GetHead_any hC kC zc zg o.h
  have x0 := blk_of_cell hx
  have d0 : (o.k == 0) = false := by rw [hk]; rfl
  have d1 : (o.k == 1) = false := by rw [hk]; rfl
  have d2 : (o.k == 2) = false := by rw [hk]; rfl
  have d3 : (o.k == 3) = false := by rw [hk]; rfl
  have d4 : (o.k == 4) = false := by rw [hk]; rfl
  have d5 : (o.k == 5) = false := by rw [hk]; rfl
  have d6 : (o.k == 6) = true := by rw [hk]; rfl
  have H : Hid (Cs w c 0 g len cap st en hi f) := h
  have HC : Hid (Cs (w.alloc (opO o pc cc)) c 0 g len cap st en hi f) := hC
  have HB : Hid (Below w.heap.size w (w.alloc (opO o pc cc))) := hB
  clear h hC hM hB kt kC hk
  go_enter Tryd.func22, Tryd.ntmps22
  go_wp2_with (first
    | (go_at_call 18; refine CON.mono ?_; rintro e w1 ⟨rfl, P1, P2⟩))
  go_ret2
  refine ⟨by rw [E1.out, E4.out]; rfl, ?_, cb_new HB.out H.out.lt (P2)⟩
  rw [E2.out, E3.out]
  exact P1
set_option maxRecDepth 20000 in
set_option maxHeartbeats 1000000 in
theorem does_7 {w : World} {x c g len cap st en : Nat} {hi : Bool} {f : Nat → Int} (h : Cs w c 0 g len cap st en hi f) (kt : KT w) (zc : 0 < c) (zg : 0 < g) (hx : w.cell? ⟨x, 0, none⟩ = some (.pointer (some ⟨c, 0, none⟩))) (o : Op1) (pc : Option Addr) (cc : Nat) (_ok : OpOk o) (hk : o.k = 7) :
    Calls Tryd.prog 22 #[.pointer (some ⟨x, 0, none⟩), opV o pc cc] w (DsP hi len cap st en c g f o w) := by
  have E1 : Hid (opE hi len st en f o = pwE (dimG o.t) len en o.t.siz (dimN o.t o.at_ o.n)) := by show opE hi len st en f o = _; unfold opE; rw [hk]; rfl
  have E2 : Hid (opN hi len st en f o = pwN (dimG o.t) len en o.t.siz (dimN o.t o.at_ o.n)) := by show opN hi len st en f o = _; unfold opN; rw [hk]; rfl
  have E3 : Hid (opF hi len st en f o = pwF (dimG o.t) hi len st en f o.t.siz (dimN o.t o.at_ o.n)) := by show opF hi len st en f o = _; unfold opF; rw [hk]; rfl
  have E4 : Hid (opW o = true) := by show opW o = _; unfold opW; rw [hk]; rfl
  have hM := opM_new w o pc cc
  have hB := bel1 w (opO o pc cc)
  have hC := h.below hB
  have kC := kt.below kt.pos hB
  have CON := PutDim_any hC kC zc zg o.t pc cc o.at_ o.n
  have x0 := blk_of_cell hx
  have d0 : (o.k == 0) = false := by rw [hk]; rfl
  have d1 : (o.k == 1) = false := by rw [hk]; rfl
  have d2 : (o.k == 2) = false := by rw [hk]; rfl
  have d3 : (o.k == 3) = false := by rw [hk]; rfl
  have d4 : (o.k == 4) = false := by rw [hk]; rfl
  have d5 : (o.k == 5) = false := by rw [hk]; rfl
  have d6 : (o.k == 6) = false := by rw [hk]; rfl
  have d7 : (o.k == 7) = true := by rw [hk]; rfl
  have LD := hM.tk.load
  rw [Nat.zero_add] at LD
  have H : Hid (Cs w c 0 g len cap st en hi f) := h
  have HC : Hid (Cs (w.alloc (opO o pc cc)) c 0 g len cap st en hi f) := hC
  have HB : Hid (Below w.heap.size w (w.alloc (opO o pc cc))) := hB
  clear h hC hM hB kt kC hk
  go_enter Tryd.func22, Tryd.ntmps22
  go_wp2_with (first
    | (guard_target =~ wpList _ _ _ (Oper.mk _ (Op.load 48 _) _ _ _ _ :: _) _ _; go_must (refine wpList_ld 48 _ rfl rfl _ _ rfl LD ?_); simp only [pts])
    | (go_at_call 16; refine CON.mono ?_; rintro e w1 ⟨rfl, P1, P2⟩))
  go_ret2
  refine ⟨by rw [E1.out, E4.out]; rfl, ?_, cb_new HB.out H.out.lt (P2)⟩
  rw [E2.out, E3.out]
  exact P1
set_option maxRecDepth 20000 in
set_option maxHeartbeats 1000000 in
theorem does_8 {w : World} {x c g len cap st en : Nat} {hi : Bool} {f : Nat → Int} (h : Cs w c 0 g len cap st en hi f) (kt : KT w) (zc : 0 < c) (zg : 0 < g) (hx : w.cell? ⟨x, 0, none⟩ = some (.pointer (some ⟨c, 0, none⟩))) (o : Op1) (pc : Option Addr) (cc : Nat) (_ok : OpOk o) (hk : o.k = 8) :
    Calls Tryd.prog 22 #[.pointer (some ⟨x, 0, none⟩), opV o pc cc] w (DsP hi len cap st en c g f o w) := by
  have E1 : Hid (opE hi len st en f o = gwE (dimG o.t) len en o.t.siz) := by show opE hi len st en f o = _; unfold opE; rw [hk]; rfl
  have E2 : Hid (opN hi len st en f o = gwN (dimG o.t) len en o.t.siz) := by show opN hi len st en f o = _; unfold opN; rw [hk]; rfl
  have E3 : Hid (opF hi len st en f o = f) := by show opF hi len st en f o = _; unfold opF; rw [hk]; rfl
  have E4 : Hid (opW o = false) := by show opW o = _; unfold opW; rw [hk]; rfl
  have hM := opM_new w o pc cc
  have hB := bel1 w (opO o pc cc)
  have hC := h.below hB
  have kC := kt.below kt.pos hB
  have CON := GetDim_any hC kC zc zg o.t pc cc
  have x0 := blk_of_cell hx
  have d0 : (o.k == 0) = false := by rw [hk]; rfl
  have d1 : (o.k == 1) = false := by rw [hk]; rfl
  have d2 : (o.k == 2) = false := by rw [hk]; rfl
  have d3 : (o.k == 3) = false := by rw [hk]; rfl
  have d4 : (o.k == 4) = false := by rw [hk]; rfl
  have d5 : (o.k == 5) = false := by rw [hk]; rfl
  have d6 : (o.k == 6) = false := by rw [hk]; rfl
  have d7 : (o.k == 7) = false := by rw [hk]; rfl
  have d8 : (o.k == 8) = true := by rw [hk]; rfl
  have LD := hM.tk.load
  rw [Nat.zero_add] at LD
  have H : Hid (Cs w c 0 g len cap st en hi f) := h
  have HC : Hid (Cs (w.alloc (opO o pc cc)) c 0 g len cap st en hi f) := hC
  have HB : Hid (Below w.heap.size w (w.alloc (opO o pc cc))) := hB
  clear h hC hM hB kt kC hk
  go_enter Tryd.func22, Tryd.ntmps22
  go_wp2_with (first
    | (guard_target =~ wpList _ _ _ (Oper.mk _ (Op.load 48 _) _ _ _ _ :: _) _ _; go_must (refine wpList_ld 48 _ rfl rfl _ _ rfl LD ?_); simp only [pts])
    | (go_at_call 20; refine CON.mono ?_; rintro e w1 ⟨rfl, P1, P2⟩))
  go_ret2
  refine ⟨by rw [E1.out, E4.out]; rfl, ?_, cb_new HB.out H.out.lt (P2)⟩
  rw [E2.out, E3.out]
  exact P1
set_option maxRecDepth 20000 in
set_option maxHeartbeats 1000000 in
theorem does_9 {w : World} {x c g len cap st en : Nat} {hi : Bool} {f : Nat → Int} (h : Cs w c 0 g len cap st en hi f) (kt : KT w) (zc : 0 < c) (zg : 0 < g) (hx : w.cell? ⟨x, 0, none⟩ = some (.pointer (some ⟨c, 0, none⟩))) (o : Op1) (pc : Option Addr) (cc : Nat) (ok : OpOk o) (hk : o.k = 9) :
    Calls Tryd.prog 22 #[.pointer (some ⟨x, 0, none⟩), opV o pc cc] w (DsP hi len cap st en c g f o w) := by
  have E1 : Hid (opE hi len st en f o = pdE len en o.t o.s.size) := by show opE hi len st en f o = _; unfold opE; rw [hk]; rfl
  have E2 : Hid (opN hi len st en f o = pdN len en o.t o.s.size) := by show opN hi len st en f o = _; unfold opN; rw [hk]; rfl
  have E3 : Hid (opF hi len st en f o = pdF hi len st en f o.t o.s) := by show opF hi len st en f o = _; unfold opF; rw [hk]; rfl
  have E4 : Hid (opW o = true) := by show opW o = _; unfold opW; rw [hk]; rfl
  have hM := opM_new w o pc cc
  have hB := bel1 w (opO o pc cc)
  have hC := h.below hB
  have kC := kt.below kt.pos hB
  have CON := PutData_any hC kC zc zg o.t pc cc o.s ok.s
  have x0 := blk_of_cell hx
  have d0 : (o.k == 0) = false := by rw [hk]; rfl
  have d1 : (o.k == 1) = false := by rw [hk]; rfl
  have d2 : (o.k == 2) = false := by rw [hk]; rfl
  have d3 : (o.k == 3) = false := by rw [hk]; rfl
  have d4 : (o.k == 4) = false := by rw [hk]; rfl
  have d5 : (o.k == 5) = false := by rw [hk]; rfl
  have d6 : (o.k == 6) = false := by rw [hk]; rfl
  have d7 : (o.k == 7) = false := by rw [hk]; rfl
  have d8 : (o.k == 8) = false := by rw [hk]; rfl
  have d9 : (o.k == 9) = true := by rw [hk]; rfl
  have LD := hM.tk.load
  rw [Nat.zero_add] at LD
  have H : Hid (Cs w c 0 g len cap st en hi f) := h
  have HC : Hid (Cs (w.alloc (opO o pc cc)) c 0 g len cap st en hi f) := hC
  have HB : Hid (Below w.heap.size w (w.alloc (opO o pc cc))) := hB
  clear h hC hM hB kt kC hk
  go_enter Tryd.func22, Tryd.ntmps22
  go_wp2_with (first
    | (guard_target =~ wpList _ _ _ (Oper.mk _ (Op.load 48 _) _ _ _ _ :: _) _ _; go_must (refine wpList_ld 48 _ rfl rfl _ _ rfl LD ?_); simp only [pts])
    | (go_at_call 17; refine CON.mono ?_; rintro e w1 ⟨rfl, P1, P2⟩))
  go_ret2
  refine ⟨by rw [E1.out, E4.out]; rfl, ?_, cb_new HB.out H.out.lt (P2)⟩
  rw [E2.out, E3.out]
  exact P1
set_option maxRecDepth 20000 in
set_option maxHeartbeats 1000000 in
theorem does_10 {w : World} {x c g len cap st en : Nat} {hi : Bool} {f : Nat → Int} (h : Cs w c 0 g len cap st en hi f) (kt : KT w) (zc : 0 < c) (zg : 0 < g) (hx : w.cell? ⟨x, 0, none⟩ = some (.pointer (some ⟨c, 0, none⟩))) (o : Op1) (pc : Option Addr) (cc : Nat) (_ok : OpOk o) (hk : o.k = 10) :
    Calls Tryd.prog 22 #[.pointer (some ⟨x, 0, none⟩), opV o pc cc] w (DsP hi len cap st en c g f o w) := by
  have E1 : Hid (opE hi len st en f o = gdE hi len st en f o.t) := by show opE hi len st en f o = _; unfold opE; rw [hk]; rfl
  have E2 : Hid (opN hi len st en f o = gdN hi len st en f o.t) := by show opN hi len st en f o = _; unfold opN; rw [hk]; rfl
  have E3 : Hid (opF hi len st en f o = f) := by show opF hi len st en f o = _; unfold opF; rw [hk]; rfl
  have E4 : Hid (opW o = false) := by show opW o = _; unfold opW; rw [hk]; rfl
  have hM := opM_new w o pc cc
  have hB := bel1 w (opO o pc cc)
  have hC := h.below hB
  have kC := kt.below kt.pos hB
  have CON := GetData_any hC kC zc zg o.t pc cc
  have x0 := blk_of_cell hx
  have d0 : (o.k == 0) = false := by rw [hk]; rfl
  have d1 : (o.k == 1) = false := by rw [hk]; rfl
  have d2 : (o.k == 2) = false := by rw [hk]; rfl
  have d3 : (o.k == 3) = false := by rw [hk]; rfl
  have d4 : (o.k == 4) = false := by rw [hk]; rfl
  have d5 : (o.k == 5) = false := by rw [hk]; rfl
  have d6 : (o.k == 6) = false := by rw [hk]; rfl
  have d7 : (o.k == 7) = false := by rw [hk]; rfl
  have d8 : (o.k == 8) = false := by rw [hk]; rfl
  have d9 : (o.k == 9) = false := by rw [hk]; rfl
  have d10 : (o.k == 10) = true := by rw [hk]; rfl
  have LD := hM.tk.load
  rw [Nat.zero_add] at LD
  have H : Hid (Cs w c 0 g len cap st en hi f) := h
  have HC : Hid (Cs (w.alloc (opO o pc cc)) c 0 g len cap st en hi f) := hC
  have HB : Hid (Below w.heap.size w (w.alloc (opO o pc cc))) := hB
  clear h hC hM hB kt kC hk
  go_enter Tryd.func22, Tryd.ntmps22
  go_wp2_with (first
    | (guard_target =~ wpList _ _ _ (Oper.mk _ (Op.load 48 _) _ _ _ _ :: _) _ _; go_must (refine wpList_ld 48 _ rfl rfl _ _ rfl LD ?_); simp only [pts])
    | (go_at_call 21; refine CON.mono ?_; rintro e w1 ⟨rfl, P1, P2⟩))
  go_ret2
  refine ⟨by rw [E1.out, E4.out]; rfl, ?_, cb_new HB.out H.out.lt (P2)⟩
  rw [E2.out, E3.out]
  exact P1
theorem does_no {w : World} {x c g len cap st en : Nat} {hi : Bool} {f : Nat → Int} (h : Cs w c 0 g len cap st en hi f) (hx : w.cell? ⟨x, 0, none⟩ = some (.pointer (some ⟨c, 0, none⟩))) (o : Op1) (pc : Option Addr) (cc : Nat) (hk : o.k < 0 ∨ 11 ≤ o.k) :
    Calls Tryd.prog 22 #[.pointer (some ⟨x, 0, none⟩), opV o pc cc] w (DsP hi len cap st en c g f o w) := by
  have E1 : Hid (opE hi len st en f o = 0) := by
    show opE hi len st en f o = _
    unfold opE
    rw [if_neg (by omega), if_neg (by omega), if_neg (by omega), if_neg (by omega), if_neg (by omega), if_neg (by omega), if_neg (by omega), if_neg (by omega), if_neg (by omega), if_neg (by omega), if_neg (by omega)]
  have E2 : Hid (opN hi len st en f o = en) := by
    show opN hi len st en f o = _
    unfold opN
    rw [if_neg (by omega), if_neg (by omega), if_neg (by omega), if_neg (by omega), if_neg (by omega), if_neg (by omega), if_neg (by omega)]
  have E3 : Hid (opF hi len st en f o = f) := by
    show opF hi len st en f o = _
    unfold opF
    rw [if_neg (by omega), if_neg (by omega), if_neg (by omega), if_neg (by omega), if_neg (by omega)]
  have E4 : Hid (opW o = false) := by
    show opW o = _
    unfold opW
    exact decide_eq_false (by omega)
  have d0 : (o.k == 0) = false := by simp; omega
  have d1 : (o.k == 1) = false := by simp; omega
  have d2 : (o.k == 2) = false := by simp; omega
  have d3 : (o.k == 3) = false := by simp; omega
  have d4 : (o.k == 4) = false := by simp; omega
  have d5 : (o.k == 5) = false := by simp; omega
  have d6 : (o.k == 6) = false := by simp; omega
  have d7 : (o.k == 7) = false := by simp; omega
  have d8 : (o.k == 8) = false := by simp; omega
  have d9 : (o.k == 9) = false := by simp; omega
  have d10 : (o.k == 10) = false := by simp; omega
  have x0 := blk_of_cell hx
  have H : Hid (Cs w c 0 g len cap st en hi f) := h
  clear h hk
  go_enter Tryd.func22, Tryd.ntmps22
  go_wp2_with fail
  go_ret2
  refine ⟨by rw [E1.out, E4.out]; rfl, ?_, Cb.of_below (bel1 _ _) H.out.lt⟩
  rw [E2.out, E3.out]
  exact H.out.below (bel1 _ _)
theorem does_any {w : World} {x c g len cap st en : Nat} {hi : Bool} {f : Nat → Int} (h : Cs w c 0 g len cap st en hi f) (kt : KT w) (zc : 0 < c) (zg : 0 < g) (hx : w.cell? ⟨x, 0, none⟩ = some (.pointer (some ⟨c, 0, none⟩))) (o : Op1) (pc : Option Addr) (cc : Nat) (ok : OpOk o) :
    Calls Tryd.prog 22 #[.pointer (some ⟨x, 0, none⟩), opV o pc cc] w (DsP hi len cap st en c g f o w) := by
  have hk : (o.k < 0 ∨ 11 ≤ o.k) ∨ o.k = 0 ∨ o.k = 1 ∨ o.k = 2 ∨ o.k = 3 ∨ o.k = 4 ∨ o.k = 5 ∨ o.k = 6 ∨ o.k = 7 ∨ o.k = 8 ∨ o.k = 9 ∨ o.k = 10 := by omega
  rcases hk with hk | hk | hk | hk | hk | hk | hk | hk | hk | hk | hk | hk
  · exact does_no h hx o pc cc hk
  · exact does_0 h kt zc zg hx o pc cc ok hk
  · exact does_1 h kt zc zg hx o pc cc ok hk
  · exact does_2 h kt zc zg hx o pc cc ok hk
  · exact does_3 h kt zc zg hx o pc cc ok hk
  · exact does_4 h kt zc zg hx o pc cc ok hk
  · exact does_5 h kt zc zg hx o pc cc ok hk
  · exact does_6 h kt zc zg hx o pc cc ok hk
  · exact does_7 h kt zc zg hx o pc cc ok hk
  · exact does_8 h kt zc zg hx o pc cc ok hk
  · exact does_9 h kt zc zg hx o pc cc ok hk
  · exact does_10 h kt zc zg hx o pc cc ok hk
end Go.Proofs.YtgklippjoikadaaDoor
