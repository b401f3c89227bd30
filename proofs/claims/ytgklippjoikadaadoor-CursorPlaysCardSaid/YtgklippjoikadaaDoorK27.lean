/- CuRp, CuRe. -/
import Derived.Test.YtgklippjoikadaaDoorK26
import Derived.Test.YtgklippjoikadaaDoorK14
import Derived.Test.YtgklippjoikadaaDoorK18
import Derived.Test.YtgklippjoikadaaDoorK09
namespace Go.Proofs.YtgklippjoikadaaDoor
open Go.ChangeShapes Go.WideShapes Go.ChangeAt Go.RowKit

theorem set_blk {W : World} {b i : Nat} {cs : Array Value} {ty : TypeId} (h : W.heap[b]? = some (.cells cs ty)) (u : Value) : (W.setCell ⟨b, i, none⟩ u).heap[b]? = some (.cells (cs.setIfInBounds i u) ty) := by
  show (W.heap.modify b _)[b]? = _
  rw [Array.getElem?_modify, if_pos rfl, h]
  rfl
theorem lt_of_blk {W : World} {g : Nat} {o : Obj} (h : W.heap[g]? = some o) : g < W.heap.size := (Array.getElem?_eq_some_iff.1 h).1
theorem set_oth {W : World} {b i k : Nat} {u : Value} (h : k ≠ b) : (W.setCell ⟨b, i, none⟩ u).heap[k]? = W.heap[k]? := Below.heap_setCell W _ _ k h
/-- A store of one word into a block of words. -/
theorem st_word {W : World} {b i : Nat} {x y : Int} (h : W.cell? ⟨b, i, none⟩ = some (.int .u64 y)) (hf : W.frozen? ⟨b, i, none⟩ = false) : (Instr.storeAt 38 (.pointer (some ⟨b, i, none⟩)) (.int .u64 x)).run Tryd.prog W = .ok () (W.setCell ⟨b, i, none⟩ (.int .u64 x)) := by
  simp [go_sem, h, hf]
theorem froz_of {W : World} {b i : Nat} {cs : Array Value} {ty : TypeId} (h : W.heap[b]? = some (.cells cs ty)) : W.frozen? ⟨b, i, none⟩ = false := by simp only [World.frozen?, h]; rfl
set_option maxRecDepth 20000 in
set_option maxHeartbeats 2000000 in
theorem rGetHead_any {w : World} {c g len cap st en : Nat} {hi : Bool} {f : Nat → Int} (h : Cs w c 1 g len cap st en hi f) (d : Hd) :
    Calls Tryd.prog 31 #[.pointer (some ⟨c, 1, none⟩), hdV d] w fun e w' => e = .returned (.tuple #[.agg #[.int .u64 (gwV (headG d) hi len st en f d.size (d.b.p, d.b.o)), .int .u64 (gwV (headG d) hi len st en f d.size (d.t.p, d.t.o)), .int .u64 (gwV (headG d) hi len st en f d.size (d.s.p, d.s.o)), .int .u64 (gwV (headG d) hi len st en f d.size (d.v.p, d.v.o))], .int .i64 (gwE (headG d) len en d.size)]) ∧ Cs w' c 1 g len cap st (gwN (headG d) len en d.size) hi f ∧ Cb c 1 g w w' := by
  have G := fun W => rGoodHead_any d W
  have B0 : Hid (((w.alloc (.cells #[.int .i64 d.size, .int .i64 d.b.p, .int .i64 d.b.o, .int .i64 d.t.p, .int .i64 d.t.o, .int .i64 d.s.p, .int .i64 d.s.o, .int .i64 d.v.p, .int .i64 d.v.o] 42)).alloc (.cells #[.int .u64 0, .int .u64 0, .int .u64 0, .int .u64 0] 81)).heap[w.heap.size]? = some (rhO d)) := two_1 w (rhO d) (rfO ⟨0, 0, 0, 0⟩)
  have B1 : Hid (((w.alloc (.cells #[.int .i64 d.size, .int .i64 d.b.p, .int .i64 d.b.o, .int .i64 d.t.p, .int .i64 d.t.o, .int .i64 d.s.p, .int .i64 d.s.o, .int .i64 d.v.p, .int .i64 d.v.o] 42)).alloc (.cells #[.int .u64 0, .int .u64 0, .int .u64 0, .int .u64 0] 81)).heap[w.heap.size + 1]? = some (rfO ⟨0, 0, 0, 0⟩)) := two_2 w (rhO d) (rfO ⟨0, 0, 0, 0⟩)
  unfold gwV gwE gwN
  have H : Hid (Cs w c 1 g len cap st en hi f) := h
  have h2 := h.h2
  have h4 := h.h4
  have xc : w.heap.size ≠ c := by have := h.lt; omega
  have xg : w.heap.size ≠ g := by have := h.row.lt; omega
  have xc1 : w.heap.size + 1 ≠ c := by have := h.lt; omega
  have xg1 : w.heap.size + 1 ≠ g := by have := h.row.lt; omega
  have S : Hid (∀ w1, Below ((w.alloc (.cells #[.int .i64 d.size, .int .i64 d.b.p, .int .i64 d.b.o, .int .i64 d.t.p, .int .i64 d.t.o, .int .i64 d.s.p, .int .i64 d.s.o, .int .i64 d.v.p, .int .i64 d.v.o] 42)).alloc (.cells #[.int .u64 0, .int .u64 0, .int .u64 0, .int .u64 0] 81)).heap.size ((w.alloc (.cells #[.int .i64 d.size, .int .i64 d.b.p, .int .i64 d.b.o, .int .i64 d.t.p, .int .i64 d.t.o, .int .i64 d.s.p, .int .i64 d.s.o, .int .i64 d.v.p, .int .i64 d.v.o] 42)).alloc (.cells #[.int .u64 0, .int .u64 0, .int .u64 0, .int .u64 0] 81)) w1 → w1.heap[w.heap.size]? = some (rhO d) ∧ w1.heap[w.heap.size + 1]? = some (rfO ⟨0, 0, 0, 0⟩)) := fun w1 hb => ⟨(hb.block _ (by simp; omega)).trans B0.out, (hb.block _ (by simp)).trans B1.out⟩
  cases hg : headG d with
  | false =>
    rw [hg] at G
    clear h
    have e0 : (if false = true then clE len en d.size else 1) = 1 := rfl
    rw [e0, if_neg (by decide), if_neg (by decide), if_neg (by decide), if_neg (by decide), if_neg (by decide)]
    clear e0
    go_enter Tryd.func31, Tryd.ntmps31
    go_wp2_with (go_at_call 56; refine (G _).mono ?_; rintro e w1 ⟨rfl, hb1⟩; obtain ⟨k1, l1⟩ := S.out w1 hb1; replace l1 : Hid _ := l1; obtain ⟨z2, y0, y1, y2, y3⟩ := rf_cells _ l1.out; have fz : ∀ i, w1.frozen? ⟨w.heap.size + 1, i, none⟩ = false := fun i => froz_of l1.out)
    obtain ⟨r0, r1, r2, r3⟩ := four_set (W := w1) (b := w.heap.size + 1) (v0 := (.int .u64 0)) (v1 := (.int .u64 0)) (v2 := (.int .u64 0)) (v3 := (.int .u64 0)) (u0 := .int .u64 0) (u1 := .int .u64 0) (u2 := .int .u64 0) (u3 := .int .u64 0) y0 y1 y2 y3
    have R1 := H.out.below (belT (bel2 _ _ _) hb1)
    have R2 := Cb.of_below (c := c) (o := 1) (g := g) (belT (bel2 _ _ _) hb1) H.out.lt
    exact bodyPost_ret (v := .tuple #[.agg #[.int .u64 0, .int .u64 0, .int .u64 0, .int .u64 0], .int .i64 1]) (by simp [results, Tryd.results31, go_sem, r0, r1, r2, r3]) rfl ⟨rfl, (((R1.set xc1 xg1).set xc1 xg1).set xc1 xg1).set xc1 xg1, (((R2.set (by omega) xc1 xg1).set (by omega) xc1 xg1).set (by omega) xc1 xg1).set (by omega) xc1 xg1⟩
  | true =>
    rw [hg] at G
    obtain ⟨hsz, hsp⟩ := goods_ok hg
    have o1 := goodB_off (hsp (d.b.p, d.b.o) (by simp [hdS])) hsz.2
    have o2 := goodB_off (hsp (d.t.p, d.t.o) (by simp [hdS])) hsz.2
    have o3 := goodB_off (hsp (d.s.p, d.s.o) (by simp [hdS])) hsz.2
    have o4 := goodB_off (hsp (d.v.p, d.v.o) (by simp [hdS])) hsz.2
    dsimp only at o1 o2 o3 o4
    have CL := fun W (hW : Below w.heap.size w W) => rClaim_any (h.below hW) d.size
    clear h hsp hg
    rw [if_pos rfl, if_pos rfl]
    have hclP : clE len en d.size = 0 → clP len en d.size = en := fun e => by unfold clP; rw [if_pos e]
    generalize clP len en d.size = P at CL hclP
    generalize clN len en d.size = N at CL ⊢
    generalize clE len en d.size = E at CL hclP ⊢
    by_cases hE : E = 0
    · obtain rfl := hclP hE
      subst hE
      clear hclP
      rw [if_pos rfl, if_pos rfl, if_pos rfl, if_pos rfl]
      go_enter Tryd.func31, Tryd.ntmps31
      have F1 : Hid (1 = 1) := rfl
      have F2 : Hid (1 = 1) := rfl
      have F3 : Hid (1 = 1) := rfl
      have M1 : Hid (1 = 1) := rfl
      have M2 : Hid (1 = 1) := rfl
      have M3 : Hid (1 = 1) := rfl
      have hGf : ∃ g0 g1 g2 g3, getW hi st N f (en + d.b.o) d.b.p = g0 ∧ getW hi st N f (en + d.t.o) d.t.p = g1 ∧ getW hi st N f (en + d.s.o) d.s.p = g2 ∧ getW hi st N f (en + d.v.o) d.v.p = g3 := ⟨_, _, _, _, rfl, rfl, rfl, rfl⟩
      obtain ⟨g0, g1, g2, g3, e0, e1, e2, e3⟩ := hGf
      rw [e0, e1, e2, e3]
      have GT := fun W p o (hW : Cs W c 1 g len cap st N hi f) => rGet_any hW ((en : Int) + o) p
      have GT0 : Hid (∀ W, Cs W c 1 g len cap st N hi f → Calls Tryd.prog 24 #[.pointer (some ⟨c, 1, none⟩), .int .i64 (en + d.b.o), .int .i64 d.b.p] W fun e w' => e = .returned (.tuple #[.int .u64 g0, .int .i64 (getE st N (en + d.b.o) d.b.p)]) ∧ Below W.heap.size W w') := fun W hW => e0 ▸ GT W _ _ hW
      have GT1 : Hid (∀ W, Cs W c 1 g len cap st N hi f → Calls Tryd.prog 24 #[.pointer (some ⟨c, 1, none⟩), .int .i64 (en + d.t.o), .int .i64 d.t.p] W fun e w' => e = .returned (.tuple #[.int .u64 g1, .int .i64 (getE st N (en + d.t.o) d.t.p)]) ∧ Below W.heap.size W w') := fun W hW => e1 ▸ GT W _ _ hW
      have GT2 : Hid (∀ W, Cs W c 1 g len cap st N hi f → Calls Tryd.prog 24 #[.pointer (some ⟨c, 1, none⟩), .int .i64 (en + d.s.o), .int .i64 d.s.p] W fun e w' => e = .returned (.tuple #[.int .u64 g2, .int .i64 (getE st N (en + d.s.o) d.s.p)]) ∧ Below W.heap.size W w') := fun W hW => e2 ▸ GT W _ _ hW
      have GT3 : Hid (∀ W, Cs W c 1 g len cap st N hi f → Calls Tryd.prog 24 #[.pointer (some ⟨c, 1, none⟩), .int .i64 (en + d.v.o), .int .i64 d.v.p] W fun e w' => e = .returned (.tuple #[.int .u64 g3, .int .i64 (getE st N (en + d.v.o) d.v.p)]) ∧ Below W.heap.size W w') := fun W hW => e3 ▸ GT W _ _ hW
      clear GT e0 e1 e2 e3
      go_wp2_with (first
        | (go_at_call 56; refine (G _).mono ?_; rintro e w1 ⟨rfl, hb1⟩; obtain ⟨k1, l1⟩ := S.out w1 hb1; replace k1 : Hid _ := k1; replace l1 : Hid _ := l1; obtain ⟨z1, q0, q1, q2, q3, q4, q5, q6, q7, q8⟩ := rh_cells d k1.out; have hb2 : Hid (Below w.heap.size w w1) := belT (bel2 _ _ _) hb1; have CL1 := CL w1 hb2.out; clear hb1)
        | (go_at_call 23; refine CL1.mono ?_; rintro _ w2 ⟨rfl, C2, D2⟩; have N0 : w.heap.size + 2 ≤ w2.heap.size := (by have := (lt_of_blk l1.out); have := D2.size; omega); have k2 : Hid ((w2.alloc (rfO ⟨0, 0, 0, 0⟩)).heap[w.heap.size]? = some (rhO d)) := ((bel1 _ _).block _ (by omega)).trans ((D2.block _ z1 xc xg).trans k1.out); have l2 : Hid ((w2.alloc (rfO ⟨0, 0, 0, 0⟩)).heap[w.heap.size + 1]? = some (rfO ⟨0, 0, 0, 0⟩)) := ((bel1 _ _).block _ (by omega)).trans ((D2.block _ (lt_of_blk l1.out) xc1 xg1).trans l1.out); have m2 : Hid ((w2.alloc (rfO ⟨0, 0, 0, 0⟩)).heap[w2.heap.size]? = some (rfO ⟨0, 0, 0, 0⟩)) := heap_al _ _; obtain ⟨y1, p0, p1, p2, p3, p4, p5, p6, p7, p8⟩ := rh_cells d k2.out; have G0 := GT0.out _ (C2.below (bel1 _ (rfO ⟨0, 0, 0, 0⟩))); have zs : w1.heap.size ≤ w2.heap.size := D2.size; have Nc : w2.heap.size ≠ c := (by have := C2.lt; omega); have Ng : w2.heap.size ≠ g := (by have := C2.row.lt; omega); have C3 : Hid _ := C2.below (bel1 _ (rfO ⟨0, 0, 0, 0⟩)); have D3 : Hid _ := D2.trans (Cb.of_below (bel1 w2 (rfO ⟨0, 0, 0, 0⟩)) C2.lt); clear C2 D2))
      refine G0.mono ?_
      rintro _ w3 ⟨rfl, hb⟩
      have ka : Hid (w3.heap[w.heap.size]? = some (rhO d)) := (hb.block _ (lt_of_blk k2.out)).trans k2.out
      have la : Hid (w3.heap[w.heap.size + 1]? = some (rfO ⟨0, 0, 0, 0⟩)) := (hb.block _ (lt_of_blk l2.out)).trans l2.out
      have ma : Hid (w3.heap[w2.heap.size]? = some (rfO ⟨0, 0, 0, 0⟩)) := (hb.block _ (lt_of_blk m2.out)).trans m2.out
      have Ca : Hid _ := C3.out.below hb
      have Da : Hid _ := D3.out.trans (Cb.of_below hb C3.out.lt)
      clear hb
      have s0 := st_word (x := g0) (cell_at ma.out 0) (froz_of (i := 0) ma.out)
      obtain ⟨w4, hw0⟩ : ∃ X, w3.setCell ⟨w2.heap.size, 0, none⟩ (.int .u64 g0) = X := ⟨_, rfl⟩
      have k3 : Hid (w4.heap[w.heap.size]? = some (rhO d)) := hw0 ▸ (set_oth (by omega)).trans ka.out
      have l3 : Hid (w4.heap[w.heap.size + 1]? = some (rfO ⟨0, 0, 0, 0⟩)) := hw0 ▸ (set_oth (by omega)).trans la.out
      have m3 : Hid (w4.heap[w2.heap.size]? = some (rfO ⟨g0, 0, 0, 0⟩)) := hw0 ▸ set_blk ma.out _
      have C4 : Hid (Cs w4 c 1 g len cap st N hi f) := hw0 ▸ Ca.out.set Nc Ng
      have D4 : Hid (Cb c 1 g w1 w4) := hw0 ▸ Da.out.set (by omega) Nc Ng
      rw [hw0] at s0
      obtain ⟨x0, x00, x01, x02, x03, x04, x05, x06, x07, x08⟩ := rh_cells d k3.out
      have G1 := GT1.out _ C4.out
      clear ka la ma Ca Da hw0
      go_wp2_with (guard_target =~ wpList _ _ _ (Oper.mk _ (Op.store 38 _ _) _ _ _ _ :: _) _ _; go_must (refine wpList_st 38 _ _ rfl rfl _ _ rfl rfl s0 ?_); simp only [pts])
      refine G1.mono ?_
      rintro _ w5 ⟨rfl, hb⟩
      have ka : Hid (w5.heap[w.heap.size]? = some (rhO d)) := (hb.block _ (lt_of_blk k3.out)).trans k3.out
      have la : Hid (w5.heap[w.heap.size + 1]? = some (rfO ⟨0, 0, 0, 0⟩)) := (hb.block _ (lt_of_blk l3.out)).trans l3.out
      have ma : Hid (w5.heap[w2.heap.size]? = some (rfO ⟨g0, 0, 0, 0⟩)) := (hb.block _ (lt_of_blk m3.out)).trans m3.out
      have Ca : Hid _ := C4.out.below hb
      have Da : Hid _ := D4.out.trans (Cb.of_below hb C4.out.lt)
      clear hb
      have s1 := st_word (x := g1) (cell_at ma.out 1) (froz_of (i := 1) ma.out)
      obtain ⟨w6, hw1⟩ : ∃ X, w5.setCell ⟨w2.heap.size, 1, none⟩ (.int .u64 g1) = X := ⟨_, rfl⟩
      have k4 : Hid (w6.heap[w.heap.size]? = some (rhO d)) := hw1 ▸ (set_oth (by omega)).trans ka.out
      have l4 : Hid (w6.heap[w.heap.size + 1]? = some (rfO ⟨0, 0, 0, 0⟩)) := hw1 ▸ (set_oth (by omega)).trans la.out
      have m4 : Hid (w6.heap[w2.heap.size]? = some (rfO ⟨g0, g1, 0, 0⟩)) := hw1 ▸ set_blk ma.out _
      have C5 : Hid (Cs w6 c 1 g len cap st N hi f) := hw1 ▸ Ca.out.set Nc Ng
      have D5 : Hid (Cb c 1 g w1 w6) := hw1 ▸ Da.out.set (by omega) Nc Ng
      rw [hw1] at s1
      obtain ⟨x1, x10, x11, x12, x13, x14, x15, x16, x17, x18⟩ := rh_cells d k4.out
      have G2 := GT2.out _ C5.out
      clear ka la ma Ca Da hw1
      go_wp2_with (guard_target =~ wpList _ _ _ (Oper.mk _ (Op.store 38 _ _) _ _ _ _ :: _) _ _; go_must (refine wpList_st 38 _ _ rfl rfl _ _ rfl rfl s1 ?_); simp only [pts])
      refine G2.mono ?_
      rintro _ w7 ⟨rfl, hb⟩
      have ka : Hid (w7.heap[w.heap.size]? = some (rhO d)) := (hb.block _ (lt_of_blk k4.out)).trans k4.out
      have la : Hid (w7.heap[w.heap.size + 1]? = some (rfO ⟨0, 0, 0, 0⟩)) := (hb.block _ (lt_of_blk l4.out)).trans l4.out
      have ma : Hid (w7.heap[w2.heap.size]? = some (rfO ⟨g0, g1, 0, 0⟩)) := (hb.block _ (lt_of_blk m4.out)).trans m4.out
      have Ca : Hid _ := C5.out.below hb
      have Da : Hid _ := D5.out.trans (Cb.of_below hb C5.out.lt)
      clear hb
      have s2 := st_word (x := g2) (cell_at ma.out 2) (froz_of (i := 2) ma.out)
      obtain ⟨w8, hw2⟩ : ∃ X, w7.setCell ⟨w2.heap.size, 2, none⟩ (.int .u64 g2) = X := ⟨_, rfl⟩
      have k5 : Hid (w8.heap[w.heap.size]? = some (rhO d)) := hw2 ▸ (set_oth (by omega)).trans ka.out
      have l5 : Hid (w8.heap[w.heap.size + 1]? = some (rfO ⟨0, 0, 0, 0⟩)) := hw2 ▸ (set_oth (by omega)).trans la.out
      have m5 : Hid (w8.heap[w2.heap.size]? = some (rfO ⟨g0, g1, g2, 0⟩)) := hw2 ▸ set_blk ma.out _
      have C6 : Hid (Cs w8 c 1 g len cap st N hi f) := hw2 ▸ Ca.out.set Nc Ng
      have D6 : Hid (Cb c 1 g w1 w8) := hw2 ▸ Da.out.set (by omega) Nc Ng
      rw [hw2] at s2
      obtain ⟨x2, x20, x21, x22, x23, x24, x25, x26, x27, x28⟩ := rh_cells d k5.out
      have G3 := GT3.out _ C6.out
      clear ka la ma Ca Da hw2
      go_wp2_with (guard_target =~ wpList _ _ _ (Oper.mk _ (Op.store 38 _ _) _ _ _ _ :: _) _ _; go_must (refine wpList_st 38 _ _ rfl rfl _ _ rfl rfl s2 ?_); simp only [pts])
      refine G3.mono ?_
      rintro _ w9 ⟨rfl, hb⟩
      have ka : Hid (w9.heap[w.heap.size]? = some (rhO d)) := (hb.block _ (lt_of_blk k5.out)).trans k5.out
      have la : Hid (w9.heap[w.heap.size + 1]? = some (rfO ⟨0, 0, 0, 0⟩)) := (hb.block _ (lt_of_blk l5.out)).trans l5.out
      have ma : Hid (w9.heap[w2.heap.size]? = some (rfO ⟨g0, g1, g2, 0⟩)) := (hb.block _ (lt_of_blk m5.out)).trans m5.out
      have Ca : Hid _ := C6.out.below hb
      have Da : Hid _ := D6.out.trans (Cb.of_below hb C6.out.lt)
      clear hb
      have s3 := st_word (x := g3) (cell_at ma.out 3) (froz_of (i := 3) ma.out)
      obtain ⟨w10, hw3⟩ : ∃ X, w9.setCell ⟨w2.heap.size, 3, none⟩ (.int .u64 g3) = X := ⟨_, rfl⟩
      have k6 : Hid (w10.heap[w.heap.size]? = some (rhO d)) := hw3 ▸ (set_oth (by omega)).trans ka.out
      have l6 : Hid (w10.heap[w.heap.size + 1]? = some (rfO ⟨0, 0, 0, 0⟩)) := hw3 ▸ (set_oth (by omega)).trans la.out
      have m6 : Hid (w10.heap[w2.heap.size]? = some (rfO ⟨g0, g1, g2, g3⟩)) := hw3 ▸ set_blk ma.out _
      have C7 : Hid (Cs w10 c 1 g len cap st N hi f) := hw3 ▸ Ca.out.set Nc Ng
      have D7 : Hid (Cb c 1 g w1 w10) := hw3 ▸ Da.out.set (by omega) Nc Ng
      rw [hw3] at s3
      obtain ⟨u0, u1, u2, u3, u4⟩ := rf_cells ⟨g0, g1, g2, g3⟩ m6.out
      have fz : ∀ i, w10.frozen? ⟨w.heap.size + 1, i, none⟩ = false := fun i => froz_of l6.out
      obtain ⟨v0, v1, v2, v3, v4⟩ := rf_cells _ l6.out
      clear ka la ma Ca Da hw3
      go_wp2_with (guard_target =~ wpList _ _ _ (Oper.mk _ (Op.store 38 _ _) _ _ _ _ :: _) _ _; go_must (refine wpList_st 38 _ _ rfl rfl _ _ rfl rfl s3 ?_); simp only [pts])
      obtain ⟨r0, r1, r2, r3⟩ := four_set (W := w10) (b := w.heap.size + 1) (v0 := (.int .u64 g0)) (v1 := (.int .u64 g1)) (v2 := (.int .u64 g2)) (v3 := (.int .u64 g3)) (u0 := .int .u64 0) (u1 := .int .u64 0) (u2 := .int .u64 0) (u3 := .int .u64 0) v1 v2 v3 v4
      have R1 := C7.out
      have R2 := (Cb.of_below hb2.out H.out.lt).trans D7.out
      exact bodyPost_ret (v := .tuple #[.agg #[.int .u64 g0, .int .u64 g1, .int .u64 g2, .int .u64 g3], .int .i64 0]) (by simp [results, Tryd.results31, go_sem, r0, r1, r2, r3]) rfl ⟨rfl, (((R1.set xc1 xg1).set xc1 xg1).set xc1 xg1).set xc1 xg1, (((R2.set (by omega) xc1 xg1).set (by omega) xc1 xg1).set (by omega) xc1 xg1).set (by omega) xc1 xg1⟩
    · have hE' : (E != 0) = true := by simpa using hE
      rw [if_neg hE, if_neg hE, if_neg hE, if_neg hE]
      clear hclP
      go_enter Tryd.func31, Tryd.ntmps31
      go_wp2_with (first
        | (go_at_call 56; refine (G _).mono ?_; rintro e w1 ⟨rfl, hb1⟩; obtain ⟨k1, l1⟩ := S.out w1 hb1; replace k1 : Hid _ := k1; replace l1 : Hid _ := l1; obtain ⟨z1, q0, q1, q2, q3, q4, q5, q6, q7, q8⟩ := rh_cells d k1.out; have hb2 : Hid (Below w.heap.size w w1) := belT (bel2 _ _ _) hb1; have CL1 := CL w1 hb2.out; clear hb1)
        | (go_at_call 23; refine CL1.mono ?_; rintro _ w2 ⟨rfl, C2, D2⟩; have l2 : Hid (w2.heap[w.heap.size + 1]? = some (rfO ⟨0, 0, 0, 0⟩)) := (D2.block _ (lt_of_blk l1.out) xc1 xg1).trans l1.out; obtain ⟨z2, y0, y1, y2, y3⟩ := rf_cells _ l2.out; have fz : ∀ i, w2.frozen? ⟨w.heap.size + 1, i, none⟩ = false := fun i => froz_of l2.out; replace C2 : Hid _ := C2; replace D2 : Hid _ := D2))
      obtain ⟨r0, r1, r2, r3⟩ := four_set (W := w2) (b := w.heap.size + 1) (v0 := (.int .u64 0)) (v1 := (.int .u64 0)) (v2 := (.int .u64 0)) (v3 := (.int .u64 0)) (u0 := .int .u64 0) (u1 := .int .u64 0) (u2 := .int .u64 0) (u3 := .int .u64 0) y0 y1 y2 y3
      have R1 := C2.out
      have R2 := (Cb.of_below hb2.out H.out.lt).trans D2.out
      exact bodyPost_ret (v := .tuple #[.agg #[.int .u64 0, .int .u64 0, .int .u64 0, .int .u64 0], .int .i64 E]) (by simp [results, Tryd.results31, go_sem, r0, r1, r2, r3]) rfl ⟨rfl, (((R1.set xc1 xg1).set xc1 xg1).set xc1 xg1).set xc1 xg1, (((R2.set (by omega) xc1 xg1).set (by omega) xc1 xg1).set (by omega) xc1 xg1).set (by omega) xc1 xg1⟩
abbrev rcO (p : Option Addr) (len cap : Nat) (a b o : Int) : Obj := .cells #[.slice p len cap, .int .i64 a, .int .i64 b, .int .i64 o] 28
theorem rNew_ok (w : World) (p : Option Addr) (len cap a : Nat) (ha : a ≤ len) (hi : Bool) :
    Calls Tryd.prog 6 #[.slice p len cap, .int .i64 a, .int .i64 (ordV hi)] w fun e w' => e = .returned (.tuple #[.agg #[.slice p len cap, .int .i64 a, .int .i64 a, .int .i64 (ordV hi)], .int .i64 0]) ∧ Below w.heap.size w w' := by
  have hd1 : ¬ (a : Int) < 0 := by omega
  have hd2 : ¬ (len : Int) < (a : Int) := by omega
  have hh := heap_al w (rcO p len cap a a (ordV hi))
  have h0 := cell_at hh 0
  have h1 := cell_at hh 1
  have h2 := cell_at hh 2
  have h3 := cell_at hh 3
  have hB : Hid (Below w.heap.size w (w.alloc (rcO p len cap a a (ordV hi)))) := bel1 _ _
  clear hh
  cases hi
  · have o0 : ordV false = 0 := rfl
    rw [o0] at h0 h1 h2 h3 hB ⊢
    go_enter Tryd.func6, Tryd.ntmps6
    go_wp2_with fail
    exact bodyPost_ret (v := .tuple #[.agg #[.slice p len cap, .int .i64 a, .int .i64 a, .int .i64 0], .int .i64 0]) (by simp [results, Tryd.results6, go_sem]) rfl ⟨rfl, hB.out⟩
  · have o0 : ordV true = 1 := rfl
    rw [o0] at h0 h1 h2 h3 hB ⊢
    go_enter Tryd.func6, Tryd.ntmps6
    go_wp2_with fail
    exact bodyPost_ret (v := .tuple #[.agg #[.slice p len cap, .int .i64 a, .int .i64 a, .int .i64 1], .int .i64 0]) (by simp [results, Tryd.results6, go_sem]) rfl ⟨rfl, hB.out⟩
theorem rNew_none (w : World) (p : Option Addr) (len cap : Nat) (a : Int) (o : Int) (h : (o = 0 ∨ o = 1) ∧ (a < 0 ∨ (len : Int) < a)) :
    Calls Tryd.prog 6 #[.slice p len cap, .int .i64 a, .int .i64 o] w fun e w' => e = .returned (.tuple #[.agg #[.slice none 0 0, .int .i64 0, .int .i64 0, .int .i64 0], .int .i64 170]) ∧ Below w.heap.size w w' := by
  obtain ⟨h1, h2⟩ := h
  have hB : Hid (Below w.heap.size w (w.alloc (rcO none 0 0 0 0 0))) := bel1 _ _
  by_cases h3 : a < 0
  · rcases h1 with rfl | rfl
    all_goals
      go_enter Tryd.func6, Tryd.ntmps6
      go_wp2_with fail
      exact bodyPost_ret (v := .tuple #[.agg #[.slice none 0 0, .int .i64 0, .int .i64 0, .int .i64 0], .int .i64 170]) (by simp [results, Tryd.results6, go_sem]) rfl ⟨rfl, hB.out⟩
  · have h4 : (len : Int) < a := by omega
    have h5 : ¬ a ≤ (len : Int) := by omega
    rcases h1 with rfl | rfl
    all_goals
      go_enter Tryd.func6, Tryd.ntmps6
      go_wp2_with fail
      exact bodyPost_ret (v := .tuple #[.agg #[.slice none 0 0, .int .i64 0, .int .i64 0, .int .i64 0], .int .i64 170]) (by simp [results, Tryd.results6, go_sem]) rfl ⟨rfl, hB.out⟩
end Go.Proofs.YtgklippjoikadaaDoor
namespace Go.Proofs.YtgklippjoikadaaDoor
open Go.ChangeShapes Go.WideShapes Go.ChangeAt Go.RowKit

set_option maxRecDepth 20000 in
theorem rChars_any {w : World} {c g len cap st en : Nat} {hi : Bool} {f : Nat → Int} (h : Cs w c 1 g len cap st en hi f) (at' n : Int) (hn : n ≤ 9223372036854775807) :
    Calls Tryd.prog 27 #[.pointer (some ⟨c, 1, none⟩), .int .i64 at', .int .i64 n] w fun e w' => e = .returned (.tuple #[.string (chT st en f at' n), .int .i64 (chE st en at' n)]) ∧ Below w.heap.size w w' := by
  unfold chT chE
  by_cases h0 : n < 0
  · rw [if_pos h0, if_neg (by decide)]
    clear h
    go_enter Tryd.func27, Tryd.ntmps27
    go_wp2
    go_ret2
    exact ⟨rfl, Below.refl _ _⟩
  · rw [if_neg h0]
    have HO := rInside_any h at' n (by omega)
    by_cases hin : inC st en at' n = true
    · rw [if_pos hin, if_pos rfl]
      have hb := inC_of hin
      have h2 := h.h2
      have h3 := h.h3
      have h4 := h.h4
      obtain ⟨a, rfl⟩ : ∃ a : Nat, at' = a := ⟨at'.toNat, by omega⟩
      obtain ⟨m, rfl⟩ : ∃ m : Nat, n = m := ⟨n.toNat, by omega⟩
      have ha : ((a : Int)).toNat = a := by omega
      have hm : ((m : Int)).toNat = m := by omega
      rw [ha, hm]
      have B : w.cell? ⟨c, 1, none⟩ = _ := h.buf
      have l1 : (a : Int) ≤ (a : Int) + (m : Int) := by omega
      have l2 : (a : Int) + (m : Int) ≤ (cap : Int) := by omega
      rw [hin] at HO
      by_cases hce : a = cap
      · obtain rfl : m = 0 := by omega
        have cv0 := fun q => (text_conv w g cap f h.row 0 0 q (by omega)).trans (congrArg (fun t => Result.ok (Value.string t) w) (show textF f 0 0 = textF f a 0 from rfl))
        clear hin h hm
        subst hce
        go_enter Tryd.func27, Tryd.ntmps27
        go_wp2_with (first
          | (go_at_call 50; refine HO.mono ?_; rintro e w2 ⟨rfl, he⟩; replace he := he.symm; subst he))
        go_ret2
        exact ⟨rfl, Below.refl _ _⟩
      · have cv0 := fun q => text_conv w g cap f h.row a m q (by omega)
        clear hin h
        go_enter Tryd.func27, Tryd.ntmps27
        go_wp2_with (first
          | (go_at_call 50; refine HO.mono ?_; rintro e w2 ⟨rfl, he⟩; replace he := he.symm; subst he))
        go_ret2
        exact ⟨rfl, Below.refl _ _⟩
    · have hin' : inC st en at' n = false := by simpa using hin
      rw [if_neg hin, if_neg (by decide)]
      rw [hin'] at HO
      clear hin h
      go_enter Tryd.func27, Tryd.ntmps27
      go_wp2_with (first
        | (go_at_call 50; refine HO.mono ?_; rintro e w2 ⟨rfl, he⟩; replace he := he.symm; subst he))
      go_ret2
      exact ⟨rfl, Below.refl _ _⟩
end Go.Proofs.YtgklippjoikadaaDoor
