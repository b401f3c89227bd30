/- The law FrameSplits. -/
import Derived.Test.YtnicdehbedcdpaaFmL
namespace Go.Proofs.Ytnicdehbedcdpaa
open Go.ChangeShapes Go.WideShapes Go.ChangeAt Go.RowKit

theorem POwn.below {W W' : World} {base : Nat} {v : Value} {l : List Pcl} (h : POwn W base v l) (hb : Below W.heap.size W W') : POwn W' base v l := ownSame h fun k hk => hb.block k (ownLt h hk).2
theorem POwn.row {W : World} {base n cp : Nat} {pp : Option Addr} {l : List Pcl} (h : POwn W base (.slice pp n cp) l) : PRow W pp W.heap.size l := by
  obtain ⟨pp2, cp2, e, hr⟩ := h.shape
  cases e
  exact hr
set_option maxHeartbeats 4000000 in
theorem Splits_any (lim : Int) (s : ByteArray) (p : Pcl) (w : World) (hs : s.size ≤ 4398046511103) (hp : p.b.size ≤ 2147483648) :
    Calls Try.prog 5 #[.int .i64 lim, .string s, .agg #[.int .i64 p.t, .string p.b]] w fun e w' => e = .returned (.bool true) ∧ Below w.heap.size w w' := by
  have hn := (cutZ_le lim (lOf s)).2
  have hn2 := (cutZ_le lim (lOf s)).1
  rw [lOf_length] at hn2
  have hSp := fun W => Split_any lim s W (by omega) (by omega)
  have hRf := fun W => refSplit_any lim s W (by omega) (by omega)
  have hcl : (cutZ lim (lOf s)).1.length ≤ 4398046511102 := by omega
  generalize cutZ lim (lOf s) = C at hSp hRf hcl
  clear hn hn2 hs
  have hb0 := bel1 w (.cells #[.int .i64 p.t, .string p.b] 36)
  have hN := heap_nw w (.cells #[.int .i64 p.t, .string p.b] 36)
  have hz0 : (w.alloc (.cells #[.int .i64 p.t, .string p.b] 36)).heap.size = w.heap.size + 1 := by rw [World.size_alloc]
  have F1 : True := trivial
  have F2 : True := trivial
  have hpi : ¬ (2147483648 : Int) < (p.b.size : Int) := by omega
  go_enter Try.func5, Try.ntmps5
  go_wp2_with (first
    | (go_at_call 14; clear F1; refine (hSp _).mono ?_; rintro _ w1 ⟨v1, rfl, hO1, hB1⟩; obtain ⟨pp1, cp1, rfl, _⟩ := hO1.shape; have hl1 := fun k hk => (ownLt hO1 (k := k) hk).2; have HC := hB1)
    | (go_at_call 16; refine (hRf _).mono ?_; rintro _ w2 ⟨v2, rfl, hO2, hB2⟩; obtain ⟨pp2, cp2, rfl, _⟩ := hO2.shape; replace hO1 := hO1.below hB2; have HC := HC.trans (hB2.mono HC.size))
    | (go_at_call 15; clear F2; refine (same_self C.1 pp1 pp2 cp1 cp2 w2.heap.size w2 hO1.row hO2.row (by omega)).mono ?_; rintro _ w3 ⟨rfl, hB3⟩; replace hO1 := hO1.below hB3; replace hO2 := hO2.below hB3; have HC := HC.trans (hB3.mono HC.size))
    | (go_at_call 13; refine (num_any _ _).mono ?_; rintro _ _ ⟨rfl, rfl⟩)
    | (go_at_call 17; refine (keep_any C.1 _ 1 _ _ hO1 HC.size (by omega) (by decide)).mono ?_; rintro _ w4 ⟨pg, cg, rfl, hL, hG, hB4, hk4, hl4⟩; replace hO2 := ownSame hO2 (fun k hk => hk4 k (ownLt hO2 hk).2 (fun e => by have h1 := hl1 k e; have h2 := (ownLt hO2 hk).1; omega)); have HC := HC.trans hB4;
        have bX := bel1 w4 (.cells #[.slice pp1 C.1.length cp1, .slice pg (C.1.length + 1) cg, .int .i64 1] 43); have hX := heap_nw w4 (.cells #[.slice pp1 C.1.length cp1, .slice pg (C.1.length + 1) cg, .int .i64 1] 43))
    | (go_at_call 14; refine (hSp _).mono ?_; rintro _ w5 ⟨v5, rfl, hO5, hB5⟩; obtain ⟨pp5, cp5, rfl, _⟩ := hO5.shape; have bY := bX.trans (hB5.mono bX.size); replace hO2 : POwn w5 _ _ _ := ownSame hO2 (fun k hk => bY.block k (ownLt hO2 hk).2); replace hL : POwn w5 _ _ _ := ownSame hL (fun k hk => bY.block k (ownLt hL hk).2); replace hG : POwn w5 _ _ _ := ownSame hG (fun k hk => bY.block k (ownLt hG hk).2); replace hX := (hB5.block w4.heap.size (by rw [World.size_alloc]; omega)).trans hX; have HC := HC.trans (bY.mono HC.size); clear bX bY)
    | (go_at_call 15; refine (same_self C.1 pp5 pp2 cp5 cp2 w5.heap.size w5 hO5.row hO2.row (by omega)).mono ?_; rintro _ w6 ⟨rfl, hB6⟩; replace hL := hL.below hB6; replace hG := hG.below hB6; replace hX := (hB6.block w4.heap.size (Array.getElem?_eq_some_iff.1 hX).1).trans hX; have x0 := cellA hX 0; have x1 := cellA hX 1; have x2 := cellA hX 2; have HC := HC.trans (hB6.mono HC.size))
    | (go_at_call 18; refine (holds_any C.1.length 1 pp1 pg cp1 cg w6.heap.size w6 hL.row hG.row (Nat.le_refl _) (by omega) (by decide)).mono ?_; rintro _ w7 ⟨rfl, hB7⟩; have HC := HC.trans (hB7.mono HC.size); have y0 := (HC.cell (p := ⟨w.heap.size, 0, none⟩) (by simp)).trans (cellA hN 0); have y1 := (HC.cell (p := ⟨w.heap.size, 1, none⟩) (by simp)).trans (cellA hN 1))
    | (go_at_call 19; refine (Wrap_any p _ (by omega)).mono ?_; rintro _ w8 ⟨rfl, hB8⟩; have HC := HC.trans (hB8.mono HC.size); have y0 := (HC.cell (p := ⟨w.heap.size, 0, none⟩) (by simp)).trans (cellA hN 0); have y1 := (HC.cell (p := ⟨w.heap.size, 1, none⟩) (by simp)).trans (cellA hN 1))
    | (go_at_call 20; refine (refWrap_any p _ (by omega)).mono ?_; rintro _ w9 ⟨rfl, hB9⟩; have HC := HC.trans (hB9.mono HC.size)))
  go_ret
  exact ⟨rfl, hb0.trans (HC.mono hb0.size)⟩
end Go.Proofs.Ytnicdehbedcdpaa
