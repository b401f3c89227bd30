/- The law CursorBack: what lies in memory. -/
import Derived.Test.YtfhphjgcmbneeaaDoorCuPz
namespace Go.Proofs.YtfhphjgcmbneeaaDoor
open Go.ChangeShapes Go.WideShapes Go.ChangeAt Go.RowKit

abbrev hdO : Obj := .cells #[.int .i64 16, .int .i64 7, .int .i64 12, .int .i64 6, .int .i64 0, .int .i64 6, .int .i64 4, .int .i64 5, .int .i64 9] 30
theorem lt_of_some {W : World} {g : Nat} {o : Obj} (h : W.heap[g]? = some o) : g < W.heap.size := (Array.getElem?_eq_some_iff.1 h).1
theorem rangeB {W : World} {g : Nat} {cs : List Value} {ty : TypeId} (h : W.heap[g]? = some (.cells cs.toArray ty)) : W.rangeAt g 0 cs := by
  intro j v hv
  rw [Nat.zero_add, cell_at h j, List.getElem?_toArray]
  exact hv
theorem infoHd : (Tryd.prog.info? 30).map (·.size) = some 9 := by kernel_rfl
theorem undHd : ∃ d, Tryd.prog.underlying 30 = some d ∧ d.isRow = true := ⟨_, Tryd.underlying30, rfl⟩
theorem infoCh : (Tryd.prog.info? 37).map (·.size) = some 4 := by kernel_rfl
theorem undCh : ∃ d, Tryd.prog.underlying 37 = some d ∧ d.isRow = true := ⟨_, Tryd.underlying37, rfl⟩
theorem ld_hd {W : World} {g : Nat} (h : W.heap[g]? = some hdO) : (Instr.loadAt 30 (.pointer (some ⟨g, 0, none⟩))).run Tryd.prog W = .ok (hdV bkH) W := by
  obtain ⟨d, hu, hd⟩ := undHd
  exact run_loadAt_mid W g 0 30 [.int .i64 16, .int .i64 7, .int .i64 12, .int .i64 6, .int .i64 0, .int .i64 6, .int .i64 4, .int .i64 5, .int .i64 9] d (rangeB h) hu hd infoHd
theorem ld_four {W : World} {g : Nat} {v : Four} (h : W.heap[g]? = some (fourO v)) : (Instr.loadAt 37 (.pointer (some ⟨g, 0, none⟩))).run Tryd.prog W = .ok (fourV v) W := by
  obtain ⟨d, hu, hd⟩ := undCh
  exact run_loadAt_mid W g 0 37 [.int .u64 v.a, .int .u64 v.b, .int .u64 v.c, .int .u64 v.d] d (rangeB h) hu hd infoCh
/-- What the law has laid: the header, the dimension, the length, the head's numbers; its buffer is block gB. -/
structure BkM (w : World) (gB gH gG gL gV : Nat) (v : Four) (W : World) : Prop where
  bel : Below w.heap.size w W
  bB : w.heap.size ≤ gB
  hH : W.heap[gH]? = some hdO
  hG : W.heap[gG]? = some (tkO bkG none 0)
  hL : W.heap[gL]? = some (tkO bkL none 0)
  hV : W.heap[gV]? = some (fourO v)
  nH : gH ≠ gB
  nG : gG ≠ gB
  nL : gL ≠ gB
  nV : gV ≠ gB
theorem BkM.below {w W W' : World} {gB gH gG gL gV : Nat} {v : Four} (m : BkM w gB gH gG gL gV v W) (h : Below W.heap.size W W') : BkM w gB gH gG gL gV v W' :=
  ⟨belT m.bel h, m.bB, (h.block _ (lt_of_some m.hH)).trans m.hH, (h.block _ (lt_of_some m.hG)).trans m.hG, (h.block _ (lt_of_some m.hL)).trans m.hL, (h.block _ (lt_of_some m.hV)).trans m.hV, m.nH, m.nG, m.nL, m.nV⟩
theorem BkM.cb {w W W' : World} {c gB gH gG gL gV : Nat} {v : Four} (m : BkM w gB gH gG gL gV v W) (h : Cb c 0 gB W W') (hc : w.heap.size ≤ c) (n : gH < c ∧ gG < c ∧ gL < c ∧ gV < c) : BkM w gB gH gG gL gV v W' :=
  ⟨m.bel.trans (h.below hc m.bB m.bel.size), m.bB, (h.block _ (lt_of_some m.hH) (Nat.ne_of_lt n.1) m.nH).trans m.hH, (h.block _ (lt_of_some m.hG) (Nat.ne_of_lt n.2.1) m.nG).trans m.hG, (h.block _ (lt_of_some m.hL) (Nat.ne_of_lt n.2.2.1) m.nL).trans m.hL, (h.block _ (lt_of_some m.hV) (Nat.ne_of_lt n.2.2.2) m.nV).trans m.hV, m.nH, m.nG, m.nL, m.nV⟩
theorem BkM.lts {w W : World} {gB gH gG gL gV : Nat} {v : Four} (m : BkM w gB gH gG gL gV v W) {c : Nat} (hc : W.heap.size ≤ c) : gH < c ∧ gG < c ∧ gL < c ∧ gV < c :=
  ⟨Nat.lt_of_lt_of_le (lt_of_some m.hH) hc, Nat.lt_of_lt_of_le (lt_of_some m.hG) hc, Nat.lt_of_lt_of_le (lt_of_some m.hL) hc, Nat.lt_of_lt_of_le (lt_of_some m.hV) hc⟩
theorem bk_step {P : Program} {F : Code} {k : Nat} {Q : Exit → Act → World → Prop} {a : Act} {w : World} (e : bkC F k = .seq (hd1 (bkC F k)) (bkC F (k + 1))) (h : (hd1 (bkC F k)).wp P (Exit.then ((bkC F (k + 1)).wp P Q) Q) a w) : (bkC F k).wp P Q a w := by
  rw [e]
  exact wp_seq h
theorem fourM_ok {v : Four} (h : FourOk v) : FourOk (fourM v) ∧ (0 ≤ (fourM v).a ∧ (fourM v).a < 4294967295) ∧ (0 ≤ (fourM v).b ∧ (fourM v).b < 65535) ∧ (0 ≤ (fourM v).c ∧ (fourM v).c < 65535) ∧ (0 ≤ (fourM v).d ∧ (fourM v).d < 255) := by
  have h1 : 0 ≤ (fourM v).a ∧ (fourM v).a < 4294967295 := by
    show 0 ≤ v.a.tmod 4294967295 ∧ v.a.tmod 4294967295 < 4294967295
    rw [Int.tmod_eq_emod_of_nonneg h.a.1]; omega
  have h2 : 0 ≤ (fourM v).b ∧ (fourM v).b < 65535 := by
    show 0 ≤ v.b.tmod 65535 ∧ v.b.tmod 65535 < 65535
    rw [Int.tmod_eq_emod_of_nonneg h.b.1]; omega
  have h3 : 0 ≤ (fourM v).c ∧ (fourM v).c < 65535 := by
    show 0 ≤ v.c.tmod 65535 ∧ v.c.tmod 65535 < 65535
    rw [Int.tmod_eq_emod_of_nonneg h.c.1]; omega
  have h4 : 0 ≤ (fourM v).d ∧ (fourM v).d < 255 := by
    show 0 ≤ v.d.tmod 255 ∧ v.d.tmod 255 < 255
    rw [Int.tmod_eq_emod_of_nonneg h.d.1]; omega
  exact ⟨⟨by omega, by omega, by omega, by omega⟩, h1, h2, h3, h4⟩
theorem abI_ok {b : Int} (h : -9223372036854775808 ≤ b ∧ b ≤ 9223372036854775807) : 0 ≤ abI b ∧ abI b ≤ 9223372036854775807 := by
  unfold abI
  split <;> omega
/-- The cursor in block c at en, with the buffer f; and all that the law has laid. -/
structure BkS (w : World) (gB gH gG gL gV : Nat) (v : Four) (A capB : Nat) (big : Bool) (c en : Nat) (f : Nat → Int) (W : World) : Prop where
  cs : Cs W c 0 gB (A + 300) capB A en big f
  m : BkM w gB gH gG gL gV v W
end Go.Proofs.YtfhphjgcmbneeaaDoor
