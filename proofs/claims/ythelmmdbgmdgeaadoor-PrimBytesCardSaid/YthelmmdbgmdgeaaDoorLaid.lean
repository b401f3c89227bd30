/- The table of kinds, as the rows list it: its cells; the frame that all four rows share. -/
import Derived.Test.YthelmmdbgmdgeaaDoorRows
import Derived.Test.YthelmmdbgmdgeaaDoorKind
import Derived.WalkKit
import Derived.ProofKit
import Derived.OpenShut
import Derived.Deep.DeepHandedRow
import Derived.Lib.LaidTab
namespace Go.Proofs.YthelmmdbgmdgeaaDoor
open Go.ChangeShapes Go.WideShapes Go.ChangeAt Go.RowKit

theorem own : ownKnob Tryd.prog.godebug = none := by kernel_rfl
theorem gTab : Tryd.prog.globalNamed "stencil/prim.kinds" = some 0 := by kernel_rfl
theorem gTabType : (Tryd.prog.globals[0]?).map (·.type) = some 60 := by kernel_rfl
theorem cells60 : Tryd.prog.cellsOf 60 = 55 := by kernel_rfl
theorem cells47 : Tryd.prog.cellsOf 47 = 5 := by kernel_rfl
theorem cells45 : Tryd.prog.cellsOf 45 = 1 := by kernel_rfl
theorem cells23 : Tryd.prog.cellsOf 23 = 1 := by kernel_rfl
theorem cells3 : Tryd.prog.cellsOf 3 = 1 := by kernel_rfl

/-- One row of the table as it is listed. -/
def kindD {H : Type} (p : Int) : DataW H := .agg [.lit (.int .i64 (sz p)), .lit (.int .i64 (rd p)), .lit (.int .u64 (nl p)), .lit (.int .u64 (mn p)), .lit (.int .u64 (mx p))]
theorem laid_eq {H : Type} : (Rows.laid_stencil_prim_kinds : DataW H) = .agg ((List.range 11).map fun i : Nat => kindD i) := by kernel_rfl

theorem list5 {α : Type} {l : List α} (h : l.length = 5) : ∃ a b c d e, l = [a, b, c, d, e] := by
  rcases l with _ | ⟨a, _ | ⟨b, _ | ⟨c, _ | ⟨d, _ | ⟨e, l⟩⟩⟩⟩⟩ <;> simp at h
  subst h; exact ⟨a, b, c, d, e, rfl⟩
theorem lit_of {H : Type} {enc : TypeId × Value → H} {w : World} {base : Nat} {sp : Nat → Bool} {held : Bool} {fuel : Nat} {t : TypeId} {k : IntKind} {c : Value} {z : Int} {q : List MemPlace}
    (ht : Tryd.prog.underlying t = some (.int k)) (h : DataW.trod enc Tryd.prog w base sp held fuel t [c] = some (.lit (.int k z), q)) : c = .int k z := by
  obtain ⟨n, hc, hx, _⟩ := DataW.trod_int ht h
  simp at hc hx
  rw [hc, hx.1]
theorem kind_cells {H : Type} {enc : TypeId × Value → H} {w : World} {base : Nat} {sp : Nat → Bool} {held : Bool} {fuel : Nat} {cs : List Value} {p : Int} {q : List MemPlace}
    (h : DataW.trod enc Tryd.prog w base sp held fuel 47 cs = some (kindD p, q)) : cs = [.int .i64 (sz p), .int .i64 (rd p), .int .u64 (nl p), .int .u64 (mn p), .int .u64 (mx p)] := by
  obtain ⟨ys, n, _, hx, hl, hyl, hf⟩ := DataW.trod_struct Tryd.underlying47 h
  rw [cells47] at hl
  obtain ⟨c0, c1, c2, c3, c4, rfl⟩ := list5 hl
  obtain ⟨⟨d0, q0⟩, ⟨d1, q1⟩, ⟨d2, q2⟩, ⟨d3, q3⟩, ⟨d4, q4⟩, rfl⟩ := list5 hyl
  have f0 := hf 0 _ rfl
  have f1 := hf 1 _ rfl
  have f2 := hf 2 _ rfl
  have f3 := hf 3 _ rfl
  have f4 := hf 4 _ rfl
  simp [cells3, cells45, cells23] at f0 f1 f2 f3 f4
  simp [kindD] at hx
  obtain ⟨⟨rfl, rfl, rfl, rfl, rfl⟩, _⟩ := hx
  rw [lit_of Tryd.underlying3 f0, lit_of Tryd.underlying45 f1, lit_of Tryd.underlying23 f2, lit_of Tryd.underlying23 f3, lit_of Tryd.underlying23 f4]

/-- What the row's list gives: the table's cells. -/
theorem kt_of_laid {W : World} (h : laidMetH Tryd.prog [("stencil/prim.kinds", Rows.laid_stencil_prim_kinds)] W) : KT W := by
  have h' : laidMet Tryd.prog [("stencil/prim.kinds", Rows.laid_stencil_prim_kinds)] W := h
  obtain ⟨ps, ⟨g', t', cs, fuel, p, q, hg', ht', hvar, hd, _, _⟩, _⟩ := h'
  obtain rfl := Option.some.inj (gTab.symm.trans hg')
  obtain rfl := Option.some.inj (gTabType.symm.trans ht')
  rw [laid_eq] at hd
  obtain ⟨xs, m, _, hx, hl, hxl, hf⟩ := DataW.trod_array Tryd.underlying60 hd
  rw [cells60] at hl
  have hxs : xs.map (·.1) = (List.range 11).map fun i : Nat => (kindD i : DataW Unit) := by
    have := congrArg Prod.fst hx
    simpa using this.symm
  have row : ∀ i : Nat, i < 11 → (cs.toList.drop (i * 5)).take 5 = [.int .i64 (sz i), .int .i64 (rd i), .int .u64 (nl i), .int .u64 (mn i), .int .u64 (mx i)] := by
    intro i hi
    have h1 := hf i hi
    rw [cells47] at h1
    have h2 : (xs.map (·.1))[i]? = some (kindD i) := by rw [hxs]; simp [hi]
    simp only [List.getElem?_map, Option.map_eq_some_iff] at h2
    obtain ⟨⟨d, q'⟩, h3, rfl⟩ := h2
    rw [h3] at h1
    exact kind_cells h1
  have cell : ∀ (i j : Nat) (v : Value), i < 11 → j < 5 → ([.int .i64 (sz i), .int .i64 (rd i), .int .u64 (nl i), .int .u64 (mn i), .int .u64 (mx i)] : List Value)[j]? = some v → W.cell? ⟨0, 5 * i + j, none⟩ = some v := by
    intro i j v hi hj hv
    have := World.var?_cell gTab hvar (5 * i + j)
    rw [this]
    rw [← row i hi] at hv
    simp [hj] at hv
    simpa [Nat.mul_comm] using hv
  refine ⟨?_, fun i hi => cell i 0 _ hi (by omega) rfl, fun i hi => cell i 1 _ hi (by omega) rfl, fun i hi => cell i 2 _ hi (by omega) rfl, fun i hi => cell i 3 _ hi (by omega) rfl, fun i hi => cell i 4 _ hi (by omega) rfl⟩
  have c := cell 0 0 _ (by omega) (by omega) rfl
  rcases Nat.eq_zero_or_pos W.heap.size with hz | hz
  · have hz2 : W.heap = #[] := Array.eq_empty_of_size_eq_zero hz
    simp [World.cell?, hz2] at c
  · exact hz
/-- A world for the witnesses: the settled one, the table (block 0) holding what its initialiser lays. -/
noncomputable def laidWorld (os : Os) : World :=
  { World.holding Tryd.prog os ⟨#[], #[], []⟩ with heap := (World.holding Tryd.prog os ⟨#[], #[], []⟩).heap.modify 0 fun
      | .cells _ t frozen => .cells #[.int .i64 1, .int .i64 0, .int .u64 0, .int .u64 32, .int .u64 126, .int .i64 1, .int .i64 1, .int .u64 18446744073709551488, .int .u64 18446744073709551489, .int .u64 127, .int .i64 2, .int .i64 1, .int .u64 18446744073709518848, .int .u64 18446744073709518849, .int .u64 32767, .int .i64 4, .int .i64 1, .int .u64 18446744071562067968, .int .u64 18446744071562067969, .int .u64 2147483647, .int .i64 8, .int .i64 1, .int .u64 9223372036854775808, .int .u64 9223372036854775809, .int .u64 9223372036854775807, .int .i64 1, .int .i64 0, .int .u64 255, .int .u64 0, .int .u64 254, .int .i64 2, .int .i64 0, .int .u64 65535, .int .u64 0, .int .u64 65534, .int .i64 4, .int .i64 0, .int .u64 4294967295, .int .u64 0, .int .u64 4294967294, .int .i64 8, .int .i64 0, .int .u64 18446744073709551615, .int .u64 0, .int .u64 18446744073709551614, .int .i64 4, .int .i64 2, .int .u64 2143289344, .int .u64 0, .int .u64 4294967295, .int .i64 8, .int .i64 2, .int .u64 9221120237041090560, .int .u64 0, .int .u64 18446744073709551615] t frozen
      | o => o }
end Go.Proofs.YthelmmdbgmdgeaaDoor
