/- The table of kinds as the rows of this seat list it. -/
import Derived.Test.YtfhphjgcmbneeaaDoorRows
import Derived.Test.YtfhphjgcmbneeaaDoorPKind
import Derived.WalkKit
import Derived.ProofKit
import Derived.OpenShut
import Derived.Deep.DeepHandedRow
import Derived.Lib.LaidTab
import Derived.LaidMore
import Derived.Lay
import Derived.Stop.Joined
namespace Go.Proofs.YtfhphjgcmbneeaaDoor
open Go.ChangeShapes Go.WideShapes Go.ChangeAt Go.RowKit Go.Lib

abbrev laid1 : List (String × DataW Unit) := [("stencil/prim.kinds", Rows.laid_stencil_prim_kinds)]
theorem own : ownKnob Tryd.prog.godebug = none := by kernel_rfl
theorem laidOut : laidOutB Tryd.prog = true := by kernel_rfl
theorem gTab : Tryd.prog.globalNamed "stencil/prim.kinds" = some 0 := by kernel_rfl
theorem gTabType : (Tryd.prog.globals[0]?).map (·.type) = some 115 := by kernel_rfl
theorem cellsKs : Tryd.prog.cellsOf 115 = 55 := by kernel_rfl
theorem cellsK : Tryd.prog.cellsOf 103 = 5 := by kernel_rfl
theorem cellsKr : Tryd.prog.cellsOf 101 = 1 := by kernel_rfl
theorem cellsKu : Tryd.prog.cellsOf 23 = 1 := by kernel_rfl
theorem cellsKi : Tryd.prog.cellsOf 3 = 1 := by kernel_rfl
def kindD {H : Type} (p : Int) : DataW H := .agg [.lit (.int .i64 (sz p)), .lit (.int .i64 (rd p)), .lit (.int .u64 (nl p)), .lit (.int .u64 (mn p)), .lit (.int .u64 (mx p))]
theorem kindsD_eq {H : Type} : (Rows.laid_stencil_prim_kinds : DataW H) = .agg ((List.range 11).map fun i : Nat => kindD i) := by kernel_rfl
theorem klist5 {α : Type} {l : List α} (h : l.length = 5) : ∃ a b c d e, l = [a, b, c, d, e] := by
  rcases l with _ | ⟨a, _ | ⟨b, _ | ⟨c, _ | ⟨d, _ | ⟨e, l⟩⟩⟩⟩⟩ <;> simp at h
  subst h; exact ⟨a, b, c, d, e, rfl⟩
theorem klit_of {H : Type} {enc : TypeId × Value → H} {w : World} {base : Nat} {sp : Nat → Bool} {held : Bool} {fuel : Nat} {t : TypeId} {k : IntKind} {c : Value} {z : Int} {q : List MemPlace}
    (ht : Tryd.prog.underlying t = some (.int k)) (h : DataW.trod enc Tryd.prog w base sp held fuel t [c] = some (.lit (.int k z), q)) : c = .int k z := by
  obtain ⟨n, hc, hx, _⟩ := DataW.trod_int ht h
  simp at hc hx
  rw [hc, hx.1]
theorem kind_cells {H : Type} {enc : TypeId × Value → H} {w : World} {base : Nat} {sp : Nat → Bool} {held : Bool} {fuel : Nat} {cs : List Value} {p : Int} {q : List MemPlace}
    (h : DataW.trod enc Tryd.prog w base sp held fuel 103 cs = some (kindD p, q)) : cs = [.int .i64 (sz p), .int .i64 (rd p), .int .u64 (nl p), .int .u64 (mn p), .int .u64 (mx p)] := by
  obtain ⟨ys, n, _, hx, hl, hyl, hf⟩ := DataW.trod_struct Tryd.underlying103 h
  rw [cellsK] at hl
  obtain ⟨c0, c1, c2, c3, c4, rfl⟩ := klist5 hl
  obtain ⟨⟨d0, q0⟩, ⟨d1, q1⟩, ⟨d2, q2⟩, ⟨d3, q3⟩, ⟨d4, q4⟩, rfl⟩ := klist5 hyl
  have f0 := hf 0 _ rfl
  have f1 := hf 1 _ rfl
  have f2 := hf 2 _ rfl
  have f3 := hf 3 _ rfl
  have f4 := hf 4 _ rfl
  simp [cellsKi, cellsKr, cellsKu] at f0 f1 f2 f3 f4
  simp [kindD] at hx
  obtain ⟨⟨rfl, rfl, rfl, rfl, rfl⟩, _⟩ := hx
  rw [klit_of Tryd.underlying3 f0, klit_of Tryd.underlying101 f1, klit_of Tryd.underlying23 f2, klit_of Tryd.underlying23 f3, klit_of Tryd.underlying23 f4]
theorem kt_of_laid {W : World} (h : laidMetH Tryd.prog laid1 W) : KT W := by
  have h' : laidMet Tryd.prog laid1 W := h
  obtain ⟨ps, ⟨g', t', cs, fuel, p, q, hg', ht', hvar, hd, _, _⟩, _⟩ := h'
  obtain rfl := Option.some.inj (gTab.symm.trans hg')
  obtain rfl := Option.some.inj (gTabType.symm.trans ht')
  rw [kindsD_eq] at hd
  have hpos : ∀ (g : Nat) (o : Nat) (v : Value), W.cell? ⟨g, o, none⟩ = some v → g < W.heap.size := fun g o v hc => by
    rcases Nat.lt_or_ge g W.heap.size with h1 | h1
    · exact h1
    · simp [World.cell?, Array.getElem?_eq_none h1] at hc
  obtain ⟨xs, m, _, hx, hl, hxl, hf⟩ := DataW.trod_array Tryd.underlying115 hd
  rw [cellsKs] at hl
  have hxs : xs.map (·.1) = (List.range 11).map fun i : Nat => (kindD i : DataW Unit) := by
    have := congrArg Prod.fst hx
    simpa using this.symm
  have row : ∀ i : Nat, i < 11 → (cs.toList.drop (i * 5)).take 5 = [.int .i64 (sz i), .int .i64 (rd i), .int .u64 (nl i), .int .u64 (mn i), .int .u64 (mx i)] := by
    intro i hi
    have h1 := hf i hi
    rw [cellsK] at h1
    have h2 : (xs.map (·.1))[i]? = some (kindD i) := by rw [hxs]; simp [hi]
    simp only [List.getElem?_map, Option.map_eq_some_iff] at h2
    obtain ⟨⟨d, q'⟩, h3, rfl⟩ := h2
    rw [h3] at h1
    exact kind_cells h1
  have cell : ∀ (i j : Nat) (v : Value), i < 11 → j < 5 → ([.int .i64 (sz i), .int .i64 (rd i), .int .u64 (nl i), .int .u64 (mn i), .int .u64 (mx i)] : List Value)[j]? = some v → W.cell? ⟨0, 5 * i + j, none⟩ = some v := by
    intro i j v hi hj hv
    have := World.var?_cell gTab hvar (5 * i + j)
    rw [this]
    rw [← row i hi] at hv
    simp [hj] at hv
    simpa [Nat.mul_comm] using hv
  exact ⟨hpos _ _ _ (cell 0 0 _ (by omega) (by omega) rfl), fun i hi => cell i 0 _ hi (by omega) rfl, fun i hi => cell i 1 _ hi (by omega) rfl, fun i hi => cell i 2 _ hi (by omega) rfl, fun i hi => cell i 3 _ hi (by omega) rfl, fun i hi => cell i 4 _ hi (by omega) rfl⟩
/-- 'There is an input that fits', at a world in which the table is laid. -/
theorem witness_zip {H : Type} {enc : TypeId × Value → H} {C : Checked} {os : Os} {f : FuncId} {fn : Func} {s : OpenSpec} {conds : List PathCond} {apart : Bool} {laid : List (String × DataW Unit)} (w0 : World) (args : Array Value) (hos : w0.os = os)
    (hv : (w0.forCall (fun _ _ => 0) ⟨#[], args, []⟩).variablesZipB C.prog = true)
    (hr : ((w0.forCall (fun _ _ => 0) ⟨#[], args, []⟩).heap.toList.drop C.prog.globals.size).take ((begin C.prog (fun _ _ => 0) default).world.heap.size - C.prog.globals.size) =
      (begin C.prog (fun _ _ => 0) default).world.heap.toList.drop C.prog.globals.size)
    (hok : Input.okWideB C.prog (w0.forCall (fun _ _ => 0) ⟨#[], args, []⟩) f ⟨#[], args, []⟩ = true)
    (hrow : s.preRow enc C.prog fn conds apart laid (w0.forCall (fun _ _ => 0) ⟨#[], args, []⟩).memory args) :
    ∃ (w : World) (tape : Tape) (i : Input), w.os = os ∧ (w.forCall tape i).Shaped C.prog ∧ i.vars = [] ∧ Input.okWide C.prog (w.forCall tape i) .any w.heap.size f i ∧
      s.preRow enc C.prog fn conds apart laid (w.forCall tape i).memory i.args ∧ ({} : Assume).holds C.prog (lone (Frame.enter C.prog f i.args .normal) [] (w.forCall tape i)) :=
  ⟨w0, fun _ _ => 0, ⟨#[], args, []⟩, hos, World.shaped_of_ZipB hv hr, (Input.okWide_of_okWideB (base := 0) hok).1, (Input.okWide_of_okWideB hok).2, hrow, by
    simp only [Assume.holds]
    exact ⟨by simp, by simp, fun _ => Modest.zero, by simp, by simp⟩⟩
end Go.Proofs.YtfhphjgcmbneeaaDoor
