/- XLaid, TLd5. -/
import Derived.Test.YtchfphakhmifmabGreatDoorRows
import Derived.Test.YtchfphakhmifmabGreatDoorXChk
import Derived.WalkKit
import Derived.ProofKit
import Derived.OpenShut
import Derived.LaidMore
import Derived.Lib.LaidTab
import Derived.Shelf.Vars
import Derived.Deep.DeepHandedRow
import Derived.Lay
import Derived.SevenTiedAt
import Derived.Stop.Joined
namespace Go.Proofs.YtchfphakhmifmabGreatDoor
open Go.ChangeShapes Go.WideShapes Go.ChangeAt Go.RowKit Go.Shelf Go.Lib

def foldZ : List Int := (List.range 128).map fun c : Nat => if c = 107 then 8490 else if c = 115 then 383 else if 65 ≤ c ∧ c ≤ 90 then (c : Int) + 32 else if 97 ≤ c ∧ c ≤ 122 then (c : Int) - 32 else c
theorem fold_eq : (Rows.laid_unicode_asciiFold : DataW Unit) = Lib.tabData .u16 foldZ := by kernel_rfl
theorem gFold : Tryz.prog.globalNamed "unicode.asciiFold" = some 4 := by kernel_rfl
theorem gFoldT : (Tryz.prog.globals[4]?).map (·.type) = some 198 := by kernel_rfl
theorem cU16 : Tryz.prog.cellsOf 197 = 1 := by kernel_rfl
theorem cFold : Tryz.prog.cellsOf 198 = 128 := by kernel_rfl
/-- 'There is an input that fits', at a world in which the tables are laid. -/
theorem witness_zip {H : Type} {enc : TypeId × Value → H} {C : Checked} {os : Os} {f : FuncId} {fn : Func} {s : OpenSpec} {conds : List PathCond} {apart : Bool} {laid : List (String × DataW Unit)} (w0 : World) (args : Array Value) (hos : w0.os = os)
    (hv : (w0.forCall (fun _ _ => 0) ⟨#[], args, []⟩).variablesZipB C.prog = true)
    (hr : ((w0.forCall (fun _ _ => 0) ⟨#[], args, []⟩).heap.toList.drop C.prog.globals.size).take ((begin C.prog (fun _ _ => 0) default).world.heap.size - C.prog.globals.size) =
      (begin C.prog (fun _ _ => 0) default).world.heap.toList.drop C.prog.globals.size)
    (hok : Input.okWideB C.prog (w0.forCall (fun _ _ => 0) ⟨#[], args, []⟩) f ⟨#[], args, []⟩ = true)
    (hrow : s.preRow enc C.prog fn conds apart laid (w0.forCall (fun _ _ => 0) ⟨#[], args, []⟩).memory args) :
    ∃ (w : World) (tape : Tape) (i : Input), w.os = os ∧ (w.forCall tape i).Shaped C.prog ∧ i.vars = [] ∧ Input.okWide C.prog (w.forCall tape i) .any w.heap.size f i ∧
      s.preRow enc C.prog fn conds apart laid (w.forCall tape i).memory i.args ∧ ({} : Assume).holds C.prog (lone (Frame.enter C.prog f i.args .normal) [] (w.forCall tape i)) :=
  ⟨w0, fun _ _ => 0, ⟨#[], args, []⟩, hos, World.shaped_of_ZipB hv hr, (Input.okWide_of_okWideB (base := 0) hok).1, (Input.okWide_of_okWideB hok).2, hrow, by
    simp only [Assume.holds]
    exact ⟨by simp, by simp, fun _ => Modest.zero, by simp, by simp⟩⟩
end Go.Proofs.YtchfphakhmifmabGreatDoor
namespace Go.Proofs.YtchfphakhmifmabGreatDoor
open Go.ChangeShapes Go.WideShapes Go.ChangeAt Go.RowKit Go.Shelf Go.Lib

abbrev laid5 : List (String × DataW Unit) := [("unicode/utf8.acceptRanges", Rows.laid_unicode_utf8_acceptRanges), ("unicode.asciiFold", Rows.laid_unicode_asciiFold), ("unicode.caseOrbit", Rows.laid_unicode_caseOrbit), ("unicode.CaseRanges", Rows.laid_unicode_CaseRanges), ("unicode/utf8.first", Rows.laid_unicode_utf8_first)]
/-- What the row's list and the world's shape give. -/
theorem env_of_row5 {W : World} (h : laidMetH Tryz.prog laid5 W) (hsh : W.ShapedOpen Tryz.prog) : Env W ∧ 7 ≤ W.heap.size := by
  rw [MakeChecks.laidMetH_plain _ _ _ (by kernel_rfl)] at h
  obtain ⟨ps, ⟨g1, t1, cs1, f1, p1, q1, _, _, _, _, ⟨g2, t2, cs2, f2, p2, q2, hg2, ht2, hv2, hd2, _, _⟩, _⟩, _⟩ := h
  obtain rfl := Option.some.inj (gFold.symm.trans hg2)
  obtain rfl := Option.some.inj (gFoldT.symm.trans ht2)
  rw [fold_eq] at hd2
  have hcs2 := Lib.cells_of_tab Tryz.underlying198 Tryz.underlying197 cU16 cFold hd2
  refine ⟨⟨?_, ⟨fun c h1 h2 h3 h4 => ?_⟩⟩, ?_⟩
  · exact cell_of_shapedOpen_int (g := 3) (t := 3) (zero := #[.int .i64 0]) (k := .i64) hsh (of_decide_eq_true (by kernel_rfl)) (by kernel_rfl) rfl (by kernel_rfl) (by kernel_rfl) Tryz.underlying3
  · rw [World.var?_cell gFold hv2 c]
    have hc : cs2.toList[c]? = some (.int .u16 (foldZ.getD c 0)) := by
      rw [hcs2, List.getElem?_map]
      have : foldZ.length = 128 := by kernel_rfl
      rw [List.getElem?_eq_getElem (by omega)]
      simp [List.getD, show c < foldZ.length by omega]
    have e : foldZ.getD c 0 = (foldTo c : Int) := by
      rcases h4 with rfl | rfl | rfl | rfl | rfl | rfl | rfl | rfl <;> rfl
    rw [e] at hc
    simpa using hc
  · have hsome : (((begin Tryz.prog (fun _ _ => 0) default).world.heap[6]?).bind Obj.row?).isSome = true := by kernel_rfl
    obtain ⟨⟨z, t⟩, hzt⟩ := Option.isSome_iff_exists.1 hsome
    obtain ⟨cs, hc, _⟩ := hsh.1 6 z t (of_decide_eq_true (by kernel_rfl)) hzt
    exact (Array.getElem?_eq_some_iff.1 hc).1
end Go.Proofs.YtchfphakhmifmabGreatDoor
