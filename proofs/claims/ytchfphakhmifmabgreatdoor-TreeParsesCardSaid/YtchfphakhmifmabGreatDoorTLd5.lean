/- The package-level variables as TreeParses' row lists them. -/
import Derived.Test.YtchfphakhmifmabGreatDoorXLaid
namespace Go.Proofs.YtchfphakhmifmabGreatDoor
open Go.ChangeShapes Go.WideShapes Go.ChangeAt Go.RowKit Go.Shelf Go.Lib

abbrev laid5 : List (String × DataW Unit) := [("unicode/utf8.acceptRanges", Rows.laid_unicode_utf8_acceptRanges), ("unicode.asciiFold", Rows.laid_unicode_asciiFold), ("unicode.caseOrbit", Rows.laid_unicode_caseOrbit), ("unicode.CaseRanges", Rows.laid_unicode_CaseRanges), ("unicode/utf8.first", Rows.laid_unicode_utf8_first)]
/-- What the row's list and the world's shape give. -/
theorem env_of_row5 {W : World} (h : laidMetH Tryz.prog laid5 W) (hsh : W.ShapedOpen Tryz.prog) : Env W ∧ 7 ≤ W.heap.size := by
  rw [MakeChecks.laidMetH_plain _ _ _ (by kernel_rfl)] at h
  obtain ⟨ps, ⟨g1, t1, cs1, f1, p1, q1, _, _, _, _, ⟨g2, t2, cs2, f2, p2, q2, hg2, ht2, hv2, hd2, _, _⟩, _⟩, _⟩ := h
  obtain rfl := Option.some.inj (gFold.symm.trans hg2)
  obtain rfl := Option.some.inj (gFoldT.symm.trans ht2)
  rw [fold_eq] at hd2
  have hcs2 := Lib.cells_of_tab Tryz.underlying198 Tryz.underlying197 cU16 cFold hd2
  refine ⟨⟨?_, ⟨fun c h1 h2 h3 h4 => ?_⟩⟩, ?_⟩
  · exact cell_of_shapedOpen_int (g := 3) (t := 3) (zero := #[.int .i64 0]) (k := .i64) hsh (of_decide_eq_true (by kernel_rfl)) (by kernel_rfl) rfl (by kernel_rfl) (by kernel_rfl) Tryz.underlying3
  · rw [World.var?_cell gFold hv2 c]
    have hc : cs2.toList[c]? = some (.int .u16 (foldZ.getD c 0)) := by
      rw [hcs2, List.getElem?_map]
      have : foldZ.length = 128 := by kernel_rfl
      rw [List.getElem?_eq_getElem (by omega)]
      simp [List.getD, show c < foldZ.length by omega]
    have e : foldZ.getD c 0 = (foldTo c : Int) := by
      rcases h4 with rfl | rfl | rfl | rfl | rfl | rfl | rfl | rfl <;> rfl
    rw [e] at hc
    simpa using hc
  · have hsome : (((begin Tryz.prog (fun _ _ => 0) default).world.heap[6]?).bind Obj.row?).isSome = true := by kernel_rfl
    obtain ⟨⟨z, t⟩, hzt⟩ := Option.isSome_iff_exists.1 hsome
    obtain ⟨cs, hc, _⟩ := hsh.1 6 z t (of_decide_eq_true (by kernel_rfl)) hzt
    exact (Array.getElem?_eq_some_iff.1 hc).1
end Go.Proofs.YtchfphakhmifmabGreatDoor
