import Derived.Test.YtchfphakhmifmabGreatDoorRows
import Derived.Test.YtchfphakhmifmabGreatDoorXChk
import Derived.LaidMore
import Derived.Lib.LaidTab
import Derived.Shelf.Vars
import Derived.Deep.DeepHandedRow
import Derived.Lay
import Derived.SevenTiedAt
namespace Go.Proofs.YtchfphakhmifmabGreatDoor
open Go.ChangeShapes Go.WideShapes Go.ChangeAt Go.RowKit Go.Shelf Go.Lib
abbrev laid6:List (String × DataW Unit):=[("unicode/utf8.acceptRanges",Rows.laid_unicode_utf8_acceptRanges),("unicode.asciiFold",Rows.laid_unicode_asciiFold),("unicode.caseOrbit",Rows.laid_unicode_caseOrbit),("stencil/xmllex.shapes",Rows.laid_stencil_xmllex_shapes),("unicode.CaseRanges",Rows.laid_unicode_CaseRanges),("unicode/utf8.first",Rows.laid_unicode_utf8_first)]
def foldZ:List Int:=(List.range 128).map fun c:Nat=>if c = 107 then 8490 else if c = 115 then 383 else if 65 ≤ c ∧ c ≤ 90 then (c:Int) + 32 else if 97 ≤ c ∧ c ≤ 122 then (c:Int) - 32 else c
theorem fold_eq:(Rows.laid_unicode_asciiFold:DataW Unit) = Lib.tabData .u16 foldZ:=by kernel_rfl
theorem gFold:Tryz.prog.globalNamed "unicode.asciiFold" = some 4:=by kernel_rfl
theorem gFoldT:(Tryz.prog.globals[4]?).map (·.type) = some 198:=by kernel_rfl
theorem gShp:Tryz.prog.globalNamed "stencil/xmllex.shapes" = some 0:=by kernel_rfl
theorem gShpT:(Tryz.prog.globals[0]?).map (·.type) = some 143:=by kernel_rfl
theorem cU16:Tryz.prog.cellsOf 197 = 1:=by kernel_rfl
theorem cFold:Tryz.prog.cellsOf 198 = 128:=by kernel_rfl
theorem cShp:Tryz.prog.cellsOf 143 = 24:=by kernel_rfl
theorem cShp1:Tryz.prog.cellsOf 142 = 3:=by kernel_rfl
theorem cBool:Tryz.prog.cellsOf 4 = 1:=by kernel_rfl
def shpD {H:Type} (k:Nat):DataW H:=.agg [.lit (.bool (shN k)),.lit (.bool (shV k)),.lit (.bool (shT k))]
theorem shp_eq:(Rows.laid_stencil_xmllex_shapes:DataW Unit) = .agg ((List.range 8).map shpD):=by kernel_rfl
theorem xlist3 {α:Type} {l:List α} (h:l.length = 3):∃ a b c,l = [a,b,c]:=by
 rcases l with _ | ⟨a,_ | ⟨b,_ | ⟨c,l⟩⟩⟩ <;> simp at h
 subst h;exact ⟨a,b,c,rfl⟩
theorem bool_of {H:Type} {enc:TypeId × Value → H} {w:World} {base:Nat} {sp:Nat → Bool} {held:Bool} {fuel:Nat} {c:Value} {z:Bool} {q:List MemPlace}
  (h:DataW.trod enc Tryz.prog w base sp held fuel 4 [c] = some (.lit (.bool z),q)):c = .bool z:=by
 obtain ⟨n,hc,hx⟩:=DataW.trod_bool Tryz.underlying4 h
 simp at hc hx
 rw [hc,hx.1]
theorem shp_cells {H:Type} {enc:TypeId × Value → H} {w:World} {base:Nat} {sp:Nat → Bool} {held:Bool} {fuel:Nat} {cs:List Value} {k:Nat} {q:List MemPlace}
  (h:DataW.trod enc Tryz.prog w base sp held fuel 142 cs = some (shpD k,q)):cs = [.bool (shN k),.bool (shV k),.bool (shT k)]:=by
 obtain ⟨ys,n,_,hx,hl,hyl,hf⟩:=DataW.trod_struct Tryz.underlying142 h
 rw [cShp1] at hl
 obtain ⟨c0,c1,c2,rfl⟩:=xlist3 hl
 obtain ⟨⟨d0,q0⟩,⟨d1,q1⟩,⟨d2,q2⟩,rfl⟩:=xlist3 hyl
 have f0:=hf 0 _ rfl
 have f1:=hf 1 _ rfl
 have f2:=hf 2 _ rfl
 simp [cBool] at f0 f1 f2
 simp [shpD] at hx
 obtain ⟨⟨rfl,rfl,rfl⟩,_⟩:=hx
 rw [bool_of f0,bool_of f1,bool_of f2]
theorem env_of_row {W:World} (h:laidMetH Tryz.prog laid6 W) (hsh:W.ShapedOpen Tryz.prog):Env W ∧ ShpTab W ∧ 7 ≤ W.heap.size:=by
 rw [MakeChecks.laidMetH_plain _ _ _ (by kernel_rfl)] at h
 obtain ⟨ps,⟨g1,t1,cs1,f1,p1,q1,_,_,_,_,⟨g2,t2,cs2,f2,p2,q2,hg2,ht2,hv2,hd2,⟨g3,t3,cs3,f3,p3,q3,_,_,_,_,⟨g4,t4,cs4,f4,p4,q4,hg4,ht4,hv4,hd4,_,_⟩,_⟩,_⟩,_⟩,_⟩:=h
 obtain rfl:=Option.some.inj (gFold.symm.trans hg2)
 obtain rfl:=Option.some.inj (gFoldT.symm.trans ht2)
 obtain rfl:=Option.some.inj (gShp.symm.trans hg4)
 obtain rfl:=Option.some.inj (gShpT.symm.trans ht4)
 rw [fold_eq] at hd2
 rw [shp_eq] at hd4
 have hcs2:=Lib.cells_of_tab Tryz.underlying198 Tryz.underlying197 cU16 cFold hd2
 refine ⟨⟨?_,⟨fun c h1 h2 h3 h4=>?_⟩⟩,?_,?_⟩
 ·exact cell_of_shapedOpen_int (g:=3) (t:=3) (zero:=#[.int .i64 0]) (k:=.i64) hsh (of_decide_eq_true (by kernel_rfl)) (by kernel_rfl) rfl (by kernel_rfl) (by kernel_rfl) Tryz.underlying3
 ·rw [World.var?_cell gFold hv2 c]
  have hc:cs2.toList[c]? = some (.int .u16 (foldZ.getD c 0)):=by
   rw [hcs2,List.getElem?_map]
   have:foldZ.length = 128:=by kernel_rfl
   rw [List.getElem?_eq_getElem (by omega)]
   simp [List.getD,show c < foldZ.length by omega]
  have e:foldZ.getD c 0 = (foldTo c:Int):=by
   rcases h4 with rfl | rfl | rfl | rfl | rfl | rfl | rfl | rfl <;> rfl
  rw [e] at hc
  simpa using hc
 ·obtain ⟨xs,m,_,hx,hl,hxl,hf⟩:=DataW.trod_array Tryz.underlying143 hd4
  rw [cShp] at hl
  have hxs:xs.map (·.1) = (List.range 8).map fun i:Nat=>(shpD i:DataW Unit):=by
   have:=congrArg Prod.fst hx
   simpa using this.symm
  have row:∀ i:Nat,i < 8 → (cs4.toList.drop (i * 3)).take 3 = [.bool (shN i),.bool (shV i),.bool (shT i)]:=by
   intro i hi
   have h1:=hf i hi
   rw [cShp1] at h1
   have h2:(xs.map (·.1))[i]? = some (shpD i):=by rw [hxs];simp [hi]
   simp only [List.getElem?_map,Option.map_eq_some_iff] at h2
   obtain ⟨⟨d,q'⟩,h3,rfl⟩:=h2
   rw [h3] at h1
   exact shp_cells h1
  have cell:∀ (i j:Nat) (v:Value),i < 8 → j < 3 → ([.bool (shN i),.bool (shV i),.bool (shT i)]:List Value)[j]? = some v → W.cell? ⟨0,3 * i + j,none⟩ = some v:=by
   intro i j v hi hj hv
   have:=World.var?_cell gShp hv4 (3 * i + j)
   rw [this]
   rw [← row i hi] at hv
   simp [hj] at hv
   simpa [Nat.mul_comm] using hv
  exact ⟨fun k hk=>cell k 0 _ hk (by omega) rfl,fun k hk=>cell k 1 _ hk (by omega) rfl,fun k hk=>cell k 2 _ hk (by omega) rfl⟩
 ·have hsome:(((begin Tryz.prog (fun _ _=>0) default).world.heap[6]?).bind Obj.row?).isSome = true:=by kernel_rfl
  obtain ⟨⟨z,t⟩,hzt⟩:=Option.isSome_iff_exists.1 hsome
  obtain ⟨cs,hc,_⟩:=hsh.1 6 z t (of_decide_eq_true (by kernel_rfl)) hzt
  exact (Array.getElem?_eq_some_iff.1 hc).1
theorem witness_zip {H:Type} {enc:TypeId × Value → H} {C:Checked} {os:Os} {f:FuncId} {fn:Func} {s:OpenSpec} {conds:List PathCond} {apart:Bool} {laid:List (String × DataW Unit)} (w0:World) (args:Array Value) (hos:w0.os = os)
  (hv:(w0.forCall (fun _ _=>0) ⟨#[],args,[]⟩).variablesZipB C.prog = true)
  (hr:((w0.forCall (fun _ _=>0) ⟨#[],args,[]⟩).heap.toList.drop C.prog.globals.size).take ((begin C.prog (fun _ _=>0) default).world.heap.size - C.prog.globals.size) =
   (begin C.prog (fun _ _=>0) default).world.heap.toList.drop C.prog.globals.size)
  (hok:Input.okWideB C.prog (w0.forCall (fun _ _=>0) ⟨#[],args,[]⟩) f ⟨#[],args,[]⟩ = true)
  (hrow:s.preRow enc C.prog fn conds apart laid (w0.forCall (fun _ _=>0) ⟨#[],args,[]⟩).memory args) :
  ∃ (w:World) (tape:Tape) (i:Input),w.os = os ∧ (w.forCall tape i).Shaped C.prog ∧ i.vars = [] ∧ Input.okWide C.prog (w.forCall tape i) .any w.heap.size f i ∧
   s.preRow enc C.prog fn conds apart laid (w.forCall tape i).memory i.args ∧ ({}:Assume).holds C.prog (lone (Frame.enter C.prog f i.args .normal) [] (w.forCall tape i)) :=
 ⟨w0,fun _ _=>0,⟨#[],args,[]⟩,hos,World.shaped_of_ZipB hv hr,(Input.okWide_of_okWideB (base:=0) hok).1,(Input.okWide_of_okWideB hok).2,hrow,by
  simp only [Assume.holds]
  exact ⟨by simp,by simp,fun _=>Modest.zero,by simp,by simp⟩⟩
end Go.Proofs.YtchfphakhmifmabGreatDoor
