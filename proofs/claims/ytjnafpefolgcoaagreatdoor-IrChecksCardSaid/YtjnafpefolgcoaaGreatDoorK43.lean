import Derived.Test.YtjnafpefolgcoaaGreatDoorCards
import Derived.Test.YtjnafpefolgcoaaGreatDoorTie
import Derived.Test.YtjnafpefolgcoaaGreatDoorK41
import Derived.Test.YtjnafpefolgcoaaGreatDoorK42
import Derived.Lay
namespace Go.Proofs.YtjnafpefolgcoaaGreatDoor
set_option maxRecDepth 1000000
set_option maxHeartbeats 16000000
namespace ChecksLaw
open Go.ChangeShapes Go.WideShapes Go.ChangeAt Go.RowKit Go.ChangeMaps
theorem own:ownKnob Tryz.prog.godebug=none:=by kernel_rfl
theorem laidOut:laidOutB Tryz.prog=true:=by kernel_rfl
abbrev zF:Value:=.agg #[.int .i64 0,.int .i64 0,.int .i64 0,.int .i64 0,.int .i64 0,.int .i64 0,.int .i64 0,.int .i64 0,.int .i64 0,.int .i64 0,.int .i64 0,.int .i64 0,.slice none 0 0]
abbrev zArgs:Array Value:=#[zF,.int .i64 0,.string ⟨#[]⟩]
abbrev laid7:List (String×DataW Unit):=[("math/bits.deBruijn32tab",Rows.laid_math_bits_deBruijn32tab),("math/bits.deBruijn64tab",Rows.laid_math_bits_deBruijn64tab),("internal/strconv.uint64pow10",Rows.laid_internal_strconv_uint64pow10),("stencil/prim.kinds",Rows.laid_stencil_prim_kinds),("stencil/types.primNames",Rows.laid_stencil_types_primNames),("stencil/ir.mayHave",Rows.laid_stencil_ir_mayHave),("stencil/ir.presences",Rows.laid_stencil_ir_presences)]
theorem gPow:Tryz.prog.globalNamed "internal/strconv.uint64pow10" = some 5:=by kernel_rfl
theorem gPowT:(Tryz.prog.globals[5]?).map (·.type)=some 176:=by kernel_rfl
theorem cPow:Tryz.prog.cellsOf 176=20:=by kernel_rfl
theorem cU64:Tryz.prog.cellsOf 50=1:=by kernel_rfl
theorem cStr1:Tryz.prog.cellsOf 9=1:=by kernel_rfl
theorem cN11:Tryz.prog.cellsOf 151=11:=by kernel_rfl
theorem cP3:Tryz.prog.cellsOf 74=3:=by kernel_rfl
theorem gNm:Tryz.prog.globalNamed "stencil/types.primNames" = some 2:=by kernel_rfl
theorem gNmT:(Tryz.prog.globals[2]?).map (·.type)=some 151:=by kernel_rfl
theorem gPs:Tryz.prog.globalNamed "stencil/ir.presences" = some 0:=by kernel_rfl
theorem gPsT:(Tryz.prog.globals[0]?).map (·.type)=some 74:=by kernel_rfl
theorem pow_eq:(Rows.laid_internal_strconv_uint64pow10:DataW Unit)=Lib.tabData .u64 Lib.pow10Tab:=by kernel_rfl
def strData {H:Type} (ss:List ByteArray):DataW H:=.agg (ss.map fun s=>.lit (.string s.data.toList))
abbrev shPr:List ByteArray:=[shP 0,shP 1,shP 2]
theorem nm_eq:(Rows.laid_stencil_types_primNames:DataW Unit)=strData shNm:=by kernel_rfl
theorem ps_eq:(Rows.laid_stencil_ir_presences:DataW Unit)=strData shPr:=by kernel_rfl
theorem cells_of_strs {H:Type} {enc:TypeId×Value->H} {w:World} {base:Nat} {sp:Nat->Bool} {held:Bool} {fuel:Nat} {t:TypeId} {n:Nat} {cs:List Value} {ss:List ByteArray} {q:List MemPlace} (ht:Tryz.prog.underlying t=some (.array n 9)) (hc:Tryz.prog.cellsOf t=n)
  (h:DataW.trod enc Tryz.prog w base sp held fuel t cs=some (strData ss,q)):cs=ss.map cS:=by
 obtain⟨xs,m,_,hx,hl,hxl,hf⟩:=DataW.trod_array ht h
 rw[hc] at hl
 have hxs:xs.map (·.1)=ss.map fun s=>(.lit (.string s.data.toList):DataW H):=by
  have:=congrArg Prod.fst hx
  unfold strData at this
  simpa using this.symm
 have hsl:ss.length=n:=by
  have:=congrArg List.length hxs
  rw[List.length_map,List.length_map] at this
  omega
 apply List.ext_getElem?
 intro i
 by_cases hi:i<n
 ·have h1:=hf i hi
  rw[cStr1,Nat.mul_one] at h1
  obtain⟨c,hcs⟩:∃ c,cs[i]?=some c:=⟨cs[i],List.getElem?_eq_getElem (by omega)⟩
  have e:(cs.drop i).take 1=[c]:=by
   have hi2:i<cs.length:=by omega
   rw[List.drop_eq_getElem_cons hi2,List.take_succ_cons,List.take_zero]
   rw[List.getElem?_eq_getElem hi2] at hcs
   cases hcs
   rfl
  rw[e] at h1
  obtain⟨s,hs⟩:∃ s,ss[i]?=some s:=⟨ss[i],List.getElem?_eq_getElem (by omega)⟩
  have h2:(xs.map (·.1))[i]?=some (.lit (.string s.data.toList)):=by rw[hxs,List.getElem?_map,hs];rfl
  rw[List.getElem?_map] at h2
  obtain⟨⟨d,q'⟩,h3,h4⟩:=Option.map_eq_some_iff.1 h2
  rw[h3] at h1
  obtain⟨s1,e1,r1⟩:=DataW.trod_string Tryz.underlying9 h1
  simp only at h4
  subst h4
  have h5:=congrArg Prod.fst r1.1
  simp only[DataW.lit.injEq,Lit.string.injEq] at h5
  have:s1=s:=by
   refine ba_ext ?_
   exact h5.symm
  subst this
  rw[List.getElem?_map,hs,hcs]
  simpa[cS] using e1
 ·rw[List.getElem?_eq_none (by omega),List.getElem?_eq_none (by rw[List.length_map];omega)]
theorem pos_of {W:World} {g o:Nat} {v:Value} (hc:W.cell? ⟨g,o,none⟩=some v):g<W.heap.size:=by
 rcases Nat.lt_or_ge g W.heap.size with h1|h1
 ·exact h1
 ·simp[World.cell?,Array.getElem?_eq_none h1] at hc
theorem tabs7 {W:World} (h:laidMetH Tryz.prog laid7 W):KT W/\MT W/\ShTb W:=by
 have h2:laidMetH Tryz.prog laid2 W:=(show laid7.filter (fun x=>x.1 == "stencil/prim.kinds" || x.1 == "stencil/ir.mayHave")=laid2 by kernel_rfl)▸h.filter _
 have h3:laidMetH Tryz.prog [("internal/strconv.uint64pow10",Rows.laid_internal_strconv_uint64pow10)] W:=(show laid7.filter (fun x=>x.1 == "internal/strconv.uint64pow10")=[("internal/strconv.uint64pow10",Rows.laid_internal_strconv_uint64pow10)] by kernel_rfl)▸h.filter _
 have h4:laidMetH Tryz.prog [("stencil/types.primNames",Rows.laid_stencil_types_primNames)] W:=(show laid7.filter (fun x=>x.1 == "stencil/types.primNames")=[("stencil/types.primNames",Rows.laid_stencil_types_primNames)] by kernel_rfl)▸h.filter _
 have h5:laidMetH Tryz.prog [("stencil/ir.presences",Rows.laid_stencil_ir_presences)] W:=(show laid7.filter (fun x=>x.1 == "stencil/ir.presences")=[("stencil/ir.presences",Rows.laid_stencil_ir_presences)] by kernel_rfl)▸h.filter _
 have k:=tabs_of_laid h2
 have h3':laidMet Tryz.prog [("internal/strconv.uint64pow10",Rows.laid_internal_strconv_uint64pow10)] W:=h3
 have h4':laidMet Tryz.prog [("stencil/types.primNames",Rows.laid_stencil_types_primNames)] W:=h4
 have h5':laidMet Tryz.prog [("stencil/ir.presences",Rows.laid_stencil_ir_presences)] W:=h5
 rw[pow_eq] at h3'
 have ht:Lib.TabIs Tryz.prog W "internal/strconv.uint64pow10" .u64 Lib.pow10Tab:=Lib.tabIs_of_head gPow gPowT Tryz.underlying176 Tryz.underlying50 cU64 cPow h3'
 obtain⟨_,⟨g4,t4,cs4,f4,p4,q4,hg4,ht4,hv4,hd4,_,_⟩,_⟩:=h4'
 obtain⟨_,⟨g5,t5,cs5,f5,p5,q5,hg5,ht5,hv5,hd5,_,_⟩,_⟩:=h5'
 obtain rfl:=Option.some.inj (gNm.symm.trans hg4)
 obtain rfl:=Option.some.inj (gNmT.symm.trans ht4)
 obtain rfl:=Option.some.inj (gPs.symm.trans hg5)
 obtain rfl:=Option.some.inj (gPsT.symm.trans ht5)
 rw[nm_eq] at hd4
 rw[ps_eq] at hd5
 have e4:=cells_of_strs Tryz.underlying151 cN11 hd4
 have e5:=cells_of_strs Tryz.underlying74 cP3 hd5
 have n4:∀ p:Nat,p<11->W.cell? ⟨2,p,none⟩=some (.string (snAt p)):=fun p hp=>by
  rw[World.var?_cell gNm hv4 p]
  have hs:shNm[p]?=some (snAt p):=by
   unfold snAt
   rw[List.getD_eq_getElem?_getD]
   have:p<shNm.length:=hp
   rw[List.getElem?_eq_getElem this]
   rfl
  have hc:cs4.toList[p]?=some (.string (snAt p)):=by rw[e4,List.getElem?_map,hs];rfl
  simpa using hc
 have n5:∀ p:Nat,p<3->W.cell? ⟨0,p,none⟩=some (.string (shP p)):=fun p hp=>by
  rw[World.var?_cell gPs hv5 p]
  have hs:shPr[p]?=some (shP p):=by
   have:p=0\/p=1\/p=2:=by omega
   rcases this with rfl|rfl|rfl<;>rfl
  have hc:cs5.toList[p]?=some (.string (shP p)):=by rw[e5,List.getElem?_map,hs];rfl
  simpa using hc
 exact⟨k.1,k.2,⟨pos_of (n4 0 (by omega)),n4,pos_of (n5 0 (by omega)),n5,fun W' hb=>Lib.tabBelow_of_tabIs ht W' hb⟩⟩
theorem contract (H:Type) (enc:TypeId×Value->H) (W:World) (base:Nat) (args:Array Value) (ds gs:List (DataW H)) (before:List MemPlace)
  (hval:∀ (j:Nat) t v,Tryz.f3.params[j]?=some t->args[j]?=some v->Value.okWide Tryz.prog W .any base t v)
  (hW:DataW.Whole enc Tryz.prog Tryz.f3.params.toList Rows.irChecksSpec.vars false W args.toList ds gs before) (hwt:(DataW.weightsEach Tryz.prog (Tryz.f3.params.toList++Rows.irChecksSpec.plain.varTypes Tryz.prog) (ds++gs)).all (·<=reachBytes)=true) (hL:laidMetH Tryz.prog laid7 W) :
  Calls Tryz.prog 3 args W fun e W'=>∃ v,e = .returned v/\Rows.irChecksSpec.post enc Tryz.prog Tryz.f3 false true false false W args v W':=by
 have hW':=hW
 obtain⟨p,q,hA0,hV,rfl,hfz,hnd⟩:=hW
 have hA:DataW.TrodAll enc Tryz.prog W 0 (fun _=>true) true Tryz.f3.params.toList args.toList ds p:=hA0
 have hwt':=hwt
 rw[Tryz.params3] at hA hval hwt'
 obtain⟨v0,vs0,d0,ds0,p0,q0,hargs,rfl,rfl,h0,r0⟩:=trodAll_cons hA
 obtain⟨v1,vs1,d1,ds1,p1,q1,rfl,rfl,rfl,h1,r1⟩:=trodAll_cons r0
 obtain⟨v2,vs2,d2,ds2,p2,q2,rfl,rfl,rfl,h2,r2⟩:=trodAll_cons r1
 obtain⟨rfl,rfl,rfl⟩:=trodAll_nil r2
 obtain rfl:args=#[v0,v1,v2]:=by cases args;simp_all
 obtain⟨rfl,rfl⟩:=trodVars_none hV
 obtain⟨a1,rfl,rfl,rfl,w1⟩:=open_int Tryz.underlying3 (hval 1 3 v1 rfl rfl) h1
 obtain⟨s,rfl,rfl,rfl,hsz⟩:=open_string Tryz.underlying9 (hval 2 9 v2 rfl rfl) h2
 have h0k:=h0
 obtain⟨fuel,hf⟩:=h0
 have hw0:(d0.weights Tryz.prog 30).all (·<=reachBytes)=true:=List.all_eq_true.2 fun n hn=>List.all_eq_true.1 hwt' n (by
  simp only[DataW.weightsEach,List.cons_append,List.mem_append]
  exact .inl hn)
 obtain⟨f,pp,cp,hes,hE,hl0,hc0,hm0,fo⟩:=form_opened (hval 0 30 v0 rfl rfl) hf hw0
 obtain⟨kt,mt,tb⟩:=tabs7 hL
 simp only[List.append_nil] at hW'
 have hlt:∀ x∈p0,x.block<W.heap.size:=fun x hx=>by simpa using hW'.lt x (by simpa using hx)
 rw[hes] at h0k hW' ⊢
 refine(IrChecks_any f a1 s pp cp W ⟨fo,hE,kt,mt,tb,hl0,hc0,hm0⟩).mono fun e W' ⟨he,hg⟩=>?_
 subst he
 refine⟨_,rfl,_,_,_,[],p0,[],by simpa using hW',?_,?_,?_,hg.frame _,fun h=>by cases h⟩
 ·exact trodAll_cons_mk (shut_bool Tryz.underlying4 _) trodAll_mk0
 ·have:=trodAll_cons_mk (Below.trod laidOut (by kernel_rfl) (of_decide_eq_true (by kernel_rfl)) h0k hg hlt) (trodAll_cons_mk (shut_int (w:=W') Tryz.underlying3 w1) (trodAll_cons_mk (shut_string Tryz.underlying9 hsz) trodAll_mk0))
  simp only[List.append_nil] at this
  exact this
 ·rfl
theorem reads (os:Os) {H:Type} (enc:TypeId×Value->H):∃ places,DataW.whole enc Tryz.prog ((World.laidAll Tryz.prog os laid7).forCall (fun _ _=>0) ⟨#[],zArgs,[]⟩).memory Tryz.f3.params.toList Rows.irChecksSpec.vars false zArgs.toList 8=some ([.agg [.lit (.int .i64 0),.lit (.int .i64 0),.lit (.int .i64 0),.agg [.lit (.int .i64 0),.agg [.lit (.int .i64 0),.lit (.int .i64 0)],.agg [.lit (.int .i64 0),.lit (.int .i64 0)],.agg [.lit (.int .i64 0),.lit (.int .i64 0)],.agg [.lit (.int .i64 0),.lit (.int .i64 0)]],.nil],.lit (.int .i64 0),.lit (.string [])],[],places) :=
 ⟨[],by kernel_rfl⟩
theorem met (os:Os):laidMet Tryz.prog laid7 ((World.laidAll Tryz.prog os laid7).forCall (fun _ _=>0) ⟨#[],zArgs,[]⟩).memory:=laidMet_laidAll _ (by kernel_rfl) (by kernel_rfl)
theorem witness_zip {H:Type} {enc:TypeId×Value->H} {C:Checked} {os:Os} {f:FuncId} {fn:Func} {s:OpenSpec} {conds:List PathCond} {apart:Bool} {laid:List (String×DataW Unit)} (w0:World) (args:Array Value) (hos:w0.os=os)
  (hv:(w0.forCall (fun _ _=>0) ⟨#[],args,[]⟩).variablesZipB C.prog=true)
  (hr:((w0.forCall (fun _ _=>0) ⟨#[],args,[]⟩).heap.toList.drop C.prog.globals.size).take ((begin C.prog (fun _ _=>0) default).world.heap.size-C.prog.globals.size) =
   (begin C.prog (fun _ _=>0) default).world.heap.toList.drop C.prog.globals.size)
  (hok:Input.okWideB C.prog (w0.forCall (fun _ _=>0) ⟨#[],args,[]⟩) f ⟨#[],args,[]⟩=true)
  (hrow:s.preRow enc C.prog fn conds apart laid (w0.forCall (fun _ _=>0) ⟨#[],args,[]⟩).memory args) :
  ∃ (w:World) (tape:Tape) (i:Input),w.os=os/\(w.forCall tape i).Shaped C.prog/\i.vars=[]/\Input.okWide C.prog (w.forCall tape i) .any w.heap.size f i /\
   s.preRow enc C.prog fn conds apart laid (w.forCall tape i).memory i.args/\({}:Assume).holds C.prog (lone (Frame.enter C.prog f i.args .normal) [] (w.forCall tape i)) :=
 ⟨w0,fun _ _=>0,⟨#[],args,[]⟩,hos,World.shaped_of_ZipB hv hr,(Input.okWide_of_okWideB (base:=0) hok).1,(Input.okWide_of_okWideB hok).2,hrow,by
  simp only[Assume.holds]
  exact⟨by simp,by simp,fun _=>Modest.zero,by simp,by simp⟩⟩
theorem lifted (os:Os) (started:os.Started) (H:Type) (enc:TypeId×Value->H) (F:Stop.Interp) :
  ReturnsInHanded {} Tryz.checked os 3 .any ((OpenSpec.ofChange Rows.irChecksSpec).preRow enc Tryz.prog Tryz.f3 Rows.irChecksRow.domain false Rows.irChecksRow.laid) (((OpenSpec.ofChange Rows.irChecksSpec).at F).post enc Tryz.prog Tryz.f3 false true false false):=by
 obtain⟨places,hx⟩:=reads os enc
 refine returnsInHanded_of_row (C:=Tryz.checked) (s:=OpenSpec.ofChange Rows.irChecksSpec) own started (by kernel_rfl) Tryz.func3
  (witness_zip (enc:=enc) (C:=Tryz.checked) (World.laidAll Tryz.prog os laid7) zArgs (World.laidAll_os _ _ _) (by kernel_rfl) (by kernel_rfl) (by kernel_rfl)
   (OpenSpec.preRow_of_cond 8 hx (by kernel_rfl) (fun k hk=>by cases hk) (by kernel_rfl) (met os))) ?_
 intro W base args ds gs before hval hW _ _ hwt hL _ _
 exact contract H enc W base args ds gs before hval hW hwt hL
theorem said:Rows.IrChecksSaid :=
 OpenClaim.holds_of_cond 3 Tryz.f3 rfl rfl rfl rfl rfl rfl rfl ⟨rfl,rfl,rfl,rfl,rfl⟩ rfl rfl rfl rfl rfl (by kernel_rfl) Tryz.func3 (by kernel_rfl)
  (of_decide_eq_true (by kernel_rfl)) (by unfold Func.isWrapper;first|(rw[if_pos (by decide +kernel)];kernel_rfl)|(rw[if_neg (by decide +kernel)];exact⟨rfl,rfl⟩))
  (fun os started H enc _ F=>by rw[OpenClaim.pre_eq_preRow];exact lifted os started H enc F)
theorem plain (f:FuncId) (fn:Func) (hf:Tryz.pinned.checked.prog.funcNamed "stencil/stencillaw12.IrChecks" = some f) (hfn:Tryz.pinned.checked.prog.funcs[f]?=some fn) :
  false=Tryz.pinned.checked.prog.looks []/\∀ (j:Nat) t,fn.params[j]?=some t->Tryz.pinned.checked.prog.wantsStandIn t=false:=by
 obtain rfl:f=3:=Option.some.inj ((show Tryz.prog.funcNamed "stencil/stencillaw12.IrChecks" = some 3 by kernel_rfl).symm.trans hf) |>.symm
 obtain rfl:fn=Tryz.f3:=(Option.some.inj (Tryz.func3.symm.trans hfn)).symm
 refine⟨by kernel_rfl,fun j t ht=>?_⟩
 rw[Tryz.params3] at ht
 have h:t=30\/t=3\/t=9:=by
  have:=Array.mem_of_getElem? ht
  simpa using this
 rcases h with rfl|rfl|rfl
 ·exact(show Tryz.prog.wantsStandIn 30=false by kernel_rfl)
 ·exact(show Tryz.prog.wantsStandIn 3=false by kernel_rfl)
 ·exact(show Tryz.prog.wantsStandIn 9=false by kernel_rfl)
end ChecksLaw
theorem irChecks_card:Rows.IrChecksCardSaid :=
 Claim7.holds_tied_plain_at .later [] _ _ _ _ ChecksLaw.said (fun _ h=>by cases h) (by kernel_rfl) (fun _ h=>by cases h) irChecks_row_tie rfl ⟨rfl,rfl⟩ (by kernel_rfl) rfl ChecksLaw.plain (by kernel_rfl)
#print axioms irChecks_card
end Go.Proofs.YtjnafpefolgcoaaGreatDoor
