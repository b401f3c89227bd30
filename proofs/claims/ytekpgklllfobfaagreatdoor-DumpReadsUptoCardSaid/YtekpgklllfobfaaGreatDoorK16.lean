import Derived.Test.YtekpgklllfobfaaGreatDoorCards
import Derived.Test.YtekpgklllfobfaaGreatDoorTie
import Derived.Test.YtekpgklllfobfaaGreatDoorK15
import Derived.Deep.Slices
import Derived.Deep.DeepHandedRow
import Derived.LaidMore
import Derived.Lay
namespace Go.Proofs.YtekpgklllfobfaaGreatDoor
set_option maxRecDepth 1000000
set_option maxHeartbeats 16000000
namespace ReadsLaw
open Go.ChangeShapes Go.WideShapes Go.ChangeAt Go.RowKit Go.ChangeMaps Go.Shelf
theorem own:ownKnob Tryz.prog.godebug=none:=by kernel_rfl
theorem laidOut:laidOutB Tryz.prog=true:=by kernel_rfl
abbrev laid6:List (String×DataW Unit):=[("math/bits.deBruijn32tab",Rows.laid_math_bits_deBruijn32tab),("math/bits.deBruijn64tab",Rows.laid_math_bits_deBruijn64tab),("internal/strconv.uint64pow10",Rows.laid_internal_strconv_uint64pow10),("unicode/utf8.acceptRanges",Rows.laid_unicode_utf8_acceptRanges),("stencil/dump.names",Rows.laid_stencil_dump_names),("unicode/utf8.first",Rows.laid_unicode_utf8_first)]
theorem gPow:Tryz.prog.globalNamed "internal/strconv.uint64pow10" = some 2:=by kernel_rfl
theorem gPowT:(Tryz.prog.globals[2]?).map (·.type)=some 120:=by kernel_rfl
theorem cPow:Tryz.prog.cellsOf 120=20:=by kernel_rfl
theorem cU64:Tryz.prog.cellsOf 68=1:=by kernel_rfl
theorem cStr1:Tryz.prog.cellsOf 9=1:=by kernel_rfl
theorem cN6:Tryz.prog.cellsOf 61=6:=by kernel_rfl
theorem gNm:Tryz.prog.globalNamed "stencil/dump.names" = some 0:=by kernel_rfl
theorem gNmT:(Tryz.prog.globals[0]?).map (·.type)=some 61:=by kernel_rfl
theorem pow_eq:(Rows.laid_internal_strconv_uint64pow10:DataW Unit)=Lib.tabData .u64 Lib.pow10Tab:=by kernel_rfl
def strData {H:Type} (ss:List ByteArray):DataW H:=.agg (ss.map fun s=>.lit (.string s.data.toList))
theorem nm_eq:(Rows.laid_stencil_dump_names:DataW Unit)=strData kdL:=by kernel_rfl
theorem ba_ext' {a b:ByteArray} (h:a.data.toList=b.data.toList):a=b:=ByteArray.ext (Array.toList_inj.1 h)
theorem tl_len (s:ByteArray):s.data.toList.length=s.size:=Array.length_toList
theorem cells_of_strs {H:Type} {enc:TypeId×Value->H} {w:World} {base:Nat} {sp:Nat->Bool} {held:Bool} {fuel:Nat} {t:TypeId} {n:Nat} {cs:List Value} {ss:List ByteArray} {q:List MemPlace} (ht:Tryz.prog.underlying t=some (.array n 9)) (hc:Tryz.prog.cellsOf t=n)
  (h:DataW.trod enc Tryz.prog w base sp held fuel t cs=some (strData ss,q)):cs=ss.map cS:=by
 obtain⟨xs,m,_,hx,hl,hxl,hf⟩:=DataW.trod_array ht h
 rw[hc] at hl
 have hxs:xs.map (·.1)=ss.map fun s=>(.lit (.string s.data.toList):DataW H):=by
  have:=congrArg Prod.fst hx
  unfold strData at this
  simpa using this.symm
 have hsl:ss.length=n:=by
  have:=congrArg List.length hxs
  rw[List.length_map,List.length_map] at this
  omega
 apply List.ext_getElem?
 intro i
 by_cases hi:i<n
 ·have h1:=hf i hi
  rw[cStr1,Nat.mul_one] at h1
  obtain⟨c,hcs⟩:∃ c,cs[i]?=some c:=⟨cs[i],List.getElem?_eq_getElem (by omega)⟩
  have e:(cs.drop i).take 1=[c]:=by
   have hi2:i<cs.length:=by omega
   rw[List.drop_eq_getElem_cons hi2,List.take_succ_cons,List.take_zero]
   rw[List.getElem?_eq_getElem hi2] at hcs
   cases hcs
   rfl
  rw[e] at h1
  obtain⟨s,hs⟩:∃ s,ss[i]?=some s:=⟨ss[i],List.getElem?_eq_getElem (by omega)⟩
  have h2:(xs.map (·.1))[i]?=some (.lit (.string s.data.toList)):=by rw[hxs,List.getElem?_map,hs];rfl
  rw[List.getElem?_map] at h2
  obtain⟨⟨d,q'⟩,h3,h4⟩:=Option.map_eq_some_iff.1 h2
  rw[h3] at h1
  obtain⟨s1,e1,r1⟩:=DataW.trod_string Tryz.underlying9 h1
  simp only at h4
  subst h4
  have h5:=congrArg Prod.fst r1.1
  simp only[DataW.lit.injEq,Lit.string.injEq] at h5
  have:s1=s:=by
   refine ba_ext' ?_
   exact h5.symm
  subst this
  rw[List.getElem?_map,hs,hcs]
  simpa[cS] using e1
 ·rw[List.getElem?_eq_none (by omega),List.getElem?_eq_none (by rw[List.length_map];omega)]
theorem pos_of {W:World} {g o:Nat} {v:Value} (hc:W.cell? ⟨g,o,none⟩=some v):g<W.heap.size:=by
 rcases Nat.lt_or_ge g W.heap.size with h1|h1
 ·exact h1
 ·simp[World.cell?,Array.getElem?_eq_none h1] at hc
theorem tabs6 {W:World} (h:laidMetH Tryz.prog laid6 W) (hsh:W.ShapedOpen Tryz.prog):DpTb W:=by
 have h3:laidMetH Tryz.prog [("internal/strconv.uint64pow10",Rows.laid_internal_strconv_uint64pow10)] W:=(show laid6.filter (fun x=>x.1 == "internal/strconv.uint64pow10")=[("internal/strconv.uint64pow10",Rows.laid_internal_strconv_uint64pow10)] by kernel_rfl)▸h.filter _
 have h4:laidMetH Tryz.prog [("stencil/dump.names",Rows.laid_stencil_dump_names)] W:=(show laid6.filter (fun x=>x.1 == "stencil/dump.names")=[("stencil/dump.names",Rows.laid_stencil_dump_names)] by kernel_rfl)▸h.filter _
 have h3':laidMet Tryz.prog [("internal/strconv.uint64pow10",Rows.laid_internal_strconv_uint64pow10)] W:=h3
 have h4':laidMet Tryz.prog [("stencil/dump.names",Rows.laid_stencil_dump_names)] W:=h4
 rw[pow_eq] at h3'
 have ht:Lib.TabIs Tryz.prog W "internal/strconv.uint64pow10" .u64 Lib.pow10Tab:=Lib.tabIs_of_head gPow gPowT Tryz.underlying120 Tryz.underlying68 cU64 cPow h3'
 obtain⟨_,⟨g4,t4,cs4,f4,p4,q4,hg4,ht4,hv4,hd4,_,_⟩,_⟩:=h4'
 obtain rfl:=Option.some.inj (gNm.symm.trans hg4)
 obtain rfl:=Option.some.inj (gNmT.symm.trans ht4)
 rw[nm_eq] at hd4
 have e4:=cells_of_strs Tryz.underlying61 cN6 hd4
 have n4:∀ (i:Nat) s,kdL[i]?=some s->W.cell? ⟨0,i,none⟩=some (.string s):=fun i s hs=>by
  rw[World.var?_cell gNm hv4 i]
  have hc:cs4.toList[i]?=some (.string s):=by rw[e4,List.getElem?_map,hs];rfl
  simpa using hc
 have hm:∃ m,W.cell? ⟨1,0,none⟩=some (.int .i64 m):=cell_of_shapedOpen_int (g:=1) (t:=3) (zero:=#[.int .i64 0]) (k:=.i64) hsh (of_decide_eq_true (by kernel_rfl)) (by kernel_rfl) rfl (by kernel_rfl) (by kernel_rfl) Tryz.underlying3
 exact⟨⟨pos_of (n4 0 _ rfl),n4⟩,fun W' hb=>Lib.tabBelow_of_tabIs ht W' hb,pos_of hm.choose_spec,hm⟩
theorem bulk_pos {H:Type} (d:DataW H):1<=Rows.uptoBulk d:=by
 cases d with
 | lit l=>cases l<;>simp[Rows.uptoBulk]
 | nil=>simp[Rows.uptoBulk]
 | ptr d=>simp[Rows.uptoBulk]
 | slice e s=>simp[Rows.uptoBulk]
 | agg p=>simp[Rows.uptoBulk]
 | iface n d=>simp[Rows.uptoBulk]
 | map e=>simp[Rows.uptoBulk]
 | held h=>simp[Rows.uptoBulk]
theorem bulk_len {H:Type}:∀ l:List (DataW H),l.length<=Rows.uptoBulkAll l
 | []=>Nat.zero_le _
 | d::l=>by
  have:=bulk_len l
  have h1:=bulk_pos d
  simp only[Rows.uptoBulkAll,List.length_cons]
  omega
theorem bulk_mem {H:Type} {d:DataW H}:∀ {l:List (DataW H)},d∈l->Rows.uptoBulk d<=Rows.uptoBulkAll l
 | [],h=>by cases h
 | x::l,h=>by
  simp only[Rows.uptoBulkAll]
  rcases List.mem_cons.1 h with rfl|h
  ·omega
  ·have:=bulk_mem h;omega
theorem lines_open {H:Type} {enc:TypeId×Value->H} {W:World} {fuel:Nat} {v:Value} {x:DataW H×List MemPlace} (h:DataW.trod enc Tryz.prog W 0 (fun _=>true) true fuel 22 [v]=some x) (hk:Rows.uptoBulk x.1<=1048576) :
  ∃ pp ts cp,v = .slice pp ts.length cp/\TxL W pp ts/\ts.length<=1048576/\∀ t∈ts,t.size<=1048576:=by
 rcases Go.Deep.open_slice Tryz.underlying22 h with ⟨hcs,hx⟩|⟨a,len,cap,m,n,D,Pl,hcs,_,hl,hm,hmm,hx,hel⟩
 ·obtain rfl:v = .slice none 0 0:=by simpa using hcs
  exact⟨none,[],0,rfl,(fun i t ht=>by cases ht),by decide,fun t ht=>by cases ht⟩
 ·obtain rfl:v = .slice (some a) len cap:=by simpa using hcs
  simp only[if_true] at hmm
  subst m
  rw[cStr1] at hel
  have he:x.1 = .slice ((List.range len).map D) ((List.range (cap-len)).map fun j=>D (len+j)):=by rw[hx]
  rw[he] at hk
  simp only[Rows.uptoBulk] at hk
  have hlen:=bulk_len ((List.range len).map D)
  rw[List.length_map,List.length_range] at hlen
  have one:∀ i,i<len->∃ t:ByteArray,W.cell? (a.add (i*1))=some (.string t)/\t.size<=1048576:=by
   intro i hi
   obtain⟨cs',hc,ht⟩:=hel i (by omega)
   obtain⟨_,hlen4,hcell⟩:=World.cells?_some hc
   obtain⟨c0,rfl⟩:∃ c0,cs'=[c0]:=List.length_eq_one_iff.1 hlen4
   obtain⟨s1,h1,r1⟩:=DataW.trod_string Tryz.underlying9 ht
   simp only[List.cons.injEq,and_true] at h1
   subst h1
   have g0:=hcell 0 (by decide)
   rw[Go.Deep.add_add] at g0
   have hD:D i = .lit (.string s1.data.toList):=congrArg Prod.fst r1.1
   have hb:=bulk_mem (List.mem_map.2 ⟨i,List.mem_range.2 hi,rfl⟩:D i∈(List.range len).map D)
   rw[hD] at hb
   simp only[Rows.uptoBulk] at hb
   rw[tl_len] at hb
   exact⟨s1,g0,by omega⟩
  haveI:Inhabited ByteArray:=⟨ByteArray.empty⟩
  obtain⟨f,hf⟩:=Go.Deep.choose_lt one
  refine⟨some a,(List.range len).map f,cap,by simp,(fun i t ht=>?_),by rw[List.length_map,List.length_range];omega,fun t ht=>?_⟩
  ·rw[List.getElem?_map] at ht
   by_cases hi:i<len
   ·rw[List.getElem?_range hi] at ht
    cases ht
    obtain⟨h0,_⟩:=hf i hi
    obtain⟨g,o,spot⟩:=a
    have hspot:spot=none:=by simpa[Addr.add] using World.cell?_spot (hf 0 (by omega)).1
    subst hspot
    have e:(⟨g,o,none⟩:Addr).add (i*1)=⟨g,o+i,none⟩:=by unfold Addr.add;simp
    rw[e] at h0
    exact⟨g,o,rfl,pos_of h0,h0⟩
   ·rw[List.getElem?_eq_none (by simp;omega)] at ht
    cases ht
  ·obtain⟨i,hi,rfl⟩:=List.mem_map.1 ht
   exact(hf i (List.mem_range.1 hi)).2
theorem contract (H:Type) (enc:TypeId×Value->H) (W:World) (base:Nat) (args:Array Value) (ds gs:List (DataW H)) (before:List MemPlace)
  (hval:∀ (j:Nat) t v,Tryz.f3.params[j]?=some t->args[j]?=some v->Value.okWide Tryz.prog W .any base t v)
  (hW:DataW.Whole enc Tryz.prog Tryz.f3.params.toList Rows.dumpReadsSpec.vars false W args.toList ds gs before) (hk:Rows.uptoSmall H (ds++gs)=true) (hL:laidMetH Tryz.prog laid6 W) (hsh:W.ShapedOpen Tryz.prog) :
  Calls Tryz.prog 3 args W fun e W'=>∃ v,e = .returned v/\Rows.dumpReadsSpec.post enc Tryz.prog Tryz.f3 false true false false W args v W':=by
 have hW':=hW
 obtain⟨p,q,hA0,hV,rfl,hfz,hnd⟩:=hW
 have hA:DataW.TrodAll enc Tryz.prog W 0 (fun _=>true) true Tryz.f3.params.toList args.toList ds p:=hA0
 rw[Tryz.params3] at hA hval
 obtain⟨v1,vs1,d1,ds1,p1,q1,hargs,rfl,rfl,h1,r1⟩:=trodAll_cons hA
 obtain⟨rfl,rfl,rfl⟩:=trodAll_nil r1
 obtain rfl:args=#[v1]:=by cases args;simp_all
 obtain⟨rfl,rfl⟩:=trodVars_none hV
 obtain⟨a1,len,cap,rfl⟩:=okWide_slice Tryz.underlying22 (hval 0 22 v1 rfl rfl)
 have h1k:=h1
 obtain⟨fuel,hf⟩:=h1
 clear hA0
 simp only[List.append_nil] at hW'
 have hlt:∀ x∈p1,x.block<W.heap.size:=fun x hx=>by simpa using hW'.lt x hx
 have hbd:Rows.uptoBulk d1<=1048576:=by
  have h1:=of_decide_eq_true hk
  have e:Rows.uptoBulkAll ([d1]++[])=Rows.uptoBulk d1+0:=rfl
  rw[e] at h1
  omega
 have hf2:DataW.trod enc Tryz.prog W 0 (fun _=>true) true fuel 22 [Value.slice a1 len cap]=some (d1,p1):=by simpa[Value.cells] using hf
 obtain⟨pp,ts,cp,hv,hrow,hlen,hok⟩:=lines_open (x:=(d1,p1)) hf2 hbd
 cases hv
 refine(DumpReads_any ts _ _ W (tabs6 hL hsh) hrow hlen hok).mono fun e W' ⟨he,hg⟩=>?_
 subst he
 refine⟨_,rfl,_,_,_,[],p1,[],hW',?_,?_,?_,hg.frame _,fun h=>by cases h⟩
 ·exact trodAll_cons_mk (shut_bool Tryz.underlying4 _) trodAll_mk0
 ·exact trodAll_mk1 (Below.trod laidOut (by kernel_rfl) (of_decide_eq_true (by kernel_rfl)) h1k hg hlt)
 ·rfl
abbrev zArgs:Array Value:=#[.slice none 0 0]
theorem reads (os:Os) {H:Type} (enc:TypeId×Value->H):∃ places,DataW.whole enc Tryz.prog ((World.laidAll Tryz.prog os laid6).forCall (fun _ _=>0) ⟨#[],zArgs,[]⟩).memory Tryz.f3.params.toList Rows.dumpReadsSpec.vars false zArgs.toList 8=some ([.nil],[],places) :=
 ⟨[],by kernel_rfl⟩
theorem met (os:Os):laidMet Tryz.prog laid6 ((World.laidAll Tryz.prog os laid6).forCall (fun _ _=>0) ⟨#[],zArgs,[]⟩).memory:=laidMet_laidAll _ (by kernel_rfl) (by kernel_rfl)
theorem witness_zip {H:Type} {enc:TypeId×Value->H} {C:Checked} {os:Os} {f:FuncId} {fn:Func} {s:OpenSpec} {conds:List PathCond} {apart:Bool} {laid:List (String×DataW Unit)} (w0:World) (args:Array Value) (hos:w0.os=os)
  (hv:(w0.forCall (fun _ _=>0) ⟨#[],args,[]⟩).variablesZipB C.prog=true)
  (hr:((w0.forCall (fun _ _=>0) ⟨#[],args,[]⟩).heap.toList.drop C.prog.globals.size).take ((begin C.prog (fun _ _=>0) default).world.heap.size-C.prog.globals.size) =
   (begin C.prog (fun _ _=>0) default).world.heap.toList.drop C.prog.globals.size)
  (hok:Input.okWideB C.prog (w0.forCall (fun _ _=>0) ⟨#[],args,[]⟩) f ⟨#[],args,[]⟩=true)
  (hrow:s.preRow enc C.prog fn conds apart laid (w0.forCall (fun _ _=>0) ⟨#[],args,[]⟩).memory args) :
  ∃ (w:World) (tape:Tape) (i:Input),w.os=os/\(w.forCall tape i).Shaped C.prog/\i.vars=[]/\Input.okWide C.prog (w.forCall tape i) .any w.heap.size f i /\
   s.preRow enc C.prog fn conds apart laid (w.forCall tape i).memory i.args/\({}:Assume).holds C.prog (lone (Frame.enter C.prog f i.args .normal) [] (w.forCall tape i)) :=
 ⟨w0,fun _ _=>0,⟨#[],args,[]⟩,hos,World.shaped_of_ZipB hv hr,(Input.okWide_of_okWideB (base:=0) hok).1,(Input.okWide_of_okWideB hok).2,hrow,by
  simp only[Assume.holds]
  exact⟨by simp,by simp,fun _=>Modest.zero,by simp,by simp⟩⟩
theorem lifted (os:Os) (started:os.Started) (H:Type) (enc:TypeId×Value->H) (F:Stop.Interp) :
  ReturnsInHanded {} Tryz.checked os 3 .any ((Rows.OpenSpec.upto Rows.dumpReadsSpec).preRow enc Tryz.prog Tryz.f3 Rows.dumpReadsUptoRow.domain false Rows.dumpReadsUptoRow.laid) (((Rows.OpenSpec.upto Rows.dumpReadsSpec).at F).post enc Tryz.prog Tryz.f3 false true false false):=by
 obtain⟨places,hx⟩:=reads os enc
 refine returnsInHanded_of_row (C:=Tryz.checked) (s:=Rows.OpenSpec.upto Rows.dumpReadsSpec) own started (by kernel_rfl) Tryz.func3
  (witness_zip (enc:=enc) (C:=Tryz.checked) (World.laidAll Tryz.prog os laid6) zArgs (World.laidAll_os _ _ _) (by kernel_rfl) (by kernel_rfl) (by kernel_rfl)
   (OpenSpec.preRow_of_cond 8 hx (by kernel_rfl) (fun k hk=>by cases hk;kernel_rfl) (by kernel_rfl) (met os))) ?_
 intro W base args ds gs before hval hW _ hcond _ hL hsh _
 exact contract H enc W base args ds gs before hval hW (hcond _ rfl) hL hsh
theorem said:Rows.DumpReadsUptoSaid :=
 OpenClaim.holds_of_cond 3 Tryz.f3 rfl rfl rfl rfl rfl rfl rfl ⟨rfl,rfl,rfl,rfl,rfl⟩ rfl rfl rfl rfl rfl (by kernel_rfl) Tryz.func3 (by kernel_rfl)
  (of_decide_eq_true (by kernel_rfl)) (by unfold Func.isWrapper;first|(rw[if_pos (by decide +kernel)];kernel_rfl)|(rw[if_neg (by decide +kernel)];exact⟨rfl,rfl⟩))
  (fun os started H enc _ F=>by rw[OpenClaim.pre_eq_preRow];exact lifted os started H enc F)
theorem plain (f:FuncId) (fn:Func) (hf:Tryz.pinned.checked.prog.funcNamed "stencil/stencillaw22.DumpReads" = some f) (hfn:Tryz.pinned.checked.prog.funcs[f]?=some fn) :
  true=Tryz.pinned.checked.prog.looks []/\∀ (j:Nat) t,fn.params[j]?=some t->Tryz.pinned.checked.prog.wantsStandIn t=false:=by
 obtain rfl:f=3:=Option.some.inj ((show Tryz.prog.funcNamed "stencil/stencillaw22.DumpReads" = some 3 by kernel_rfl).symm.trans hf) |>.symm
 obtain rfl:fn=Tryz.f3:=(Option.some.inj (Tryz.func3.symm.trans hfn)).symm
 refine⟨by kernel_rfl,fun j t ht=>?_⟩
 rw[Tryz.params3] at ht
 have h:t=22:=by
  have:=Array.mem_of_getElem? ht
  simpa using this
 subst h
 exact(show Tryz.prog.wantsStandIn 22=false by kernel_rfl)
end ReadsLaw
theorem dumpReads_card:Rows.DumpReadsUptoCardSaid :=
 Claim7.holds_tied_plain_at .later [] _ _ _ _ ReadsLaw.said (fun _ h=>by cases h) (by kernel_rfl) (fun _ h=>by cases h) dumpReadsUpto_row_tie rfl ⟨rfl,rfl⟩ (by kernel_rfl) rfl ReadsLaw.plain (by kernel_rfl)
#print axioms dumpReads_card
end Go.Proofs.YtekpgklllfobfaaGreatDoor
