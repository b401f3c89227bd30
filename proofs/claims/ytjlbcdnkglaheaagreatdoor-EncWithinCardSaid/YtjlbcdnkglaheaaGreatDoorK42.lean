import Derived.Lib.LaidTab
import Derived.LaidMore
import Derived.Test.YtjlbcdnkglaheaaGreatDoorCards
import Derived.Test.YtjlbcdnkglaheaaGreatDoorTie
import Derived.Test.YtjlbcdnkglaheaaGreatDoorK41
import Derived.Lay
namespace Go.Proofs.YtjlbcdnkglaheaaGreatDoor
set_option maxRecDepth 1000000
set_option maxHeartbeats 16000000
open Go.ChangeShapes Go.WideShapes Go.ChangeAt Go.RowKit Go.Lib
abbrev laid2:List (String×DataW Unit):=[("stencil/prim.kinds",Rows.laid_stencil_prim_kinds),("stencil/ir.mayHave",Rows.laid_stencil_ir_mayHave)]
theorem gTab:Tryz.prog.globalNamed "stencil/prim.kinds" = some 0:=by kernel_rfl
theorem gTabType:(Tryz.prog.globals[0]?).map (·.type)=some 176:=by kernel_rfl
theorem gMay:Tryz.prog.globalNamed "stencil/ir.mayHave" = some 1:=by kernel_rfl
theorem gMayType:(Tryz.prog.globals[1]?).map (·.type)=some 195:=by kernel_rfl
theorem cellsKs:Tryz.prog.cellsOf 176=55:=by kernel_rfl
theorem cellsK:Tryz.prog.cellsOf 148=5:=by kernel_rfl
theorem cellsKr:Tryz.prog.cellsOf 146=1:=by kernel_rfl
theorem cellsKu:Tryz.prog.cellsOf 49=1:=by kernel_rfl
theorem cellsKi:Tryz.prog.cellsOf 3=1:=by kernel_rfl
theorem cellsMs:Tryz.prog.cellsOf 195=16:=by kernel_rfl
theorem cellsM:Tryz.prog.cellsOf 193=1:=by kernel_rfl
def kindD {H:Type} (p:Int):DataW H:=.agg [.lit (.int .i64 (sz p)),.lit (.int .i64 (rd p)),.lit (.int .u64 (nl p)),.lit (.int .u64 (mn p)),.lit (.int .u64 (mx p))]
theorem kindsD_eq {H:Type}:(Rows.laid_stencil_prim_kinds:DataW H) = .agg ((List.range 11).map fun i:Nat=>kindD i):=by kernel_rfl
def mayTab:List Int:=(List.range 16).map fun p:Nat=>(mayN p:Int)
theorem mayD_eq:(Rows.laid_stencil_ir_mayHave:DataW Unit)=Lib.tabData .i64 mayTab:=by kernel_rfl
theorem klist5 {α:Type} {l:List α} (h:l.length=5):∃ a b c d e,l=[a,b,c,d,e]:=by
 rcases l with _|⟨a,_|⟨b,_|⟨c,_|⟨d,_|⟨e,l⟩⟩⟩⟩⟩<;>simp at h
 subst h;exact⟨a,b,c,d,e,rfl⟩
theorem klit_of {H:Type} {enc:TypeId×Value->H} {w:World} {base:Nat} {sp:Nat->Bool} {held:Bool} {fuel:Nat} {t:TypeId} {k:IntKind} {c:Value} {z:Int} {q:List MemPlace}
  (ht:Tryz.prog.underlying t=some (.int k)) (h:DataW.trod enc Tryz.prog w base sp held fuel t [c]=some (.lit (.int k z),q)):c = .int k z:=by
 obtain⟨n,hc,hx,_⟩:=DataW.trod_int ht h
 simp at hc hx
 rw[hc,hx.1]
theorem kind_cells {H:Type} {enc:TypeId×Value->H} {w:World} {base:Nat} {sp:Nat->Bool} {held:Bool} {fuel:Nat} {cs:List Value} {p:Int} {q:List MemPlace}
  (h:DataW.trod enc Tryz.prog w base sp held fuel 148 cs=some (kindD p,q)):cs=[.int .i64 (sz p),.int .i64 (rd p),.int .u64 (nl p),.int .u64 (mn p),.int .u64 (mx p)]:=by
 obtain⟨ys,n,_,hx,hl,hyl,hf⟩:=DataW.trod_struct Tryz.underlying148 h
 rw[cellsK] at hl
 obtain⟨c0,c1,c2,c3,c4,rfl⟩:=klist5 hl
 obtain⟨⟨d0,q0⟩,⟨d1,q1⟩,⟨d2,q2⟩,⟨d3,q3⟩,⟨d4,q4⟩,rfl⟩:=klist5 hyl
 have f0:=hf 0 _ rfl
 have f1:=hf 1 _ rfl
 have f2:=hf 2 _ rfl
 have f3:=hf 3 _ rfl
 have f4:=hf 4 _ rfl
 simp[cellsKi,cellsKr,cellsKu] at f0 f1 f2 f3 f4
 simp[kindD] at hx
 obtain⟨⟨rfl,rfl,rfl,rfl,rfl⟩,_⟩:=hx
 rw[klit_of Tryz.underlying3 f0,klit_of Tryz.underlying146 f1,klit_of Tryz.underlying49 f2,klit_of Tryz.underlying49 f3,klit_of Tryz.underlying49 f4]
theorem tabs_of_laid {W:World} (h:laidMetH Tryz.prog laid2 W):KT W/\MT W:=by
 have h':laidMet Tryz.prog laid2 W:=h
 obtain⟨ps,⟨g',t',cs,fuel,p,q,hg',ht',hvar,hd,⟨g2,t2,cs2,f2,p2,q2,hg2,ht2,hv2,hd2,_,_⟩,_⟩,_⟩:=h'
 obtain rfl:=Option.some.inj (gTab.symm.trans hg')
 obtain rfl:=Option.some.inj (gTabType.symm.trans ht')
 obtain rfl:=Option.some.inj (gMay.symm.trans hg2)
 obtain rfl:=Option.some.inj (gMayType.symm.trans ht2)
 rw[kindsD_eq] at hd
 rw[mayD_eq] at hd2
 have hpos:∀ (g:Nat) (o:Nat) (v:Value),W.cell? ⟨g,o,none⟩=some v->g<W.heap.size:=fun g o v hc=>by
  rcases Nat.lt_or_ge g W.heap.size with h1|h1
  ·exact h1
  ·simp[World.cell?,Array.getElem?_eq_none h1] at hc
 constructor
 ·obtain⟨xs,m,_,hx,hl,hxl,hf⟩:=DataW.trod_array Tryz.underlying176 hd
  rw[cellsKs] at hl
  have hxs:xs.map (·.1)=(List.range 11).map fun i:Nat=>(kindD i:DataW Unit):=by
   have:=congrArg Prod.fst hx
   simpa using this.symm
  have row:∀ i:Nat,i<11->(cs.toList.drop (i*5)).take 5=[.int .i64 (sz i),.int .i64 (rd i),.int .u64 (nl i),.int .u64 (mn i),.int .u64 (mx i)]:=by
   intro i hi
   have h1:=hf i hi
   rw[cellsK] at h1
   have h2:(xs.map (·.1))[i]?=some (kindD i):=by rw[hxs];simp[hi]
   simp only[List.getElem?_map,Option.map_eq_some_iff] at h2
   obtain⟨⟨d,q'⟩,h3,rfl⟩:=h2
   rw[h3] at h1
   exact kind_cells h1
  have cell:∀ (i j:Nat) (v:Value),i<11->j<5->([.int .i64 (sz i),.int .i64 (rd i),.int .u64 (nl i),.int .u64 (mn i),.int .u64 (mx i)]:List Value)[j]?=some v->W.cell? ⟨0,5*i+j,none⟩=some v:=by
   intro i j v hi hj hv
   have:=World.var?_cell gTab hvar (5*i+j)
   rw[this]
   rw[<- row i hi] at hv
   simp[hj] at hv
   simpa[Nat.mul_comm] using hv
  exact⟨hpos _ _ _ (cell 0 0 _ (by omega) (by omega) rfl),fun i hi=>cell i 0 _ hi (by omega) rfl,fun i hi=>cell i 1 _ hi (by omega) rfl,fun i hi=>cell i 2 _ hi (by omega) rfl,fun i hi=>cell i 3 _ hi (by omega) rfl,fun i hi=>cell i 4 _ hi (by omega) rfl⟩
 ·have hcs2:=Lib.cells_of_tab Tryz.underlying195 Tryz.underlying193 cellsM cellsMs hd2
  have cell:∀ p:Nat,p<16->W.cell? ⟨1,p,none⟩=some (.int .i64 (mayN p:Int)):=fun p hp=>by
   rw[World.var?_cell gMay hv2 p]
   have hc:cs2.toList[p]?=some (.int .i64 (mayN p:Int)):=by
    rw[hcs2,List.getElem?_map]
    unfold mayTab
    rw[List.getElem?_map,List.getElem?_range hp]
    rfl
   simpa using hc
  exact⟨hpos _ _ _ (cell 0 (by omega)),cell⟩
namespace EncLaw
open Go.ChangeMaps
theorem own:ownKnob Tryz.prog.godebug=none:=by kernel_rfl
theorem laidOut:laidOutB Tryz.prog=true:=by kernel_rfl
abbrev zF:Value:=.agg #[.int .i64 0,.int .i64 0,.int .i64 0,.int .i64 0,.int .i64 0,.int .i64 0,.int .i64 0,.int .i64 0,.int .i64 0,.int .i64 0,.int .i64 0,.int .i64 0,.slice none 0 0]
abbrev zArgs:Array Value:=#[zF,.slice none 0 0,.int .i64 0,.slice none 0 0]
theorem holds (f:Fm) (pp:Option Addr) (cp:Nat) (hcp:f.toks.length<=cp) (a:Option Addr) (L K:Nat) (bi:Nat->Int) (at':Int) (cs:List Cl) (pq:Option Addr) (cq:Nat) (w:World) (kt:KT w) (mt:MT w) (tl:TkL w pp w.heap.size f.toks) (hl:f.toks.length<=733007751850)
  (hA:C.Arg w a L bi) (hbi:∀ j,0<=bi j/\bi j<=255) (hL:L+4096<=140737488355328) (hLC:L<=K) (hq:CRow w pq w.heap.size cs) (hql:cs.length<=2000000000000) (hwd:∀ c∈cs,WdC w w.heap.size c) :
  Calls Tryz.prog 3 #[fmV f pp cp,.slice a L K,.int .i64 at',.slice pq cs.length cq] w fun r w'=>r = .returned (.bool true)/\Below w.heap.size w w':=by
 by_cases hz:chkZ f=none
 ·exact within_yes f pp cp hcp a L K bi at' cs pq cq w kt mt tl hz hl hA hbi hL hLC hq hql hwd
 ·exact within_no f pp cp _ _ at' w kt mt tl hz
theorem contract (H:Type) (enc:TypeId×Value->H) (W:World) (base:Nat) (args:Array Value) (ds gs:List (DataW H)) (before:List MemPlace)
  (hval:∀ (j:Nat) t v,Tryz.f3.params[j]?=some t->args[j]?=some v->Value.okWide Tryz.prog W .any base t v)
  (hW:DataW.Whole enc Tryz.prog Tryz.f3.params.toList Rows.encWithinSpec.vars false W args.toList ds gs before) (hwt:(DataW.weightsEach Tryz.prog (Tryz.f3.params.toList++Rows.encWithinSpec.plain.varTypes Tryz.prog) (ds++gs)).all (·<=reachBytes)=true) (hL:laidMetH Tryz.prog laid2 W) :
  Calls Tryz.prog 3 args W fun e W'=>∃ v,e = .returned v/\Rows.encWithinSpec.post enc Tryz.prog Tryz.f3 false true false false W args v W':=by
 have hW':=hW
 obtain⟨p,q,hA0,hV,rfl,hfz,hnd⟩:=hW
 have hA:DataW.TrodAll enc Tryz.prog W 0 (fun _=>true) true Tryz.f3.params.toList args.toList ds p:=hA0
 have hwt':=hwt
 rw[Tryz.params3] at hA hval hwt'
 obtain⟨v0,vs0,d0,ds0,p0,q0,hargs,rfl,rfl,h0,r0⟩:=trodAll_cons hA
 obtain⟨v1,vs1,d1,ds1,p1,q1,rfl,rfl,rfl,h1,r1⟩:=trodAll_cons r0
 obtain⟨v2,vs2,d2,ds2,p2,q2,rfl,rfl,rfl,h2,r2⟩:=trodAll_cons r1
 obtain⟨v3,vs3,d3,ds3,p3,q3,rfl,rfl,rfl,h3,r3⟩:=trodAll_cons r2
 obtain⟨rfl,rfl,rfl⟩:=trodAll_nil r3
 obtain rfl:args=#[v0,v1,v2,v3]:=by cases args;simp_all
 obtain⟨rfl,rfl⟩:=trodVars_none hV
 obtain⟨a2,rfl,rfl,rfl,w2⟩:=open_int Tryz.underlying3 (hval 2 3 v2 rfl rfl) h2
 have h0k:=h0
 have h1k:=h1
 have h3k:=h3
 obtain⟨fuel,hf⟩:=h0
 obtain⟨fuel1,hf1⟩:=h1
 obtain⟨fuel3,hf3⟩:=h3
 have hw0:(d0.weights Tryz.prog 30).all (·<=reachBytes)=true:=List.all_eq_true.2 fun n hn=>List.all_eq_true.1 hwt' n (by
  simp only[DataW.weightsEach,List.cons_append,List.mem_append]
  exact .inl hn)
 have hw1:(d1.weights Tryz.prog 31).all (·<=reachBytes)=true:=List.all_eq_true.2 fun n hn=>List.all_eq_true.1 hwt' n (by
  simp only[DataW.weightsEach,List.cons_append,List.mem_append]
  exact .inr (.inl hn))
 have hw3:(d3.weights Tryz.prog 32).all (·<=reachBytes)=true:=List.all_eq_true.2 fun n hn=>List.all_eq_true.1 hwt' n (by
  simp only[DataW.weightsEach,List.cons_append,List.mem_append]
  exact .inr (.inr (.inr (.inl hn))))
 obtain⟨f,pp,cp,hes,hE,hl0,hc0,hm0,fo⟩:=form_opened (hval 0 30 v0 rfl rfl) hf hw0
 obtain⟨pv,nv,mv,rfl⟩:=okWide_slice Tryz.underlying31 (hval 1 31 v1 rfl rfl)
 have hcs1:(Value.slice pv nv mv).cells.toList=[Value.slice pv nv mv]:=rfl
 rw[hcs1] at hf1
 obtain⟨a,L,K,bi,hbs,hA1,hbi,hLb⟩:=C.bytes_open hf1 hw1
 have hLK:=slice_cap Tryz.underlying31 hf1 a L K hbs
 obtain⟨pv3,nv3,mv3,rfl⟩:=okWide_slice Tryz.underlying32 (hval 3 32 v3 rfl rfl)
 obtain⟨pq,cs,cq,hcs,hq,hql,hwd⟩:=callsW_open (v:=.slice pv3 nv3 mv3) hf3 hw3
 obtain⟨kt,mt⟩:=tabs_of_laid hL
 simp only[List.append_nil] at hW'
 have hlt:∀ x∈p0++(p1++p3),x.block<W.heap.size:=fun x hx=>by simpa using hW'.lt x (by simpa using hx)
 have hcp:f.toks.length<=cp:=form_cap (f:=f) (pp:=pp) (cp:=cp) (by rw[<- hes];exact hf)
 rw[hes] at h0k hW' ⊢
 rw[hbs] at h1k hW' ⊢
 rw[hcs] at h3k hW' ⊢
 refine(holds f pp cp hcp a L K bi a2 cs pq cq W kt mt hE (by omega) hA1 hbi hLb hLK hq hql hwd).mono fun e W' ⟨he,hg⟩=>?_
 subst he
 refine⟨_,rfl,_,_,_,[],p0++(p1++p3),[],by simpa using hW',?_,?_,?_,hg.frame _,fun h=>by cases h⟩
 ·exact trodAll_cons_mk (shut_bool Tryz.underlying4 _) trodAll_mk0
 ·have:=trodAll_cons_mk (Below.trod laidOut (by kernel_rfl) (of_decide_eq_true (by kernel_rfl)) h0k hg (fun x hx=>hlt x (List.mem_append_left _ hx))) (trodAll_cons_mk (Below.trod laidOut (by kernel_rfl) (of_decide_eq_true (by kernel_rfl)) h1k hg (fun x hx=>hlt x (List.mem_append_right _ (List.mem_append_left _ hx)))) (trodAll_cons_mk (shut_int (w:=W') Tryz.underlying3 w2) (trodAll_cons_mk (Below.trod laidOut (by kernel_rfl) (of_decide_eq_true (by kernel_rfl)) h3k hg (fun x hx=>hlt x (List.mem_append_right _ (List.mem_append_right _ hx)))) trodAll_mk0)))
  simp only[List.append_nil] at this
  exact this
 ·rfl
theorem reads (os:Os) {H:Type} (enc:TypeId×Value->H):∃ places,DataW.whole enc Tryz.prog ((World.laidAll Tryz.prog os laid2).forCall (fun _ _=>0) ⟨#[],zArgs,[]⟩).memory Tryz.f3.params.toList Rows.encWithinSpec.vars false zArgs.toList 8=some ([.agg [.lit (.int .i64 0),.lit (.int .i64 0),.lit (.int .i64 0),.agg [.lit (.int .i64 0),.agg [.lit (.int .i64 0),.lit (.int .i64 0)],.agg [.lit (.int .i64 0),.lit (.int .i64 0)],.agg [.lit (.int .i64 0),.lit (.int .i64 0)],.agg [.lit (.int .i64 0),.lit (.int .i64 0)]],.nil],.nil,.lit (.int .i64 0),.nil],[],places) :=
 ⟨[],by kernel_rfl⟩
theorem met (os:Os):laidMet Tryz.prog laid2 ((World.laidAll Tryz.prog os laid2).forCall (fun _ _=>0) ⟨#[],zArgs,[]⟩).memory:=laidMet_laidAll _ (by kernel_rfl) (by kernel_rfl)
theorem witness_zip {H:Type} {enc:TypeId×Value->H} {C:Checked} {os:Os} {f:FuncId} {fn:Func} {s:OpenSpec} {conds:List PathCond} {apart:Bool} {laid:List (String×DataW Unit)} (w0:World) (args:Array Value) (hos:w0.os=os)
  (hv:(w0.forCall (fun _ _=>0) ⟨#[],args,[]⟩).variablesZipB C.prog=true)
  (hr:((w0.forCall (fun _ _=>0) ⟨#[],args,[]⟩).heap.toList.drop C.prog.globals.size).take ((begin C.prog (fun _ _=>0) default).world.heap.size-C.prog.globals.size) =
   (begin C.prog (fun _ _=>0) default).world.heap.toList.drop C.prog.globals.size)
  (hok:Input.okWideB C.prog (w0.forCall (fun _ _=>0) ⟨#[],args,[]⟩) f ⟨#[],args,[]⟩=true)
  (hrow:s.preRow enc C.prog fn conds apart laid (w0.forCall (fun _ _=>0) ⟨#[],args,[]⟩).memory args) :
  ∃ (w:World) (tape:Tape) (i:Input),w.os=os/\(w.forCall tape i).Shaped C.prog/\i.vars=[]/\Input.okWide C.prog (w.forCall tape i) .any w.heap.size f i /\
   s.preRow enc C.prog fn conds apart laid (w.forCall tape i).memory i.args/\({}:Assume).holds C.prog (lone (Frame.enter C.prog f i.args .normal) [] (w.forCall tape i)) :=
 ⟨w0,fun _ _=>0,⟨#[],args,[]⟩,hos,World.shaped_of_ZipB hv hr,(Input.okWide_of_okWideB (base:=0) hok).1,(Input.okWide_of_okWideB hok).2,hrow,by
  simp only[Assume.holds]
  exact⟨by simp,by simp,fun _=>Modest.zero,by simp,by simp⟩⟩
theorem lifted (os:Os) (started:os.Started) (H:Type) (enc:TypeId×Value->H) (F:Stop.Interp) :
  ReturnsInHanded {} Tryz.checked os 3 .any ((OpenSpec.ofChange Rows.encWithinSpec).preRow enc Tryz.prog Tryz.f3 Rows.encWithinRow.domain false Rows.encWithinRow.laid) (((OpenSpec.ofChange Rows.encWithinSpec).at F).post enc Tryz.prog Tryz.f3 false true false false):=by
 obtain⟨places,hx⟩:=reads os enc
 refine returnsInHanded_of_row (C:=Tryz.checked) (s:=OpenSpec.ofChange Rows.encWithinSpec) own started (by kernel_rfl) Tryz.func3
  (witness_zip (enc:=enc) (C:=Tryz.checked) (World.laidAll Tryz.prog os laid2) zArgs (World.laidAll_os _ _ _) (by kernel_rfl) (by kernel_rfl) (by kernel_rfl)
   (OpenSpec.preRow_of_cond 8 hx (by kernel_rfl) (fun k hk=>by cases hk) (by kernel_rfl) (met os))) ?_
 intro W base args ds gs before hval hW _ _ hwt hL _ _
 exact contract H enc W base args ds gs before hval hW hwt hL
theorem said:Rows.EncWithinSaid :=
 OpenClaim.holds_of_cond 3 Tryz.f3 rfl rfl rfl rfl rfl rfl rfl ⟨rfl,rfl,rfl,rfl,rfl⟩ rfl rfl rfl rfl rfl (by kernel_rfl) Tryz.func3 (by kernel_rfl)
  (of_decide_eq_true (by kernel_rfl)) (by unfold Func.isWrapper;first|(rw[if_pos (by decide +kernel)];kernel_rfl)|(rw[if_neg (by decide +kernel)];exact⟨rfl,rfl⟩))
  (fun os started H enc _ F=>by rw[OpenClaim.pre_eq_preRow];exact lifted os started H enc F)
theorem plain (f:FuncId) (fn:Func) (hf:Tryz.pinned.checked.prog.funcNamed "stencil/stencillaw18.EncWithin" = some f) (hfn:Tryz.pinned.checked.prog.funcs[f]?=some fn) :
  false=Tryz.pinned.checked.prog.looks []/\∀ (j:Nat) t,fn.params[j]?=some t->Tryz.pinned.checked.prog.wantsStandIn t=false:=by
 obtain rfl:f=3:=Option.some.inj ((show Tryz.prog.funcNamed "stencil/stencillaw18.EncWithin" = some 3 by kernel_rfl).symm.trans hf) |>.symm
 obtain rfl:fn=Tryz.f3:=(Option.some.inj (Tryz.func3.symm.trans hfn)).symm
 refine⟨by kernel_rfl,fun j t ht=>?_⟩
 rw[Tryz.params3] at ht
 have h:t=30\/t=31\/t=3\/t=32:=by
  have:=Array.mem_of_getElem? ht
  simpa using this
 rcases h with rfl|rfl|rfl|rfl
 ·exact(show Tryz.prog.wantsStandIn 30=false by kernel_rfl)
 ·exact(show Tryz.prog.wantsStandIn 31=false by kernel_rfl)
 ·exact(show Tryz.prog.wantsStandIn 3=false by kernel_rfl)
 ·exact(show Tryz.prog.wantsStandIn 32=false by kernel_rfl)
end EncLaw
theorem encWithin_card:Rows.EncWithinCardSaid :=
 Claim7.holds_tied_plain_at .later [] _ _ _ _ EncLaw.said (fun _ h=>by cases h) (by kernel_rfl) (fun _ h=>by cases h) encWithin_row_tie rfl ⟨rfl,rfl⟩ (by kernel_rfl) rfl EncLaw.plain (by kernel_rfl)
#print axioms encWithin_card
end Go.Proofs.YtjlbcdnkglaheaaGreatDoor
