import Derived.Test.YtkcjdncchoohoaaGreatDoorK30
namespace Go.Proofs.YtkcjdncchoohoaaGreatDoor
set_option maxRecDepth 1000000
set_option maxHeartbeats 16000000
open Go.ChangeShapes Go.WideShapes Go.ChangeAt Go.RowKit Go.Shelf Go.Maps
theorem infoHdP:(Tryz.prog.info? 27).map (·.size)=some 9:=by kernel_rfl
theorem hd_load {W:World} {b:Nat} {f:Fm} {pp:Option Addr} {cp:Nat} (h:W.heap[b]?=some (fmO f pp cp)):(Instr.loadAt 27 (.pointer (some ⟨b,3,none⟩))).run Tryz.prog W = .ok (.agg #[.int .i64 f.hsz,.int .i64 f.hb.p,.int .i64 f.hb.o,.int .i64 f.ht.p,.int .i64 f.ht.o,.int .i64 f.hs.p,.int .i64 f.hs.o,.int .i64 f.hv.p,.int .i64 f.hv.o]) W:=by
 refine run_loadAt_mid W b 3 27 [.int .i64 f.hsz,.int .i64 f.hb.p,.int .i64 f.hb.o,.int .i64 f.ht.p,.int .i64 f.ht.o,.int .i64 f.hs.p,.int .i64 f.hs.o,.int .i64 f.hv.p,.int .i64 f.hv.o] _ (fun j u hu=>?_) Tryz.underlying27 rfl infoHdP
 have hj:j<9:=(List.getElem?_eq_some_iff.1 hu).1
 rw[cell_at h]
 have h9:j=0\/j=1\/j=2\/j=3\/j=4\/j=5\/j=6\/j=7\/j=8:=by omega
 rcases h9 with rfl|rfl|rfl|rfl|rfl|rfl|rfl|rfl|rfl<;>exact hu
def gF (f:Fm) (v:Int) (l:List Tk):Fm:={ f with ver:=v,toks:=l }
structure DY (f:Fm) (pp:Option Addr) (cp:Nat) (v:Int) (w Y:World) (gb gp:Nat) (pv:Option Addr) (cv:Nat):Prop where
 fb:Y.heap[w.heap.size]?=some (fmO f pp cp)
 rr:Y.heap[w.heap.size+1]?=some J.zFo
 cm:NRow Y (w.heap.size+2) (.slice pv f.toks.length cv) (camZ f)
 cb:∀ k,(Value.slice pv f.toks.length cv).ownBlock=some k->k<gb
 gg:Y.heap[gb]?=some (fmO (gF f v []) none 0)
 lg:w.heap.size+2<=gb/\gp=gb+1/\gp<Y.heap.size
 bl:Below w.heap.size w Y
theorem grown_set {Y W:World} {b i:Nat} {u:Value} (h:Y.grownBy W (some b)):Y.grownBy (W.setCell ⟨b,i,none⟩ u) (some b) :=
 ⟨h.os,h.tape,h.output,by simpa[World.setCell] using h.size,fun k hk hne=>(set_off (fun e=>hne (by rw[e]))).trans (h.block k hk hne)⟩
theorem g_put {W:World} {gb:Nat} {f:Fm} {v:Int} {l l':List Tk} {pk p':Option Addr} {ck c' n:Nat} (h:W.heap[gb]?=some (fmO (gF f v l) pk ck)) (hn:l'.length=n):(W.setCell ⟨gb,12,none⟩ (.slice p' n c')).heap[gb]?=some (fmO (gF f v l') p' c'):=by
 subst hn
 rw[set_at h]
 rfl
theorem grown_bel {Y W W':World} {r:Option Nat} (h:Y.grownBy W r) (hb:Below W.heap.size W W'):Y.grownBy W' r :=
 ⟨hb.os.trans h.os,hb.tape.trans h.tape,hb.output.trans h.output,Nat.le_trans h.size hb.size,fun k hk hne=>(hb.block k (Nat.lt_of_lt_of_le hk h.size)).trans (h.block k hk hne)⟩
theorem DY.grown {f:Fm} {pp:Option Addr} {cp:Nat} {v:Int} {w Y W:World} {gb gp:Nat} {pv:Option Addr} {cv:Nat} (h:DY f pp cp v w Y gb gp pv cv) (hG:Y.grownBy W (some gp)):DY f pp cp v w W gb gp pv cv:=by
 obtain⟨l1,l2,l3⟩:=h.lg
 have hs:=hG.size
 exact⟨(hG.block _ (by omega) (fun e=>by injection e with e;omega)).trans h.fb,(hG.block _ (by omega) (fun e=>by injection e with e;omega)).trans h.rr,h.cm.keepP fun k hk=>hG.block k (by have:=h.cb k hk;omega) (fun e=>by injection e with e;have:=h.cb k hk;omega),h.cb,(hG.block _ (by omega) (fun e=>by injection e with e;omega)).trans h.gg,⟨l1,l2,by omega⟩,h.bl.grown hG h.bl.size (fun j hj=>by cases hj;omega)⟩
theorem dAt_yes {w:World} {f:Fm} {pp:Option Addr} {cp:Nat} (hC:DCk w f pp cp) (tl:TkL w pp w.heap.size f.toks) (hlm:f.toks.length*192<=140737488351232) (v:Int) (he:atE f v=0) :
  Calls Tryz.prog 7 #[fmV f pp cp,.int .i64 v] w fun e w'=>∃ pp' cp' ks,e = .returned (.tuple #[fmV (atF f v) pp' cp',.int .i64 0])/\ks.map Ktp.t=(atF f v).toks/\KtR w' w.heap.size (.slice pp' ks.length cp') ks/\Below w.heap.size w w':=by
 have HB:Below w.heap.size w ((w.alloc (fmO f pp cp)).alloc J.zFo):=two_b _ _ _
 have H1:=two_1 w (fmO f pp cp) J.zFo
 have H2:=two_2 w (fmO f pp cp) J.zFo
 have HS:((w.alloc (fmO f pp cp)).alloc J.zFo).heap.size=w.heap.size+2:=by simp
 generalize hW:(w.alloc (fmO f pp cp)).alloc J.zFo=W0 at HB H1 H2 HS
 simp only[fmO,J.zFo] at hW
 have hz:chkZ f=none:=by
  unfold atE at he
  split at he
  ·assumption
  ·exact absurd he (by decide)
 have hr:fstV f<=v/\v<=f.ver:=by
  unfold atE at he
  rw[if_pos hz] at he
  split at he
  ·assumption
  ·exact absurd he (by decide)
 have cK:=hC W0 HB
 rw[hz] at cK
 have e0:errZ none=0:=rfl
 rw[e0] at cK
 generalize atZ none=A at cK
 obtain⟨t0,ht0,-⟩:=first_msg hz
 obtain⟨gf,ofs,pc,cc,rfl,hgf,hTk0,-,-⟩:=tl.row.c 0 t0 ht0
 have hf:fstV f=t0.since:=by unfold fstV;rw[ht0]
 rw[hf] at hr
 have d1:decide (v<t0.since)=false:=by simp;omega
 have d2:decide (f.ver<v)=false:=by simp;omega
 have hlen:0<f.toks.length:=(List.getElem?_eq_some_iff.1 ht0).1
 have hlI:(0:Int)<f.toks.length:=by omega
 have hll:f.toks.length<=733007751850:=by omega
 have hcl:=camZ_length f
 have CC:Hid (∀ X,Below W0.heap.size W0 X->(Instr.loadAt 30 (.pointer (some ⟨w.heap.size,0,none⟩))).run Tryz.prog X = .ok (fmV f (some ⟨gf,ofs,none⟩) cp) X/\X.cell? ⟨w.heap.size,2,none⟩=some (.int .i64 f.ver)/\X.cell? ⟨w.heap.size,12,none⟩=some (.slice (some ⟨gf,ofs,none⟩) f.toks.length cp)/\X.cell? ⟨gf,ofs+5,none⟩=some (.int .i64 t0.since) /\
   Calls Tryz.prog 20 #[fmV f (some ⟨gf,ofs,none⟩) cp] X fun e w3=>∃ pv cv,e = .returned (.slice pv f.toks.length cv)/\w3.cell? ⟨w.heap.size,0,none⟩=some (.int .i64 f.ord)/\w3.cell? ⟨w.heap.size,1,none⟩=some (.int .i64 f.sch) /\
    Hid ((Instr.loadAt 27 (.pointer (some ⟨w.heap.size,3,none⟩))).run Tryz.prog w3 = .ok (.agg #[.int .i64 f.hsz,.int .i64 f.hb.p,.int .i64 f.hb.o,.int .i64 f.ht.p,.int .i64 f.ht.o,.int .i64 f.hs.p,.int .i64 f.hs.o,.int .i64 f.hv.p,.int .i64 f.hv.o]) w3) /\
    ∃ W4,Hid (∀ z:Array Value,z.size=13->(Instr.storeAt 30 (.pointer (some ⟨w3.heap.size,0,none⟩)) (fmV (gF f v []) none 0)).run Tryz.prog (w3.alloc (.cells z 30)) = .ok () W4)/\W4.cell? ⟨w.heap.size,12,none⟩=some (.slice (some ⟨gf,ofs,none⟩) f.toks.length cp) /\
    ∃ wm gp,(Instr.makeSlice 38 (.int .i64 (f.toks.length:Int)) (.int .i64 (f.toks.length:Int))).run Tryz.prog W4 = .ok (.slice (some ⟨gp,0,none⟩) f.toks.length f.toks.length) wm/\Hid (DY f (some ⟨gf,ofs,none⟩) cp v w wm w3.heap.size gp pv cv/\NRow wm gp (.slice (some ⟨gp,0,none⟩) f.toks.length f.toks.length) (plF (camZ f) v 0))):=⟨fun X h=>by
  have hx:=HB.trans (h.mono HB.size)
  have hXs:=h.size
  have hx1:=(h.block w.heap.size (by omega)).trans H1
  have hx2:=(h.block (w.heap.size+1) (by omega)).trans H2
  refine⟨(J.fm_of hx1).load,cell_at hx1 2,cell_at hx1 12,by simpa using(hTk0.below hgf hx).c5,(dCame_any f _ cp X hz ((tl.below hx).mono hx.size) hlm).mono fun e w3 ⟨vc,e1,e2,e3⟩=>?_⟩
  obtain⟨pv,cv,rfl,-⟩:=e2.shape
  rw[hcl] at e1 e2
  have h3s:=e3.size
  have hy1:=(e3.block w.heap.size (by omega)).trans hx1
  have hy2:=(e3.block (w.heap.size+1) (by omega)).trans hx2
  have hb4:=bel1 w3 (fmO (gF f v []) none 0)
  have hs4:(w3.alloc (fmO (gF f v []) none 0)).heap.size=w3.heap.size+1:=World.size_alloc _ _
  obtain⟨wm,hmk,hN,hbm,hsm⟩:=make_ints (w3.alloc (fmO (gF f v []) none 0)) f.toks.length (by omega)
  have hb5:=hb4.trans (hbm.mono hb4.size)
  refine⟨pv,cv,e1,cell_at hy1 0,cell_at hy1 1,⟨hd_load hy1⟩,w3.alloc (fmO (gF f v []) none 0),⟨fun z hz=>J.st_newF w3 z hz _ _ _⟩,cell_at ((hb4.block _ (by omega)).trans hy1) 12,wm,_,hmk,⟨?_,?_⟩⟩
  ·refine⟨(hb5.block _ (by omega)).trans hy1,(hb5.block _ (by omega)).trans hy2,(e2.below hb5).low (by omega),fun k hk=>(e2.ltP k hk).2,(hbm.block _ (by omega)).trans (heap_al _ _),⟨by omega,by omega,by omega⟩,(hx.trans (e3.mono hx.size)).trans (hb5.mono (by omega))⟩
  ·rw[plF_zero,hcl]
   exact hN⟩
 obtain⟨l0,-,-,-⟩:=CC.out W0 (Below.refl _ _)
 have hT:Hid _:=⟨tl⟩
 have hZ:Hid _:=⟨hz⟩
 have hLM:Hid _:=⟨hlm⟩
 have hCL:Hid _:=⟨hcl⟩
 clear tl HB H1 H2 HS hz e0 he hlm hcl hf hr hTk0 ht0 hC
 go_enter Tryz.func7,Tryz.ntmps7
 go_wp2_with (first
  | (guard_target =~ wpList _ _ _ (Oper.mk _ (Op.load 30 _) _ _ _ _::_) _ _;go_must (first|refine wpList_ld 30 _ rfl rfl _ _ rfl l0 ?_|refine wpList_ld 30 _ rfl rfl _ _ rfl l1 ?_);simp only[pts])
  | (guard_target =~ wpList _ _ _ (Oper.mk _ (Op.load 27 _) _ _ _ _::_) _ _;go_must (refine wpList_ld 27 _ rfl rfl _ _ rfl lh.out ?_);simp only[pts])
  | (guard_target =~ wpList _ _ _ (Oper.mk _ (Op.store 30 _ _) _ _ _ _::_) _ _;go_must (refine wpList_st 30 _ _ rfl rfl _ _ rfl rfl (s4.out _ rfl) ?_);simp only[pts])
  | (go_at_call 19;refine cK.mono ?_;rintro _ w1 ⟨rfl,hb1⟩;obtain⟨l1,x2,x12,x5,cC⟩:=CC.out w1 hb1;clear hb1)
  | (go_at_call 20;refine cC.mono ?_;rintro _ w3 ⟨pv,cv,rfl,y0,y1,lh,W4,s4,y12,wm,gp,hmk,hY⟩))
 clear hmk cC y0 y1 lh s4 y12 l0 l1 x2 x12 x5 cK CC
 generalize w3.heap.size=gb at *
 go_loopw [11,12] (fun q6 q wr=>∃ j:Nat,j<=f.toks.length/\q = .int .i64 (j:Int)/\q6 = .int .i64 ((rnk (camZ f) v j:Nat):Int)/\Hid (NRow wr gp (.slice (some ⟨gp,0,none⟩) f.toks.length f.toks.length) (plF (camZ f) v j)/\wm.grownBy wr (some gp))) (fun _ q _=>f.toks.length-(RowKit.intOf q).toNat)
 case atStart=>exact⟨0,Nat.zero_le _,by go_num,rfl,⟨hY.out.2,World.grownBy.refl _ _⟩⟩
 case round =>
  obtain⟨j,hj,rfl,rfl,hI⟩:=hrel
  obtain⟨hN,hG⟩:=hI.out
  clear hI
  have hD:=hY.out.1.grown hG
  have x12:wr.cell? ⟨w.heap.size,12,none⟩=some (.slice (some ⟨gf,ofs,none⟩) f.toks.length cp):=cell_at hD.fb 12
  by_cases hlt:j<f.toks.length
  ·obtain⟨c,hc⟩:∃ c,(camZ f)[j]?=some c:=⟨(camZ f)[j]'(by have:=hCL.out;omega),List.getElem?_eq_getElem _⟩
   obtain⟨gc,rfl,-,hgl,c1⟩:=hD.cm.cellP hc
   obtain⟨n1,⟨y,n2⟩,n3,-,-⟩:=hN.setP j (rnk (camZ f) v j) (by rw[plF_length,hCL.out];exact hlt)
   rw[plF_succ] at n1
   have hji:(j:Int)<f.toks.length:=by omega
   have hgcp:gc≠gp:=by have h1:=hD.cb gc rfl;have h2:=hD.lg;omega
   have c2:(wr.setCell ⟨gp,j,none⟩ (.int .i64 ((rnk (camZ f) v j:Nat):Int))).cell? ⟨gc,j,none⟩=some (.int .i64 (c:Int)):=(cell_blk (set_off hgcp)).trans c1
   have hF:Hid (NRow (wr.setCell ⟨gp,j,none⟩ (.int .i64 ((rnk (camZ f) v j:Nat):Int))) gp (.slice (some ⟨gp,0,none⟩) f.toks.length f.toks.length) (plF (camZ f) v (j+1))/\wm.grownBy (wr.setCell ⟨gp,j,none⟩ (.int .i64 ((rnk (camZ f) v j:Nat):Int))) (some gp)):=⟨n1,grown_set hG⟩
   have hr:=rnk_succ (v:=v) hc
   have hrl:=rnk_le (camZ f) v j
   generalize hr0:rnk (camZ f) v j=r at *
   have hR:Hid (rnk (camZ f) v (j+1)=r+if (c:Int)<=v then 1 else 0):=⟨hr⟩
   have hrb:(r:Int)<1000000000000:=by omega
   generalize hW5:wr.setCell ⟨gp,j,none⟩ (.int .i64 (r:Int))=W5 at hF c2
   clear hN hG hD n1 hc hr0 hr hrl c1 hgcp
   by_cases hcv:(c:Int)<=v
   ·have d1:decide ((c:Int)<=v)=true:=by simp[hcv]
    have hr':Hid (rnk (camZ f) v (j+1)=r+1):=⟨by rw[hR.out,if_pos hcv]⟩
    clear hcv hR
    go_wp2_with fail
    go_roundw
    case rel=>exact⟨j+1,by omega,by go_num,by rw[hr'.out];go_num,hF⟩
    case measure=>simp[RowKit.intOf];omega
   ·have d1:decide ((c:Int)<=v)=false:=by simp[hcv]
    have hr':Hid (rnk (camZ f) v (j+1)=r):=⟨by rw[hR.out,if_neg hcv];rfl⟩
    clear hcv hR
    go_wp2_with fail
    go_roundw
    case rel=>exact⟨j+1,by omega,by go_num,by rw[hr'.out],hF⟩
    case measure=>simp[RowKit.intOf];omega
  ·obtain rfl:j=f.toks.length:=by omega
   have d3:decide ((f.toks.length:Int)<f.toks.length)=false:=by simp
   have hN2:Hid (NRow wr gp (.slice (some ⟨gp,0,none⟩) f.toks.length f.toks.length) (plF (camZ f) v (camZ f).length)):=⟨by rw[hCL.out];exact hN⟩
   have hD2:Hid _:=⟨hD⟩
   clear hN hG hlt hD
   go_wp2_with fail
   clear x12
   generalize wr=Y at *
   have YF:Hid (∀ W,Y.grownBy W (some gb)->W.heap[w.heap.size]?=some (fmO f (some ⟨gf,ofs,none⟩) cp)/\W.heap[w.heap.size+1]?=some J.zFo/\NRow W (w.heap.size+2) (.slice pv f.toks.length cv) (camZ f)/\NRow W gp (.slice (some ⟨gp,0,none⟩) f.toks.length f.toks.length) (plF (camZ f) v (camZ f).length)/\Below w.heap.size w W/\Y.heap.size<=W.heap.size):=⟨fun W hG=>by
    obtain⟨l1,l2,l3⟩:=hD2.out.lg
    exact⟨(hG.block _ (by omega) (fun e=>by injection e with e;omega)).trans hD2.out.fb,(hG.block _ (by omega) (fun e=>by injection e with e;omega)).trans hD2.out.rr,hD2.out.cm.keepP fun k hk=>hG.block k (by have:=hD2.out.cb k hk;omega) (fun e=>by injection e with e;have:=hD2.out.cb k hk;omega),hN2.out.keepP fun k hk=>hG.block k (hN2.out.ltP k hk).2 (fun e=>by injection e with e;have:=(hN2.out.ltP k hk).1;omega),hD2.out.bl.grown hG hD2.out.bl.size (fun j hj=>by cases hj;omega),hG.size⟩⟩
   have hgb:Hid (w.heap.size+2<=gb/\gb<Y.heap.size/\gp<Y.heap.size):=⟨by have:=hD2.out.lg;omega⟩
   go_loopw [13] (fun q wr=>∃ (j:Nat) (ks:List Ktp) (pk:Option Addr) (ck:Nat),j<=f.toks.length/\q = .int .i64 (j:Int)/\Hid (wr.heap[gb]?=some (fmO (gF f v (ks.map Ktp.t)) pk ck)/\KtR wr Y.heap.size (.slice pk ks.length ck) ks/\ks.map Ktp.t=kepF f.toks (camZ f) v j/\Y.grownBy wr (some gb))) (fun q _=>f.toks.length-(RowKit.intOf q).toNat)
   case atStart=>exact⟨0,[],none,0,Nat.zero_le _,by go_num,⟨hD2.out.gg,KtR.nil _ _,rfl,World.grownBy.refl _ _⟩⟩
   case round =>
    clear hD2 hN2 hY hW
    obtain⟨j,ks,pk,ck,hj,rfl,hI⟩:=hrel
    obtain⟨hg,hK,hE,hG⟩:=hI.out
    clear hI
    obtain⟨w1,w2,w3',w4',w5',w6'⟩:=YF.out wr hG
    have x12:wr.cell? ⟨w.heap.size,12,none⟩=some (.slice (some ⟨gf,ofs,none⟩) f.toks.length cp):=cell_at w1 12
    by_cases hlt:j<f.toks.length
    ·obtain⟨t,ht⟩:∃ t,f.toks[j]?=some t:=⟨f.toks[j],List.getElem?_eq_getElem hlt⟩
     obtain⟨gf',ofs',pc,cc,e1,hgf',hTk,hU,hcc,hO⟩:=hT.out.at ht
     cases e1
     have l1:Hid _:=⟨(hTk.below hgf' w5').load⟩
     have s1:Hid _:=⟨fun z hz=>st_new wr z hz t pc cc⟩
     have hTB:(wr.alloc (tkO t pc cc)).heap[wr.heap.size]?=some (tkO t pc cc):=heap_al _ _
     have hb1:=bel1 wr (tkO t pc cc)
     have hz1:(wr.alloc (tkO t pc cc)).heap.size=wr.heap.size+1:=World.size_alloc _ _
     generalize hW1:wr.alloc (tkO t pc cc)=W1 at hTB hb1 hz1 s1
     obtain⟨c,hc⟩:∃ c,(camZ f)[j]?=some c:=⟨(camZ f)[j]'(by have:=hCL.out;omega),List.getElem?_eq_getElem _⟩
     obtain⟨gc,rfl,-,-,k1⟩:=w3'.cellP hc
     have hji:(j:Int)<f.toks.length:=by omega
     have hks:=kepF_succ (v:=v) ht hc
     by_cases hcv:v<(c:Int)
     ·have d1:decide (v<(c:Int))=true:=by simp[hcv]
      have hN:Hid (wr.heap[gb]?=some (fmO (gF f v (ks.map Ktp.t)) pk ck)/\KtR wr Y.heap.size (.slice pk ks.length ck) ks/\ks.map Ktp.t=kepF f.toks (camZ f) v (j+1)/\Y.grownBy wr (some gb)):=⟨hg,hK,by rw[hks,if_neg (by omega),List.append_nil];exact hE,hG⟩
      clear hTk hU hcc hO hTB hb1 hc hks hcv hg hK hE hG w1 w2 w3' w4' w5' w6' s1 hW1 hz1
      go_wp2_with fail
      go_roundw
      case rel=>exact⟨j+1,ks,pk,ck,by omega,by go_num,hN⟩
      case measure=>simp[RowKit.intOf];omega
     ·have d1:decide (v<(c:Int))=false:=by simp[hcv]
      have hcv':(c:Int)<=v:=by omega
      obtain⟨m,hm,hml⟩:∃ m:Nat,t.pair=m/\m<f.toks.length:=by
       rcases val_tok hZ.out ht with ⟨-,-,x,o,-,e,e2⟩|⟨-,-,m,e,-,e2⟩|⟨-,-,e,-⟩
       ·exact⟨_,e,by omega⟩
       ·exact⟨m,e,e2⟩
       ·exact⟨j,e,hlt⟩
      have hmI:(m:Int)<f.toks.length:=by omega
      obtain⟨R,hR⟩:∃ R,rnk (camZ f) v m=R:=⟨_,rfl⟩
      obtain⟨gp',egp,-,hgpl,cgp⟩:=w4'.cellP (plF_get (camZ f) v (i:=m) (by rw[hCL.out];exact hml))
      cases egp
      rw[hR] at cgp
      have hgl:=hgb.out
      have g12:wr.cell? ⟨gb,12,none⟩=some (.slice pk ks.length ck):=(cell_at hg 12).trans (by show some (Value.slice pk (ks.map Ktp.t).length ck)=_;rw[List.length_map])
      have hkl:ks.length<=j:=by
       have:=congrArg List.length hE
       rw[List.length_map,kepF_length _ _ _ j hj (by rw[hCL.out];exact hj)] at this
       rw[this]
       exact rnk_le _ _ _
      have hm':t.pair.toNat=m:=by rw[hm];rfl
      have AP:Hid (∀ (W3:World) (Z:Int),W3.heap[wr.heap.size]?=some (tkO { t with blk:=Z } pc cc)->Below wr.heap.size wr W3->trnT f.toks (camZ f) v j t={ t with pair:=(R:Int),blk:=Z } ->
        ∃ v' w4,(∀ ty,(Builtin.append_ #[45,45] ty #[.slice none 0 0,.slice pc t.cst.length cc]).run Tryz.prog W3 = .ok v' w4)/\∃ p' c',v' = .slice p' t.cst.length c'/\w4.cell? ⟨wr.heap.size,12,none⟩=some (.slice pc t.cst.length cc)/\w4.frozen? ⟨wr.heap.size,12,none⟩=false /\
         ∃ W5,w4.setCell ⟨wr.heap.size,12,none⟩ (.slice p' t.cst.length c')=W5/\W5.cell? ⟨wr.heap.size,20,none⟩=some (.int .i64 (m:Int))/\W5.frozen? ⟨wr.heap.size,20,none⟩=false/\W5.cell? ⟨gp,m,none⟩=some (.int .i64 (R:Int)) /\
         ∃ W6,W5.setCell ⟨wr.heap.size,20,none⟩ (.int .i64 (R:Int))=W6/\W6.cell? ⟨gb,12,none⟩=some (.slice pk ks.length ck)/\Hid ((Instr.loadAt 47 (.pointer (some ⟨wr.heap.size,0,none⟩))).run Tryz.prog W6 = .ok (tkV { t with pair:=(R:Int),blk:=Z } p' c') W6) /\
         Hid (∃ v8 w8,(∀ ty,(Builtin.append_ #[28,28] ty #[.slice pk ks.length ck,.slice (some ⟨W6.heap.size,0,none⟩) 1 1]).run Tryz.prog (W6.alloc (tkO { t with pair:=(R:Int),blk:=Z } p' c')) = .ok v8 w8)/\∃ pv8 cv8,v8 = .slice pv8 (ks.length+1) cv8/\w8.cell? ⟨gb,12,none⟩=some (.slice pk ks.length ck)/\w8.frozen? ⟨gb,12,none⟩=false /\
          Hid ((w8.setCell ⟨gb,12,none⟩ (.slice pv8 (ks.length+1) cv8)).heap[gb]?=some (fmO (gF f v ((ks++[(⟨{ t with pair:=(R:Int),blk:=Z },p',c'⟩:Ktp)]).map Ktp.t)) pv8 cv8)/\KtR (w8.setCell ⟨gb,12,none⟩ (.slice pv8 (ks.length+1) cv8)) Y.heap.size (.slice pv8 (ks++[(⟨{ t with pair:=(R:Int),blk:=Z },p',c'⟩:Ktp)]).length cv8) (ks++[⟨{ t with pair:=(R:Int),blk:=Z },p',c'⟩])/\(ks++[(⟨{ t with pair:=(R:Int),blk:=Z },p',c'⟩:Ktp)]).map Ktp.t=kepF f.toks (camZ f) v (j+1)/\Y.grownBy (w8.setCell ⟨gb,12,none⟩ (.slice pv8 (ks.length+1) cv8)) (some gb)))):=⟨fun W3 Z h3 hb3 htn=>by
       have hs3:wr.heap.size<W3.heap.size:=lt_of_blk5 h3
       obtain⟨v',w4,q1,p',c',rfl,q3,q4,q5,q6⟩:=u_cpn (ca:=cc) (hU.below (w5'.trans (hb3.mono w5'.size))) hO.cst
       have t4:=(q6.block _ hs3).trans h3
       have t5:=tk_put t4 12 (.slice p' t.cst.length c') { t with blk:=Z } p' c' rfl
       have hb4:Below wr.heap.size wr w4:=hb3.trans (q6.mono (by omega))
       have hb5:Below wr.heap.size wr (w4.setCell ⟨wr.heap.size,12,none⟩ (.slice p' t.cst.length c')):=hb4.setCell (p:=⟨wr.heap.size,12,none⟩) (Nat.le_refl _) _
       have hs5:(w4.setCell ⟨wr.heap.size,12,none⟩ (.slice p' t.cst.length c')).heap.size=w4.heap.size:=by simp[World.setCell]
       have t6:=tk_put t5 20 (.int .i64 (R:Int)) { t with pair:=(R:Int),blk:=Z } p' c' rfl
       have u5:=q4.keepP (w':=w4.setCell ⟨wr.heap.size,12,none⟩ (.slice p' t.cst.length c')) (H':=(w4.setCell ⟨wr.heap.size,12,none⟩ (.slice p' t.cst.length c')).heap.size) (by rw[hs5];exact Nat.le_refl _) (fun g o e=>set_off (by have:=(q5 g o e).1;omega))
       have x20:(w4.setCell ⟨wr.heap.size,12,none⟩ (.slice p' t.cst.length c')).cell? ⟨wr.heap.size,20,none⟩=some (.int .i64 (m:Int)):=by rw[<- hm];exact cell_at t5 20
       generalize hW5:w4.setCell ⟨wr.heap.size,12,none⟩ (.slice p' t.cst.length c')=W5 at t5 hb5 hs5 t6 u5 x20
       have hb6:Below wr.heap.size wr (W5.setCell ⟨wr.heap.size,20,none⟩ (.int .i64 (R:Int))):=hb5.setCell (p:=⟨wr.heap.size,20,none⟩) (Nat.le_refl _) _
       have hs6:(W5.setCell ⟨wr.heap.size,20,none⟩ (.int .i64 (R:Int))).heap.size=W5.heap.size:=by simp[World.setCell]
       have u6:=u5.keepP (w':=W5.setCell ⟨wr.heap.size,20,none⟩ (.int .i64 (R:Int))) (H':=(W5.setCell ⟨wr.heap.size,20,none⟩ (.int .i64 (R:Int))).heap.size) (by rw[hs6];exact Nat.le_refl _) (fun g o e=>set_off (by have:=(q5 g o e).1;omega))
       generalize hW6:W5.setCell ⟨wr.heap.size,20,none⟩ (.int .i64 (R:Int))=W6 at t6 hb6 hs6 u6
       have hs6':=hb6.size
       obtain⟨v8,w8,p1,p2,p3,p4,pv8,cv8,rfl⟩:=(hK.below hb6).push ⟨{ t with pair:=(R:Int),blk:=Z },p',c'⟩ u6 q3 (fun g o e=>by
        have h1:=q5 g o e
        refine⟨by omega,by omega,fun e2=>?_⟩
        have h2:=World.ownsRow.lt hK.row g e2
        omega) (by have:=hLM.out;omega) (by omega)
       have g8:w8.heap[gb]?=some (fmO (gF f v (ks.map Ktp.t)) pk ck):=(p3.block gb (by omega)).trans ((hb6.block gb (by omega)).trans hg)
       refine⟨_,w4,q1,p',c',rfl,cell_at t4 12,frz_at t4,W5,hW5,x20,frz_at t5,(hb5.cell (p:=⟨gp,m,none⟩) hgpl).trans cgp,W6,hW6,(hb6.cell (p:=⟨gb,12,none⟩) (by show gb<_;omega)).trans g12,⟨(tk_of t6).load⟩,⟨_,w8,p1,pv8,cv8,rfl,(cell_at g8 12).trans (by show some (Value.slice pk (ks.map Ktp.t).length ck)=_;rw[List.length_map]),frz_at g8,⟨g_put g8 (by simp),?_,?_,?_⟩⟩⟩
       ·rw[List.length_append]
        exact p2.keep (by simp[World.setCell]) fun k hk _ _=>set_off (by omega)
       ·rw[List.map_append,hE,hks,if_pos hcv',htn]
        rfl
       ·have G6:=grown_bel hG hb6
        exact grown_set ⟨p3.os.trans G6.os,p3.tape.trans G6.tape,p3.output.trans G6.output,Nat.le_trans (by omega) p3.size,fun k hk hne=>(p3.block k hk).trans (G6.block k hk hne)⟩⟩
      have F1:True:=trivial
      have F2:True:=trivial
      have a0:W1.cell? ⟨wr.heap.size,0,none⟩=some (.int .i64 t.op):=cell_at hTB 0
      have a12:W1.cell? ⟨wr.heap.size,12,none⟩=some (.slice pc t.cst.length cc):=cell_at hTB 12
      by_cases hbk:t.op=0\/t.op=4
      ·have hgB:bgO t.op=true:=by rcases hbk with e|e<;>rw[e]<;>rfl
       obtain⟨n,ks',hBg,hTo⟩:=bgn_took hZ.out ht hgB
       have hx1:Below w.heap.size w W1:=w5'.trans (hb1.mono w5'.size)
       have cB0:=dBlock_any hBg (some ⟨gf,ofs,none⟩) cp W1 ((hT.out.below hx1).mono hx1.size).row hLM.out _ _ (w3'.below hb1) v
       obtain⟨Z,hZZ⟩:∃ Z,blkZ f.toks (camZ f) v j t=Z:=⟨_,rfl⟩
       rw[hZZ] at cB0
       have htn:trnT f.toks (camZ f) v j t={ t with pair:=(R:Int),blk:=Z }:=by
        unfold trnT
        rw[if_pos hbk,hZZ,hm',hR]
       have cB:Calls Tryz.prog 21 #[fmV f (some ⟨gf,ofs,none⟩) cp,.slice (some ⟨gc,0,none⟩) f.toks.length cv,.int .i64 (j:Int),.int .i64 v] W1 fun e w2=>e = .returned (.int .i64 Z)/\w2.cell? ⟨wr.heap.size,14,none⟩=some (.int .i64 t.blk)/\w2.frozen? ⟨wr.heap.size,14,none⟩=false/\∃ W3,w2.setCell ⟨wr.heap.size,14,none⟩ (.int .i64 Z)=W3/\W3.cell? ⟨wr.heap.size,12,none⟩=some (.slice pc t.cst.length cc)/\Hid _:=cB0.mono fun e w2 ⟨e1,e2⟩=>by
        have t2:=(e2.block _ (by omega)).trans hTB
        have t3:=tk_put t2 14 (.int .i64 Z) { t with blk:=Z } pc cc rfl
        exact⟨e1,cell_at t2 14,frz_at t2,_,rfl,cell_at t3 12,⟨AP.out _ Z t3 ((hb1.trans (e2.mono (by omega))).setCell (p:=⟨wr.heap.size,14,none⟩) (Nat.le_refl _) _) htn⟩⟩
       have lF:Hid _:=⟨(J.fm_of ((hb1.block _ (by have:=w1;have:=lt_of_blk5 w1;omega)).trans w1)).load⟩
       clear AP hTk hU hcc hO hTB hb1 hc hks hcv hcv' hg hK hE hG w1 w2 w3' w4' w5' w6' hz1 cgp g12 hkl hm hm' hR hgB hBg hTo cB0 hx1 hZZ htn hgl hgpl hml
       rcases hbk with e|e
       ·rw[e] at a0
        clear e
        go_wp2_with (first
         | (guard_target =~ wpList _ _ _ (Oper.mk _ (Op.load 47 _) _ _ _ _::_) _ _;go_must (first|refine wpList_ld 47 _ rfl rfl _ _ rfl l1.out ?_|refine wpList_ld 47 _ rfl rfl _ _ rfl l2.out ?_);simp only[pts])
         | (guard_target =~ wpList _ _ _ (Oper.mk _ (Op.store 47 _ _) _ _ _ _::_) _ _;go_must (refine wpList_st 47 _ _ rfl rfl _ _ rfl rfl (s1.out _ rfl) ?_);simp only[pts])
         | (guard_target =~ wpList _ _ _ (Oper.mk _ (Op.load 30 _) _ _ _ _::_) _ _;go_must (refine wpList_ld 30 _ rfl rfl _ _ rfl lF.out ?_);simp only[pts])
         | (go_at_call 21;refine cB.mono ?_;rintro _ w2 ⟨rfl,y14,yf14,W3,hW3,x12b,ap1⟩;rw[hW3] at ap1)
         | (at_builtin;clear F1;go_must (refine(ap_step (by rfl) _ _ _ _ (by rfl) _ _ (by rfl) (by rfl) _ ap1.out ?_));rintro _ w4 ⟨p',c',rfl,y12,yf12,W5,hW5,y20,yf20,ygp,W6,hW6,ygb,l2,ap2⟩)
         | (at_builtin;clear F2;go_must (refine(ap_step (by rfl) _ _ _ _ (by rfl) _ _ (by rfl) (by rfl) _ ap2.out ?_));rintro _ w8 ⟨pv8,cv8,rfl,z12,zf12,hF8⟩))
        go_roundw
        case rel=>exact⟨j+1,ks++[_],pv8,cv8,by omega,by go_num,hF8⟩
        case measure=>simp[RowKit.intOf];omega
       ·rw[e] at a0
        clear e
        go_wp2_with (first
         | (guard_target =~ wpList _ _ _ (Oper.mk _ (Op.load 47 _) _ _ _ _::_) _ _;go_must (first|refine wpList_ld 47 _ rfl rfl _ _ rfl l1.out ?_|refine wpList_ld 47 _ rfl rfl _ _ rfl l2.out ?_);simp only[pts])
         | (guard_target =~ wpList _ _ _ (Oper.mk _ (Op.store 47 _ _) _ _ _ _::_) _ _;go_must (refine wpList_st 47 _ _ rfl rfl _ _ rfl rfl (s1.out _ rfl) ?_);simp only[pts])
         | (guard_target =~ wpList _ _ _ (Oper.mk _ (Op.load 30 _) _ _ _ _::_) _ _;go_must (refine wpList_ld 30 _ rfl rfl _ _ rfl lF.out ?_);simp only[pts])
         | (go_at_call 21;refine cB.mono ?_;rintro _ w2 ⟨rfl,y14,yf14,W3,hW3,x12b,ap1⟩;rw[hW3] at ap1)
         | (at_builtin;clear F1;go_must (refine(ap_step (by rfl) _ _ _ _ (by rfl) _ _ (by rfl) (by rfl) _ ap1.out ?_));rintro _ w4 ⟨p',c',rfl,y12,yf12,W5,hW5,y20,yf20,ygp,W6,hW6,ygb,l2,ap2⟩)
         | (at_builtin;clear F2;go_must (refine(ap_step (by rfl) _ _ _ _ (by rfl) _ _ (by rfl) (by rfl) _ ap2.out ?_));rintro _ w8 ⟨pv8,cv8,rfl,z12,zf12,hF8⟩))
        go_roundw
        case rel=>exact⟨j+1,ks++[_],pv8,cv8,by omega,by go_num,hF8⟩
        case measure=>simp[RowKit.intOf];omega
      ·have htn:trnT f.toks (camZ f) v j t={ t with pair:=(R:Int),blk:=t.blk }:=by
        unfold trnT
        rw[if_neg hbk,hm',hR]
       have ap1:Hid _:=⟨AP.out W1 t.blk hTB hb1 htn⟩
       have d0:(t.op==0)=false:=beqN (by omega)
       have d4:(t.op==4)=false:=beqN (by omega)
       clear AP hTk hU hcc hO hTB hb1 hc hks hcv hcv' hg hK hE hG w1 w2 w3' w4' w5' w6' hz1 cgp g12 hkl hm hm' hR htn hgl hgpl hml hbk
       go_wp2_with (first
        | (guard_target =~ wpList _ _ _ (Oper.mk _ (Op.load 47 _) _ _ _ _::_) _ _;go_must (first|refine wpList_ld 47 _ rfl rfl _ _ rfl l1.out ?_|refine wpList_ld 47 _ rfl rfl _ _ rfl l2.out ?_);simp only[pts])
        | (guard_target =~ wpList _ _ _ (Oper.mk _ (Op.store 47 _ _) _ _ _ _::_) _ _;go_must (refine wpList_st 47 _ _ rfl rfl _ _ rfl rfl (s1.out _ rfl) ?_);simp only[pts])
        | (at_builtin;clear F1;go_must (refine(ap_step (by rfl) _ _ _ _ (by rfl) _ _ (by rfl) (by rfl) _ ap1.out ?_));rintro _ w4 ⟨p',c',rfl,y12,yf12,W5,hW5,y20,yf20,ygp,W6,hW6,ygb,l2,ap2⟩)
        | (at_builtin;clear F2;go_must (refine(ap_step (by rfl) _ _ _ _ (by rfl) _ _ (by rfl) (by rfl) _ ap2.out ?_));rintro _ w8 ⟨pv8,cv8,rfl,z12,zf12,hF8⟩))
       go_roundw
       case rel=>exact⟨j+1,ks++[_],pv8,cv8,by omega,by go_num,hF8⟩
       case measure=>simp[RowKit.intOf];omega
    ·obtain rfl:j=f.toks.length:=by omega
     have d3:decide ((f.toks.length:Int)<f.toks.length)=false:=by simp
     have hgF:gF f v (ks.map Ktp.t)=atF f v:=by unfold gF atF;rw[hE]
     rw[hgF] at hg
     have LF:Hid _:=⟨(J.fm_of hg).load⟩
     have SF:Hid _:=⟨fm_st w2 rfl (atF f v) pk ck⟩
     have rb8:Hid _:=⟨w2⟩
     have hk1:Hid (ks.map Ktp.t=(atF f v).toks):=⟨hE⟩
     have hKL:Hid (KtR (wr.setRow (w.heap.size+1) (J.fmC (atF f v) pk ck)) w.heap.size (.slice pk ks.length ck) ks/\Below w.heap.size w (wr.setRow (w.heap.size+1) (J.fmC (atF f v) pk ck))):=⟨by
      have hgl:=hgb.out
      have h1:=hK.keep (W':=wr.setRow (w.heap.size+1) (J.fmC (atF f v) pk ck)) (by rw[size_setRow];exact Nat.le_refl _) fun k hk _ _=>setRow_other _ _ _ _ (by omega)
      refine⟨⟨own_lower h1.row (by omega),fun x hx=>?_⟩,w5'.trans ⟨rfl,rfl,rfl,by rw[size_setRow];exact Nat.le_refl _,fun k hk=>setRow_other _ _ _ _ (by omega)⟩⟩
      obtain⟨a1,a2,a3⟩:=h1.u x hx
      exact⟨a1,a2,fun g o e=>⟨by have:=(a3 g o e).1;omega,(a3 g o e).2⟩⟩⟩
     clear hg hK hE hG w1 w2 w3' w4' w5' w6' hgF hlt
     go_wp2_with (first
      | (guard_target =~ wpList _ _ _ (Oper.mk _ (Op.load 30 _) _ _ _ _::_) _ _;go_must (refine wpList_ld 30 _ rfl rfl _ _ rfl LF.out ?_);simp only[pts])
      | (guard_target =~ wpList _ _ _ (Oper.mk _ (Op.store 30 _ _) _ _ _ _::_) _ _;go_must (refine wpList_st 30 _ _ rfl rfl _ _ rfl rfl SF.out ?_);simp only[pts]))
     exact bodyPost_ret (res_cell_slot (v2:=.int .i64 0) rfl _ _ (w.heap.size+1) 30 _ _ rfl rfl (setRow_heap _ _ _ _ _ _ rb8.out) Tryz.underlying30 rfl J.infoFm) rfl ⟨pk,ck,ks,rfl,hk1.out,hKL.out⟩
abbrev smT (op:Int) (nm:List UInt8) (id off siz since prim len pres nul hi blk full pair:Int):Tk:=⟨op,⟨nm.toArray⟩,id,off,siz,since,prim,len,pres,nul,0,hi,[],0,blk,full,⟨0,0⟩,⟨0,0⟩,pair⟩
def smF:Fm:=⟨0,7,1,8,⟨6,0⟩,⟨6,2⟩,⟨6,4⟩,⟨6,6⟩,[
 smT 0 [77] 3 0 0 0 0 0 0 0 0 6 6 7,
 smT 2 [97] 1 0 4 0 0 0 0 0 0 0 0 3,
 smT 14 [117,105,110,116,51,50] 0 0 4 0 7 1 0 4294967295 4294967294 0 0 2,
 smT 3 [97] 0 0 0 0 0 0 0 0 0 0 0 1,
 smT 2 [98] 2 4 2 1 0 0 1 0 0 0 0 6,
 smT 14 [117,105,110,116,49,54] 0 0 2 0 6 1 0 65535 65534 0 0 5,
 smT 3 [98] 0 0 0 0 0 0 0 0 0 0 0 4,
 smT 1 [77] 0 0 0 0 0 0 0 0 0 0 0 0]⟩
theorem sm_at:(atE smF 0=0)/\(atF smF 0).ver=0/\(atF smF 0).toks.length=5/\((atF smF 0).toks[0]?).map (fun t=>(t.blk,t.full))=some (4,6):=by
 refine⟨?_,rfl,?_,?_⟩<;>kernel_rfl
theorem sm_liv:livB smF 4 1=true/\livB smF 4 0=false:=by constructor<;>kernel_rfl
end Go.Proofs.YtkcjdncchoohoaaGreatDoor
