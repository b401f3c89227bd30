import Derived.Test.YtjnafpefolgcoaaGreatDoorK33
import Derived.Test.YtjnafpefolgcoaaGreatDoorK36
namespace Go.Proofs.YtjnafpefolgcoaaGreatDoor
set_option maxRecDepth 1000000
set_option maxHeartbeats 16000000
open Go.ChangeShapes Go.WideShapes Go.ChangeAt Go.RowKit Go.Shelf Go.Maps
theorem refTakes_14 (c:Df) (f:Fm) (L:List Od) (x x2:Od) (xt t:Tk) (ids:List Int) (vi:Value) (w:World) (R:Prop) (Q:World->Prop) (h:Dt w c f L x xt t ids vi) (ho:t.op=14) (hm:mayD xt.op x.stg t.op=true) (hp:plainB t=true) (hs:symbolB t.name=true) (hq:(if bgO t.op then pairB f.toks c.i t else decide (t.pair=c.i))=true) (hst:0<=x.stg/\x.stg<=1000000000000) (hx2:x2.stg=x.stg)
  (cF:∀ W,Dt W c f L x xt t ids vi->Calls Tryz.prog 35 #[.pointer (some ⟨c.B,0,none⟩),.int .i64 (c.i:Int),.pointer (some ⟨c.go,L.length*5,none⟩)] W fun r w'=>Lfg r R c W w' (Dt w' c f L x2 xt t ids vi))
  (hQ:Hid (∀ w',Dt w' c f L { x2 with stg:=x.stg+1 } xt t ids vi->Q w')) :
  Calls Tryz.prog 16 #[.pointer (some ⟨c.B,0,none⟩),.int .i64 (c.i:Int)] w fun r w'=>∃ b,r = .returned (.bool b)/\(b=true↔R/\encR t=true)/\Kb [c.go] w w'/\(b=true->Q w'):=by
 have o2:(t.op==2)=false:=by simp[ho]
 have o4:(t.op==4)=false:=by simp[ho]
 have o6:(t.op==6)=false:=by simp[ho]
 have o8:(t.op==8)=false:=by simp[ho]
 have o10:(t.op==10)=false:=by simp[ho]
 have o12:(t.op==12)=false:=by simp[ho]
 have o14:(t.op==14)=true:=by simp[ho]
 have o15:(t.op==15)=false:=by simp[ho]
 obtain⟨pc,cc,hT,hUH,hC,hO⟩:=h.tk
 have hU:=hUH.mono h.sz
 replace hUH:=Hid.mk hUH
 have b12:=h.ds.c12
 have hii:(c.i:Int)<f.toks.length:=by have:=h.il;omega
 have hll:=h.ll
 have hln:=h.ln
 have e1:((L.length+1:Nat):Int)-1=(L.length:Int):=by omega
 have e2:(L.length:Int)<((L.length+1:Nat):Int):=by omega
 have l1:=hT.load
 obtain⟨W1,s1,hA,hb1,hz1⟩:=ld_new w t pc cc
 have h1:=h.below hb1
 have a0:W1.cell? ⟨w.heap.size,0,none⟩=some (.int .i64 t.op):=hA.c0
 have hwl:w.heap.size<W1.heap.size:=by omega
 have cM:=refMay_any c f L x xt t ids vi t.op W1 h1
 have cPl:=fun W (hW:Below W1.heap.size W1 W)=>refPlain_any t pc cc W ((hU.below (hb1.trans (hW.mono hb1.size))).mono (Nat.le_trans hb1.size hW.size)) hO.cst
 have cSy:=fun W=>rSymbol t.name (by have:=hO.name;omega) W
 have cPr:=fun W (hW:Below W1.heap.size W1 W)=>refPaired_any c f t _ vi W (h1.below hW).d0
 have hR:Hid (∀ W,Below W1.heap.size W1 W->TkC W w.heap.size 0 t pc cc/\Dt W c f L x xt t ids vi/\Below w.heap.size w W):=⟨fun W hW=>⟨hA.below hwl hW,h1.below hW,hb1.trans (hW.mono hb1.size)⟩⟩
 have hLd:Hid (∀ W,Below W1.heap.size W1 W->(Instr.loadAt 53 (.pointer (some ⟨w.heap.size,0,none⟩))).run Tryz.prog W = .ok (tkV t pc cc) W):=⟨fun W hW=>(hA.below hwl hW).load⟩
 replace l1:=Hid.mk l1
 replace s1:=Hid.mk s1
 replace h:=Hid.mk h
 replace h1:=Hid.mk h1
 replace hb1:=Hid.mk hb1
 replace hz1:=Hid.mk hz1
 replace hO:=Hid.mk hO
 clear hT hC hA
 have cEn:=fun W (hh:URow W pc W.heap.size t.cst)=>refEncoded_any t pc cc W hh hO.out
 generalize hSd:(encR t=true)=S
 have hS:Hid (S↔encR t=true):=⟨by rw[hSd]⟩
 clear hSd
 generalize encR t=q9 at *
 have hw1:IntKind.i64.wrap (x.stg+1)=x.stg+1:=by rw[IntKind.wrap_i64];omega
 rw[hm] at cM
 rw[hp] at cPl
 rw[hs] at cSy
 rw[hq] at cPr
 clear ho hm hp hs hq
 go_enter Tryz.func16,Tryz.ntmps16
 go_wp2_with (first
  | (guard_target =~ wpList _ _ _ (Oper.mk _ (Op.load 53 _) _ _ _ _::_) _ _;(first|refine wpList_ld 53 _ rfl rfl _ _ rfl l1.out ?_|refine wpList_ld 53 _ rfl rfl _ _ rfl (hLd.out _ ea) ?_);simp only[pts])
  | (guard_target =~ wpList _ _ _ (Oper.mk _ (Op.store 53 _ _) _ _ _ _::_) _ _;go_must (refine wpList_st 53 _ _ rfl rfl _ _ rfl rfl (s1.out _ rfl) ?_);simp only[pts])
  | (go_at_call 32;refine cM.mono ?_;rintro _ wa ⟨rfl,ea⟩)
  | (go_at_call 28;refine(cPl _ ea).mono ?_;rintro _ wb ⟨rfl,eb'⟩;have eb:Below W1.heap.size W1 wb:=ea.trans (eb'.mono ea.size);have t1:=(hR.out _ eb).1.c1;simp only[Nat.zero_add] at t1)
  | (go_at_call 30;refine(cSy _).mono ?_;rintro _ wc ⟨rfl,ec'⟩;have ec:Below W1.heap.size W1 wc:=eb.trans (ec'.mono eb.size))
  | (go_at_call 29;refine(cPr _ ec).mono ?_;rintro _ wd ⟨rfl,ed'⟩;have ed:Below W1.heap.size W1 wd:=ec.trans (ed'.mono ec.size);obtain⟨y1,y2,y3⟩:=hR.out _ ed;have t0:=y1.c0;have b13:=y2.ds.c13;replace y1:=Hid.mk y1;replace y2:=Hid.mk y2;replace y3:=Hid.mk y3))
 go_quiet (fail)
 have hD:Hid (Dt (wd.drewN nq) c f L x xt t ids vi):=⟨y2.out.below (tdr (Below.refl _ _))⟩
 have hTd:Hid (TkC (wd.drewN nq) w.heap.size 0 t pc cc):=⟨y1.out.same rfl⟩
 have hkd:Hid (Below w.heap.size w (wd.drewN nq)):=⟨tdr y3.out⟩
 have hlW:Hid (w.heap.size<(wd.drewN nq).heap.size):=⟨Nat.lt_of_lt_of_le hwl ed.size⟩
 have gne:c.go≠w.heap.size:=by have:=h.out.op.lt;omega
 replace cF:=Hid.mk cF
 go_wp2_with fail
 refine(cF.out _ hD.out).mono ?_
 rintro _ wf ⟨(_|_),rfl,hbR,hbF,kf,dF⟩
 ·have hb:=hbF rfl
  have hE:=hD.out.below hb
  have t0:=(hTd.out.below (B:=(wd.drewN nq).heap.size) hlW.out hb).c0
  have z1:=hE.sc.c1
  have zf:wf.frozen? ⟨c.go,L.length*5+1,none⟩=false:=hE.op.frz _
  have HR:Hid (¬ R):=⟨fun e=>by have:=hbR.2 e;cases this⟩
  have hKK:Hid (Kb [c.go] w wf):=⟨(Kb.of_below hkd.out).trans kf⟩
  clear hbR hbF dF kf
  replace hE:=Hid.mk hE
  replace hb:=Hid.mk hb
  go_wp2_with fail
  go_ret
  exact⟨false,rfl,by simp[HR.out],hKK.out.set (List.mem_singleton.2 rfl) _,fun e=>by cases e⟩
 ·have hE:=dF rfl
  have hlf:w.heap.size<wf.heap.size:=Nat.lt_of_lt_of_le hlW.out kf.size
  have hTf:=hTd.out.same (kf.block _ hlW.out (notin1 gne.symm))
  have HR:Hid R:=⟨hbR.1 rfl⟩
  have hKK:Hid (Kb [c.go] w wf):=⟨(Kb.of_below hkd.out).trans kf⟩
  have hU2:URow wf pc wf.heap.size t.cst:=(hUH.out.below (hKK.out.below h.out.sz (fun k hk=>by rw[List.mem_singleton.1 hk];exact h.out.ap.go))).mono (Nat.le_trans h.out.sz hKK.out.size)
  have cE2:=cEn wf hU2
  have lt2:=hTf.load
  replace lt2:=Hid.mk lt2
  clear hbR hbF dF kf
  have hTg:Hid (∀ wg,Below wf.heap.size wf wg->TkC wg w.heap.size 0 t pc cc/\Dt wg c f L x2 xt t ids vi):=⟨fun wg hg=>⟨hTf.below (B:=wf.heap.size) hlf hg,hE.below hg⟩⟩
  clear hTf hE
  go_wp2_with (first
   | (guard_target =~ wpList _ _ _ (Oper.mk _ (Op.load 53 _) _ _ _ _::_) _ _;go_must (refine wpList_ld 53 _ rfl rfl _ _ rfl lt2.out ?_);simp only[pts]))
  refine cE2.mono ?_
  rintro _ wg ⟨rfl,eg⟩
  obtain⟨g1,hE3⟩:=hTg.out _ eg
  have t0:=g1.c0
  have z1:=hE3.sc.c1
  rw[hx2] at z1
  have zf:wg.frozen? ⟨c.go,L.length*5+1,none⟩=false:=hE3.op.frz _
  have hE2:Hid _:=⟨hE3⟩
  clear hE3 g1
  cases q9 with
  | true =>
   have HS:Hid S:=⟨hS.out.2 rfl⟩
   clear hS
   go_wp2_with fail
   go_ret
   exact⟨true,rfl,by simp[HR.out,HS.out],(hKK.out.trans (Kb.of_below eg)).set (List.mem_singleton.2 rfl) _,fun _=>hQ.out _ (hE2.out.wrote (j:=1) (by decide) rfl rfl)⟩
  | false =>
   have HS:Hid (¬ S):=⟨fun e=>by have:=hS.out.1 e;cases this⟩
   clear hS
   go_wp2_with fail
   go_ret
   exact⟨false,rfl,by simp[HS.out],(hKK.out.trans (Kb.of_below eg)).set (List.mem_singleton.2 rfl) _,fun e=>by cases e⟩
theorem refTakes_15 (c:Df) (f:Fm) (L:List Od) (x:Od) (xt t:Tk) (ids:List Int) (vi:Value) (w:World) (R:Prop) (h:Dt w c f L x xt t ids vi) (ho:t.op=15) (hm:mayD xt.op x.stg t.op=true) (hp:plainB t=true) (hs:symbolB t.name=true) (hq:(if bgO t.op then pairB f.toks c.i t else decide (t.pair=c.i))=true)
  (cF:∀ W,Dt W c f L x xt t ids vi->Calls Tryz.prog 38 #[.pointer (some ⟨c.B,0,none⟩),.int .i64 (c.i:Int),.pointer (some ⟨c.go,L.length*5,none⟩)] W fun r w'=>Ans r R/\Below W.heap.size W w') :
  Calls Tryz.prog 16 #[.pointer (some ⟨c.B,0,none⟩),.int .i64 (c.i:Int)] w fun r w'=>Ans r R/\Below w.heap.size w w':=by
 have o2:(t.op==2)=false:=by simp[ho]
 have o4:(t.op==4)=false:=by simp[ho]
 have o6:(t.op==6)=false:=by simp[ho]
 have o8:(t.op==8)=false:=by simp[ho]
 have o10:(t.op==10)=false:=by simp[ho]
 have o12:(t.op==12)=false:=by simp[ho]
 have o14:(t.op==14)=false:=by simp[ho]
 have o15:(t.op==15)=true:=by simp[ho]
 obtain⟨pc,cc,hT,hU,hC,hO⟩:=h.d0.tk
 have b12:=h.ds.c12
 have hii:(c.i:Int)<f.toks.length:=by have:=h.il;omega
 have hll:=h.ll
 have hln:=h.ln
 have e1:((L.length+1:Nat):Int)-1=(L.length:Int):=by omega
 have e2:(L.length:Int)<((L.length+1:Nat):Int):=by omega
 have l1:=hT.load
 obtain⟨W1,s1,hA,hb1,hz1⟩:=ld_new w t pc cc
 have h1:=h.below hb1
 have a0:W1.cell? ⟨w.heap.size,0,none⟩=some (.int .i64 t.op):=hA.c0
 have hwl:w.heap.size<W1.heap.size:=by omega
 have cM:=refMay_any c f L x xt t ids vi t.op W1 h1
 have cPl:=fun W (hW:Below W1.heap.size W1 W)=>refPlain_any t pc cc W ((hU.below (hb1.trans (hW.mono hb1.size))).mono (Nat.le_trans hb1.size hW.size)) hO.cst
 have cSy:=fun W=>rSymbol t.name (by have:=hO.name;omega) W
 have cPr:=fun W (hW:Below W1.heap.size W1 W)=>refPaired_any c f t _ vi W (h1.below hW).d0
 have hR:Hid (∀ W,Below W1.heap.size W1 W->TkC W w.heap.size 0 t pc cc/\Dt W c f L x xt t ids vi/\Below w.heap.size w W):=⟨fun W hW=>⟨hA.below hwl hW,h1.below hW,hb1.trans (hW.mono hb1.size)⟩⟩
 have hLd:Hid (∀ W,Below W1.heap.size W1 W->(Instr.loadAt 53 (.pointer (some ⟨w.heap.size,0,none⟩))).run Tryz.prog W = .ok (tkV t pc cc) W):=⟨fun W hW=>(hA.below hwl hW).load⟩
 replace l1:=Hid.mk l1
 replace s1:=Hid.mk s1
 replace h:=Hid.mk h
 replace h1:=Hid.mk h1
 replace hb1:=Hid.mk hb1
 replace hz1:=Hid.mk hz1
 replace hO:=Hid.mk hO
 clear hT hC hA
 rw[hm] at cM
 rw[hp] at cPl
 rw[hs] at cSy
 rw[hq] at cPr
 clear ho hm hp hs hq
 go_enter Tryz.func16,Tryz.ntmps16
 go_wp2_with (first
  | (guard_target =~ wpList _ _ _ (Oper.mk _ (Op.load 53 _) _ _ _ _::_) _ _;(first|refine wpList_ld 53 _ rfl rfl _ _ rfl l1.out ?_|refine wpList_ld 53 _ rfl rfl _ _ rfl (hLd.out _ ea) ?_);simp only[pts])
  | (guard_target =~ wpList _ _ _ (Oper.mk _ (Op.store 53 _ _) _ _ _ _::_) _ _;go_must (refine wpList_st 53 _ _ rfl rfl _ _ rfl rfl (s1.out _ rfl) ?_);simp only[pts])
  | (go_at_call 32;refine cM.mono ?_;rintro _ wa ⟨rfl,ea⟩)
  | (go_at_call 28;refine(cPl _ ea).mono ?_;rintro _ wb ⟨rfl,eb'⟩;have eb:Below W1.heap.size W1 wb:=ea.trans (eb'.mono ea.size);have t1:=(hR.out _ eb).1.c1;simp only[Nat.zero_add] at t1)
  | (go_at_call 30;refine(cSy _).mono ?_;rintro _ wc ⟨rfl,ec'⟩;have ec:Below W1.heap.size W1 wc:=eb.trans (ec'.mono eb.size))
  | (go_at_call 29;refine(cPr _ ec).mono ?_;rintro _ wd ⟨rfl,ed'⟩;have ed:Below W1.heap.size W1 wd:=ec.trans (ed'.mono ec.size);obtain⟨y1,y2,y3⟩:=hR.out _ ed;have t0:=y1.c0;have b13:=y2.ds.c13;replace y1:=Hid.mk y1;replace y2:=Hid.mk y2;replace y3:=Hid.mk y3))
 go_quiet (fail)
 have hD:Hid (Dt (wd.drewN nq) c f L x xt t ids vi):=⟨y2.out.below (tdr (Below.refl _ _))⟩
 have hTd:Hid (TkC (wd.drewN nq) w.heap.size 0 t pc cc):=⟨y1.out.same rfl⟩
 have hkd:Hid (Below w.heap.size w (wd.drewN nq)):=⟨tdr y3.out⟩
 have hlW:Hid (w.heap.size<(wd.drewN nq).heap.size):=⟨Nat.lt_of_lt_of_le hwl ed.size⟩
 replace cF:=Hid.mk cF
 go_wp2_with fail
 refine(cF.out _ hD.out).mono ?_
 rintro _ wf ⟨⟨b,rfl,hbR⟩,eb2⟩
 have t0:=(hTd.out.below (B:=(wd.drewN nq).heap.size) hlW.out eb2).c0
 replace hbR:=Hid.mk hbR
 go_wp2_with fail
 go_ret
 exact⟨⟨b,rfl,hbR.out⟩,hkd.out.trans (eb2.mono hkd.out.size)⟩
theorem od_met {l:List Tk} {i:Nat} {x:Sc} {t:Tk} (hx:ScOk l i x) (ht:l[i]?=some t) (hm:mayB l x t.op=true) (he:edO t.op=false) :
  odOf l (metX x i t)=⟨x.at_,(if t.op=4 then 1 else if t.op=6 then 2 else if tyO t.op then stgO l x+1 else stgO l x),(if 0<t.siz/\((t.op=2/\t.pres≠2)\/x.tk.op=8) then t.off+t.siz else x.e0),(if t.op=2 then t.since else x.fld),(if (t.op=4\/t.op=6)/\x.tk.op≠4 then t.since else x.row)⟩:=by
 unfold odOf
 rw[stg_met hx ht hm he]
 rfl
theorem inOk_rul {f:Fm} {o:List Sc} {ids:List Int} {i:Nat} {x:Sc} {t:Tk} (he:edO t.op=false) (hm:mayB f.toks x t.op=true) (hp:plainB t=true) (hs:symbolB t.name=true) (hq:(if bgO t.op then pairB f.toks i t else decide (t.pair=i))=true):inOk f o ids i x t=rulB f o ids i x t:=by
 unfold inOk
 rw[hm,hp,hs,he,if_neg (by decide),hq]
 simp
theorem fitted_doc {c:Df} {f:Fm} {L:List Od} {x:Od} {sc:Sc} {t:Tk} {ids:List Int} {vi:Value} {W:World} (h:Dt W c f L x sc.tk t ids vi) (hx:ScOk f.toks c.i sc) (hen:x.en=sc.e0) (ho:sc.tk.op=2\/sc.tk.op=8\/sc.tk.op=10\/sc.tk.op=12) :
  Calls Tryz.prog 35 #[.pointer (some ⟨c.B,0,none⟩),.int .i64 (c.i:Int),.pointer (some ⟨c.go,L.length*5,none⟩)] W fun r w'=>Lfg r (plcB sc t=true) c W w' (Dt w' c f L { x with en:=if sc.tk.op=8/\0<t.siz then t.off+t.siz else x.en } sc.tk t ids vi):=by
 have hP:=plcB_iff (t:=t) ho
 rcases ho with e|e|e|e
 ·exact refFitted_2 c f L x sc.tk t ids vi W _ (fun w'=>Dt w' c f L { x with en:=if sc.tk.op=8/\0<t.siz then t.off+t.siz else x.en } sc.tk t ids vi) h e ⟨by rw[hP];omega⟩ ⟨fun w' hd=>by rw[if_neg (by omega)];exact hd⟩
 ·exact refFitted_8 c f L x sc.tk t ids vi W _ (fun w'=>Dt w' c f L { x with en:=if sc.tk.op=8/\0<t.siz then t.off+t.siz else x.en } sc.tk t ids vi) h e ⟨hx.off.1,hx.off.2.2.2⟩ ⟨hx.off.2.1,hx.off.2.2.1⟩ ⟨by rw[hP,hen];omega⟩ ⟨fun w' hd=>by rw[show (if sc.tk.op=8/\0<t.siz then t.off+t.siz else x.en)=(if 0<t.siz then t.off+t.siz else x.en) by simp[e]];exact hd⟩
 ·exact refFitted_10 c f L x sc.tk t ids vi W _ (fun w'=>Dt w' c f L { x with en:=if sc.tk.op=8/\0<t.siz then t.off+t.siz else x.en } sc.tk t ids vi) h e ⟨by rw[hP];omega⟩ ⟨fun w' hd=>by rw[if_neg (by omega)];exact hd⟩
 ·exact refFitted_12 c f L x sc.tk t ids vi W _ (fun w'=>Dt w' c f L { x with en:=if sc.tk.op=8/\0<t.siz then t.off+t.siz else x.en } sc.tk t ids vi) h e ⟨by rw[hP];omega⟩ ⟨fun w' hd=>by rw[if_neg (by omega)];exact hd⟩
theorem named_doc {c:Df} {f:Fm} {L:List Od} {x:Od} {sc:Sc} {r:List Sc} {t:Tk} {ids:List Int} {vi:Value} {W:World} (h:Dt W c f L x sc.tk t ids vi) (hat:x.at_=sc.at_) (H:Inv f c.i ⟨sc::r,ids⟩) (hS:Srt (sc::r)) :
  Calls Tryz.prog 31 #[.pointer (some ⟨c.B,0,none⟩),.int .i64 (c.i:Int)] W fun r w'=>Ans r (newB f.toks ids sc t=true)/\Below W.heap.size W w':=by
 have hx:=H.all sc (List.mem_cons_self ..)
 have hi:c.i≠0:=fun e=>by have:=H.zero e;cases this
 refine(refNamed_any c f L x sc.tk t ids vi sc.kids W h hi (by rw[hat];exact H.nest.1) (fun k hk=>(hx.kid k hk).2) (hS sc (List.mem_cons_self ..)) H.ids).mono fun e w' hh=>⟨?_,hh.2⟩
 obtain⟨b,rfl,hb⟩:=hh.1
 refine⟨b,rfl,hb.trans ?_⟩
 unfold newB
 simp[and_assoc]
theorem cnt_last {l:List Tk} {op:Int} {L:List Od} {x y:Od} (h:x.at_=y.at_):cntD l op (L++[x])=cntD l op (L++[y]):=by
 unfold cntD
 rw[List.filter_append,List.filter_append,List.length_append,List.length_append]
 congr 1
 simp only[List.filter_cons,List.filter_nil]
 rw[h]
 split<;>rfl
theorem cnt_sc {l:List Tk} {i:Nat} {op:Int} {sc:Sc} {r:List Sc} {x:Od} (hA:∀ a∈sc::r,ScOk l i a) (h:x.at_=sc.at_):cntD l op (r.reverse.map (odOf l)++[x])=depB op (sc::r):=by
 rw[cnt_last (y:=odOf l sc) h,<- cnt_dep op (sc::r) hA]
 simp
theorem refFielded_any (c:Df) (f:Fm) (L:List Od) (x:Od) (xt t u:Tk) (ids:List Int) (vi:Value) (w:World) (P:Prop) (Q:World->Prop) (h:Dt w c f L x xt t ids vi) (hu:f.toks[c.i+1]?=some u)
  (hP:Hid (P↔(xt.since<=t.since/\x.snc<=t.since/\t.since<=f.ver/\0<=t.pres/\t.pres<=2/\(t.pres=0->t.since=xt.since))/\((t.pres=2/\t.off=0/\t.siz=0/\0<t.cst.length)\/(t.pres≠2/\t.cst.length=0/\0<=t.siz/\0<=t.off/\(t.siz=0->t.off=0)/\t.off<=xt.blk/\t.siz<=xt.blk-t.off/\u.siz=t.siz/\(0<t.siz->x.en<=t.off)))))
  (hQ:Hid (∀ w',Dt w' c f L { x with snc:=t.since,en:=if t.pres≠2/\0<t.siz then t.off+t.siz else x.en } xt t ids vi->Q w')) :
  Calls Tryz.prog 33 #[.pointer (some ⟨c.B,0,none⟩),.int .i64 (c.i:Int),.pointer (some ⟨c.go,L.length*5,none⟩)] w fun r w'=>Lfd r P c w w' (Q w'):=by
 obtain⟨pc,cc,hT,hU,hC,hO⟩:=h.tk
 obtain⟨px,cx,hTx,hOx⟩:=h.xk
 have b12:=h.ds.c12
 have hii:(c.i:Int)<f.toks.length:=by have:=h.il;omega
 have hxl:(x.at_:Int)<f.toks.length:=by have:=h.xl;omega
 have hll:=h.ll
 have l1:=hT.load
 have hgo:=h.op.lt
 obtain⟨W1,s1,hA,hb1,hz1⟩:=ld_new w t pc cc
 have h1:=h.below hb1
 have hX1:=hTx.below (B:=w.heap.size) h.lg hb1
 obtain⟨p,p0,pB,pI,hNe,pc',pl,pk⟩:=clsT W1
 have f12:=fun θ=>(pc' c.B 12 h1.ds.lt θ).trans h1.ds.c12
 have f0:=fun θ=>(pc' c.go (L.length*5) h1.op.lt θ).trans h1.sc.c0
 have lu:=pl c.g _ xt px cx h1.lg hX1
 clear pc' pl pk hX1 hTx
 replace l1:=Hid.mk l1
 replace s1:=Hid.mk s1
 replace h:=Hid.mk h
 replace h1:=Hid.mk h1
 replace hA:=Hid.mk hA
 replace hb1:=Hid.mk hb1
 replace hO:=Hid.mk hO
 replace hOx:=Hid.mk hOx
 clear hT hU hC
 go_enter Tryz.func33,Tryz.ntmps33
 go_wp2_with (first
  | (guard_target =~ wpList _ _ _ (Oper.mk _ (Op.load 53 _) _ _ _ _::_) _ _;go_must (first|refine wpList_ld 53 _ rfl rfl _ _ rfl l1.out ?_);simp only[pts])
  | (guard_target =~ wpList _ _ _ (Oper.mk _ (Op.store 53 _ _) _ _ _ _::_) _ _;go_must (refine wpList_st 53 _ _ rfl rfl _ _ rfl rfl (s1.out _ rfl) ?_);simp only[pts]))
 refine wp_region_lp p (by kernel_rfl) (by kernel_rfl) (fun _ _ d _ _ h=>by cases d<;>exact h) p0 fun W hp=>?_
 repeat (first|(guard_target =~ Lx _ _ _ _ (Oper.mk _ (Op.load 53 _) _ _ _ _::_) _ _;(first|refine lx_ld lu rfl rfl ?_);simp only[pts])|(guard_target =~ Lx _ _ _ _ (Oper.mk _ (Op.alloc 53) _ _ _ _::_) _ _;refine lx_act (by rfl) (by rfl) ?_;intro K hK;go_simp;refine hK _ _ ⟨⟨_,pI _ ((pB _ hp).trans ((bel1 W _).mono (pB _ hp).size))⟩,rfl⟩ ?_;clear hK K)|(guard_target =~ Lx _ _ _ _ (Oper.mk _ (Op.store 53 _ _) _ _ _ _::_) _ _;obtain⟨W2,s2,hY,hb2,hz2⟩:=ld_new W xt px cx;refine lx_st (s2 _ rfl) ⟨⟨W2,pI _ ((pB _ hp).trans (hb2.mono (pB _ hp).size))⟩,rfl⟩ rfl rfl (by rfl) ?_;clear s2;simp only[pts])|(refine lx_one rfl ?_;(first|go_big_quiet_skip|(go_big_quiet_want;go_big_quiet_op;go_big_quiet_on));refine wpQuiet_nil ?_)|(refine lx_skip (by rfl) ?_;simp only[pts]))
 refine lx_done ?_
 have hbW:=pB _ hp
 have hb:Below w.heap.size w W2:=hb1.out.trans ((hbW.trans (hb2.mono hbW.size)).mono hb1.out.size)
 have h2:=h.out.below hb
 have hTT:TkC W2 w.heap.size 0 t pc cc:=hA.out.below (B:=W1.heap.size) (by omega) (hbW.trans (hb2.mono hbW.size))
 have gT:w.heap.size≠c.go:=by omega
 have gO:W.heap.size≠c.go:=by have:=hbW.size;omega
 have gTl:w.heap.size<W2.heap.size:=by have:=hbW.size;omega
 have gOl:W.heap.size<W2.heap.size:=by omega
 have t3:=hTT.c3
 have t4:=hTT.c4
 have t5:=hTT.c5
 have t8:=hTT.c8
 have t12:=hTT.c12
 have o5:=hY.c5
 have o14:=hY.c14
 replace h2:=Hid.mk h2
 replace hb:=Hid.mk hb
 replace hTT:=Hid.mk hTT
 replace hYY:Hid _:=⟨hY⟩
 clear pB pI p0 f0 f12 hNe hp lu hY hbW
 simp only[Nat.zero_add] at t3 t4 t5 t8 t12 o5 o14
 have v2:=h2.out.ds.fm.c2
 have x3:=h2.out.sc.c3
 by_cases k0:t.since<xt.since
 ·have d0_0:decide (t.since<xt.since)=true:=by simp;omega
  have HX:Hid (¬ P):=⟨fun p=>by have:=hP.out.1 p;omega⟩
  go_wp2_with fail
  go_quiet (fail)
  go_wp2_with fail
  go_ret
  exact Lfd.no HX.out (Kb.of_below (tdr hb.out))
 have d0_0:decide (t.since<xt.since)=false:=by simp;omega
 by_cases k1:t.since<x.snc
 ·have d1_0:decide (t.since<x.snc)=true:=by simp;omega
  have HX:Hid (¬ P):=⟨fun p=>by have:=hP.out.1 p;omega⟩
  go_wp2_with fail
  go_quiet (fail)
  go_wp2_with fail
  go_ret
  exact Lfd.no HX.out (Kb.of_below (tdr hb.out))
 have d1_0:decide (t.since<x.snc)=false:=by simp;omega
 by_cases k2:f.ver<t.since
 ·have d2_0:decide (t.since > f.ver)=true:=by simp;omega
  have HX:Hid (¬ P):=⟨fun p=>by have:=hP.out.1 p;omega⟩
  go_wp2_with fail
  go_quiet (fail)
  go_wp2_with fail
  go_ret
  exact Lfd.no HX.out (Kb.of_below (tdr hb.out))
 have d2_0:decide (t.since > f.ver)=false:=by simp;omega
 by_cases k3:t.pres<0
 ·have d3_0:decide (t.pres<0)=true:=by simp;omega
  have HX:Hid (¬ P):=⟨fun p=>by have:=hP.out.1 p;omega⟩
  go_wp2_with fail
  go_quiet (fail)
  go_wp2_with fail
  go_ret
  exact Lfd.no HX.out (Kb.of_below (tdr hb.out))
 have d3_0:decide (t.pres<0)=false:=by simp;omega
 by_cases k4:2<t.pres
 ·have d4_0:decide (t.pres > 2)=true:=by simp;omega
  have HX:Hid (¬ P):=⟨fun p=>by have:=hP.out.1 p;omega⟩
  go_wp2_with fail
  go_quiet (fail)
  go_wp2_with fail
  go_ret
  exact Lfd.no HX.out (Kb.of_below (tdr hb.out))
 have d4_0:decide (t.pres > 2)=false:=by simp;omega
 have hc:((t.pres==0)=true/\(t.since != xt.since)=true/\t.pres=0/\t.since≠xt.since)\/((t.pres==0)=true/\(t.since != xt.since)=false/\t.since=xt.since)\/((t.pres==0)=false/\t.pres≠0):=by
  by_cases e:t.pres=0
  ·by_cases e2:t.since=xt.since
   ·exact .inr (.inl ⟨by simp[e],by simp[e2],e2⟩)
   ·exact .inl ⟨by simp[e],by simp[e2],e,e2⟩
  ·exact .inr (.inr ⟨by simp[e],e⟩)
 rcases hc with ⟨c1,c2,c3,c4⟩|hc
 ·have HX:Hid (¬ P):=⟨fun p=>by have:=hP.out.1 p;omega⟩
  clear c3 c4
  go_wp2_with fail
  go_quiet (fail)
  go_wp2_with fail
  go_ret
  exact Lfd.no HX.out (Kb.of_below (tdr hb.out))
 have hc2:Hid (t.pres=0->t.since=xt.since):=⟨by rcases hc with ⟨_,_,e⟩|⟨_,e⟩<;>omega⟩
 have hP1:Hid (P↔((t.pres=2/\t.off=0/\t.siz=0/\0<t.cst.length)\/(t.pres≠2/\t.cst.length=0/\0<=t.siz/\0<=t.off/\(t.siz=0->t.off=0)/\t.off<=xt.blk/\t.siz<=xt.blk-t.off/\u.siz=t.siz/\(0<t.siz->x.en<=t.off)))):=⟨by
  rw[hP.out]
  have:=hc2.out
  constructor
  ·exact fun h=>h.2
  ·exact fun h=>⟨⟨by omega,by omega,by omega,by omega,by omega,this⟩,h⟩⟩
 clear hP hc2
 have nB:c.B≠c.go:=h.out.ap.Bo
 have ng:c.g≠c.go:=by have:=h.out.ap.g;have:=h.out.ap.go;omega
 obtain⟨pu,cu,hTu,_,_,hOu⟩:=h2.out.at hu
 have u4:=hTu.c4
 have x2:=h2.out.sc.c2
 have v12:=h2.out.ds.c12
 have z3:W2.frozen? ⟨c.go,L.length*5+3,none⟩=false:=h2.out.op.frz _
 have z2:W2.frozen? ⟨c.go,L.length*5+2,none⟩=false:=h2.out.op.frz _
 have hi1:(c.i:Int)+1<f.toks.length:=by have:=(List.getElem?_eq_some_iff.1 hu).1;omega
 have d9:decide ((c.i:Int)+1≥f.toks.length)=false:=by simp;omega
 have hblk:=hOx.out.blk
 have hoff:=hO.out.off
 have hsiz:=hO.out.siz
 unfold i64ok at hblk hoff hsiz
 clear hTu hOu hii hxl b12
 have KB:∀ (n:Nat) (v:Value),Kb [c.go] w ((W2.drewN n).setCell ⟨c.go,L.length*5+3,none⟩ v):=fun n v=>(Kb.of_below (tdr hb.out)).set (List.mem_singleton.2 rfl) _
 have KC:∀ (n m:Nat) (v:Value),Kb [c.go] w (((W2.drewN n).setCell ⟨c.go,L.length*5+3,none⟩ v).drewN m):=fun n m v=>⟨(KB n v).os,(KB n v).tape,(KB n v).output,(KB n v).size,(KB n v).block⟩
 have DB:∀ n:Nat,Dt ((W2.drewN n).setCell ⟨c.go,L.length*5+3,none⟩ (.int .i64 t.since)) c f L { x with snc:=t.since } xt t ids vi:=fun n=>(h2.out.below (tdr (Below.refl _ _))).wrote (x':={ x with snc:=t.since }) (by decide) rfl rfl
 have DC:∀ n m:Nat,Dt (((W2.drewN n).setCell ⟨c.go,L.length*5+3,none⟩ (.int .i64 t.since)).drewN m) c f L { x with snc:=t.since } xt t ids vi:=fun n m=>(DB n).below (tdr (Below.refl _ _))
 have hN:Hid (∀ n,t.cst.length=n->(P↔((t.pres=2/\t.off=0/\t.siz=0/\0<n)\/(t.pres≠2/\n=0/\0<=t.siz/\0<=t.off/\(t.siz=0->t.off=0)/\t.off<=xt.blk/\t.siz<=xt.blk-t.off/\u.siz=t.siz/\(0<t.siz->x.en<=t.off))))):=⟨fun n e=>e▸hP1.out⟩
 obtain⟨n,hn⟩:∃ n,t.cst.length=n:=⟨_,rfl⟩
 rw[hn] at t12
 have hP:=Hid.mk (hN.out n hn)
 replace DB:=Hid.mk DB
 replace DC:=Hid.mk DC
 replace KB:=Hid.mk KB
 replace KC:=Hid.mk KC
 clear hn hN hP1
 rcases hc with ⟨c1,c2,c3⟩|⟨c1,c2⟩
 all_goals
  try clear c3
  go_wp2_with fail
  go_quiet (fail)
  clear d0_0 d1_0 d2_0 d3_0 d4_0 c1 c2 k0 k1 k2 k3 k4
  by_cases e2:t.pres=2
  ·have m2:(t.pres==2)=true:=by simp[e2]
   by_cases e3:t.off=0
   ·have m3:(t.off==0)=true:=by simp[e3]
    by_cases e4:t.siz=0
    ·have m4:(t.siz==0)=true:=by simp[e4]
     have HX:Hid (P↔0<n):=⟨by rw[hP.out];omega⟩
     have HE:Hid (¬ (t.pres≠2/\0<t.siz)):=⟨by omega⟩
     clear e2 e3 e4 hP
     go_wp2_with fail
     go_ret
     refine⟨_,rfl,Iff.trans ?_ HX.out.symm,KB.out _ _,fun _=>hQ.out _ ?_⟩
     ·simp
     ·rw[if_neg HE.out]
      exact DB.out _
    ·have m4:(t.siz==0)=false:=by simp[e4]
     have HX:Hid (¬ P):=⟨by rw[hP.out];omega⟩
     clear e2 e3 e4 hP
     go_wp2_with fail
     go_ret
     exact Lfd.no HX.out (KB.out _ _)
   ·have m3:(t.off==0)=false:=by simp[e3]
    have HX:Hid (¬ P):=⟨by rw[hP.out];omega⟩
    clear e2 e3 hP
    go_wp2_with fail
    go_ret
    exact Lfd.no HX.out (KB.out _ _)
  have m2:(t.pres==2)=false:=by simp[e2]
  have HE2:Hid (t.pres≠2):=⟨e2⟩
  by_cases q0:n≠0
  ·have r0:((n:Int) != 0)=true:=by simp;omega
   have r0':(n != 0)=true:=by simp;omega
   have HX:Hid (¬ P):=⟨by rw[hP.out];omega⟩
   clear q0
   go_wp2_with fail
   go_ret
   exact Lfd.no HX.out (KB.out _ _)
  have r0:((n:Int) != 0)=false:=by simp;omega
  have r0':(n != 0)=false:=by simp;omega
  replace q0:Hid _:=⟨Decidable.not_not.1 q0⟩
  have hP3:Hid (P↔(0<=t.siz/\0<=t.off/\(t.siz=0->t.off=0)/\t.off<=xt.blk/\t.siz<=xt.blk-t.off/\u.siz=t.siz/\(0<t.siz->x.en<=t.off))):=⟨by rw[hP.out];have:=q0.out;omega⟩
  clear hP e2
  have hP:=hP3
  clear hP3
  by_cases q1:t.siz<0
  ·have r1_0:decide (t.siz<0)=true:=by simp<;>omega
   have HX:Hid (¬ P):=⟨by rw[hP.out];omega⟩
   go_wp2_with fail
   go_ret
   exact Lfd.no HX.out (KB.out _ _)
  have r1_0:decide (t.siz<0)=false:=by simp<;>omega
  by_cases q2:t.off<0
  ·have r2_0:decide (t.off<0)=true:=by simp<;>omega
   have HX:Hid (¬ P):=⟨by rw[hP.out];omega⟩
   go_wp2_with fail
   go_ret
   exact Lfd.no HX.out (KB.out _ _)
  have r2_0:decide (t.off<0)=false:=by simp<;>omega
  by_cases q3:t.siz=0/\t.off≠0
  ·have r3:(t.siz==0)=true:=by simp[q3.1]
   have r4:(t.off != 0)=true:=by simp[q3.2]
   have HX:Hid (¬ P):=⟨by rw[hP.out];omega⟩
   clear q3
   go_wp2_with fail
   go_ret
   exact Lfd.no HX.out (KB.out _ _)
  have r3:((t.siz==0)=true/\(t.off != 0)=false)\/(t.siz==0)=false:=by
   by_cases e:t.siz=0
   ·exact .inl ⟨by simp[e],by simp;omega⟩
   ·exact .inr (by simp[e])
  rcases r3 with ⟨r3,r4⟩|r3
  all_goals
   by_cases q4:xt.blk<t.off
   ·have r5:decide (t.off > xt.blk)=true:=by simp;omega
    have HX:Hid (¬ P):=⟨by rw[hP.out];omega⟩
    go_wp2_with fail
    go_ret
    exact Lfd.no HX.out (KB.out _ _)
   have r5:decide (t.off > xt.blk)=false:=by simp;omega
   have hw:IntKind.i64.wrap (xt.blk-t.off)=xt.blk-t.off:=by rw[IntKind.wrap_i64];omega
   by_cases q5:xt.blk-t.off<t.siz
   ·have r6:decide (t.siz > xt.blk-t.off)=true:=by simp;omega
    have HX:Hid (¬ P):=⟨by rw[hP.out];omega⟩
    go_wp2_with fail
    go_ret
    exact Lfd.no HX.out (KB.out _ _)
   have r6:decide (t.siz > xt.blk-t.off)=false:=by simp;omega
   have hw2:IntKind.i64.wrap (t.off+t.siz)=t.off+t.siz:=by rw[IntKind.wrap_i64];omega
   by_cases q6:u.siz=t.siz
   ·have r7:(u.siz != t.siz)=false:=by simp[q6]
    replace q6:=Hid.mk q6
    by_cases q7:0<t.siz
    ·have r8:decide (t.siz > 0)=true:=by simp;omega
     by_cases q8:t.off<x.en
     ·have r9:decide (t.off<x.en)=true:=by simp;omega
      have HX:Hid (¬ P):=⟨by rw[hP.out];omega⟩
      go_wp2_with fail
      go_quiet (fail)
      go_wp2_with fail
      go_quiet (fail)
      go_wp2_with fail
      go_ret
      exact Lfd.no HX.out (Kb.drewM (KC.out _ _ _) _)
     ·have r9:decide (t.off<x.en)=false:=by simp;omega
      have HX:Hid P:=⟨by rw[hP.out];have:=q6.out;omega⟩
      have HE:Hid (t.pres≠2/\0<t.siz):=⟨HE2.out,q7⟩
      go_wp2_with fail
      go_quiet (fail)
      go_wp2_with fail
      go_quiet (fail)
      go_wp2_with fail
      go_ret
      refine Lfd.yes HX.out ((KC.out _ _ _).set (List.mem_singleton.2 rfl) _) (hQ.out _ ?_)
      rw[if_pos HE.out]
      exact(DC.out _ _).wrote (j:=2) (by decide) rfl rfl
    ·have r8:decide (t.siz > 0)=false:=by simp;omega
     have HX:Hid P:=⟨by rw[hP.out];have:=q6.out;omega⟩
     have HE:Hid (¬ (t.pres≠2/\0<t.siz)):=⟨fun e=>q7 e.2⟩
     go_wp2_with fail
     go_quiet (fail)
     go_wp2_with fail
     go_ret
     refine Lfd.yes HX.out (KC.out _ _ _) (hQ.out _ ?_)
     rw[if_neg HE.out]
     exact DC.out _ _
   ·have r7:(u.siz != t.siz)=true:=by simp[q6]
    have HX:Hid (¬ P):=⟨by rw[hP.out];omega⟩
    clear q6
    go_wp2_with fail
    go_quiet (fail)
    go_wp2_with fail
    go_ret
    exact Lfd.no HX.out (KC.out _ _ _)
end Go.Proofs.YtjnafpefolgcoaaGreatDoor
