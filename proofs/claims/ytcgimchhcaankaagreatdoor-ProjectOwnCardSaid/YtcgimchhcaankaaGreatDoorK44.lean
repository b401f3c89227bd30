import Derived.Test.YtcgimchhcaankaaGreatDoorK43
namespace Go.Proofs.YtcgimchhcaankaaGreatDoor
set_option maxRecDepth 1000000
set_option maxHeartbeats 16000000
open Go.ChangeShapes Go.WideShapes Go.ChangeAt Go.RowKit Go.Shelf Go.Maps
theorem refTakes_10 (c:Df) (f:Fm) (L:List Od) (x x2:Od) (xt t:Tk) (ids:List Int) (vi:Value) (w:World) (R:Prop) (Q:World->Prop) (h:Dt w c f L x xt t ids vi) (ho:t.op=10) (hm:mayD xt.op x.stg t.op=true) (hp:plainB t=true) (hs:symbolB t.name=true) (hq:(if bgO t.op then pairB f.toks c.i t else decide (t.pair=c.i))=true) (hst:0<=x.stg/\x.stg<=1000000000000) (hx2:x2.stg=x.stg)
  (cF:∀ W,Dt W c f L x xt t ids vi->Calls Tryz.prog 35 #[.pointer (some ⟨c.B,0,none⟩),.int .i64 (c.i:Int),.pointer (some ⟨c.go,L.length*5,none⟩)] W fun r w'=>Lfg r R c W w' (Dt w' c f L x2 xt t ids vi))
  (hQ:Hid (∀ w',Dt w' c f L { x2 with stg:=x.stg+1 } xt t ids vi->Q w')) :
  Calls Tryz.prog 17 #[.pointer (some ⟨c.B,0,none⟩),.int .i64 (c.i:Int)] w fun r w'=>∃ b,r = .returned (.bool b)/\(b=true↔R/\True)/\Kb [c.go] w w'/\(b=true->Q w'):=by
 have o2:(t.op==2)=false:=by simp[ho]
 have o4:(t.op==4)=false:=by simp[ho]
 have o6:(t.op==6)=false:=by simp[ho]
 have o8:(t.op==8)=false:=by simp[ho]
 have o10:(t.op==10)=true:=by simp[ho]
 have o12:(t.op==12)=false:=by simp[ho]
 have o14:(t.op==14)=false:=by simp[ho]
 have o15:(t.op==15)=false:=by simp[ho]
 obtain⟨pc,cc,hT,hUH,hC,hO⟩:=h.tk
 have hU:=hUH.mono h.sz
 replace hUH:=Hid.mk hUH
 have b12:=h.ds.c12
 have hii:(c.i:Int)<f.toks.length:=by have:=h.il;omega
 have hll:=h.ll
 have hln:=h.ln
 have e1:((L.length+1:Nat):Int)-1=(L.length:Int):=by omega
 have e2:(L.length:Int)<((L.length+1:Nat):Int):=by omega
 have l1:=hT.load
 obtain⟨W1,s1,hA,hb1,hz1⟩:=ld_new w t pc cc
 have h1:=h.below hb1
 have a0:W1.cell? ⟨w.heap.size,0,none⟩=some (.int .i64 t.op):=hA.c0
 have hwl:w.heap.size<W1.heap.size:=by omega
 have cM:=refMay_any c f L x xt t ids vi t.op W1 h1
 have cPl:=fun W (hW:Below W1.heap.size W1 W)=>refPlain_any t pc cc W ((hU.below (hb1.trans (hW.mono hb1.size))).mono (Nat.le_trans hb1.size hW.size)) hO.cst
 have cSy:=fun W=>rSymbol t.name (by have:=hO.name;omega) W
 have cPr:=fun W (hW:Below W1.heap.size W1 W)=>refPaired_any c f t _ vi W (h1.below hW).d0
 have hR:Hid (∀ W,Below W1.heap.size W1 W->TkC W w.heap.size 0 t pc cc/\Dt W c f L x xt t ids vi/\Below w.heap.size w W):=⟨fun W hW=>⟨hA.below hwl hW,h1.below hW,hb1.trans (hW.mono hb1.size)⟩⟩
 have hLd:Hid (∀ W,Below W1.heap.size W1 W->(Instr.loadAt 40 (.pointer (some ⟨w.heap.size,0,none⟩))).run Tryz.prog W = .ok (tkV t pc cc) W):=⟨fun W hW=>(hA.below hwl hW).load⟩
 replace l1:=Hid.mk l1
 replace s1:=Hid.mk s1
 replace h:=Hid.mk h
 replace h1:=Hid.mk h1
 replace hb1:=Hid.mk hb1
 replace hz1:=Hid.mk hz1
 replace hO:=Hid.mk hO
 clear hT hC hA
 have hw1:IntKind.i64.wrap (x.stg+1)=x.stg+1:=by rw[IntKind.wrap_i64];omega
 rw[hm] at cM
 rw[hp] at cPl
 rw[hs] at cSy
 rw[hq] at cPr
 clear ho hm hp hs hq
 go_enter Tryz.func17,Tryz.ntmps17
 go_wp2_with (first
  | (guard_target =~ wpList _ _ _ (Oper.mk _ (Op.load 40 _) _ _ _ _::_) _ _;(first|refine wpList_ld 40 _ rfl rfl _ _ rfl l1.out ?_|refine wpList_ld 40 _ rfl rfl _ _ rfl (hLd.out _ ea) ?_);simp only[pts])
  | (guard_target =~ wpList _ _ _ (Oper.mk _ (Op.store 40 _ _) _ _ _ _::_) _ _;go_must (refine wpList_st 40 _ _ rfl rfl _ _ rfl rfl (s1.out _ rfl) ?_);simp only[pts])
  | (go_at_call 32;refine cM.mono ?_;rintro _ wa ⟨rfl,ea⟩)
  | (go_at_call 28;refine(cPl _ ea).mono ?_;rintro _ wb ⟨rfl,eb'⟩;have eb:Below W1.heap.size W1 wb:=ea.trans (eb'.mono ea.size);have t1:=(hR.out _ eb).1.c1;simp only[Nat.zero_add] at t1)
  | (go_at_call 30;refine(cSy _).mono ?_;rintro _ wc ⟨rfl,ec'⟩;have ec:Below W1.heap.size W1 wc:=eb.trans (ec'.mono eb.size))
  | (go_at_call 29;refine(cPr _ ec).mono ?_;rintro _ wd ⟨rfl,ed'⟩;have ed:Below W1.heap.size W1 wd:=ec.trans (ed'.mono ec.size);obtain⟨y1,y2,y3⟩:=hR.out _ ed;have t0:=y1.c0;have b13:=y2.ds.c13;replace y1:=Hid.mk y1;replace y2:=Hid.mk y2;replace y3:=Hid.mk y3))
 go_quiet (fail)
 have hD:Hid (Dt (wd.drewN nq) c f L x xt t ids vi):=⟨y2.out.below (tdr (Below.refl _ _))⟩
 have hTd:Hid (TkC (wd.drewN nq) w.heap.size 0 t pc cc):=⟨y1.out.same rfl⟩
 have hkd:Hid (Below w.heap.size w (wd.drewN nq)):=⟨tdr y3.out⟩
 have hlW:Hid (w.heap.size<(wd.drewN nq).heap.size):=⟨Nat.lt_of_lt_of_le hwl ed.size⟩
 have gne:c.go≠w.heap.size:=by have:=h.out.op.lt;omega
 replace cF:=Hid.mk cF
 go_wp2_with fail
 refine(cF.out _ hD.out).mono ?_
 rintro _ wf ⟨(_|_),rfl,hbR,hbF,kf,dF⟩
 ·have hb:=hbF rfl
  have hE:=hD.out.below hb
  have t0:=(hTd.out.below (B:=(wd.drewN nq).heap.size) hlW.out hb).c0
  have z1:=hE.sc.c1
  have zf:wf.frozen? ⟨c.go,L.length*5+1,none⟩=false:=hE.op.frz _
  have HR:Hid (¬ R):=⟨fun e=>by have:=hbR.2 e;cases this⟩
  have hKK:Hid (Kb [c.go] w wf):=⟨(Kb.of_below hkd.out).trans kf⟩
  clear hbR hbF dF kf
  replace hE:=Hid.mk hE
  replace hb:=Hid.mk hb
  go_wp2_with fail
  go_ret
  exact⟨false,rfl,by simp[HR.out],hKK.out.set (List.mem_singleton.2 rfl) _,fun e=>by cases e⟩
 ·have hE:=dF rfl
  have hlf:w.heap.size<wf.heap.size:=Nat.lt_of_lt_of_le hlW.out kf.size
  have hTf:=hTd.out.same (kf.block _ hlW.out (notin1 gne.symm))
  have HR:Hid R:=⟨hbR.1 rfl⟩
  have hKK:Hid (Kb [c.go] w wf):=⟨(Kb.of_below hkd.out).trans kf⟩
  have t0:=hTf.c0
  have z1:=hE.sc.c1
  rw[hx2] at z1
  have zf:wf.frozen? ⟨c.go,L.length*5+1,none⟩=false:=hE.op.frz _
  have hE2:Hid _:=⟨hE⟩
  clear hbR hbF dF kf hE hTf
  go_wp2_with fail
  go_ret
  exact⟨true,rfl,by simp[HR.out],hKK.out.set (List.mem_singleton.2 rfl) _,fun _=>hQ.out _ (hE2.out.wrote (j:=1) (by decide) rfl rfl)⟩
theorem refTakes_12 (c:Df) (f:Fm) (L:List Od) (x x2:Od) (xt t:Tk) (ids:List Int) (vi:Value) (w:World) (R:Prop) (Q:World->Prop) (h:Dt w c f L x xt t ids vi) (ho:t.op=12) (hm:mayD xt.op x.stg t.op=true) (hp:plainB t=true) (hs:symbolB t.name=true) (hq:(if bgO t.op then pairB f.toks c.i t else decide (t.pair=c.i))=true) (hst:0<=x.stg/\x.stg<=1000000000000) (hx2:x2.stg=x.stg)
  (cF:∀ W,Dt W c f L x xt t ids vi->Calls Tryz.prog 35 #[.pointer (some ⟨c.B,0,none⟩),.int .i64 (c.i:Int),.pointer (some ⟨c.go,L.length*5,none⟩)] W fun r w'=>Lfg r R c W w' (Dt w' c f L x2 xt t ids vi))
  (hQ:Hid (∀ w',Dt w' c f L { x2 with stg:=x.stg+1 } xt t ids vi->Q w')) :
  Calls Tryz.prog 17 #[.pointer (some ⟨c.B,0,none⟩),.int .i64 (c.i:Int)] w fun r w'=>∃ b,r = .returned (.bool b)/\(b=true↔R/\True)/\Kb [c.go] w w'/\(b=true->Q w'):=by
 have o2:(t.op==2)=false:=by simp[ho]
 have o4:(t.op==4)=false:=by simp[ho]
 have o6:(t.op==6)=false:=by simp[ho]
 have o8:(t.op==8)=false:=by simp[ho]
 have o10:(t.op==10)=false:=by simp[ho]
 have o12:(t.op==12)=true:=by simp[ho]
 have o14:(t.op==14)=false:=by simp[ho]
 have o15:(t.op==15)=false:=by simp[ho]
 obtain⟨pc,cc,hT,hUH,hC,hO⟩:=h.tk
 have hU:=hUH.mono h.sz
 replace hUH:=Hid.mk hUH
 have b12:=h.ds.c12
 have hii:(c.i:Int)<f.toks.length:=by have:=h.il;omega
 have hll:=h.ll
 have hln:=h.ln
 have e1:((L.length+1:Nat):Int)-1=(L.length:Int):=by omega
 have e2:(L.length:Int)<((L.length+1:Nat):Int):=by omega
 have l1:=hT.load
 obtain⟨W1,s1,hA,hb1,hz1⟩:=ld_new w t pc cc
 have h1:=h.below hb1
 have a0:W1.cell? ⟨w.heap.size,0,none⟩=some (.int .i64 t.op):=hA.c0
 have hwl:w.heap.size<W1.heap.size:=by omega
 have cM:=refMay_any c f L x xt t ids vi t.op W1 h1
 have cPl:=fun W (hW:Below W1.heap.size W1 W)=>refPlain_any t pc cc W ((hU.below (hb1.trans (hW.mono hb1.size))).mono (Nat.le_trans hb1.size hW.size)) hO.cst
 have cSy:=fun W=>rSymbol t.name (by have:=hO.name;omega) W
 have cPr:=fun W (hW:Below W1.heap.size W1 W)=>refPaired_any c f t _ vi W (h1.below hW).d0
 have hR:Hid (∀ W,Below W1.heap.size W1 W->TkC W w.heap.size 0 t pc cc/\Dt W c f L x xt t ids vi/\Below w.heap.size w W):=⟨fun W hW=>⟨hA.below hwl hW,h1.below hW,hb1.trans (hW.mono hb1.size)⟩⟩
 have hLd:Hid (∀ W,Below W1.heap.size W1 W->(Instr.loadAt 40 (.pointer (some ⟨w.heap.size,0,none⟩))).run Tryz.prog W = .ok (tkV t pc cc) W):=⟨fun W hW=>(hA.below hwl hW).load⟩
 replace l1:=Hid.mk l1
 replace s1:=Hid.mk s1
 replace h:=Hid.mk h
 replace h1:=Hid.mk h1
 replace hb1:=Hid.mk hb1
 replace hz1:=Hid.mk hz1
 replace hO:=Hid.mk hO
 clear hT hC hA
 have hw1:IntKind.i64.wrap (x.stg+1)=x.stg+1:=by rw[IntKind.wrap_i64];omega
 rw[hm] at cM
 rw[hp] at cPl
 rw[hs] at cSy
 rw[hq] at cPr
 clear ho hm hp hs hq
 go_enter Tryz.func17,Tryz.ntmps17
 go_wp2_with (first
  | (guard_target =~ wpList _ _ _ (Oper.mk _ (Op.load 40 _) _ _ _ _::_) _ _;(first|refine wpList_ld 40 _ rfl rfl _ _ rfl l1.out ?_|refine wpList_ld 40 _ rfl rfl _ _ rfl (hLd.out _ ea) ?_);simp only[pts])
  | (guard_target =~ wpList _ _ _ (Oper.mk _ (Op.store 40 _ _) _ _ _ _::_) _ _;go_must (refine wpList_st 40 _ _ rfl rfl _ _ rfl rfl (s1.out _ rfl) ?_);simp only[pts])
  | (go_at_call 32;refine cM.mono ?_;rintro _ wa ⟨rfl,ea⟩)
  | (go_at_call 28;refine(cPl _ ea).mono ?_;rintro _ wb ⟨rfl,eb'⟩;have eb:Below W1.heap.size W1 wb:=ea.trans (eb'.mono ea.size);have t1:=(hR.out _ eb).1.c1;simp only[Nat.zero_add] at t1)
  | (go_at_call 30;refine(cSy _).mono ?_;rintro _ wc ⟨rfl,ec'⟩;have ec:Below W1.heap.size W1 wc:=eb.trans (ec'.mono eb.size))
  | (go_at_call 29;refine(cPr _ ec).mono ?_;rintro _ wd ⟨rfl,ed'⟩;have ed:Below W1.heap.size W1 wd:=ec.trans (ed'.mono ec.size);obtain⟨y1,y2,y3⟩:=hR.out _ ed;have t0:=y1.c0;have b13:=y2.ds.c13;replace y1:=Hid.mk y1;replace y2:=Hid.mk y2;replace y3:=Hid.mk y3))
 go_quiet (fail)
 have hD:Hid (Dt (wd.drewN nq) c f L x xt t ids vi):=⟨y2.out.below (tdr (Below.refl _ _))⟩
 have hTd:Hid (TkC (wd.drewN nq) w.heap.size 0 t pc cc):=⟨y1.out.same rfl⟩
 have hkd:Hid (Below w.heap.size w (wd.drewN nq)):=⟨tdr y3.out⟩
 have hlW:Hid (w.heap.size<(wd.drewN nq).heap.size):=⟨Nat.lt_of_lt_of_le hwl ed.size⟩
 have gne:c.go≠w.heap.size:=by have:=h.out.op.lt;omega
 replace cF:=Hid.mk cF
 go_wp2_with fail
 refine(cF.out _ hD.out).mono ?_
 rintro _ wf ⟨(_|_),rfl,hbR,hbF,kf,dF⟩
 ·have hb:=hbF rfl
  have hE:=hD.out.below hb
  have t0:=(hTd.out.below (B:=(wd.drewN nq).heap.size) hlW.out hb).c0
  have z1:=hE.sc.c1
  have zf:wf.frozen? ⟨c.go,L.length*5+1,none⟩=false:=hE.op.frz _
  have HR:Hid (¬ R):=⟨fun e=>by have:=hbR.2 e;cases this⟩
  have hKK:Hid (Kb [c.go] w wf):=⟨(Kb.of_below hkd.out).trans kf⟩
  clear hbR hbF dF kf
  replace hE:=Hid.mk hE
  replace hb:=Hid.mk hb
  go_wp2_with fail
  go_ret
  exact⟨false,rfl,by simp[HR.out],hKK.out.set (List.mem_singleton.2 rfl) _,fun e=>by cases e⟩
 ·have hE:=dF rfl
  have hlf:w.heap.size<wf.heap.size:=Nat.lt_of_lt_of_le hlW.out kf.size
  have hTf:=hTd.out.same (kf.block _ hlW.out (notin1 gne.symm))
  have HR:Hid R:=⟨hbR.1 rfl⟩
  have hKK:Hid (Kb [c.go] w wf):=⟨(Kb.of_below hkd.out).trans kf⟩
  have t0:=hTf.c0
  have z1:=hE.sc.c1
  rw[hx2] at z1
  have zf:wf.frozen? ⟨c.go,L.length*5+1,none⟩=false:=hE.op.frz _
  have hE2:Hid _:=⟨hE⟩
  clear hbR hbF dF kf hE hTf
  go_wp2_with fail
  go_ret
  exact⟨true,rfl,by simp[HR.out],hKK.out.set (List.mem_singleton.2 rfl) _,fun _=>hQ.out _ (hE2.out.wrote (j:=1) (by decide) rfl rfl)⟩
theorem refTakes_8 (c:Df) (f:Fm) (L:List Od) (x x2:Od) (xt t:Tk) (ids:List Int) (vi:Value) (w:World) (R:Prop) (Q:World->Prop) (h:Dt w c f L x xt t ids vi) (ho:t.op=8) (hm:mayD xt.op x.stg t.op=true) (hp:plainB t=true) (hs:symbolB t.name=true) (hq:(if bgO t.op then pairB f.toks c.i t else decide (t.pair=c.i))=true) (hst:0<=x.stg/\x.stg<=1000000000000) (hx2:x2.stg=x.stg)
  (cF:∀ W,Dt W c f L x xt t ids vi->Calls Tryz.prog 35 #[.pointer (some ⟨c.B,0,none⟩),.int .i64 (c.i:Int),.pointer (some ⟨c.go,L.length*5,none⟩)] W fun r w'=>Lfg r R c W w' (Dt w' c f L x2 xt t ids vi))
  (n:Nat) (cC:∀ W,Dt W c f L x2 xt t ids vi->Calls Tryz.prog 36 #[.pointer (some ⟨c.B,0,none⟩),.int .i64 8] W fun r w'=>r = .returned (.int .i64 (n:Int))/\Below W.heap.size W w')
  (hQ:Hid (∀ w',Dt w' c f L { x2 with stg:=x.stg+1 } xt t ids vi->Q w')) :
  Calls Tryz.prog 17 #[.pointer (some ⟨c.B,0,none⟩),.int .i64 (c.i:Int)] w fun r w'=>∃ b,r = .returned (.bool b)/\(b=true↔R/\n<16)/\Kb [c.go] w w'/\(b=true->Q w'):=by
 have o2:(t.op==2)=false:=by simp[ho]
 have o4:(t.op==4)=false:=by simp[ho]
 have o6:(t.op==6)=false:=by simp[ho]
 have o8:(t.op==8)=true:=by simp[ho]
 have o10:(t.op==10)=false:=by simp[ho]
 have o12:(t.op==12)=false:=by simp[ho]
 have o14:(t.op==14)=false:=by simp[ho]
 have o15:(t.op==15)=false:=by simp[ho]
 obtain⟨pc,cc,hT,hUH,hC,hO⟩:=h.tk
 have hU:=hUH.mono h.sz
 replace hUH:=Hid.mk hUH
 have b12:=h.ds.c12
 have hii:(c.i:Int)<f.toks.length:=by have:=h.il;omega
 have hll:=h.ll
 have hln:=h.ln
 have e1:((L.length+1:Nat):Int)-1=(L.length:Int):=by omega
 have e2:(L.length:Int)<((L.length+1:Nat):Int):=by omega
 have l1:=hT.load
 obtain⟨W1,s1,hA,hb1,hz1⟩:=ld_new w t pc cc
 have h1:=h.below hb1
 have a0:W1.cell? ⟨w.heap.size,0,none⟩=some (.int .i64 t.op):=hA.c0
 have hwl:w.heap.size<W1.heap.size:=by omega
 have cM:=refMay_any c f L x xt t ids vi t.op W1 h1
 have cPl:=fun W (hW:Below W1.heap.size W1 W)=>refPlain_any t pc cc W ((hU.below (hb1.trans (hW.mono hb1.size))).mono (Nat.le_trans hb1.size hW.size)) hO.cst
 have cSy:=fun W=>rSymbol t.name (by have:=hO.name;omega) W
 have cPr:=fun W (hW:Below W1.heap.size W1 W)=>refPaired_any c f t _ vi W (h1.below hW).d0
 have hR:Hid (∀ W,Below W1.heap.size W1 W->TkC W w.heap.size 0 t pc cc/\Dt W c f L x xt t ids vi/\Below w.heap.size w W):=⟨fun W hW=>⟨hA.below hwl hW,h1.below hW,hb1.trans (hW.mono hb1.size)⟩⟩
 have hLd:Hid (∀ W,Below W1.heap.size W1 W->(Instr.loadAt 40 (.pointer (some ⟨w.heap.size,0,none⟩))).run Tryz.prog W = .ok (tkV t pc cc) W):=⟨fun W hW=>(hA.below hwl hW).load⟩
 replace l1:=Hid.mk l1
 replace s1:=Hid.mk s1
 replace h:=Hid.mk h
 replace h1:=Hid.mk h1
 replace hb1:=Hid.mk hb1
 replace hz1:=Hid.mk hz1
 replace hO:=Hid.mk hO
 clear hT hC hA
 have hw1:IntKind.i64.wrap (x.stg+1)=x.stg+1:=by rw[IntKind.wrap_i64];omega
 rw[hm] at cM
 rw[hp] at cPl
 rw[hs] at cSy
 rw[hq] at cPr
 clear ho hm hp hs hq
 go_enter Tryz.func17,Tryz.ntmps17
 go_wp2_with (first
  | (guard_target =~ wpList _ _ _ (Oper.mk _ (Op.load 40 _) _ _ _ _::_) _ _;(first|refine wpList_ld 40 _ rfl rfl _ _ rfl l1.out ?_|refine wpList_ld 40 _ rfl rfl _ _ rfl (hLd.out _ ea) ?_);simp only[pts])
  | (guard_target =~ wpList _ _ _ (Oper.mk _ (Op.store 40 _ _) _ _ _ _::_) _ _;go_must (refine wpList_st 40 _ _ rfl rfl _ _ rfl rfl (s1.out _ rfl) ?_);simp only[pts])
  | (go_at_call 32;refine cM.mono ?_;rintro _ wa ⟨rfl,ea⟩)
  | (go_at_call 28;refine(cPl _ ea).mono ?_;rintro _ wb ⟨rfl,eb'⟩;have eb:Below W1.heap.size W1 wb:=ea.trans (eb'.mono ea.size);have t1:=(hR.out _ eb).1.c1;simp only[Nat.zero_add] at t1)
  | (go_at_call 30;refine(cSy _).mono ?_;rintro _ wc ⟨rfl,ec'⟩;have ec:Below W1.heap.size W1 wc:=eb.trans (ec'.mono eb.size))
  | (go_at_call 29;refine(cPr _ ec).mono ?_;rintro _ wd ⟨rfl,ed'⟩;have ed:Below W1.heap.size W1 wd:=ec.trans (ed'.mono ec.size);obtain⟨y1,y2,y3⟩:=hR.out _ ed;have t0:=y1.c0;have b13:=y2.ds.c13;replace y1:=Hid.mk y1;replace y2:=Hid.mk y2;replace y3:=Hid.mk y3))
 go_quiet (fail)
 have hD:Hid (Dt (wd.drewN nq) c f L x xt t ids vi):=⟨y2.out.below (tdr (Below.refl _ _))⟩
 have hTd:Hid (TkC (wd.drewN nq) w.heap.size 0 t pc cc):=⟨y1.out.same rfl⟩
 have hkd:Hid (Below w.heap.size w (wd.drewN nq)):=⟨tdr y3.out⟩
 have hlW:Hid (w.heap.size<(wd.drewN nq).heap.size):=⟨Nat.lt_of_lt_of_le hwl ed.size⟩
 have gne:c.go≠w.heap.size:=by have:=h.out.op.lt;omega
 replace cF:=Hid.mk cF
 replace cC:=Hid.mk cC
 go_wp2_with fail
 refine(cF.out _ hD.out).mono ?_
 rintro _ wf ⟨(_|_),rfl,hbR,hbF,kf,dF⟩
 ·have hb:=hbF rfl
  have hE:=hD.out.below hb
  have t0:=(hTd.out.below (B:=(wd.drewN nq).heap.size) hlW.out hb).c0
  have z1:=hE.sc.c1
  have zf:wf.frozen? ⟨c.go,L.length*5+1,none⟩=false:=hE.op.frz _
  have HR:Hid (¬ R):=⟨fun e=>by have:=hbR.2 e;cases this⟩
  have hKK:Hid (Kb [c.go] w wf):=⟨(Kb.of_below hkd.out).trans kf⟩
  clear hbR hbF dF kf
  replace hE:=Hid.mk hE
  replace hb:=Hid.mk hb
  go_wp2_with fail
  go_ret
  exact⟨false,rfl,by simp[HR.out],hKK.out.set (List.mem_singleton.2 rfl) _,fun e=>by cases e⟩
 ·have hE:=dF rfl
  have hlf:w.heap.size<wf.heap.size:=Nat.lt_of_lt_of_le hlW.out kf.size
  have hTf:=hTd.out.same (kf.block _ hlW.out (notin1 gne.symm))
  have HR:Hid R:=⟨hbR.1 rfl⟩
  have hKK:Hid (Kb [c.go] w wf):=⟨(Kb.of_below hkd.out).trans kf⟩
  clear hbR hbF dF kf
  go_wp2_with fail
  refine(cC.out _ hE).mono ?_
  rintro _ wg ⟨rfl,eg⟩
  have hE3:=hE.below eg
  have t0:=(hTf.below (B:=wf.heap.size) hlf eg).c0
  have z1:=hE3.sc.c1
  rw[hx2] at z1
  have zf:wg.frozen? ⟨c.go,L.length*5+1,none⟩=false:=hE3.op.frz _
  have hE2:Hid _:=⟨hE3⟩
  clear hE3 hTf hE
  by_cases hn:n<16
  ·have dn:decide ((n:Int)<16)=true:=by simp;omega
   have dn2:decide (n<16)=true:=by simp;omega
   have HS:Hid (n<16):=⟨hn⟩
   clear hn
   go_wp2_with fail
   go_ret
   exact⟨true,rfl,by simp[HR.out,HS.out],(hKK.out.trans (Kb.of_below eg)).set (List.mem_singleton.2 rfl) _,fun _=>hQ.out _ (hE2.out.wrote (j:=1) (by decide) rfl rfl)⟩
  ·have dn:decide ((n:Int)<16)=false:=by simp;omega
   have dn2:decide (n<16)=false:=by simp;omega
   have HS:Hid (¬ n<16):=⟨hn⟩
   clear hn
   go_wp2_with fail
   go_ret
   exact⟨false,rfl,by simp[HS.out],(hKK.out.trans (Kb.of_below eg)).set (List.mem_singleton.2 rfl) _,fun e=>by cases e⟩
theorem refTakes_14 (c:Df) (f:Fm) (L:List Od) (x x2:Od) (xt t:Tk) (ids:List Int) (vi:Value) (w:World) (R:Prop) (Q:World->Prop) (h:Dt w c f L x xt t ids vi) (ho:t.op=14) (hm:mayD xt.op x.stg t.op=true) (hp:plainB t=true) (hs:symbolB t.name=true) (hq:(if bgO t.op then pairB f.toks c.i t else decide (t.pair=c.i))=true) (hst:0<=x.stg/\x.stg<=1000000000000) (hx2:x2.stg=x.stg)
  (cF:∀ W,Dt W c f L x xt t ids vi->Calls Tryz.prog 35 #[.pointer (some ⟨c.B,0,none⟩),.int .i64 (c.i:Int),.pointer (some ⟨c.go,L.length*5,none⟩)] W fun r w'=>Lfg r R c W w' (Dt w' c f L x2 xt t ids vi))
  (hQ:Hid (∀ w',Dt w' c f L { x2 with stg:=x.stg+1 } xt t ids vi->Q w')) :
  Calls Tryz.prog 17 #[.pointer (some ⟨c.B,0,none⟩),.int .i64 (c.i:Int)] w fun r w'=>∃ b,r = .returned (.bool b)/\(b=true↔R/\encR t=true)/\Kb [c.go] w w'/\(b=true->Q w'):=by
 have o2:(t.op==2)=false:=by simp[ho]
 have o4:(t.op==4)=false:=by simp[ho]
 have o6:(t.op==6)=false:=by simp[ho]
 have o8:(t.op==8)=false:=by simp[ho]
 have o10:(t.op==10)=false:=by simp[ho]
 have o12:(t.op==12)=false:=by simp[ho]
 have o14:(t.op==14)=true:=by simp[ho]
 have o15:(t.op==15)=false:=by simp[ho]
 obtain⟨pc,cc,hT,hUH,hC,hO⟩:=h.tk
 have hU:=hUH.mono h.sz
 replace hUH:=Hid.mk hUH
 have b12:=h.ds.c12
 have hii:(c.i:Int)<f.toks.length:=by have:=h.il;omega
 have hll:=h.ll
 have hln:=h.ln
 have e1:((L.length+1:Nat):Int)-1=(L.length:Int):=by omega
 have e2:(L.length:Int)<((L.length+1:Nat):Int):=by omega
 have l1:=hT.load
 obtain⟨W1,s1,hA,hb1,hz1⟩:=ld_new w t pc cc
 have h1:=h.below hb1
 have a0:W1.cell? ⟨w.heap.size,0,none⟩=some (.int .i64 t.op):=hA.c0
 have hwl:w.heap.size<W1.heap.size:=by omega
 have cM:=refMay_any c f L x xt t ids vi t.op W1 h1
 have cPl:=fun W (hW:Below W1.heap.size W1 W)=>refPlain_any t pc cc W ((hU.below (hb1.trans (hW.mono hb1.size))).mono (Nat.le_trans hb1.size hW.size)) hO.cst
 have cSy:=fun W=>rSymbol t.name (by have:=hO.name;omega) W
 have cPr:=fun W (hW:Below W1.heap.size W1 W)=>refPaired_any c f t _ vi W (h1.below hW).d0
 have hR:Hid (∀ W,Below W1.heap.size W1 W->TkC W w.heap.size 0 t pc cc/\Dt W c f L x xt t ids vi/\Below w.heap.size w W):=⟨fun W hW=>⟨hA.below hwl hW,h1.below hW,hb1.trans (hW.mono hb1.size)⟩⟩
 have hLd:Hid (∀ W,Below W1.heap.size W1 W->(Instr.loadAt 40 (.pointer (some ⟨w.heap.size,0,none⟩))).run Tryz.prog W = .ok (tkV t pc cc) W):=⟨fun W hW=>(hA.below hwl hW).load⟩
 replace l1:=Hid.mk l1
 replace s1:=Hid.mk s1
 replace h:=Hid.mk h
 replace h1:=Hid.mk h1
 replace hb1:=Hid.mk hb1
 replace hz1:=Hid.mk hz1
 replace hO:=Hid.mk hO
 clear hT hC hA
 have cEn:=fun W (hh:URow W pc W.heap.size t.cst)=>refEncoded_any t pc cc W hh hO.out
 generalize hSd:(encR t=true)=S
 have hS:Hid (S↔encR t=true):=⟨by rw[hSd]⟩
 clear hSd
 generalize encR t=q9 at *
 have hw1:IntKind.i64.wrap (x.stg+1)=x.stg+1:=by rw[IntKind.wrap_i64];omega
 rw[hm] at cM
 rw[hp] at cPl
 rw[hs] at cSy
 rw[hq] at cPr
 clear ho hm hp hs hq
 go_enter Tryz.func17,Tryz.ntmps17
 go_wp2_with (first
  | (guard_target =~ wpList _ _ _ (Oper.mk _ (Op.load 40 _) _ _ _ _::_) _ _;(first|refine wpList_ld 40 _ rfl rfl _ _ rfl l1.out ?_|refine wpList_ld 40 _ rfl rfl _ _ rfl (hLd.out _ ea) ?_);simp only[pts])
  | (guard_target =~ wpList _ _ _ (Oper.mk _ (Op.store 40 _ _) _ _ _ _::_) _ _;go_must (refine wpList_st 40 _ _ rfl rfl _ _ rfl rfl (s1.out _ rfl) ?_);simp only[pts])
  | (go_at_call 32;refine cM.mono ?_;rintro _ wa ⟨rfl,ea⟩)
  | (go_at_call 28;refine(cPl _ ea).mono ?_;rintro _ wb ⟨rfl,eb'⟩;have eb:Below W1.heap.size W1 wb:=ea.trans (eb'.mono ea.size);have t1:=(hR.out _ eb).1.c1;simp only[Nat.zero_add] at t1)
  | (go_at_call 30;refine(cSy _).mono ?_;rintro _ wc ⟨rfl,ec'⟩;have ec:Below W1.heap.size W1 wc:=eb.trans (ec'.mono eb.size))
  | (go_at_call 29;refine(cPr _ ec).mono ?_;rintro _ wd ⟨rfl,ed'⟩;have ed:Below W1.heap.size W1 wd:=ec.trans (ed'.mono ec.size);obtain⟨y1,y2,y3⟩:=hR.out _ ed;have t0:=y1.c0;have b13:=y2.ds.c13;replace y1:=Hid.mk y1;replace y2:=Hid.mk y2;replace y3:=Hid.mk y3))
 go_quiet (fail)
 have hD:Hid (Dt (wd.drewN nq) c f L x xt t ids vi):=⟨y2.out.below (tdr (Below.refl _ _))⟩
 have hTd:Hid (TkC (wd.drewN nq) w.heap.size 0 t pc cc):=⟨y1.out.same rfl⟩
 have hkd:Hid (Below w.heap.size w (wd.drewN nq)):=⟨tdr y3.out⟩
 have hlW:Hid (w.heap.size<(wd.drewN nq).heap.size):=⟨Nat.lt_of_lt_of_le hwl ed.size⟩
 have gne:c.go≠w.heap.size:=by have:=h.out.op.lt;omega
 replace cF:=Hid.mk cF
 go_wp2_with fail
 refine(cF.out _ hD.out).mono ?_
 rintro _ wf ⟨(_|_),rfl,hbR,hbF,kf,dF⟩
 ·have hb:=hbF rfl
  have hE:=hD.out.below hb
  have t0:=(hTd.out.below (B:=(wd.drewN nq).heap.size) hlW.out hb).c0
  have z1:=hE.sc.c1
  have zf:wf.frozen? ⟨c.go,L.length*5+1,none⟩=false:=hE.op.frz _
  have HR:Hid (¬ R):=⟨fun e=>by have:=hbR.2 e;cases this⟩
  have hKK:Hid (Kb [c.go] w wf):=⟨(Kb.of_below hkd.out).trans kf⟩
  clear hbR hbF dF kf
  replace hE:=Hid.mk hE
  replace hb:=Hid.mk hb
  go_wp2_with fail
  go_ret
  exact⟨false,rfl,by simp[HR.out],hKK.out.set (List.mem_singleton.2 rfl) _,fun e=>by cases e⟩
 ·have hE:=dF rfl
  have hlf:w.heap.size<wf.heap.size:=Nat.lt_of_lt_of_le hlW.out kf.size
  have hTf:=hTd.out.same (kf.block _ hlW.out (notin1 gne.symm))
  have HR:Hid R:=⟨hbR.1 rfl⟩
  have hKK:Hid (Kb [c.go] w wf):=⟨(Kb.of_below hkd.out).trans kf⟩
  have hU2:URow wf pc wf.heap.size t.cst:=(hUH.out.below (hKK.out.below h.out.sz (fun k hk=>by rw[List.mem_singleton.1 hk];exact h.out.ap.go))).mono (Nat.le_trans h.out.sz hKK.out.size)
  have cE2:=cEn wf hU2
  have lt2:=hTf.load
  replace lt2:=Hid.mk lt2
  clear hbR hbF dF kf
  have hTg:Hid (∀ wg,Below wf.heap.size wf wg->TkC wg w.heap.size 0 t pc cc/\Dt wg c f L x2 xt t ids vi):=⟨fun wg hg=>⟨hTf.below (B:=wf.heap.size) hlf hg,hE.below hg⟩⟩
  clear hTf hE
  go_wp2_with (first
   | (guard_target =~ wpList _ _ _ (Oper.mk _ (Op.load 40 _) _ _ _ _::_) _ _;go_must (refine wpList_ld 40 _ rfl rfl _ _ rfl lt2.out ?_);simp only[pts]))
  refine cE2.mono ?_
  rintro _ wg ⟨rfl,eg⟩
  obtain⟨g1,hE3⟩:=hTg.out _ eg
  have t0:=g1.c0
  have z1:=hE3.sc.c1
  rw[hx2] at z1
  have zf:wg.frozen? ⟨c.go,L.length*5+1,none⟩=false:=hE3.op.frz _
  have hE2:Hid _:=⟨hE3⟩
  clear hE3 g1
  cases q9 with
  | true =>
   have HS:Hid S:=⟨hS.out.2 rfl⟩
   clear hS
   go_wp2_with fail
   go_ret
   exact⟨true,rfl,by simp[HR.out,HS.out],(hKK.out.trans (Kb.of_below eg)).set (List.mem_singleton.2 rfl) _,fun _=>hQ.out _ (hE2.out.wrote (j:=1) (by decide) rfl rfl)⟩
  | false =>
   have HS:Hid (¬ S):=⟨fun e=>by have:=hS.out.1 e;cases this⟩
   clear hS
   go_wp2_with fail
   go_ret
   exact⟨false,rfl,by simp[HS.out],(hKK.out.trans (Kb.of_below eg)).set (List.mem_singleton.2 rfl) _,fun e=>by cases e⟩
theorem refTakes_15 (c:Df) (f:Fm) (L:List Od) (x:Od) (xt t:Tk) (ids:List Int) (vi:Value) (w:World) (R:Prop) (h:Dt w c f L x xt t ids vi) (ho:t.op=15) (hm:mayD xt.op x.stg t.op=true) (hp:plainB t=true) (hs:symbolB t.name=true) (hq:(if bgO t.op then pairB f.toks c.i t else decide (t.pair=c.i))=true)
  (cF:∀ W,Dt W c f L x xt t ids vi->Calls Tryz.prog 38 #[.pointer (some ⟨c.B,0,none⟩),.int .i64 (c.i:Int),.pointer (some ⟨c.go,L.length*5,none⟩)] W fun r w'=>Ans r R/\Below W.heap.size W w') :
  Calls Tryz.prog 17 #[.pointer (some ⟨c.B,0,none⟩),.int .i64 (c.i:Int)] w fun r w'=>Ans r R/\Below w.heap.size w w':=by
 have o2:(t.op==2)=false:=by simp[ho]
 have o4:(t.op==4)=false:=by simp[ho]
 have o6:(t.op==6)=false:=by simp[ho]
 have o8:(t.op==8)=false:=by simp[ho]
 have o10:(t.op==10)=false:=by simp[ho]
 have o12:(t.op==12)=false:=by simp[ho]
 have o14:(t.op==14)=false:=by simp[ho]
 have o15:(t.op==15)=true:=by simp[ho]
 obtain⟨pc,cc,hT,hU,hC,hO⟩:=h.d0.tk
 have b12:=h.ds.c12
 have hii:(c.i:Int)<f.toks.length:=by have:=h.il;omega
 have hll:=h.ll
 have hln:=h.ln
 have e1:((L.length+1:Nat):Int)-1=(L.length:Int):=by omega
 have e2:(L.length:Int)<((L.length+1:Nat):Int):=by omega
 have l1:=hT.load
 obtain⟨W1,s1,hA,hb1,hz1⟩:=ld_new w t pc cc
 have h1:=h.below hb1
 have a0:W1.cell? ⟨w.heap.size,0,none⟩=some (.int .i64 t.op):=hA.c0
 have hwl:w.heap.size<W1.heap.size:=by omega
 have cM:=refMay_any c f L x xt t ids vi t.op W1 h1
 have cPl:=fun W (hW:Below W1.heap.size W1 W)=>refPlain_any t pc cc W ((hU.below (hb1.trans (hW.mono hb1.size))).mono (Nat.le_trans hb1.size hW.size)) hO.cst
 have cSy:=fun W=>rSymbol t.name (by have:=hO.name;omega) W
 have cPr:=fun W (hW:Below W1.heap.size W1 W)=>refPaired_any c f t _ vi W (h1.below hW).d0
 have hR:Hid (∀ W,Below W1.heap.size W1 W->TkC W w.heap.size 0 t pc cc/\Dt W c f L x xt t ids vi/\Below w.heap.size w W):=⟨fun W hW=>⟨hA.below hwl hW,h1.below hW,hb1.trans (hW.mono hb1.size)⟩⟩
 have hLd:Hid (∀ W,Below W1.heap.size W1 W->(Instr.loadAt 40 (.pointer (some ⟨w.heap.size,0,none⟩))).run Tryz.prog W = .ok (tkV t pc cc) W):=⟨fun W hW=>(hA.below hwl hW).load⟩
 replace l1:=Hid.mk l1
 replace s1:=Hid.mk s1
 replace h:=Hid.mk h
 replace h1:=Hid.mk h1
 replace hb1:=Hid.mk hb1
 replace hz1:=Hid.mk hz1
 replace hO:=Hid.mk hO
 clear hT hC hA
 rw[hm] at cM
 rw[hp] at cPl
 rw[hs] at cSy
 rw[hq] at cPr
 clear ho hm hp hs hq
 go_enter Tryz.func17,Tryz.ntmps17
 go_wp2_with (first
  | (guard_target =~ wpList _ _ _ (Oper.mk _ (Op.load 40 _) _ _ _ _::_) _ _;(first|refine wpList_ld 40 _ rfl rfl _ _ rfl l1.out ?_|refine wpList_ld 40 _ rfl rfl _ _ rfl (hLd.out _ ea) ?_);simp only[pts])
  | (guard_target =~ wpList _ _ _ (Oper.mk _ (Op.store 40 _ _) _ _ _ _::_) _ _;go_must (refine wpList_st 40 _ _ rfl rfl _ _ rfl rfl (s1.out _ rfl) ?_);simp only[pts])
  | (go_at_call 32;refine cM.mono ?_;rintro _ wa ⟨rfl,ea⟩)
  | (go_at_call 28;refine(cPl _ ea).mono ?_;rintro _ wb ⟨rfl,eb'⟩;have eb:Below W1.heap.size W1 wb:=ea.trans (eb'.mono ea.size);have t1:=(hR.out _ eb).1.c1;simp only[Nat.zero_add] at t1)
  | (go_at_call 30;refine(cSy _).mono ?_;rintro _ wc ⟨rfl,ec'⟩;have ec:Below W1.heap.size W1 wc:=eb.trans (ec'.mono eb.size))
  | (go_at_call 29;refine(cPr _ ec).mono ?_;rintro _ wd ⟨rfl,ed'⟩;have ed:Below W1.heap.size W1 wd:=ec.trans (ed'.mono ec.size);obtain⟨y1,y2,y3⟩:=hR.out _ ed;have t0:=y1.c0;have b13:=y2.ds.c13;replace y1:=Hid.mk y1;replace y2:=Hid.mk y2;replace y3:=Hid.mk y3))
 go_quiet (fail)
 have hD:Hid (Dt (wd.drewN nq) c f L x xt t ids vi):=⟨y2.out.below (tdr (Below.refl _ _))⟩
 have hTd:Hid (TkC (wd.drewN nq) w.heap.size 0 t pc cc):=⟨y1.out.same rfl⟩
 have hkd:Hid (Below w.heap.size w (wd.drewN nq)):=⟨tdr y3.out⟩
 have hlW:Hid (w.heap.size<(wd.drewN nq).heap.size):=⟨Nat.lt_of_lt_of_le hwl ed.size⟩
 replace cF:=Hid.mk cF
 go_wp2_with fail
 refine(cF.out _ hD.out).mono ?_
 rintro _ wf ⟨⟨b,rfl,hbR⟩,eb2⟩
 have t0:=(hTd.out.below (B:=(wd.drewN nq).heap.size) hlW.out eb2).c0
 replace hbR:=Hid.mk hbR
 go_wp2_with fail
 go_ret
 exact⟨⟨b,rfl,hbR.out⟩,hkd.out.trans (eb2.mono hkd.out.size)⟩
end Go.Proofs.YtcgimchhcaankaaGreatDoor
