import Derived.Test.YtjnafpefolgcoaaGreatDoorK34
import Derived.Test.YtjnafpefolgcoaaGreatDoorK35
namespace Go.Proofs.YtjnafpefolgcoaaGreatDoor
set_option maxRecDepth 1000000
set_option maxHeartbeats 16000000
open Go.ChangeShapes Go.WideShapes Go.ChangeAt Go.RowKit Go.Shelf Go.Maps
theorem refTakes_p (K:Int) (F:FuncId) (c:Df) (f:Fm) (L:List Od) (x x1 x2:Od) (xt t:Tk) (ids:List Int) (vi:Value) (w:World) (N R:Prop) (Q:World->Prop) (h:Dt w c f L x xt t ids vi) (ho:t.op=K) (hK:(K=2/\F=33/\x=x1)\/(K=4/\F=34/\{ x with stg:=1 }=x1)\/(K=6/\F=34/\{ x with stg:=2 }=x1)) (hm:mayD xt.op x.stg t.op=true) (hp:plainB t=true) (hs:symbolB t.name=true) (hq:(if bgO t.op then pairB f.toks c.i t else decide (t.pair=c.i))=true) (hidl:ids.length+1<=977343669134)
  (cN:∀ W,Dt W c f L x1 xt t ids vi->Calls Tryz.prog 31 #[.pointer (some ⟨c.B,0,none⟩),.int .i64 (c.i:Int)] W fun r w'=>Ans r N/\Below W.heap.size W w')
  (cF:∀ W,Dt W c f L x1 xt t ids vi->Calls Tryz.prog F #[.pointer (some ⟨c.B,0,none⟩),.int .i64 (c.i:Int),.pointer (some ⟨c.go,L.length*5,none⟩)] W fun r w'=>Lfd r R c W w' (Dt w' c f L x2 xt t ids vi))
  (hQ:Hid (∀ w' vi',Dt w' c f L x2 xt t (ids++[t.id]) vi'->Q w')) :
  Calls Tryz.prog 16 #[.pointer (some ⟨c.B,0,none⟩),.int .i64 (c.i:Int)] w fun r w'=>∃ b,r = .returned (.bool b)/\(b=true↔N/\R)/\Kb (c.go::c.B::vi.ownBlock.toList) w w'/\(b=true->Q w'):=by
 have o2:(t.op==2)=(K==2):=by rw[ho]
 have o4:(t.op==4)=(K==4):=by rw[ho]
 have o6:(t.op==6)=(K==6):=by rw[ho]
 obtain⟨pc,cc,hT,hU,hC,hO⟩:=h.d0.tk
 have b12:=h.ds.c12
 have hii:(c.i:Int)<f.toks.length:=by have:=h.il;omega
 have hll:=h.ll
 have hln:=h.ln
 have e1:((L.length+1:Nat):Int)-1=(L.length:Int):=by omega
 have e2:(L.length:Int)<((L.length+1:Nat):Int):=by omega
 have l1:=hT.load
 obtain⟨W1,s1,hA,hb1,hz1⟩:=ld_new w t pc cc
 have h1:=h.below hb1
 have a0:W1.cell? ⟨w.heap.size,0,none⟩=some (.int .i64 t.op):=hA.c0
 have hwl:w.heap.size<W1.heap.size:=by omega
 have cM:=refMay_any c f L x xt t ids vi t.op W1 h1
 have cPl:=fun W (hW:Below W1.heap.size W1 W)=>refPlain_any t pc cc W ((hU.below (hb1.trans (hW.mono hb1.size))).mono (Nat.le_trans hb1.size hW.size)) hO.cst
 have cSy:=fun W=>rSymbol t.name (by have:=hO.name;omega) W
 have cPr:=fun W (hW:Below W1.heap.size W1 W)=>refPaired_any c f t _ vi W (h1.below hW).d0
 have hR:Hid (∀ W,Below W1.heap.size W1 W->TkC W w.heap.size 0 t pc cc/\Dt W c f L x xt t ids vi/\Below w.heap.size w W):=⟨fun W hW=>⟨hA.below hwl hW,h1.below hW,hb1.trans (hW.mono hb1.size)⟩⟩
 have hLd:Hid (∀ W,Below W1.heap.size W1 W->(Instr.loadAt 53 (.pointer (some ⟨w.heap.size,0,none⟩))).run Tryz.prog W = .ok (tkV t pc cc) W):=⟨fun W hW=>(hA.below hwl hW).load⟩
 replace l1:=Hid.mk l1
 replace s1:=Hid.mk s1
 replace h:=Hid.mk h
 replace h1:=Hid.mk h1
 replace hb1:=Hid.mk hb1
 replace hz1:=Hid.mk hz1
 replace hO:=Hid.mk hO
 clear hT hC hA
 rw[hm] at cM
 rw[hp] at cPl
 rw[hs] at cSy
 rw[hq] at cPr
 clear ho hm hp hs hq
 replace cN:=Hid.mk cN
 replace cF:=Hid.mk cF
 have gne:Hid (c.go≠w.heap.size):=⟨by have:=h.out.op.lt;omega⟩
 have ZZ:Hid (∀ (wd:World) (nq:Nat) (V:World),TkC wd w.heap.size 0 t pc cc->Dt wd c f L x xt t ids vi->Below w.heap.size w wd->Below W1.heap.size W1 wd->((wd.drewN nq=V/\x=x1)\/∃ q:Int,(wd.drewN nq).setCell ⟨c.go,L.length*5+1,none⟩ (.int .i64 q)=V/\{ x with stg:=q }=x1)->Dt V c f L x1 xt t ids vi/\TkC V w.heap.size 0 t pc cc/\Kb (c.go::c.B::vi.ownBlock.toList) w V/\w.heap.size<V.heap.size):=⟨fun wd nq V y1 y2 y3 ed hV=>by
  rcases hV with ⟨rfl,rfl⟩|⟨q,rfl,rfl⟩
  ·exact⟨y2.below (tdr (Below.refl _ _)),y1.same rfl,Kb.of_below (tdr y3),Nat.lt_of_lt_of_le hwl ed.size⟩
  ·exact⟨(y2.below (tdr (Below.refl _ _))).wrote (j:=1) (by decide) rfl rfl,(y1.same (w':=wd.drewN nq) rfl).same (set_oth gne.out),kb_go ((Kb.drewM (Kb.of_below y3) nq).set (List.mem_singleton.2 rfl) _),Nat.lt_of_lt_of_le (Nat.lt_of_lt_of_le hwl ed.size) ((Kb.refl [c.go] (wd.drewN nq)).set (List.mem_singleton.2 rfl) _).size⟩⟩
 rcases hK with ⟨rfl,rfl,rfl⟩|⟨rfl,rfl,rfl⟩|⟨rfl,rfl,rfl⟩
 all_goals
  simp only[Int.reduceBEq] at o2 o4 o6
  go_enter Tryz.func16,Tryz.ntmps16
  go_wp2_with (first
   | (guard_target =~ wpList _ _ _ (Oper.mk _ (Op.load 53 _) _ _ _ _::_) _ _;(first|refine wpList_ld 53 _ rfl rfl _ _ rfl l1.out ?_|refine wpList_ld 53 _ rfl rfl _ _ rfl (hLd.out _ ea) ?_);simp only[pts])
   | (guard_target =~ wpList _ _ _ (Oper.mk _ (Op.store 53 _ _) _ _ _ _::_) _ _;go_must (refine wpList_st 53 _ _ rfl rfl _ _ rfl rfl (s1.out _ rfl) ?_);simp only[pts])
   | (go_at_call 32;refine cM.mono ?_;rintro _ wa ⟨rfl,ea⟩)
   | (go_at_call 28;refine(cPl _ ea).mono ?_;rintro _ wb ⟨rfl,eb'⟩;have eb:Below W1.heap.size W1 wb:=ea.trans (eb'.mono ea.size);have t1:=(hR.out _ eb).1.c1;simp only[Nat.zero_add] at t1)
   | (go_at_call 30;refine(cSy _).mono ?_;rintro _ wc ⟨rfl,ec'⟩;have ec:Below W1.heap.size W1 wc:=eb.trans (ec'.mono eb.size))
   | (go_at_call 29;refine(cPr _ ec).mono ?_;rintro _ wd ⟨rfl,ed'⟩;have ed:Below W1.heap.size W1 wd:=ec.trans (ed'.mono ec.size);obtain⟨y1,y2,y3⟩:=hR.out _ ed;have t0:=y1.c0;have b13:=y2.ds.c13;replace y1:=Hid.mk y1;replace y2:=Hid.mk y2;replace y3:=Hid.mk y3))
  go_quiet (fail)
  have zx:=y2.out.sc.c1
  have zf:wd.frozen? ⟨c.go,L.length*5+1,none⟩=false:=y2.out.op.frz _
  first
   | have Z:=ZZ.out wd nq (wd.drewN nq) y1.out y2.out y3.out ed (Or.inl ⟨rfl,True.intro⟩)
   | have Z:=ZZ.out wd nq _ y1.out y2.out y3.out ed (.inr ⟨_,rfl,rfl⟩)
  have hD:Hid _:=⟨Z.1⟩
  have hTd:Hid _:=⟨Z.2.1⟩
  have hk0:Hid _:=⟨Z.2.2.1⟩
  have hlW:Hid _:=⟨Z.2.2.2⟩
  clear Z
  go_wp2_with fail
  refine(cN.out _ hD.out).mono ?_
  rintro _ we ⟨⟨(_|_),rfl,hbN⟩,ee⟩
  ·have hI:=(hD.out.below ee).di
   have hTe:=hTd.out.below hlW.out ee
   have hlX:w.heap.size<we.heap.size:=Nat.lt_of_lt_of_le hlW.out ee.size
   have HN:Hid (¬ N):=⟨fun e=>by have:=hbN.2 e;cases this⟩
   clear hbN
   have t0:=hTe.c0
   have t2:=hTe.c2
   have b14:=hI.ds.c14
   simp only[Nat.zero_add] at t2
   have fz:=hI.ds.frz 14
   have hBn:c.B≠we.heap.size:=by have:=hI.ds.lt;omega
   have b14':∀ o,(we.alloc o).cell? ⟨c.B,14,none⟩=some vi:=fun o=>((bel1 _ _).cell (p:=⟨c.B,14,none⟩) hI.ds.lt).trans b14
   have t2':∀ o,(we.alloc o).cell? ⟨w.heap.size,2,none⟩=some (.int .i64 t.id):=fun o=>((bel1 _ _).cell (p:=⟨w.heap.size,2,none⟩) hlX).trans t2
   clear hTe
   replace hI:=Hid.mk hI
   go_wp2_with fail
   go_region_law ((refine step_append_ex rfl _ _ _ _ (by rfl) vi (.slice (some ⟨we.heap.size,0,none⟩) 1 1) (by rfl) (by rfl) _ (i_ap (bl:=[t.id]) 1 (own_alloc2 hI.out.ir (by first|exact bel1 _ _|exact drw (bel1 _ _))) (lit1 (heap_al _ _)) hidl (by first|(rw[World.size_alloc];have:=hI.out.sz;omega)|(show c.H<=(we.alloc _).heap.size;rw[World.size_alloc];have:=hI.out.sz;omega))) ?_;rintro v' w' ⟨q1,q2,q3⟩;rw[show (ids++[t.id]).length=ids.length+1 by simp] at q1;obtain⟨gi,ci,rfl⟩:=own_slice q1 (by omega);have hk2:w'.heap[c.B]?=we.heap[c.B]?:=(q2.block c.B (Nat.lt_of_lt_of_le hI.out.ds.lt (al_le _ _)) (fun e=>hI.out.ap.iB e.symm)).trans ((bel1 _ _).block c.B hI.out.ds.lt);have c4:=hI.out.ds.same hk2;have y14:w'.cell? ⟨c.B,14,none⟩=some vi:=c4.c14;have yf:=c4.frz 14;replace c4:=Hid.mk c4))
   all_goals
    go_wp2_with fail
    go_ret
    refine⟨false,rfl,by simp[HN.out],?_,fun e=>by cases e⟩
    exact(hk0.out.trans (Kb.of_below ee)).trans (kb_tl (ids_kb (by first|exact bel1 _ _|exact drw (bel1 _ _)) q2))
  ·have hE:=hD.out.below ee
   have HN:Hid N:=⟨hbN.1 rfl⟩
   clear hbN
   go_wp2_with fail
   refine(cF.out _ hE).mono ?_
   rintro _ wf ⟨b,rfl,hbR,kf,dF⟩
   have hI:=hE.di.kept kf
   have hgt:w.heap.size∉[c.go]:=notin1 (by have:=h.out.op.lt;omega)
   have hle:w.heap.size<we.heap.size:=Nat.lt_of_lt_of_le hlW.out ee.size
   have hTe:=(hTd.out.below hlW.out ee).same (kf.block _ hle hgt)
   have hlX:w.heap.size<wf.heap.size:=Nat.lt_of_lt_of_le hle kf.size
   replace hbR:=Hid.mk hbR
   replace dF:=Hid.mk dF
   replace kf:=Hid.mk kf
   have t0:=hTe.c0
   have t2:=hTe.c2
   have b14:=hI.ds.c14
   simp only[Nat.zero_add] at t2
   have fz:=hI.ds.frz 14
   have hBn:c.B≠wf.heap.size:=by have:=hI.ds.lt;omega
   have b14':∀ o,(wf.alloc o).cell? ⟨c.B,14,none⟩=some vi:=fun o=>((bel1 _ _).cell (p:=⟨c.B,14,none⟩) hI.ds.lt).trans b14
   have t2':∀ o,(wf.alloc o).cell? ⟨w.heap.size,2,none⟩=some (.int .i64 t.id):=fun o=>((bel1 _ _).cell (p:=⟨w.heap.size,2,none⟩) hlX).trans t2
   clear hTe
   replace hI:=Hid.mk hI
   go_wp2_with fail
   go_region_law ((refine step_append_ex rfl _ _ _ _ (by rfl) vi (.slice (some ⟨wf.heap.size,0,none⟩) 1 1) (by rfl) (by rfl) _ (i_ap (bl:=[t.id]) 1 (own_alloc2 hI.out.ir (by first|exact bel1 _ _|exact drw (bel1 _ _))) (lit1 (heap_al _ _)) hidl (by first|(rw[World.size_alloc];have:=hI.out.sz;omega)|(show c.H<=(wf.alloc _).heap.size;rw[World.size_alloc];have:=hI.out.sz;omega))) ?_;rintro v' w' ⟨q1,q2,q3⟩;rw[show (ids++[t.id]).length=ids.length+1 by simp] at q1;obtain⟨gi,ci,rfl⟩:=own_slice q1 (by omega);have hk2:w'.heap[c.B]?=wf.heap[c.B]?:=(q2.block c.B (Nat.lt_of_lt_of_le hI.out.ds.lt (al_le _ _)) (fun e=>hI.out.ap.iB e.symm)).trans ((bel1 _ _).block c.B hI.out.ds.lt);have c4:=hI.out.ds.same hk2;have y14:w'.cell? ⟨c.B,14,none⟩=some vi:=c4.c14;have yf:=c4.frz 14;replace c4:=Hid.mk c4))
   all_goals
    go_wp2_with fail
    go_ret
    refine⟨b,rfl,by rw[hbR.out];simp[HN.out],?_,fun e=>hQ.out _ _ (ids_fin (dF.out e) (by first|exact bel1 _ _|exact drw (bel1 _ _)) q1 q2 q3).1⟩
    exact(hk0.out.trans (Kb.of_below ee)).trans ((kb_go kf.out).trans (kb_tl (ids_kb (by first|exact bel1 _ _|exact drw (bel1 _ _)) q2)))
theorem refTakes_no (c:Df) (f:Fm) (L:List Od) (x:Od) (xt t:Tk) (ids:List Int) (vi:Value) (w:World) (h:Dt w c f L x xt t ids vi)
  (hN:¬ (mayD xt.op x.stg t.op=true/\plainB t=true/\symbolB t.name=true/\(if bgO t.op then pairB f.toks c.i t else decide (t.pair=c.i))=true)) :
  Calls Tryz.prog 16 #[.pointer (some ⟨c.B,0,none⟩),.int .i64 (c.i:Int)] w fun r w'=>r = .returned (.bool false)/\Below w.heap.size w w':=by
 obtain⟨pc,cc,hT,hU,hC,hO⟩:=h.d0.tk
 have b12:=h.ds.c12
 have hii:(c.i:Int)<f.toks.length:=by have:=h.il;omega
 have hll:=h.ll
 have hln:=h.ln
 have e1:((L.length+1:Nat):Int)-1=(L.length:Int):=by omega
 have e2:(L.length:Int)<((L.length+1:Nat):Int):=by omega
 have l1:=hT.load
 obtain⟨W1,s1,hA,hb1,hz1⟩:=ld_new w t pc cc
 have h1:=h.below hb1
 have a0:W1.cell? ⟨w.heap.size,0,none⟩=some (.int .i64 t.op):=hA.c0
 have hwl:w.heap.size<W1.heap.size:=by omega
 have cM:=refMay_any c f L x xt t ids vi t.op W1 h1
 have cPl:=fun W (hW:Below W1.heap.size W1 W)=>refPlain_any t pc cc W ((hU.below (hb1.trans (hW.mono hb1.size))).mono (Nat.le_trans hb1.size hW.size)) hO.cst
 have cSy:=fun W=>rSymbol t.name (by have:=hO.name;omega) W
 have cPr:=fun W (hW:Below W1.heap.size W1 W)=>refPaired_any c f t _ vi W (h1.below hW).d0
 have hR:Hid (∀ W,Below W1.heap.size W1 W->TkC W w.heap.size 0 t pc cc/\Dt W c f L x xt t ids vi/\Below w.heap.size w W):=⟨fun W hW=>⟨hA.below hwl hW,h1.below hW,hb1.trans (hW.mono hb1.size)⟩⟩
 have hLd:Hid (∀ W,Below W1.heap.size W1 W->(Instr.loadAt 53 (.pointer (some ⟨w.heap.size,0,none⟩))).run Tryz.prog W = .ok (tkV t pc cc) W):=⟨fun W hW=>(hA.below hwl hW).load⟩
 replace l1:=Hid.mk l1
 replace s1:=Hid.mk s1
 replace h:=Hid.mk h
 replace h1:=Hid.mk h1
 replace hb1:=Hid.mk hb1
 replace hz1:=Hid.mk hz1
 replace hO:=Hid.mk hO
 clear hT hC hA
 generalize mayD xt.op x.stg t.op=q1 at *
 generalize plainB t=q2 at *
 generalize symbolB t.name=q3 at *
 generalize (if bgO t.op then pairB f.toks c.i t else decide (t.pair=c.i))=q4 at *
 replace hN:=Hid.mk hN
 by_cases eq1:q1=false
 ·subst eq1
  go_enter Tryz.func16,Tryz.ntmps16
  go_wp2_with (first
   | (guard_target =~ wpList _ _ _ (Oper.mk _ (Op.load 53 _) _ _ _ _::_) _ _;(first|refine wpList_ld 53 _ rfl rfl _ _ rfl l1.out ?_|refine wpList_ld 53 _ rfl rfl _ _ rfl (hLd.out _ ea) ?_);simp only[pts])
   | (guard_target =~ wpList _ _ _ (Oper.mk _ (Op.store 53 _ _) _ _ _ _::_) _ _;go_must (refine wpList_st 53 _ _ rfl rfl _ _ rfl rfl (s1.out _ rfl) ?_);simp only[pts])
   | (go_at_call 32;refine cM.mono ?_;rintro _ wa ⟨rfl,ea⟩)
   | (go_at_call 28;refine(cPl _ ea).mono ?_;rintro _ wb ⟨rfl,eb'⟩;have eb:Below W1.heap.size W1 wb:=ea.trans (eb'.mono ea.size);have t1:=(hR.out _ eb).1.c1;simp only[Nat.zero_add] at t1)
   | (go_at_call 30;refine(cSy _).mono ?_;rintro _ wc ⟨rfl,ec'⟩;have ec:Below W1.heap.size W1 wc:=eb.trans (ec'.mono eb.size))
   | (go_at_call 29;refine(cPr _ ec).mono ?_;rintro _ wd ⟨rfl,ed'⟩;have ed:Below W1.heap.size W1 wd:=ec.trans (ed'.mono ec.size);obtain⟨y1,y2,y3⟩:=hR.out _ ed;have t0:=y1.c0;have b13:=y2.ds.c13;replace y1:=Hid.mk y1;replace y2:=Hid.mk y2;replace y3:=Hid.mk y3))
  go_ret
  exact⟨rfl,(hR.out _ ea).2.2⟩
 obtain rfl:q1=true:=by simpa using eq1
 by_cases eq2:q2=false
 ·subst eq2
  go_enter Tryz.func16,Tryz.ntmps16
  go_wp2_with (first
   | (guard_target =~ wpList _ _ _ (Oper.mk _ (Op.load 53 _) _ _ _ _::_) _ _;(first|refine wpList_ld 53 _ rfl rfl _ _ rfl l1.out ?_|refine wpList_ld 53 _ rfl rfl _ _ rfl (hLd.out _ ea) ?_);simp only[pts])
   | (guard_target =~ wpList _ _ _ (Oper.mk _ (Op.store 53 _ _) _ _ _ _::_) _ _;go_must (refine wpList_st 53 _ _ rfl rfl _ _ rfl rfl (s1.out _ rfl) ?_);simp only[pts])
   | (go_at_call 32;refine cM.mono ?_;rintro _ wa ⟨rfl,ea⟩)
   | (go_at_call 28;refine(cPl _ ea).mono ?_;rintro _ wb ⟨rfl,eb'⟩;have eb:Below W1.heap.size W1 wb:=ea.trans (eb'.mono ea.size);have t1:=(hR.out _ eb).1.c1;simp only[Nat.zero_add] at t1)
   | (go_at_call 30;refine(cSy _).mono ?_;rintro _ wc ⟨rfl,ec'⟩;have ec:Below W1.heap.size W1 wc:=eb.trans (ec'.mono eb.size))
   | (go_at_call 29;refine(cPr _ ec).mono ?_;rintro _ wd ⟨rfl,ed'⟩;have ed:Below W1.heap.size W1 wd:=ec.trans (ed'.mono ec.size);obtain⟨y1,y2,y3⟩:=hR.out _ ed;have t0:=y1.c0;have b13:=y2.ds.c13;replace y1:=Hid.mk y1;replace y2:=Hid.mk y2;replace y3:=Hid.mk y3))
  go_ret
  exact⟨rfl,(hR.out _ eb).2.2⟩
 obtain rfl:q2=true:=by simpa using eq2
 by_cases eq3:q3=false
 ·subst eq3
  go_enter Tryz.func16,Tryz.ntmps16
  go_wp2_with (first
   | (guard_target =~ wpList _ _ _ (Oper.mk _ (Op.load 53 _) _ _ _ _::_) _ _;(first|refine wpList_ld 53 _ rfl rfl _ _ rfl l1.out ?_|refine wpList_ld 53 _ rfl rfl _ _ rfl (hLd.out _ ea) ?_);simp only[pts])
   | (guard_target =~ wpList _ _ _ (Oper.mk _ (Op.store 53 _ _) _ _ _ _::_) _ _;go_must (refine wpList_st 53 _ _ rfl rfl _ _ rfl rfl (s1.out _ rfl) ?_);simp only[pts])
   | (go_at_call 32;refine cM.mono ?_;rintro _ wa ⟨rfl,ea⟩)
   | (go_at_call 28;refine(cPl _ ea).mono ?_;rintro _ wb ⟨rfl,eb'⟩;have eb:Below W1.heap.size W1 wb:=ea.trans (eb'.mono ea.size);have t1:=(hR.out _ eb).1.c1;simp only[Nat.zero_add] at t1)
   | (go_at_call 30;refine(cSy _).mono ?_;rintro _ wc ⟨rfl,ec'⟩;have ec:Below W1.heap.size W1 wc:=eb.trans (ec'.mono eb.size))
   | (go_at_call 29;refine(cPr _ ec).mono ?_;rintro _ wd ⟨rfl,ed'⟩;have ed:Below W1.heap.size W1 wd:=ec.trans (ed'.mono ec.size);obtain⟨y1,y2,y3⟩:=hR.out _ ed;have t0:=y1.c0;have b13:=y2.ds.c13;replace y1:=Hid.mk y1;replace y2:=Hid.mk y2;replace y3:=Hid.mk y3))
  go_ret
  exact⟨rfl,(hR.out _ ec).2.2⟩
 obtain rfl:q3=true:=by simpa using eq3
 by_cases eq4:q4=false
 ·subst eq4
  go_enter Tryz.func16,Tryz.ntmps16
  go_wp2_with (first
   | (guard_target =~ wpList _ _ _ (Oper.mk _ (Op.load 53 _) _ _ _ _::_) _ _;(first|refine wpList_ld 53 _ rfl rfl _ _ rfl l1.out ?_|refine wpList_ld 53 _ rfl rfl _ _ rfl (hLd.out _ ea) ?_);simp only[pts])
   | (guard_target =~ wpList _ _ _ (Oper.mk _ (Op.store 53 _ _) _ _ _ _::_) _ _;go_must (refine wpList_st 53 _ _ rfl rfl _ _ rfl rfl (s1.out _ rfl) ?_);simp only[pts])
   | (go_at_call 32;refine cM.mono ?_;rintro _ wa ⟨rfl,ea⟩)
   | (go_at_call 28;refine(cPl _ ea).mono ?_;rintro _ wb ⟨rfl,eb'⟩;have eb:Below W1.heap.size W1 wb:=ea.trans (eb'.mono ea.size);have t1:=(hR.out _ eb).1.c1;simp only[Nat.zero_add] at t1)
   | (go_at_call 30;refine(cSy _).mono ?_;rintro _ wc ⟨rfl,ec'⟩;have ec:Below W1.heap.size W1 wc:=eb.trans (ec'.mono eb.size))
   | (go_at_call 29;refine(cPr _ ec).mono ?_;rintro _ wd ⟨rfl,ed'⟩;have ed:Below W1.heap.size W1 wd:=ec.trans (ed'.mono ec.size);obtain⟨y1,y2,y3⟩:=hR.out _ ed;have t0:=y1.c0;have b13:=y2.ds.c13;replace y1:=Hid.mk y1;replace y2:=Hid.mk y2;replace y3:=Hid.mk y3))
  go_ret
  exact⟨rfl,(hR.out _ ed).2.2⟩
 obtain rfl:q4=true:=by simpa using eq4
 exact absurd ⟨rfl,rfl,rfl,rfl⟩ hN.out
theorem refTakes_10 (c:Df) (f:Fm) (L:List Od) (x x2:Od) (xt t:Tk) (ids:List Int) (vi:Value) (w:World) (R:Prop) (Q:World->Prop) (h:Dt w c f L x xt t ids vi) (ho:t.op=10) (hm:mayD xt.op x.stg t.op=true) (hp:plainB t=true) (hs:symbolB t.name=true) (hq:(if bgO t.op then pairB f.toks c.i t else decide (t.pair=c.i))=true) (hst:0<=x.stg/\x.stg<=1000000000000) (hx2:x2.stg=x.stg)
  (cF:∀ W,Dt W c f L x xt t ids vi->Calls Tryz.prog 35 #[.pointer (some ⟨c.B,0,none⟩),.int .i64 (c.i:Int),.pointer (some ⟨c.go,L.length*5,none⟩)] W fun r w'=>Lfg r R c W w' (Dt w' c f L x2 xt t ids vi))
  (hQ:Hid (∀ w',Dt w' c f L { x2 with stg:=x.stg+1 } xt t ids vi->Q w')) :
  Calls Tryz.prog 16 #[.pointer (some ⟨c.B,0,none⟩),.int .i64 (c.i:Int)] w fun r w'=>∃ b,r = .returned (.bool b)/\(b=true↔R/\True)/\Kb [c.go] w w'/\(b=true->Q w'):=by
 have o2:(t.op==2)=false:=by simp[ho]
 have o4:(t.op==4)=false:=by simp[ho]
 have o6:(t.op==6)=false:=by simp[ho]
 have o8:(t.op==8)=false:=by simp[ho]
 have o10:(t.op==10)=true:=by simp[ho]
 have o12:(t.op==12)=false:=by simp[ho]
 have o14:(t.op==14)=false:=by simp[ho]
 have o15:(t.op==15)=false:=by simp[ho]
 obtain⟨pc,cc,hT,hUH,hC,hO⟩:=h.tk
 have hU:=hUH.mono h.sz
 replace hUH:=Hid.mk hUH
 have b12:=h.ds.c12
 have hii:(c.i:Int)<f.toks.length:=by have:=h.il;omega
 have hll:=h.ll
 have hln:=h.ln
 have e1:((L.length+1:Nat):Int)-1=(L.length:Int):=by omega
 have e2:(L.length:Int)<((L.length+1:Nat):Int):=by omega
 have l1:=hT.load
 obtain⟨W1,s1,hA,hb1,hz1⟩:=ld_new w t pc cc
 have h1:=h.below hb1
 have a0:W1.cell? ⟨w.heap.size,0,none⟩=some (.int .i64 t.op):=hA.c0
 have hwl:w.heap.size<W1.heap.size:=by omega
 have cM:=refMay_any c f L x xt t ids vi t.op W1 h1
 have cPl:=fun W (hW:Below W1.heap.size W1 W)=>refPlain_any t pc cc W ((hU.below (hb1.trans (hW.mono hb1.size))).mono (Nat.le_trans hb1.size hW.size)) hO.cst
 have cSy:=fun W=>rSymbol t.name (by have:=hO.name;omega) W
 have cPr:=fun W (hW:Below W1.heap.size W1 W)=>refPaired_any c f t _ vi W (h1.below hW).d0
 have hR:Hid (∀ W,Below W1.heap.size W1 W->TkC W w.heap.size 0 t pc cc/\Dt W c f L x xt t ids vi/\Below w.heap.size w W):=⟨fun W hW=>⟨hA.below hwl hW,h1.below hW,hb1.trans (hW.mono hb1.size)⟩⟩
 have hLd:Hid (∀ W,Below W1.heap.size W1 W->(Instr.loadAt 53 (.pointer (some ⟨w.heap.size,0,none⟩))).run Tryz.prog W = .ok (tkV t pc cc) W):=⟨fun W hW=>(hA.below hwl hW).load⟩
 replace l1:=Hid.mk l1
 replace s1:=Hid.mk s1
 replace h:=Hid.mk h
 replace h1:=Hid.mk h1
 replace hb1:=Hid.mk hb1
 replace hz1:=Hid.mk hz1
 replace hO:=Hid.mk hO
 clear hT hC hA
 have hw1:IntKind.i64.wrap (x.stg+1)=x.stg+1:=by rw[IntKind.wrap_i64];omega
 rw[hm] at cM
 rw[hp] at cPl
 rw[hs] at cSy
 rw[hq] at cPr
 clear ho hm hp hs hq
 go_enter Tryz.func16,Tryz.ntmps16
 go_wp2_with (first
  | (guard_target =~ wpList _ _ _ (Oper.mk _ (Op.load 53 _) _ _ _ _::_) _ _;(first|refine wpList_ld 53 _ rfl rfl _ _ rfl l1.out ?_|refine wpList_ld 53 _ rfl rfl _ _ rfl (hLd.out _ ea) ?_);simp only[pts])
  | (guard_target =~ wpList _ _ _ (Oper.mk _ (Op.store 53 _ _) _ _ _ _::_) _ _;go_must (refine wpList_st 53 _ _ rfl rfl _ _ rfl rfl (s1.out _ rfl) ?_);simp only[pts])
  | (go_at_call 32;refine cM.mono ?_;rintro _ wa ⟨rfl,ea⟩)
  | (go_at_call 28;refine(cPl _ ea).mono ?_;rintro _ wb ⟨rfl,eb'⟩;have eb:Below W1.heap.size W1 wb:=ea.trans (eb'.mono ea.size);have t1:=(hR.out _ eb).1.c1;simp only[Nat.zero_add] at t1)
  | (go_at_call 30;refine(cSy _).mono ?_;rintro _ wc ⟨rfl,ec'⟩;have ec:Below W1.heap.size W1 wc:=eb.trans (ec'.mono eb.size))
  | (go_at_call 29;refine(cPr _ ec).mono ?_;rintro _ wd ⟨rfl,ed'⟩;have ed:Below W1.heap.size W1 wd:=ec.trans (ed'.mono ec.size);obtain⟨y1,y2,y3⟩:=hR.out _ ed;have t0:=y1.c0;have b13:=y2.ds.c13;replace y1:=Hid.mk y1;replace y2:=Hid.mk y2;replace y3:=Hid.mk y3))
 go_quiet (fail)
 have hD:Hid (Dt (wd.drewN nq) c f L x xt t ids vi):=⟨y2.out.below (tdr (Below.refl _ _))⟩
 have hTd:Hid (TkC (wd.drewN nq) w.heap.size 0 t pc cc):=⟨y1.out.same rfl⟩
 have hkd:Hid (Below w.heap.size w (wd.drewN nq)):=⟨tdr y3.out⟩
 have hlW:Hid (w.heap.size<(wd.drewN nq).heap.size):=⟨Nat.lt_of_lt_of_le hwl ed.size⟩
 have gne:c.go≠w.heap.size:=by have:=h.out.op.lt;omega
 replace cF:=Hid.mk cF
 go_wp2_with fail
 refine(cF.out _ hD.out).mono ?_
 rintro _ wf ⟨(_|_),rfl,hbR,hbF,kf,dF⟩
 ·have hb:=hbF rfl
  have hE:=hD.out.below hb
  have t0:=(hTd.out.below (B:=(wd.drewN nq).heap.size) hlW.out hb).c0
  have z1:=hE.sc.c1
  have zf:wf.frozen? ⟨c.go,L.length*5+1,none⟩=false:=hE.op.frz _
  have HR:Hid (¬ R):=⟨fun e=>by have:=hbR.2 e;cases this⟩
  have hKK:Hid (Kb [c.go] w wf):=⟨(Kb.of_below hkd.out).trans kf⟩
  clear hbR hbF dF kf
  replace hE:=Hid.mk hE
  replace hb:=Hid.mk hb
  go_wp2_with fail
  go_ret
  exact⟨false,rfl,by simp[HR.out],hKK.out.set (List.mem_singleton.2 rfl) _,fun e=>by cases e⟩
 ·have hE:=dF rfl
  have hlf:w.heap.size<wf.heap.size:=Nat.lt_of_lt_of_le hlW.out kf.size
  have hTf:=hTd.out.same (kf.block _ hlW.out (notin1 gne.symm))
  have HR:Hid R:=⟨hbR.1 rfl⟩
  have hKK:Hid (Kb [c.go] w wf):=⟨(Kb.of_below hkd.out).trans kf⟩
  have t0:=hTf.c0
  have z1:=hE.sc.c1
  rw[hx2] at z1
  have zf:wf.frozen? ⟨c.go,L.length*5+1,none⟩=false:=hE.op.frz _
  have hE2:Hid _:=⟨hE⟩
  clear hbR hbF dF kf hE hTf
  go_wp2_with fail
  go_ret
  exact⟨true,rfl,by simp[HR.out],hKK.out.set (List.mem_singleton.2 rfl) _,fun _=>hQ.out _ (hE2.out.wrote (j:=1) (by decide) rfl rfl)⟩
theorem refTakes_12 (c:Df) (f:Fm) (L:List Od) (x x2:Od) (xt t:Tk) (ids:List Int) (vi:Value) (w:World) (R:Prop) (Q:World->Prop) (h:Dt w c f L x xt t ids vi) (ho:t.op=12) (hm:mayD xt.op x.stg t.op=true) (hp:plainB t=true) (hs:symbolB t.name=true) (hq:(if bgO t.op then pairB f.toks c.i t else decide (t.pair=c.i))=true) (hst:0<=x.stg/\x.stg<=1000000000000) (hx2:x2.stg=x.stg)
  (cF:∀ W,Dt W c f L x xt t ids vi->Calls Tryz.prog 35 #[.pointer (some ⟨c.B,0,none⟩),.int .i64 (c.i:Int),.pointer (some ⟨c.go,L.length*5,none⟩)] W fun r w'=>Lfg r R c W w' (Dt w' c f L x2 xt t ids vi))
  (hQ:Hid (∀ w',Dt w' c f L { x2 with stg:=x.stg+1 } xt t ids vi->Q w')) :
  Calls Tryz.prog 16 #[.pointer (some ⟨c.B,0,none⟩),.int .i64 (c.i:Int)] w fun r w'=>∃ b,r = .returned (.bool b)/\(b=true↔R/\True)/\Kb [c.go] w w'/\(b=true->Q w'):=by
 have o2:(t.op==2)=false:=by simp[ho]
 have o4:(t.op==4)=false:=by simp[ho]
 have o6:(t.op==6)=false:=by simp[ho]
 have o8:(t.op==8)=false:=by simp[ho]
 have o10:(t.op==10)=false:=by simp[ho]
 have o12:(t.op==12)=true:=by simp[ho]
 have o14:(t.op==14)=false:=by simp[ho]
 have o15:(t.op==15)=false:=by simp[ho]
 obtain⟨pc,cc,hT,hUH,hC,hO⟩:=h.tk
 have hU:=hUH.mono h.sz
 replace hUH:=Hid.mk hUH
 have b12:=h.ds.c12
 have hii:(c.i:Int)<f.toks.length:=by have:=h.il;omega
 have hll:=h.ll
 have hln:=h.ln
 have e1:((L.length+1:Nat):Int)-1=(L.length:Int):=by omega
 have e2:(L.length:Int)<((L.length+1:Nat):Int):=by omega
 have l1:=hT.load
 obtain⟨W1,s1,hA,hb1,hz1⟩:=ld_new w t pc cc
 have h1:=h.below hb1
 have a0:W1.cell? ⟨w.heap.size,0,none⟩=some (.int .i64 t.op):=hA.c0
 have hwl:w.heap.size<W1.heap.size:=by omega
 have cM:=refMay_any c f L x xt t ids vi t.op W1 h1
 have cPl:=fun W (hW:Below W1.heap.size W1 W)=>refPlain_any t pc cc W ((hU.below (hb1.trans (hW.mono hb1.size))).mono (Nat.le_trans hb1.size hW.size)) hO.cst
 have cSy:=fun W=>rSymbol t.name (by have:=hO.name;omega) W
 have cPr:=fun W (hW:Below W1.heap.size W1 W)=>refPaired_any c f t _ vi W (h1.below hW).d0
 have hR:Hid (∀ W,Below W1.heap.size W1 W->TkC W w.heap.size 0 t pc cc/\Dt W c f L x xt t ids vi/\Below w.heap.size w W):=⟨fun W hW=>⟨hA.below hwl hW,h1.below hW,hb1.trans (hW.mono hb1.size)⟩⟩
 have hLd:Hid (∀ W,Below W1.heap.size W1 W->(Instr.loadAt 53 (.pointer (some ⟨w.heap.size,0,none⟩))).run Tryz.prog W = .ok (tkV t pc cc) W):=⟨fun W hW=>(hA.below hwl hW).load⟩
 replace l1:=Hid.mk l1
 replace s1:=Hid.mk s1
 replace h:=Hid.mk h
 replace h1:=Hid.mk h1
 replace hb1:=Hid.mk hb1
 replace hz1:=Hid.mk hz1
 replace hO:=Hid.mk hO
 clear hT hC hA
 have hw1:IntKind.i64.wrap (x.stg+1)=x.stg+1:=by rw[IntKind.wrap_i64];omega
 rw[hm] at cM
 rw[hp] at cPl
 rw[hs] at cSy
 rw[hq] at cPr
 clear ho hm hp hs hq
 go_enter Tryz.func16,Tryz.ntmps16
 go_wp2_with (first
  | (guard_target =~ wpList _ _ _ (Oper.mk _ (Op.load 53 _) _ _ _ _::_) _ _;(first|refine wpList_ld 53 _ rfl rfl _ _ rfl l1.out ?_|refine wpList_ld 53 _ rfl rfl _ _ rfl (hLd.out _ ea) ?_);simp only[pts])
  | (guard_target =~ wpList _ _ _ (Oper.mk _ (Op.store 53 _ _) _ _ _ _::_) _ _;go_must (refine wpList_st 53 _ _ rfl rfl _ _ rfl rfl (s1.out _ rfl) ?_);simp only[pts])
  | (go_at_call 32;refine cM.mono ?_;rintro _ wa ⟨rfl,ea⟩)
  | (go_at_call 28;refine(cPl _ ea).mono ?_;rintro _ wb ⟨rfl,eb'⟩;have eb:Below W1.heap.size W1 wb:=ea.trans (eb'.mono ea.size);have t1:=(hR.out _ eb).1.c1;simp only[Nat.zero_add] at t1)
  | (go_at_call 30;refine(cSy _).mono ?_;rintro _ wc ⟨rfl,ec'⟩;have ec:Below W1.heap.size W1 wc:=eb.trans (ec'.mono eb.size))
  | (go_at_call 29;refine(cPr _ ec).mono ?_;rintro _ wd ⟨rfl,ed'⟩;have ed:Below W1.heap.size W1 wd:=ec.trans (ed'.mono ec.size);obtain⟨y1,y2,y3⟩:=hR.out _ ed;have t0:=y1.c0;have b13:=y2.ds.c13;replace y1:=Hid.mk y1;replace y2:=Hid.mk y2;replace y3:=Hid.mk y3))
 go_quiet (fail)
 have hD:Hid (Dt (wd.drewN nq) c f L x xt t ids vi):=⟨y2.out.below (tdr (Below.refl _ _))⟩
 have hTd:Hid (TkC (wd.drewN nq) w.heap.size 0 t pc cc):=⟨y1.out.same rfl⟩
 have hkd:Hid (Below w.heap.size w (wd.drewN nq)):=⟨tdr y3.out⟩
 have hlW:Hid (w.heap.size<(wd.drewN nq).heap.size):=⟨Nat.lt_of_lt_of_le hwl ed.size⟩
 have gne:c.go≠w.heap.size:=by have:=h.out.op.lt;omega
 replace cF:=Hid.mk cF
 go_wp2_with fail
 refine(cF.out _ hD.out).mono ?_
 rintro _ wf ⟨(_|_),rfl,hbR,hbF,kf,dF⟩
 ·have hb:=hbF rfl
  have hE:=hD.out.below hb
  have t0:=(hTd.out.below (B:=(wd.drewN nq).heap.size) hlW.out hb).c0
  have z1:=hE.sc.c1
  have zf:wf.frozen? ⟨c.go,L.length*5+1,none⟩=false:=hE.op.frz _
  have HR:Hid (¬ R):=⟨fun e=>by have:=hbR.2 e;cases this⟩
  have hKK:Hid (Kb [c.go] w wf):=⟨(Kb.of_below hkd.out).trans kf⟩
  clear hbR hbF dF kf
  replace hE:=Hid.mk hE
  replace hb:=Hid.mk hb
  go_wp2_with fail
  go_ret
  exact⟨false,rfl,by simp[HR.out],hKK.out.set (List.mem_singleton.2 rfl) _,fun e=>by cases e⟩
 ·have hE:=dF rfl
  have hlf:w.heap.size<wf.heap.size:=Nat.lt_of_lt_of_le hlW.out kf.size
  have hTf:=hTd.out.same (kf.block _ hlW.out (notin1 gne.symm))
  have HR:Hid R:=⟨hbR.1 rfl⟩
  have hKK:Hid (Kb [c.go] w wf):=⟨(Kb.of_below hkd.out).trans kf⟩
  have t0:=hTf.c0
  have z1:=hE.sc.c1
  rw[hx2] at z1
  have zf:wf.frozen? ⟨c.go,L.length*5+1,none⟩=false:=hE.op.frz _
  have hE2:Hid _:=⟨hE⟩
  clear hbR hbF dF kf hE hTf
  go_wp2_with fail
  go_ret
  exact⟨true,rfl,by simp[HR.out],hKK.out.set (List.mem_singleton.2 rfl) _,fun _=>hQ.out _ (hE2.out.wrote (j:=1) (by decide) rfl rfl)⟩
theorem refTakes_8 (c:Df) (f:Fm) (L:List Od) (x x2:Od) (xt t:Tk) (ids:List Int) (vi:Value) (w:World) (R:Prop) (Q:World->Prop) (h:Dt w c f L x xt t ids vi) (ho:t.op=8) (hm:mayD xt.op x.stg t.op=true) (hp:plainB t=true) (hs:symbolB t.name=true) (hq:(if bgO t.op then pairB f.toks c.i t else decide (t.pair=c.i))=true) (hst:0<=x.stg/\x.stg<=1000000000000) (hx2:x2.stg=x.stg)
  (cF:∀ W,Dt W c f L x xt t ids vi->Calls Tryz.prog 35 #[.pointer (some ⟨c.B,0,none⟩),.int .i64 (c.i:Int),.pointer (some ⟨c.go,L.length*5,none⟩)] W fun r w'=>Lfg r R c W w' (Dt w' c f L x2 xt t ids vi))
  (n:Nat) (cC:∀ W,Dt W c f L x2 xt t ids vi->Calls Tryz.prog 36 #[.pointer (some ⟨c.B,0,none⟩),.int .i64 8] W fun r w'=>r = .returned (.int .i64 (n:Int))/\Below W.heap.size W w')
  (hQ:Hid (∀ w',Dt w' c f L { x2 with stg:=x.stg+1 } xt t ids vi->Q w')) :
  Calls Tryz.prog 16 #[.pointer (some ⟨c.B,0,none⟩),.int .i64 (c.i:Int)] w fun r w'=>∃ b,r = .returned (.bool b)/\(b=true↔R/\n<16)/\Kb [c.go] w w'/\(b=true->Q w'):=by
 have o2:(t.op==2)=false:=by simp[ho]
 have o4:(t.op==4)=false:=by simp[ho]
 have o6:(t.op==6)=false:=by simp[ho]
 have o8:(t.op==8)=true:=by simp[ho]
 have o10:(t.op==10)=false:=by simp[ho]
 have o12:(t.op==12)=false:=by simp[ho]
 have o14:(t.op==14)=false:=by simp[ho]
 have o15:(t.op==15)=false:=by simp[ho]
 obtain⟨pc,cc,hT,hUH,hC,hO⟩:=h.tk
 have hU:=hUH.mono h.sz
 replace hUH:=Hid.mk hUH
 have b12:=h.ds.c12
 have hii:(c.i:Int)<f.toks.length:=by have:=h.il;omega
 have hll:=h.ll
 have hln:=h.ln
 have e1:((L.length+1:Nat):Int)-1=(L.length:Int):=by omega
 have e2:(L.length:Int)<((L.length+1:Nat):Int):=by omega
 have l1:=hT.load
 obtain⟨W1,s1,hA,hb1,hz1⟩:=ld_new w t pc cc
 have h1:=h.below hb1
 have a0:W1.cell? ⟨w.heap.size,0,none⟩=some (.int .i64 t.op):=hA.c0
 have hwl:w.heap.size<W1.heap.size:=by omega
 have cM:=refMay_any c f L x xt t ids vi t.op W1 h1
 have cPl:=fun W (hW:Below W1.heap.size W1 W)=>refPlain_any t pc cc W ((hU.below (hb1.trans (hW.mono hb1.size))).mono (Nat.le_trans hb1.size hW.size)) hO.cst
 have cSy:=fun W=>rSymbol t.name (by have:=hO.name;omega) W
 have cPr:=fun W (hW:Below W1.heap.size W1 W)=>refPaired_any c f t _ vi W (h1.below hW).d0
 have hR:Hid (∀ W,Below W1.heap.size W1 W->TkC W w.heap.size 0 t pc cc/\Dt W c f L x xt t ids vi/\Below w.heap.size w W):=⟨fun W hW=>⟨hA.below hwl hW,h1.below hW,hb1.trans (hW.mono hb1.size)⟩⟩
 have hLd:Hid (∀ W,Below W1.heap.size W1 W->(Instr.loadAt 53 (.pointer (some ⟨w.heap.size,0,none⟩))).run Tryz.prog W = .ok (tkV t pc cc) W):=⟨fun W hW=>(hA.below hwl hW).load⟩
 replace l1:=Hid.mk l1
 replace s1:=Hid.mk s1
 replace h:=Hid.mk h
 replace h1:=Hid.mk h1
 replace hb1:=Hid.mk hb1
 replace hz1:=Hid.mk hz1
 replace hO:=Hid.mk hO
 clear hT hC hA
 have hw1:IntKind.i64.wrap (x.stg+1)=x.stg+1:=by rw[IntKind.wrap_i64];omega
 rw[hm] at cM
 rw[hp] at cPl
 rw[hs] at cSy
 rw[hq] at cPr
 clear ho hm hp hs hq
 go_enter Tryz.func16,Tryz.ntmps16
 go_wp2_with (first
  | (guard_target =~ wpList _ _ _ (Oper.mk _ (Op.load 53 _) _ _ _ _::_) _ _;(first|refine wpList_ld 53 _ rfl rfl _ _ rfl l1.out ?_|refine wpList_ld 53 _ rfl rfl _ _ rfl (hLd.out _ ea) ?_);simp only[pts])
  | (guard_target =~ wpList _ _ _ (Oper.mk _ (Op.store 53 _ _) _ _ _ _::_) _ _;go_must (refine wpList_st 53 _ _ rfl rfl _ _ rfl rfl (s1.out _ rfl) ?_);simp only[pts])
  | (go_at_call 32;refine cM.mono ?_;rintro _ wa ⟨rfl,ea⟩)
  | (go_at_call 28;refine(cPl _ ea).mono ?_;rintro _ wb ⟨rfl,eb'⟩;have eb:Below W1.heap.size W1 wb:=ea.trans (eb'.mono ea.size);have t1:=(hR.out _ eb).1.c1;simp only[Nat.zero_add] at t1)
  | (go_at_call 30;refine(cSy _).mono ?_;rintro _ wc ⟨rfl,ec'⟩;have ec:Below W1.heap.size W1 wc:=eb.trans (ec'.mono eb.size))
  | (go_at_call 29;refine(cPr _ ec).mono ?_;rintro _ wd ⟨rfl,ed'⟩;have ed:Below W1.heap.size W1 wd:=ec.trans (ed'.mono ec.size);obtain⟨y1,y2,y3⟩:=hR.out _ ed;have t0:=y1.c0;have b13:=y2.ds.c13;replace y1:=Hid.mk y1;replace y2:=Hid.mk y2;replace y3:=Hid.mk y3))
 go_quiet (fail)
 have hD:Hid (Dt (wd.drewN nq) c f L x xt t ids vi):=⟨y2.out.below (tdr (Below.refl _ _))⟩
 have hTd:Hid (TkC (wd.drewN nq) w.heap.size 0 t pc cc):=⟨y1.out.same rfl⟩
 have hkd:Hid (Below w.heap.size w (wd.drewN nq)):=⟨tdr y3.out⟩
 have hlW:Hid (w.heap.size<(wd.drewN nq).heap.size):=⟨Nat.lt_of_lt_of_le hwl ed.size⟩
 have gne:c.go≠w.heap.size:=by have:=h.out.op.lt;omega
 replace cF:=Hid.mk cF
 replace cC:=Hid.mk cC
 go_wp2_with fail
 refine(cF.out _ hD.out).mono ?_
 rintro _ wf ⟨(_|_),rfl,hbR,hbF,kf,dF⟩
 ·have hb:=hbF rfl
  have hE:=hD.out.below hb
  have t0:=(hTd.out.below (B:=(wd.drewN nq).heap.size) hlW.out hb).c0
  have z1:=hE.sc.c1
  have zf:wf.frozen? ⟨c.go,L.length*5+1,none⟩=false:=hE.op.frz _
  have HR:Hid (¬ R):=⟨fun e=>by have:=hbR.2 e;cases this⟩
  have hKK:Hid (Kb [c.go] w wf):=⟨(Kb.of_below hkd.out).trans kf⟩
  clear hbR hbF dF kf
  replace hE:=Hid.mk hE
  replace hb:=Hid.mk hb
  go_wp2_with fail
  go_ret
  exact⟨false,rfl,by simp[HR.out],hKK.out.set (List.mem_singleton.2 rfl) _,fun e=>by cases e⟩
 ·have hE:=dF rfl
  have hlf:w.heap.size<wf.heap.size:=Nat.lt_of_lt_of_le hlW.out kf.size
  have hTf:=hTd.out.same (kf.block _ hlW.out (notin1 gne.symm))
  have HR:Hid R:=⟨hbR.1 rfl⟩
  have hKK:Hid (Kb [c.go] w wf):=⟨(Kb.of_below hkd.out).trans kf⟩
  clear hbR hbF dF kf
  go_wp2_with fail
  refine(cC.out _ hE).mono ?_
  rintro _ wg ⟨rfl,eg⟩
  have hE3:=hE.below eg
  have t0:=(hTf.below (B:=wf.heap.size) hlf eg).c0
  have z1:=hE3.sc.c1
  rw[hx2] at z1
  have zf:wg.frozen? ⟨c.go,L.length*5+1,none⟩=false:=hE3.op.frz _
  have hE2:Hid _:=⟨hE3⟩
  clear hE3 hTf hE
  by_cases hn:n<16
  ·have dn:decide ((n:Int)<16)=true:=by simp;omega
   have dn2:decide (n<16)=true:=by simp;omega
   have HS:Hid (n<16):=⟨hn⟩
   clear hn
   go_wp2_with fail
   go_ret
   exact⟨true,rfl,by simp[HR.out,HS.out],(hKK.out.trans (Kb.of_below eg)).set (List.mem_singleton.2 rfl) _,fun _=>hQ.out _ (hE2.out.wrote (j:=1) (by decide) rfl rfl)⟩
  ·have dn:decide ((n:Int)<16)=false:=by simp;omega
   have dn2:decide (n<16)=false:=by simp;omega
   have HS:Hid (¬ n<16):=⟨hn⟩
   clear hn
   go_wp2_with fail
   go_ret
   exact⟨false,rfl,by simp[HS.out],(hKK.out.trans (Kb.of_below eg)).set (List.mem_singleton.2 rfl) _,fun e=>by cases e⟩
end Go.Proofs.YtjnafpefolgcoaaGreatDoor
