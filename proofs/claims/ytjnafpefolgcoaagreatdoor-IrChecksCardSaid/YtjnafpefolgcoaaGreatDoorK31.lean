import Derived.Test.YtjnafpefolgcoaaGreatDoorK30
namespace Go.Proofs.YtjnafpefolgcoaaGreatDoor
set_option maxRecDepth 1000000
set_option maxHeartbeats 16000000
open Go.ChangeShapes Go.WideShapes Go.ChangeAt Go.RowKit Go.Shelf Go.Maps
theorem refFitted_2 (c:Df) (f:Fm) (L:List Od) (x:Od) (xt t:Tk) (ids:List Int) (vi:Value) (w:World) (P:Prop) (Q:World->Prop) (h:Dt w c f L x xt t ids vi) (ho:xt.op=2)
  (hP:Hid (P↔(0<=t.siz/\t.siz<=65535/\0<=t.pres/\t.pres<=2/\t.off=0))) (hQ:Hid (∀ w',Dt w' c f L x xt t ids vi->Q w')) :
  Calls Tryz.prog 35 #[.pointer (some ⟨c.B,0,none⟩),.int .i64 (c.i:Int),.pointer (some ⟨c.go,L.length*5,none⟩)] w fun r w'=>Lfg r P c w w' (Q w'):=by
 have a2:(xt.op==2)=true:=by simp[ho]
 have a10:(xt.op==10)=false:=by simp[ho]
 have a12:(xt.op==12)=false:=by simp[ho]
 clear ho
 obtain⟨pc,cc,hT,hU,hC,hO⟩:=h.tk
 obtain⟨px,cx,hTx,hOx⟩:=h.xk
 have b12:=h.ds.c12
 have hii:(c.i:Int)<f.toks.length:=by have:=h.il;omega
 have hxl:(x.at_:Int)<f.toks.length:=by have:=h.xl;omega
 have hll:=h.ll
 have l1:=hT.load
 have hgo:=h.op.lt
 obtain⟨W1,s1,hA,hb1,hz1⟩:=ld_new w t pc cc
 have h1:=h.below hb1
 have hX1:=hTx.below (B:=w.heap.size) h.lg hb1
 obtain⟨p,p0,pB,pI,hNe,pc',pl,pk⟩:=clsT W1
 have f12:=fun θ=>(pc' c.B 12 h1.ds.lt θ).trans h1.ds.c12
 have f0:=fun θ=>(pc' c.go (L.length*5) h1.op.lt θ).trans h1.sc.c0
 have lu:=pl c.g _ xt px cx h1.lg hX1
 clear pc' pl pk hX1 hTx
 replace l1:=Hid.mk l1
 replace s1:=Hid.mk s1
 replace h:=Hid.mk h
 replace h1:=Hid.mk h1
 replace hA:=Hid.mk hA
 replace hb1:=Hid.mk hb1
 replace hO:=Hid.mk hO
 replace hOx:=Hid.mk hOx
 clear hT hU hC
 go_enter Tryz.func35,Tryz.ntmps35
 go_wp2_with (first
  | (guard_target =~ wpList _ _ _ (Oper.mk _ (Op.load 53 _) _ _ _ _::_) _ _;go_must (first|refine wpList_ld 53 _ rfl rfl _ _ rfl l1.out ?_);simp only[pts])
  | (guard_target =~ wpList _ _ _ (Oper.mk _ (Op.store 53 _ _) _ _ _ _::_) _ _;go_must (refine wpList_st 53 _ _ rfl rfl _ _ rfl rfl (s1.out _ rfl) ?_);simp only[pts]))
 refine wp_region_lp p (by kernel_rfl) (by kernel_rfl) (fun _ _ d _ _ h=>by cases d<;>exact h) p0 fun W hp=>?_
 repeat (first|(guard_target =~ Lx _ _ _ _ (Oper.mk _ (Op.load 53 _) _ _ _ _::_) _ _;(first|refine lx_ld lu rfl rfl ?_);simp only[pts])|(guard_target =~ Lx _ _ _ _ (Oper.mk _ (Op.alloc 53) _ _ _ _::_) _ _;refine lx_act (by rfl) (by rfl) ?_;intro K hK;go_simp;refine hK _ _ ⟨⟨_,pI _ ((pB _ hp).trans ((bel1 W _).mono (pB _ hp).size))⟩,rfl⟩ ?_;clear hK K)|(guard_target =~ Lx _ _ _ _ (Oper.mk _ (Op.store 53 _ _) _ _ _ _::_) _ _;obtain⟨W2,s2,hY,hb2,hz2⟩:=ld_new W xt px cx;refine lx_st (s2 _ rfl) ⟨⟨W2,pI _ ((pB _ hp).trans (hb2.mono (pB _ hp).size))⟩,rfl⟩ rfl rfl (by rfl) ?_;clear s2;simp only[pts])|(refine lx_one rfl ?_;(first|go_big_quiet_skip|(go_big_quiet_want;go_big_quiet_op;go_big_quiet_on));refine wpQuiet_nil ?_)|(refine lx_skip (by rfl) ?_;simp only[pts]))
 refine lx_done ?_
 have hbW:=pB _ hp
 have hb:Below w.heap.size w W2:=hb1.out.trans ((hbW.trans (hb2.mono hbW.size)).mono hb1.out.size)
 have h2:=h.out.below hb
 have hTT:TkC W2 w.heap.size 0 t pc cc:=hA.out.below (B:=W1.heap.size) (by omega) (hbW.trans (hb2.mono hbW.size))
 have gT:w.heap.size≠c.go:=by omega
 have gO:W.heap.size≠c.go:=by have:=hbW.size;omega
 have gTl:w.heap.size<W2.heap.size:=by have:=hbW.size;omega
 have gOl:W.heap.size<W2.heap.size:=by omega
 have t3:=hTT.c3
 have t4:=hTT.c4
 have t6:=hTT.c6
 have t7:=hTT.c7
 have t8:=hTT.c8
 have o0:=hY.c0
 have o3:=hY.c3
 have o4:=hY.c4
 have o8:=hY.c8
 replace h2:=Hid.mk h2
 replace hb:=Hid.mk hb
 replace hTT:=Hid.mk hTT
 replace hYY:Hid _:=⟨hY⟩
 clear pB pI p0 f0 f12 hNe hp lu hY hbW
 simp only[Nat.zero_add] at t3 t4 t6 t7 t8 o0 o3 o4 o8
 have DB:=h2.out
 replace DB:=Hid.mk DB
 by_cases k1:t.siz<0
 ·have d1_0:decide (t.siz<0)=true:=by simp<;>omega
  have HX:Hid (¬ P):=⟨by rw[hP.out];omega⟩
  clear k1
  go_wp2_with fail
  go_ret
  exact Lfg.no HX.out hb.out
 have d1_0:decide (t.siz<0)=false:=by simp<;>omega
 by_cases k2:65535<t.siz
 ·have d2_0:decide (t.siz > 65535)=true:=by simp<;>omega
  have HX:Hid (¬ P):=⟨by rw[hP.out];omega⟩
  clear k2
  go_wp2_with fail
  go_ret
  exact Lfg.no HX.out hb.out
 have d2_0:decide (t.siz > 65535)=false:=by simp<;>omega
 by_cases k3:t.pres<0
 ·have d3_0:decide (t.pres<0)=true:=by simp<;>omega
  have HX:Hid (¬ P):=⟨by rw[hP.out];omega⟩
  clear k3
  go_wp2_with fail
  go_ret
  exact Lfg.no HX.out hb.out
 have d3_0:decide (t.pres<0)=false:=by simp<;>omega
 by_cases k4:2<t.pres
 ·have d4_0:decide (t.pres > 2)=true:=by simp<;>omega
  have HX:Hid (¬ P):=⟨by rw[hP.out];omega⟩
  clear k4
  go_wp2_with fail
  go_ret
  exact Lfg.no HX.out hb.out
 have d4_0:decide (t.pres > 2)=false:=by simp<;>omega
 have HX:Hid (P↔t.off=0):=⟨by rw[hP.out];omega⟩
 go_wp2_with fail
 go_ret
 refine⟨_,rfl,Iff.trans ?_ HX.out.symm,fun _=>hb.out,Kb.of_below hb.out,fun _=>hQ.out _ DB.out⟩
 simp
theorem refFitted_8 (c:Df) (f:Fm) (L:List Od) (x:Od) (xt t:Tk) (ids:List Int) (vi:Value) (w:World) (P:Prop) (Q:World->Prop) (h:Dt w c f L x xt t ids vi) (ho:xt.op=8)
  (b1:0<=xt.off/\xt.off<=65535) (b2:0<=xt.siz/\xt.siz<=65535) (hP:Hid (P↔(0<=t.siz/\t.siz<=65535/\0<=t.pres/\t.pres<=2/\xt.off<=t.off/\t.off<=xt.off+xt.siz/\t.siz<=xt.off+xt.siz-t.off/\(0<t.siz->x.en<=t.off)))) (hQ:Hid (∀ w',Dt w' c f L { x with en:=if 0<t.siz then t.off+t.siz else x.en } xt t ids vi->Q w')) :
  Calls Tryz.prog 35 #[.pointer (some ⟨c.B,0,none⟩),.int .i64 (c.i:Int),.pointer (some ⟨c.go,L.length*5,none⟩)] w fun r w'=>Lfg r P c w w' (Q w'):=by
 have a2:(xt.op==2)=false:=by simp[ho]
 have a10:(xt.op==10)=false:=by simp[ho]
 have a12:(xt.op==12)=false:=by simp[ho]
 clear ho
 obtain⟨pc,cc,hT,hU,hC,hO⟩:=h.tk
 obtain⟨px,cx,hTx,hOx⟩:=h.xk
 have b12:=h.ds.c12
 have hii:(c.i:Int)<f.toks.length:=by have:=h.il;omega
 have hxl:(x.at_:Int)<f.toks.length:=by have:=h.xl;omega
 have hll:=h.ll
 have l1:=hT.load
 have hgo:=h.op.lt
 obtain⟨W1,s1,hA,hb1,hz1⟩:=ld_new w t pc cc
 have h1:=h.below hb1
 have hX1:=hTx.below (B:=w.heap.size) h.lg hb1
 obtain⟨p,p0,pB,pI,hNe,pc',pl,pk⟩:=clsT W1
 have f12:=fun θ=>(pc' c.B 12 h1.ds.lt θ).trans h1.ds.c12
 have f0:=fun θ=>(pc' c.go (L.length*5) h1.op.lt θ).trans h1.sc.c0
 have lu:=pl c.g _ xt px cx h1.lg hX1
 clear pc' pl pk hX1 hTx
 replace l1:=Hid.mk l1
 replace s1:=Hid.mk s1
 replace h:=Hid.mk h
 replace h1:=Hid.mk h1
 replace hA:=Hid.mk hA
 replace hb1:=Hid.mk hb1
 replace hO:=Hid.mk hO
 replace hOx:=Hid.mk hOx
 clear hT hU hC
 go_enter Tryz.func35,Tryz.ntmps35
 go_wp2_with (first
  | (guard_target =~ wpList _ _ _ (Oper.mk _ (Op.load 53 _) _ _ _ _::_) _ _;go_must (first|refine wpList_ld 53 _ rfl rfl _ _ rfl l1.out ?_);simp only[pts])
  | (guard_target =~ wpList _ _ _ (Oper.mk _ (Op.store 53 _ _) _ _ _ _::_) _ _;go_must (refine wpList_st 53 _ _ rfl rfl _ _ rfl rfl (s1.out _ rfl) ?_);simp only[pts]))
 refine wp_region_lp p (by kernel_rfl) (by kernel_rfl) (fun _ _ d _ _ h=>by cases d<;>exact h) p0 fun W hp=>?_
 repeat (first|(guard_target =~ Lx _ _ _ _ (Oper.mk _ (Op.load 53 _) _ _ _ _::_) _ _;(first|refine lx_ld lu rfl rfl ?_);simp only[pts])|(guard_target =~ Lx _ _ _ _ (Oper.mk _ (Op.alloc 53) _ _ _ _::_) _ _;refine lx_act (by rfl) (by rfl) ?_;intro K hK;go_simp;refine hK _ _ ⟨⟨_,pI _ ((pB _ hp).trans ((bel1 W _).mono (pB _ hp).size))⟩,rfl⟩ ?_;clear hK K)|(guard_target =~ Lx _ _ _ _ (Oper.mk _ (Op.store 53 _ _) _ _ _ _::_) _ _;obtain⟨W2,s2,hY,hb2,hz2⟩:=ld_new W xt px cx;refine lx_st (s2 _ rfl) ⟨⟨W2,pI _ ((pB _ hp).trans (hb2.mono (pB _ hp).size))⟩,rfl⟩ rfl rfl (by rfl) ?_;clear s2;simp only[pts])|(refine lx_one rfl ?_;(first|go_big_quiet_skip|(go_big_quiet_want;go_big_quiet_op;go_big_quiet_on));refine wpQuiet_nil ?_)|(refine lx_skip (by rfl) ?_;simp only[pts]))
 refine lx_done ?_
 have hbW:=pB _ hp
 have hb:Below w.heap.size w W2:=hb1.out.trans ((hbW.trans (hb2.mono hbW.size)).mono hb1.out.size)
 have h2:=h.out.below hb
 have hTT:TkC W2 w.heap.size 0 t pc cc:=hA.out.below (B:=W1.heap.size) (by omega) (hbW.trans (hb2.mono hbW.size))
 have gT:w.heap.size≠c.go:=by omega
 have gO:W.heap.size≠c.go:=by have:=hbW.size;omega
 have gTl:w.heap.size<W2.heap.size:=by have:=hbW.size;omega
 have gOl:W.heap.size<W2.heap.size:=by omega
 have t3:=hTT.c3
 have t4:=hTT.c4
 have t6:=hTT.c6
 have t7:=hTT.c7
 have t8:=hTT.c8
 have o0:=hY.c0
 have o3:=hY.c3
 have o4:=hY.c4
 have o8:=hY.c8
 replace h2:=Hid.mk h2
 replace hb:=Hid.mk hb
 replace hTT:=Hid.mk hTT
 replace hYY:Hid _:=⟨hY⟩
 clear pB pI p0 f0 f12 hNe hp lu hY hbW
 simp only[Nat.zero_add] at t3 t4 t6 t7 t8 o0 o3 o4 o8
 have DB:=h2.out
 replace DB:=Hid.mk DB
 by_cases k5:t.siz<0
 ·have d5_0:decide (t.siz<0)=true:=by simp<;>omega
  have HX:Hid (¬ P):=⟨by rw[hP.out];omega⟩
  clear k5
  go_wp2_with fail
  go_ret
  exact Lfg.no HX.out hb.out
 have d5_0:decide (t.siz<0)=false:=by simp<;>omega
 by_cases k6:65535<t.siz
 ·have d6_0:decide (t.siz > 65535)=true:=by simp<;>omega
  have HX:Hid (¬ P):=⟨by rw[hP.out];omega⟩
  clear k6
  go_wp2_with fail
  go_ret
  exact Lfg.no HX.out hb.out
 have d6_0:decide (t.siz > 65535)=false:=by simp<;>omega
 by_cases k7:t.pres<0
 ·have d7_0:decide (t.pres<0)=true:=by simp<;>omega
  have HX:Hid (¬ P):=⟨by rw[hP.out];omega⟩
  clear k7
  go_wp2_with fail
  go_ret
  exact Lfg.no HX.out hb.out
 have d7_0:decide (t.pres<0)=false:=by simp<;>omega
 by_cases k8:2<t.pres
 ·have d8_0:decide (t.pres > 2)=true:=by simp<;>omega
  have HX:Hid (¬ P):=⟨by rw[hP.out];omega⟩
  clear k8
  go_wp2_with fail
  go_ret
  exact Lfg.no HX.out hb.out
 have d8_0:decide (t.pres > 2)=false:=by simp<;>omega
 have nB:c.B≠c.go:=h.out.ap.Bo
 have ng:c.g≠c.go:=by have:=h.out.ap.g;have:=h.out.ap.go;omega
 have x2:=h2.out.sc.c2
 have z2:W2.frozen? ⟨c.go,L.length*5+2,none⟩=false:=h2.out.op.frz _
 have hw:IntKind.i64.wrap (xt.off+xt.siz)=xt.off+xt.siz:=by rw[IntKind.wrap_i64];omega
 by_cases k9:t.off<xt.off
 ·have d9_0:decide (t.off<xt.off)=true:=by simp<;>omega
  have HX:Hid (¬ P):=⟨by rw[hP.out];omega⟩
  clear k9
  go_wp2_with fail
  go_ret
  exact Lfg.no HX.out hb.out
 have d9_0:decide (t.off<xt.off)=false:=by simp<;>omega
 by_cases k10:xt.off+xt.siz<t.off
 ·have d10_0:decide (t.off > xt.off+xt.siz)=true:=by simp<;>omega
  have HX:Hid (¬ P):=⟨by rw[hP.out];omega⟩
  clear k10
  go_wp2_with fail
  go_ret
  exact Lfg.no HX.out hb.out
 have d10_0:decide (t.off > xt.off+xt.siz)=false:=by simp<;>omega
 have hw1:IntKind.i64.wrap (xt.off+xt.siz-t.off)=xt.off+xt.siz-t.off:=by rw[IntKind.wrap_i64];omega
 by_cases k11:xt.off+xt.siz-t.off<t.siz
 ·have d11_0:decide (t.siz > xt.off+xt.siz-t.off)=true:=by simp<;>omega
  have HX:Hid (¬ P):=⟨by rw[hP.out];omega⟩
  clear k11
  go_wp2_with fail
  go_ret
  exact Lfg.no HX.out hb.out
 have d11_0:decide (t.siz > xt.off+xt.siz-t.off)=false:=by simp<;>omega
 have hw2:IntKind.i64.wrap (t.off+t.siz)=t.off+t.siz:=by rw[IntKind.wrap_i64];omega
 by_cases q7:0<t.siz
 ·have r8:decide (t.siz > 0)=true:=by simp;omega
  by_cases q8:t.off<x.en
  ·have r9:decide (t.off<x.en)=true:=by simp;omega
   have HX:Hid (¬ P):=⟨by rw[hP.out];omega⟩
   go_wp2_with fail
   go_quiet (fail)
   go_wp2_with fail
   go_ret
   exact Lfg.no HX.out (tdr hb.out)
  ·have r9:decide (t.off<x.en)=false:=by simp;omega
   have HX:Hid P:=⟨by rw[hP.out];omega⟩
   have HE:Hid (0<t.siz):=⟨q7⟩
   go_wp2_with fail
   go_quiet (fail)
   go_wp2_with fail
   go_ret
   refine Lfg.yes HX.out ((Kb.drewM (Kb.of_below hb.out) _).set (List.mem_singleton.2 rfl) _) (hQ.out _ ?_)
   rw[if_pos HE.out]
   exact(DB.out.below (tdr (Below.refl _ _))).wrote (j:=2) (by decide) rfl rfl
 ·have r8:decide (t.siz > 0)=false:=by simp;omega
  have HX:Hid P:=⟨by rw[hP.out];omega⟩
  have HE:Hid (t.siz<=0):=⟨by omega⟩
  go_wp2_with fail
  go_ret
  refine Lfg.yes HX.out (Kb.of_below hb.out) (hQ.out _ ?_)
  rw[if_neg (by have:=HE.out;omega)]
  exact DB.out
theorem refFitted_10 (c:Df) (f:Fm) (L:List Od) (x:Od) (xt t:Tk) (ids:List Int) (vi:Value) (w:World) (P:Prop) (Q:World->Prop) (h:Dt w c f L x xt t ids vi) (ho:xt.op=10)
  (hP:Hid (P↔(0<=t.siz/\t.siz<=65535/\0<=t.pres/\t.pres<=2/\t.off=xt.off/\t.siz=xt.siz/\t.pres=xt.pres/\t.len=1/\t.prim≠9/\t.prim≠10))) (hQ:Hid (∀ w',Dt w' c f L x xt t ids vi->Q w')) :
  Calls Tryz.prog 35 #[.pointer (some ⟨c.B,0,none⟩),.int .i64 (c.i:Int),.pointer (some ⟨c.go,L.length*5,none⟩)] w fun r w'=>Lfg r P c w w' (Q w'):=by
 have a2:(xt.op==2)=false:=by simp[ho]
 have a10:(xt.op==10)=true:=by simp[ho]
 have a12:(xt.op==12)=false:=by simp[ho]
 clear ho
 obtain⟨pc,cc,hT,hU,hC,hO⟩:=h.tk
 obtain⟨px,cx,hTx,hOx⟩:=h.xk
 have b12:=h.ds.c12
 have hii:(c.i:Int)<f.toks.length:=by have:=h.il;omega
 have hxl:(x.at_:Int)<f.toks.length:=by have:=h.xl;omega
 have hll:=h.ll
 have l1:=hT.load
 have hgo:=h.op.lt
 obtain⟨W1,s1,hA,hb1,hz1⟩:=ld_new w t pc cc
 have h1:=h.below hb1
 have hX1:=hTx.below (B:=w.heap.size) h.lg hb1
 obtain⟨p,p0,pB,pI,hNe,pc',pl,pk⟩:=clsT W1
 have f12:=fun θ=>(pc' c.B 12 h1.ds.lt θ).trans h1.ds.c12
 have f0:=fun θ=>(pc' c.go (L.length*5) h1.op.lt θ).trans h1.sc.c0
 have lu:=pl c.g _ xt px cx h1.lg hX1
 clear pc' pl pk hX1 hTx
 replace l1:=Hid.mk l1
 replace s1:=Hid.mk s1
 replace h:=Hid.mk h
 replace h1:=Hid.mk h1
 replace hA:=Hid.mk hA
 replace hb1:=Hid.mk hb1
 replace hO:=Hid.mk hO
 replace hOx:=Hid.mk hOx
 clear hT hU hC
 go_enter Tryz.func35,Tryz.ntmps35
 go_wp2_with (first
  | (guard_target =~ wpList _ _ _ (Oper.mk _ (Op.load 53 _) _ _ _ _::_) _ _;go_must (first|refine wpList_ld 53 _ rfl rfl _ _ rfl l1.out ?_);simp only[pts])
  | (guard_target =~ wpList _ _ _ (Oper.mk _ (Op.store 53 _ _) _ _ _ _::_) _ _;go_must (refine wpList_st 53 _ _ rfl rfl _ _ rfl rfl (s1.out _ rfl) ?_);simp only[pts]))
 refine wp_region_lp p (by kernel_rfl) (by kernel_rfl) (fun _ _ d _ _ h=>by cases d<;>exact h) p0 fun W hp=>?_
 repeat (first|(guard_target =~ Lx _ _ _ _ (Oper.mk _ (Op.load 53 _) _ _ _ _::_) _ _;(first|refine lx_ld lu rfl rfl ?_);simp only[pts])|(guard_target =~ Lx _ _ _ _ (Oper.mk _ (Op.alloc 53) _ _ _ _::_) _ _;refine lx_act (by rfl) (by rfl) ?_;intro K hK;go_simp;refine hK _ _ ⟨⟨_,pI _ ((pB _ hp).trans ((bel1 W _).mono (pB _ hp).size))⟩,rfl⟩ ?_;clear hK K)|(guard_target =~ Lx _ _ _ _ (Oper.mk _ (Op.store 53 _ _) _ _ _ _::_) _ _;obtain⟨W2,s2,hY,hb2,hz2⟩:=ld_new W xt px cx;refine lx_st (s2 _ rfl) ⟨⟨W2,pI _ ((pB _ hp).trans (hb2.mono (pB _ hp).size))⟩,rfl⟩ rfl rfl (by rfl) ?_;clear s2;simp only[pts])|(refine lx_one rfl ?_;(first|go_big_quiet_skip|(go_big_quiet_want;go_big_quiet_op;go_big_quiet_on));refine wpQuiet_nil ?_)|(refine lx_skip (by rfl) ?_;simp only[pts]))
 refine lx_done ?_
 have hbW:=pB _ hp
 have hb:Below w.heap.size w W2:=hb1.out.trans ((hbW.trans (hb2.mono hbW.size)).mono hb1.out.size)
 have h2:=h.out.below hb
 have hTT:TkC W2 w.heap.size 0 t pc cc:=hA.out.below (B:=W1.heap.size) (by omega) (hbW.trans (hb2.mono hbW.size))
 have gT:w.heap.size≠c.go:=by omega
 have gO:W.heap.size≠c.go:=by have:=hbW.size;omega
 have gTl:w.heap.size<W2.heap.size:=by have:=hbW.size;omega
 have gOl:W.heap.size<W2.heap.size:=by omega
 have t3:=hTT.c3
 have t4:=hTT.c4
 have t6:=hTT.c6
 have t7:=hTT.c7
 have t8:=hTT.c8
 have o0:=hY.c0
 have o3:=hY.c3
 have o4:=hY.c4
 have o8:=hY.c8
 replace h2:=Hid.mk h2
 replace hb:=Hid.mk hb
 replace hTT:=Hid.mk hTT
 replace hYY:Hid _:=⟨hY⟩
 clear pB pI p0 f0 f12 hNe hp lu hY hbW
 simp only[Nat.zero_add] at t3 t4 t6 t7 t8 o0 o3 o4 o8
 have DB:=h2.out
 replace DB:=Hid.mk DB
 by_cases k12:t.siz<0
 ·have d12_0:decide (t.siz<0)=true:=by simp<;>omega
  have HX:Hid (¬ P):=⟨by rw[hP.out];omega⟩
  clear k12
  go_wp2_with fail
  go_ret
  exact Lfg.no HX.out hb.out
 have d12_0:decide (t.siz<0)=false:=by simp<;>omega
 by_cases k13:65535<t.siz
 ·have d13_0:decide (t.siz > 65535)=true:=by simp<;>omega
  have HX:Hid (¬ P):=⟨by rw[hP.out];omega⟩
  clear k13
  go_wp2_with fail
  go_ret
  exact Lfg.no HX.out hb.out
 have d13_0:decide (t.siz > 65535)=false:=by simp<;>omega
 by_cases k14:t.pres<0
 ·have d14_0:decide (t.pres<0)=true:=by simp<;>omega
  have HX:Hid (¬ P):=⟨by rw[hP.out];omega⟩
  clear k14
  go_wp2_with fail
  go_ret
  exact Lfg.no HX.out hb.out
 have d14_0:decide (t.pres<0)=false:=by simp<;>omega
 by_cases k15:2<t.pres
 ·have d15_0:decide (t.pres > 2)=true:=by simp<;>omega
  have HX:Hid (¬ P):=⟨by rw[hP.out];omega⟩
  clear k15
  go_wp2_with fail
  go_ret
  exact Lfg.no HX.out hb.out
 have d15_0:decide (t.pres > 2)=false:=by simp<;>omega
 by_cases k16:t.prim=9
 ·have d16_0:(t.prim==9)=true:=by simp<;>omega
  have HX:Hid (¬ P):=⟨by rw[hP.out];omega⟩
  clear k16
  go_wp2_with fail
  go_ret
  exact Lfg.no HX.out hb.out
 have d16_0:(t.prim==9)=false:=by simp<;>omega
 by_cases k17:t.prim=10
 ·have d17_0:(t.prim==10)=true:=by simp<;>omega
  have HX:Hid (¬ P):=⟨by rw[hP.out];omega⟩
  clear k17
  go_wp2_with fail
  go_ret
  exact Lfg.no HX.out hb.out
 have d17_0:(t.prim==10)=false:=by simp<;>omega
 by_cases k18:¬ t.off=xt.off
 ·have d18_0:(t.off==xt.off)=false:=by simp<;>omega
  have HX:Hid (¬ P):=⟨by rw[hP.out];omega⟩
  clear k18
  go_wp2_with fail
  go_ret
  exact Lfg.no HX.out hb.out
 have d18_0:(t.off==xt.off)=true:=by simp<;>omega
 by_cases k19:¬ t.siz=xt.siz
 ·have d19_0:(t.siz==xt.siz)=false:=by simp<;>omega
  have HX:Hid (¬ P):=⟨by rw[hP.out];omega⟩
  clear k19
  go_wp2_with fail
  go_ret
  exact Lfg.no HX.out hb.out
 have d19_0:(t.siz==xt.siz)=true:=by simp<;>omega
 by_cases k20:¬ t.pres=xt.pres
 ·have d20_0:(t.pres==xt.pres)=false:=by simp<;>omega
  have HX:Hid (¬ P):=⟨by rw[hP.out];omega⟩
  clear k20
  go_wp2_with fail
  go_ret
  exact Lfg.no HX.out hb.out
 have d20_0:(t.pres==xt.pres)=true:=by simp<;>omega
 have HX:Hid (P↔t.len=1):=⟨by rw[hP.out];omega⟩
 clear k18 k19 k20
 go_wp2_with fail
 go_ret
 refine⟨_,rfl,Iff.trans ?_ HX.out.symm,fun _=>hb.out,Kb.of_below hb.out,fun _=>hQ.out _ DB.out⟩
 simp
theorem refFitted_12 (c:Df) (f:Fm) (L:List Od) (x:Od) (xt t:Tk) (ids:List Int) (vi:Value) (w:World) (P:Prop) (Q:World->Prop) (h:Dt w c f L x xt t ids vi) (ho:xt.op=12)
  (hP:Hid (P↔(0<=t.siz/\t.siz<=65535/\0<=t.pres/\t.pres<=2/\t.off=xt.off/\t.siz=xt.siz/\t.pres=xt.pres/\t.len=1/\5<=t.prim/\t.prim<=8))) (hQ:Hid (∀ w',Dt w' c f L x xt t ids vi->Q w')) :
  Calls Tryz.prog 35 #[.pointer (some ⟨c.B,0,none⟩),.int .i64 (c.i:Int),.pointer (some ⟨c.go,L.length*5,none⟩)] w fun r w'=>Lfg r P c w w' (Q w'):=by
 have a2:(xt.op==2)=false:=by simp[ho]
 have a10:(xt.op==10)=false:=by simp[ho]
 have a12:(xt.op==12)=true:=by simp[ho]
 clear ho
 obtain⟨pc,cc,hT,hU,hC,hO⟩:=h.tk
 obtain⟨px,cx,hTx,hOx⟩:=h.xk
 have b12:=h.ds.c12
 have hii:(c.i:Int)<f.toks.length:=by have:=h.il;omega
 have hxl:(x.at_:Int)<f.toks.length:=by have:=h.xl;omega
 have hll:=h.ll
 have l1:=hT.load
 have hgo:=h.op.lt
 obtain⟨W1,s1,hA,hb1,hz1⟩:=ld_new w t pc cc
 have h1:=h.below hb1
 have hX1:=hTx.below (B:=w.heap.size) h.lg hb1
 obtain⟨p,p0,pB,pI,hNe,pc',pl,pk⟩:=clsT W1
 have f12:=fun θ=>(pc' c.B 12 h1.ds.lt θ).trans h1.ds.c12
 have f0:=fun θ=>(pc' c.go (L.length*5) h1.op.lt θ).trans h1.sc.c0
 have lu:=pl c.g _ xt px cx h1.lg hX1
 clear pc' pl pk hX1 hTx
 replace l1:=Hid.mk l1
 replace s1:=Hid.mk s1
 replace h:=Hid.mk h
 replace h1:=Hid.mk h1
 replace hA:=Hid.mk hA
 replace hb1:=Hid.mk hb1
 replace hO:=Hid.mk hO
 replace hOx:=Hid.mk hOx
 clear hT hU hC
 go_enter Tryz.func35,Tryz.ntmps35
 go_wp2_with (first
  | (guard_target =~ wpList _ _ _ (Oper.mk _ (Op.load 53 _) _ _ _ _::_) _ _;go_must (first|refine wpList_ld 53 _ rfl rfl _ _ rfl l1.out ?_);simp only[pts])
  | (guard_target =~ wpList _ _ _ (Oper.mk _ (Op.store 53 _ _) _ _ _ _::_) _ _;go_must (refine wpList_st 53 _ _ rfl rfl _ _ rfl rfl (s1.out _ rfl) ?_);simp only[pts]))
 refine wp_region_lp p (by kernel_rfl) (by kernel_rfl) (fun _ _ d _ _ h=>by cases d<;>exact h) p0 fun W hp=>?_
 repeat (first|(guard_target =~ Lx _ _ _ _ (Oper.mk _ (Op.load 53 _) _ _ _ _::_) _ _;(first|refine lx_ld lu rfl rfl ?_);simp only[pts])|(guard_target =~ Lx _ _ _ _ (Oper.mk _ (Op.alloc 53) _ _ _ _::_) _ _;refine lx_act (by rfl) (by rfl) ?_;intro K hK;go_simp;refine hK _ _ ⟨⟨_,pI _ ((pB _ hp).trans ((bel1 W _).mono (pB _ hp).size))⟩,rfl⟩ ?_;clear hK K)|(guard_target =~ Lx _ _ _ _ (Oper.mk _ (Op.store 53 _ _) _ _ _ _::_) _ _;obtain⟨W2,s2,hY,hb2,hz2⟩:=ld_new W xt px cx;refine lx_st (s2 _ rfl) ⟨⟨W2,pI _ ((pB _ hp).trans (hb2.mono (pB _ hp).size))⟩,rfl⟩ rfl rfl (by rfl) ?_;clear s2;simp only[pts])|(refine lx_one rfl ?_;(first|go_big_quiet_skip|(go_big_quiet_want;go_big_quiet_op;go_big_quiet_on));refine wpQuiet_nil ?_)|(refine lx_skip (by rfl) ?_;simp only[pts]))
 refine lx_done ?_
 have hbW:=pB _ hp
 have hb:Below w.heap.size w W2:=hb1.out.trans ((hbW.trans (hb2.mono hbW.size)).mono hb1.out.size)
 have h2:=h.out.below hb
 have hTT:TkC W2 w.heap.size 0 t pc cc:=hA.out.below (B:=W1.heap.size) (by omega) (hbW.trans (hb2.mono hbW.size))
 have gT:w.heap.size≠c.go:=by omega
 have gO:W.heap.size≠c.go:=by have:=hbW.size;omega
 have gTl:w.heap.size<W2.heap.size:=by have:=hbW.size;omega
 have gOl:W.heap.size<W2.heap.size:=by omega
 have t3:=hTT.c3
 have t4:=hTT.c4
 have t6:=hTT.c6
 have t7:=hTT.c7
 have t8:=hTT.c8
 have o0:=hY.c0
 have o3:=hY.c3
 have o4:=hY.c4
 have o8:=hY.c8
 replace h2:=Hid.mk h2
 replace hb:=Hid.mk hb
 replace hTT:=Hid.mk hTT
 replace hYY:Hid _:=⟨hY⟩
 clear pB pI p0 f0 f12 hNe hp lu hY hbW
 simp only[Nat.zero_add] at t3 t4 t6 t7 t8 o0 o3 o4 o8
 have DB:=h2.out
 replace DB:=Hid.mk DB
 by_cases k21:t.siz<0
 ·have d21_0:decide (t.siz<0)=true:=by simp<;>omega
  have HX:Hid (¬ P):=⟨by rw[hP.out];omega⟩
  clear k21
  go_wp2_with fail
  go_ret
  exact Lfg.no HX.out hb.out
 have d21_0:decide (t.siz<0)=false:=by simp<;>omega
 by_cases k22:65535<t.siz
 ·have d22_0:decide (t.siz > 65535)=true:=by simp<;>omega
  have HX:Hid (¬ P):=⟨by rw[hP.out];omega⟩
  clear k22
  go_wp2_with fail
  go_ret
  exact Lfg.no HX.out hb.out
 have d22_0:decide (t.siz > 65535)=false:=by simp<;>omega
 by_cases k23:t.pres<0
 ·have d23_0:decide (t.pres<0)=true:=by simp<;>omega
  have HX:Hid (¬ P):=⟨by rw[hP.out];omega⟩
  clear k23
  go_wp2_with fail
  go_ret
  exact Lfg.no HX.out hb.out
 have d23_0:decide (t.pres<0)=false:=by simp<;>omega
 by_cases k24:2<t.pres
 ·have d24_0:decide (t.pres > 2)=true:=by simp<;>omega
  have HX:Hid (¬ P):=⟨by rw[hP.out];omega⟩
  clear k24
  go_wp2_with fail
  go_ret
  exact Lfg.no HX.out hb.out
 have d24_0:decide (t.pres > 2)=false:=by simp<;>omega
 by_cases k25:t.prim<5
 ·have d25_0:decide (t.prim<5)=true:=by simp<;>omega
  have HX:Hid (¬ P):=⟨by rw[hP.out];omega⟩
  clear k25
  go_wp2_with fail
  go_ret
  exact Lfg.no HX.out hb.out
 have d25_0:decide (t.prim<5)=false:=by simp<;>omega
 by_cases k26:8<t.prim
 ·have d26_0:decide (t.prim > 8)=true:=by simp<;>omega
  have HX:Hid (¬ P):=⟨by rw[hP.out];omega⟩
  clear k26
  go_wp2_with fail
  go_ret
  exact Lfg.no HX.out hb.out
 have d26_0:decide (t.prim > 8)=false:=by simp<;>omega
 by_cases k27:¬ t.off=xt.off
 ·have d27_0:(t.off==xt.off)=false:=by simp<;>omega
  have HX:Hid (¬ P):=⟨by rw[hP.out];omega⟩
  clear k27
  go_wp2_with fail
  go_ret
  exact Lfg.no HX.out hb.out
 have d27_0:(t.off==xt.off)=true:=by simp<;>omega
 by_cases k28:¬ t.siz=xt.siz
 ·have d28_0:(t.siz==xt.siz)=false:=by simp<;>omega
  have HX:Hid (¬ P):=⟨by rw[hP.out];omega⟩
  clear k28
  go_wp2_with fail
  go_ret
  exact Lfg.no HX.out hb.out
 have d28_0:(t.siz==xt.siz)=true:=by simp<;>omega
 by_cases k29:¬ t.pres=xt.pres
 ·have d29_0:(t.pres==xt.pres)=false:=by simp<;>omega
  have HX:Hid (¬ P):=⟨by rw[hP.out];omega⟩
  clear k29
  go_wp2_with fail
  go_ret
  exact Lfg.no HX.out hb.out
 have d29_0:(t.pres==xt.pres)=true:=by simp<;>omega
 have HX:Hid (P↔t.len=1):=⟨by rw[hP.out];omega⟩
 clear k27 k28 k29
 go_wp2_with fail
 go_ret
 refine⟨_,rfl,Iff.trans ?_ HX.out.symm,fun _=>hb.out,Kb.of_below hb.out,fun _=>hQ.out _ DB.out⟩
 simp
def cntD (l:List Tk) (op:Int) (L:List Od):Nat:=(L.filter fun x=>decide (((l[x.at_]?).map (·.op))=some op)).length
theorem cnt_le (l:List Tk) (op:Int) (L:List Od):cntD l op L<=L.length:=List.length_filter_le _ _
theorem cnt_dep {l:List Tk} {i:Nat} (op:Int) (o:List Sc) (h:∀ x∈o,ScOk l i x):cntD l op (o.reverse.map (odOf l))=depB op o:=by
 unfold cntD depB
 rw[List.map_reverse,List.filter_reverse,List.length_reverse,List.filter_map,List.length_map]
 congr 1
 apply List.filter_congr
 intro x hx
 have:=(h x hx).tk
 show decide (((l[x.at_]?).map (·.op))=some op)=_
 rw[this]
 simp
theorem refCount_any (c:Df) (f:Fm) (L:List Od) (x:Od) (xt t:Tk) (ids:List Int) (vi:Value) (op:Int) (w:World) (h:Dt w c f L x xt t ids vi) (hall:∀ y∈L++[x],y.at_<f.toks.length) :
  Calls Tryz.prog 36 #[.pointer (some ⟨c.B,0,none⟩),.int .i64 op] w fun r w'=>r = .returned (.int .i64 (cntD f.toks op (L++[x]):Int))/\Below w.heap.size w w':=by
 have hln:=h.ln
 have b13:=h.ds.c13
 have hll:=h.ll
 have hlL:(L++[x]).length=L.length+1:=by simp
 replace h:=Hid.mk h
 generalize hM:L++[x]=M at *
 go_enter Tryz.func36,Tryz.ntmps36
 go_wp2_with fail
 clear b13
 go_loopw [5,6] (fun qn q wr=>∃ j:Nat,j<=M.length/\q = .int .i64 j/\qn = .int .i64 (cntD f.toks op (M.take j):Int)/\Below w.heap.size w wr) (fun _ q _=>M.length-(RowKit.intOf q).toNat)
 case atStart=>exact⟨0,Nat.zero_le _,rfl,rfl,Below.refl _ _⟩
 case round =>
  obtain⟨j,hj,rfl,rfl,hB⟩:=hrel
  have h2:=h.out.below hB
  have b12:=h2.ds.c12
  have b13:=h2.ds.c13
  rw[<- hlL] at b13
  by_cases hlt:j<M.length
  ·obtain⟨y,hy⟩:∃ y,M[j]?=some y:=⟨M[j],List.getElem?_eq_getElem hlt⟩
   have hyl:=hall y (List.mem_of_getElem? hy)
   obtain⟨u,hu⟩:∃ u,f.toks[y.at_]?=some u:=⟨f.toks[y.at_],List.getElem?_eq_getElem hyl⟩
   obtain⟨pc,cc,hT,_,_,_⟩:=h2.at hu
   have c0:=hT.c0
   have hX:=(hM▸h2.op).at hy
   have x0:=hX.c0
   have hlti:(j:Int)<M.length:=by omega
   have hyi:(y.at_:Int)<f.toks.length:=by omega
   have hc:=cnt_le f.toks op (M.take j)
   have hc2:(M.take j).length<=j:=by rw[List.length_take];omega
   have hn:cntD f.toks op (M.take (j+1))=cntD f.toks op (M.take j)+if u.op=op then 1 else 0:=by
    rw[take_at hy]
    unfold cntD
    rw[List.filter_append,List.length_append]
    congr 1
    by_cases e:u.op=op
    ·simp[hu,e]
    ·simp[hu,e]
   generalize cntD f.toks op (M.take j)=n at hc hn
   replace h2:=Hid.mk h2
   clear hT hX
   by_cases e:u.op=op
   ·have d:(u.op==op)=true:=by simp[e]
    rw[if_pos e] at hn
    clear e
    go_wp2_with fail
    go_quiet (fail)
    go_wp2_with fail
    go_roundw
    case rel=>exact⟨j+1,by omega,by go_num,by rw[hn];go_num,tdr hB⟩
    case measure=>simp[RowKit.intOf];omega
   ·have d:(u.op==op)=false:=by simp[e]
    rw[if_neg e] at hn
    clear e
    go_wp2_with fail
    go_quiet (fail)
    go_wp2_with fail
    go_roundw
    case rel=>exact⟨j+1,by omega,by go_num,by rw[hn];rfl,tdr hB⟩
    case measure=>simp[RowKit.intOf];omega
  ·obtain rfl:j=M.length:=by omega
   rw[List.take_length]
   go_wp2_with fail
   go_ret
   exact⟨rfl,hB⟩
end Go.Proofs.YtjnafpefolgcoaaGreatDoor
