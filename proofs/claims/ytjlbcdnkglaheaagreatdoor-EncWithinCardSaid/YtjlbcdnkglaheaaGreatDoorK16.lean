import Derived.Test.YtjlbcdnkglaheaaGreatDoorK15
namespace Go.Proofs.YtjlbcdnkglaheaaGreatDoor
set_option maxRecDepth 1000000
set_option maxHeartbeats 16000000
open Go.ChangeShapes Go.WideShapes Go.ChangeAt Go.RowKit Go.Shelf Go.Maps
theorem ent_isField:∀ ag w,(callFunc 78 ag).run Tryz.prog w = .ok (.enter 78 ag) w:=enters_of Tryz.func78 (by kernel_rfl) rfl
def fldT (f:Fm) (x:Sv) (xt t u:Tk) (b1 b2:Bool):Bool:=nwT t b1 b2&&bet t.since x.fld f.ver&&(if t.pres=0 then (t.since==xt.since)&&inT x xt t u else if t.pres=1 then inT x xt t u else if t.pres=2 then (t.off==0)&&(t.siz==0)&&decide (0<t.cst.length) else false)
def fldX (x:Sv) (t:Tk):Sv:=if t.pres=2 then { x with fld:=t.since } else memX { x with fld:=t.since } t
theorem isField_any (c:Cf) (f:Fm) (L:List Sv) (x:Sv) (xt t:Tk) (rl:Value) (dep:Nat->Int) (wh:Bool) (w:World) (h:Ct w c f L x xt t rl dep wh) (n:Nat) (h1 h2 h3:Value->Prop) (b1 b2:Bool) (hm:Cm w c n h1 h2 h3) (hn:n<17592186043000) (hb1:b1=true↔¬ h1 (.int .i64 t.id)) (hb2:b2=true↔¬ h2 (nmK x.at_ t.name)) (u:Tk) (hu:f.toks[c.i+1]?=some u) (b3:0<=xt.blk/\xt.blk<=65535) :
  Calls Tryz.prog 78 #[.pointer (some ⟨c.B,0,none⟩),.pointer (some ⟨c.g,c.o+c.i*21,none⟩)] w fun r w'=>r = .returned (.bool (fldT f x xt t u b1 b2))/\Lft [c.m1,c.m2,c.go] w w' (fldT f x xt t u b1 b2) (Ct w' c f L (fldX x t) xt t rl dep wh/\Cm w' c (n+1) (fun v=>v = .int .i64 t.id\/h1 v) (fun v=>v=nmK x.at_ t.name\/h2 v) h3):=by
 have a:=h.ap
 have ng:c.g∉[c.m1,c.m2]:=notin2 (by have:=a.g;have:=a.m1;omega) (by have:=a.g;have:=a.m2;omega)
 have cT:=top_any c.B c.go L.length c.cap w h.ck.c0 h.ln
 have cB:=isBetween_any t.since x.fld f.ver
 have cP:=fun W (hW:Below w.heap.size w W)=>newPart_ct c f L x xt t rl dep wh n h1 h2 h3 b1 b2 W (h.below hW) (hm.below hW) hn hb1 hb2
 have cI:∀ W,Ct W c f L { x with fld:=t.since } xt t rl dep wh->Calls Tryz.prog 110 #[.pointer (some ⟨c.B,0,none⟩),.pointer (some ⟨c.g,c.o+c.i*21,none⟩)] W fun r w'=>r = .returned (.bool (inT x xt t u))/\Lfn [c.go] W w' (inT x xt t u) (Ct w' c f L (memX { x with fld:=t.since } t) xt t rl dep wh):=fun W hW=>isInBlock_any c f L { x with fld:=t.since } xt t rl dep wh W hW u hu b3
 have hK:∀ W1 W2,Kb [c.go] W1 W2->Cm W1 c (n+1) (fun v=>v = .int .i64 t.id\/h1 v) (fun v=>v=nmK x.at_ t.name\/h2 v) h3->Cm W2 c (n+1) (fun v=>v = .int .i64 t.id\/h1 v) (fun v=>v=nmK x.at_ t.name\/h2 v) h3:=fun W1 W2 hl hc=>hc.kept hl (notin1 (Ne.symm a.o1)) (notin1 (Ne.symm a.o2)) (notin1 (Ne.symm a.o3))
 have hV:∀ W,Ct W c f L x xt t rl dep wh->∃ pc cc,W.cell? ⟨c.g,c.o+c.i*21+3,none⟩=some (.int .i64 t.off)/\W.cell? ⟨c.g,c.o+c.i*21+4,none⟩=some (.int .i64 t.siz)/\W.cell? ⟨c.g,c.o+c.i*21+5,none⟩=some (.int .i64 t.since)/\W.cell? ⟨c.g,c.o+c.i*21+8,none⟩=some (.int .i64 t.pres)/\W.cell? ⟨c.g,c.o+c.i*21+12,none⟩=some (.slice pc t.cst.length cc)/\W.cell? ⟨c.go,L.length*8+4,none⟩=some (.int .i64 x.fld)/\W.frozen? ⟨c.go,L.length*8+4,none⟩=false:=fun W hW=>by
  obtain⟨pc,cc,hT,_⟩:=hW.tk
  exact⟨pc,cc,hT.c3,hT.c4,hT.c5,hT.c8,hT.c12,hW.sc.c4,hW.op.frz _⟩
 have hne:¬ c.g=c.go:=by have:=a.g;have:=a.go;omega
 have hne2:¬ c.go=c.g:=fun e=>hne e.symm
 have aB1:=a.B1
 have aB2:=a.B2
 have ao1:=a.o1
 have ao2:=a.o2
 have af1:=a.f1
 have af2:=a.f2
 replace h:=Hid.mk h
 clear hm hn hb1 hb2 hu a
 unfold fldT fldX
 obtain⟨q1,hq1⟩:∃ q,nwT t b1 b2=q:=⟨_,rfl⟩
 obtain⟨q2,hq2⟩:∃ q,bet t.since x.fld f.ver=q:=⟨_,rfl⟩
 obtain⟨q4,hq4⟩:∃ q,inT x xt t u=q:=⟨_,rfl⟩
 rw[hq1] at cP ⊢
 rw[hq2] at cB ⊢
 rw[hq4] at cI ⊢
 clear hq1 hq2 hq4
 rcases ch2 q1 q2 with e1|⟨e1,e2⟩|⟨e1,e2⟩
 ·subst e1
  go_enter Tryz.func78,Tryz.ntmps78
  go_wp2_with (go_at_call 92;refine cT.mono ?_;rintro _ w1 ⟨rfl,hb⟩)
  have g1:=h.out.below hb
  obtain⟨pc,cc,hT,hU,hcc,kT⟩:=g1.tk
  obtain⟨px,cx,hX,kX⟩:=g1.xk
  have hS:=g1.sc
  have hC:=g1.ck
  have hF:=g1.fm
  have hlg:=g1.lg
  have hlo:=g1.op.lt
  have hlf:=g1.fl
  obtain⟨p,pB,pK,hN,t5,s4,kf1,m2⟩:∃ p:World->Prop,(∀ W,p W->Kb [c.m1,c.m2] w1 W) /\
   (∀ W,Kb [c.m1,c.m2] w1 W->p W) /\
   Nonempty (CW p) /\
   (∀ θ:CW p,θ.w.cell? ⟨c.g,c.o+c.i*21+5,none⟩=some (.int .i64 t.since)) /\
   (∀ θ:CW p,θ.w.cell? ⟨c.go,L.length*8+4,none⟩=some (.int .i64 x.fld)) /\
   (∀ θ:CW p,θ.w.cell? ⟨c.B,1,none⟩=some (.pointer (some ⟨c.gf,0,none⟩))) /\
   (∀ θ:CW p,θ.w.cell? ⟨c.gf,2,none⟩=some (.int .i64 f.ver)) :=
   ⟨Kb [c.m1,c.m2] w1,
   fun _ h=>h,
   fun _ h=>h,
   ⟨⟨_,Kb.refl _ _⟩⟩,
   fun θ=>(θ.h.cell hlg ng).trans hT.c5,
   fun θ=>(θ.h.cell hlo (notin2 ao1 ao2)).trans hS.c4,
   fun θ=>(θ.h.cell hC.lt (notin2 aB1 aB2)).trans hC.c1,
   fun θ=>(θ.h.cell hlf (notin2 af1 af2)).trans (by simpa using hF.c2)⟩
  clear hT hX hS hC hF hU hcc hlg hlo hlf kT kX
  replace g1:=Hid.mk g1
  refine wp_region_lx p (by kernel_rfl) (by kernel_rfl) (fun _ _ d _ _ h=>by cases d<;>exact h) (pK _ (Kb.refl _ _).drew) ?_
  repeat (first|(refine lx_one rfl ?_;(first|go_big_quiet_skip|(go_big_quiet_want;go_big_quiet_op;go_big_quiet_on));refine wpQuiet_nil ?_)|(refine lx_call2 ent_isNewPart (cP w1.drew (tdr1 hb)) rfl rfl (by rfl) ?_;intro W1 hP;have k1:Kb [c.m1,c.m2] w1 W1:=(Kb.refl _ _).drew.trans hP.kb;refine⟨⟨⟨_,pK _ k1⟩,rfl⟩,?_⟩;simp only[pts])|(refine lx_skip (by rfl) ?_;simp only[pts]))
  refine lx_done ?_
  go_wp2_with fail
  all_goals
   go_ret
   exact⟨rfl,(Kb.of_below hb).trans (k1.mono (by simp)),fun e=>by simp at e⟩
 ·subst e1 e2
  go_enter Tryz.func78,Tryz.ntmps78
  go_wp2_with (go_at_call 92;refine cT.mono ?_;rintro _ w1 ⟨rfl,hb⟩)
  have g1:=h.out.below hb
  obtain⟨pc,cc,hT,hU,hcc,kT⟩:=g1.tk
  obtain⟨px,cx,hX,kX⟩:=g1.xk
  have hS:=g1.sc
  have hC:=g1.ck
  have hF:=g1.fm
  have hlg:=g1.lg
  have hlo:=g1.op.lt
  have hlf:=g1.fl
  obtain⟨p,pB,pK,hN,t5,s4,kf1,m2⟩:∃ p:World->Prop,(∀ W,p W->Kb [c.m1,c.m2] w1 W) /\
   (∀ W,Kb [c.m1,c.m2] w1 W->p W) /\
   Nonempty (CW p) /\
   (∀ θ:CW p,θ.w.cell? ⟨c.g,c.o+c.i*21+5,none⟩=some (.int .i64 t.since)) /\
   (∀ θ:CW p,θ.w.cell? ⟨c.go,L.length*8+4,none⟩=some (.int .i64 x.fld)) /\
   (∀ θ:CW p,θ.w.cell? ⟨c.B,1,none⟩=some (.pointer (some ⟨c.gf,0,none⟩))) /\
   (∀ θ:CW p,θ.w.cell? ⟨c.gf,2,none⟩=some (.int .i64 f.ver)) :=
   ⟨Kb [c.m1,c.m2] w1,
   fun _ h=>h,
   fun _ h=>h,
   ⟨⟨_,Kb.refl _ _⟩⟩,
   fun θ=>(θ.h.cell hlg ng).trans hT.c5,
   fun θ=>(θ.h.cell hlo (notin2 ao1 ao2)).trans hS.c4,
   fun θ=>(θ.h.cell hC.lt (notin2 aB1 aB2)).trans hC.c1,
   fun θ=>(θ.h.cell hlf (notin2 af1 af2)).trans (by simpa using hF.c2)⟩
  clear hT hX hS hC hF hU hcc hlg hlo hlf kT kX
  replace g1:=Hid.mk g1
  refine wp_region_lx p (by kernel_rfl) (by kernel_rfl) (fun _ _ d _ _ h=>by cases d<;>exact h) (pK _ (Kb.refl _ _).drew) ?_
  repeat (first|(refine lx_one rfl ?_;(first|go_big_quiet_skip|(go_big_quiet_want;go_big_quiet_op;go_big_quiet_on));refine wpQuiet_nil ?_)|(refine lx_call2 ent_isNewPart (cP w1.drew (tdr1 hb)) rfl rfl (by rfl) ?_;intro W1 hP;have k1:Kb [c.m1,c.m2] w1 W1:=(Kb.refl _ _).drew.trans hP.kb;refine⟨⟨⟨_,pK _ k1⟩,rfl⟩,?_⟩;simp only[pts])|(refine lx_call3 ent_isBetween (cB W1) rfl rfl rfl (by rfl) ?_;intro w' hw';obtain rfl:W1=w':=hw'.symm;refine⟨⟨⟨_,pK _ k1⟩,rfl⟩,?_⟩;simp only[pts])|(refine lx_skip (by rfl) ?_;simp only[pts]))
  refine lx_done ?_
  go_wp2_with fail
  all_goals
   go_ret
   exact⟨rfl,(Kb.of_below hb).trans (k1.mono (by simp)),fun e=>by simp at e⟩
 ·subst e1 e2
  by_cases p0:t.pres=0
  ·have d0:(t.pres==0)=true:=beq_iff_eq.2 p0
   rw[if_pos p0,if_neg (show ¬ t.pres=2 by omega)]
   clear p0
   rcases Bool.eq_false_or_eq_true (t.since==xt.since) with e3|e3
   all_goals
    go_enter Tryz.func78,Tryz.ntmps78
    go_wp2_with (go_at_call 92;refine cT.mono ?_;rintro _ w1 ⟨rfl,hb⟩)
    have g1:=h.out.below hb
    obtain⟨pc,cc,hT,hU,hcc,kT⟩:=g1.tk
    obtain⟨px,cx,hX,kX⟩:=g1.xk
    have hS:=g1.sc
    have hC:=g1.ck
    have hF:=g1.fm
    have hlg:=g1.lg
    have hlo:=g1.op.lt
    have hlf:=g1.fl
    obtain⟨p,pB,pK,hN,t5,s4,kf1,m2⟩:∃ p:World->Prop,(∀ W,p W->Kb [c.m1,c.m2] w1 W) /\
   (∀ W,Kb [c.m1,c.m2] w1 W->p W) /\
   Nonempty (CW p) /\
   (∀ θ:CW p,θ.w.cell? ⟨c.g,c.o+c.i*21+5,none⟩=some (.int .i64 t.since)) /\
   (∀ θ:CW p,θ.w.cell? ⟨c.go,L.length*8+4,none⟩=some (.int .i64 x.fld)) /\
   (∀ θ:CW p,θ.w.cell? ⟨c.B,1,none⟩=some (.pointer (some ⟨c.gf,0,none⟩))) /\
   (∀ θ:CW p,θ.w.cell? ⟨c.gf,2,none⟩=some (.int .i64 f.ver)) :=
     ⟨Kb [c.m1,c.m2] w1,
   fun _ h=>h,
   fun _ h=>h,
   ⟨⟨_,Kb.refl _ _⟩⟩,
   fun θ=>(θ.h.cell hlg ng).trans hT.c5,
   fun θ=>(θ.h.cell hlo (notin2 ao1 ao2)).trans hS.c4,
   fun θ=>(θ.h.cell hC.lt (notin2 aB1 aB2)).trans hC.c1,
   fun θ=>(θ.h.cell hlf (notin2 af1 af2)).trans (by simpa using hF.c2)⟩
    clear hT hX hS hC hF hU hcc hlg hlo hlf kT kX
    replace g1:=Hid.mk g1
    refine wp_region_lx p (by kernel_rfl) (by kernel_rfl) (fun _ _ d _ _ h=>by cases d<;>exact h) (pK _ (Kb.refl _ _).drew) ?_
    repeat (first|(refine lx_one rfl ?_;(first|go_big_quiet_skip|(go_big_quiet_want;go_big_quiet_op;go_big_quiet_on));refine wpQuiet_nil ?_)|(refine lx_call2 ent_isNewPart (cP w1.drew (tdr1 hb)) rfl rfl (by rfl) ?_;intro W1 hP;have k1:Kb [c.m1,c.m2] w1 W1:=(Kb.refl _ _).drew.trans hP.kb;refine⟨⟨⟨_,pK _ k1⟩,rfl⟩,?_⟩;simp only[pts])|(refine lx_call3 ent_isBetween (cB W1) rfl rfl rfl (by rfl) ?_;intro w' hw';obtain rfl:W1=w':=hw'.symm;refine⟨⟨⟨_,pK _ k1⟩,rfl⟩,?_⟩;simp only[pts])|(refine lx_skip (by rfl) ?_;simp only[pts]))
    refine lx_done ?_
    obtain⟨pd,cd,z3,z4,z5,z8,z12,y4,yf⟩:=hV _ (hP.ct rfl).1
    clear hN pB pK t5 s4 kf1 m2 hV cP cB cT
    have h3:Ct (W1.setCell ⟨c.go,L.length*8+4,none⟩ (.int .i64 t.since)) c f L { x with fld:=t.since } xt t rl dep wh:=(hP.ct rfl).1.wrote (x':={ x with fld:=t.since }) (j:=4) (v:=.int .i64 t.since) (by decide) rfl rfl
    have k3:Kb [c.m1,c.m2,c.go] w (W1.setCell ⟨c.go,L.length*8+4,none⟩ (.int .i64 t.since)):=((Kb.of_below hb).trans (k1.mono (by simp))).set (by simp) _
    have hc3:=hK _ (W1.setCell ⟨c.go,L.length*8+4,none⟩ (.int .i64 t.since)) ((Kb.refl _ _).set (List.mem_singleton.2 rfl) _) (hP.ct rfl).2
    replace h3:=Hid.mk h3
    replace k3:=Hid.mk k3
    replace hc3:=Hid.mk hc3
    go_wp2_with fail
    replace h3:=h3.out
    replace k3:=k3.out
    replace hc3:=hc3.out
    generalize (W1.setCell ⟨c.go,L.length*8+4,none⟩ (.int .i64 t.since))=w4 at h3 k3 hc3 ⊢
    have g5:=h3
    obtain⟨pc,cc,hT,hU,hcc,kT⟩:=g5.tk
    obtain⟨px,cx,hX,kX⟩:=g5.xk
    have hS:=g5.sc
    have hC:=g5.ck
    have hF:=g5.fm
    have hlg:=g5.lg
    have hlo:=g5.op.lt
    have hlf:=g5.fl
    obtain⟨p,pE,pK,hN,t5,x5,s0⟩:∃ p:World->Prop,(∀ W,p W->Kb [c.go] w4 W)/\(∀ W,Kb [c.go] w4 W/\W.cell? ⟨c.go,L.length*8,none⟩=some (.pointer (some ⟨c.g,c.o+x.at_*21,none⟩))->p W)/\Nonempty (CW p)/\(∀ θ:CW p,θ.w.cell? ⟨c.g,c.o+c.i*21+5,none⟩=some (.int .i64 t.since))/\(∀ θ:CW p,θ.w.cell? ⟨c.g,c.o+x.at_*21+5,none⟩=some (.int .i64 xt.since))/\(∀ θ:CW p,θ.w.cell? ⟨c.go,L.length*8,none⟩=some (.pointer (some ⟨c.g,c.o+x.at_*21,none⟩))) :=
     ⟨fun W=>Kb [c.go] w4 W/\W.cell? ⟨c.go,L.length*8,none⟩=some (.pointer (some ⟨c.g,c.o+x.at_*21,none⟩)),fun _ h=>h.1,fun _ h=>h,⟨⟨w4,Kb.refl _ _,hS.c0⟩⟩,fun θ=>(θ.h.1.cell hlg (notin1 hne)).trans hT.c5,fun θ=>(θ.h.1.cell hlg (notin1 hne)).trans hX.c5,fun θ=>θ.h.2⟩
    have pI:∀ w',Lfn [c.go] w4.drew w' q4 (Ct w' c f L (memX { x with fld:=t.since } t) xt t rl dep wh)->p w':=fun w' hl=>pK _ ⟨(Kb.refl _ _).drew.trans hl.kb,by
     cases hq:q4 with
     | true =>
      have:=(hl.ct hq).sc.c0
      unfold memX at this
      split at this<;>exact this
     | false=>exact((hl.nb hq).cell (p:=⟨c.go,L.length*8,none⟩) hlo).trans hS.c0⟩
    have hp0:p w4.drew:=pK _ ⟨(Kb.refl _ _).drew,hS.c0⟩
    clear hT hX hS hC hF hU hcc hlg hlo hlf kT kX g5 pE pK z3 z4 z5 z8 z12 y4 yf
    replace h3:=Hid.mk h3
    refine wp_region_lx p (by kernel_rfl) (by kernel_rfl) (fun _ _ d _ _ h=>by cases d<;>exact h) hp0 ?_
    repeat (first|(refine lx_one rfl ?_;(first|go_big_quiet_skip|(go_big_quiet_want;go_big_quiet_op;go_big_quiet_on));refine wpQuiet_nil ?_)|(refine lx_call2 ent_isInBlock (cI w4.drew (h3.out.below (tdr1 (Below.refl _ _)))) rfl rfl (by rfl) ?_;intro w5 hL;refine⟨⟨⟨_,pI _ hL⟩,rfl⟩,?_⟩;simp only[pts])|(refine lx_skip (by rfl) ?_;simp only[pts]))
    refine lx_done ?_
    go_wp2_with fail
    go_ret
    first
     | exact⟨rb (by simp[e3]),k3.trans ((Kb.refl _ _).drew.trans (hL.kb.mono (by simp))),fun e=>⟨hL.ct (by simpa[e3] using e),hK _ _ ((Kb.refl _ _).drew.trans hL.kb) hc3⟩⟩
     | exact⟨rb (by simp[e3]),k3.drew,fun e=>by simp[e3] at e⟩
  have d0:(t.pres==0)=false:=beqN p0
  rw[if_neg p0]
  by_cases p1:t.pres=1
  ·have d1:(t.pres==1)=true:=beq_iff_eq.2 p1
   rw[if_pos p1,if_neg (show ¬ t.pres=2 by omega)]
   clear p1 p0
   go_enter Tryz.func78,Tryz.ntmps78
   go_wp2_with (go_at_call 92;refine cT.mono ?_;rintro _ w1 ⟨rfl,hb⟩)
   have g1:=h.out.below hb
   obtain⟨pc,cc,hT,hU,hcc,kT⟩:=g1.tk
   obtain⟨px,cx,hX,kX⟩:=g1.xk
   have hS:=g1.sc
   have hC:=g1.ck
   have hF:=g1.fm
   have hlg:=g1.lg
   have hlo:=g1.op.lt
   have hlf:=g1.fl
   obtain⟨p,pB,pK,hN,t5,s4,kf1,m2⟩:∃ p:World->Prop,(∀ W,p W->Kb [c.m1,c.m2] w1 W) /\
   (∀ W,Kb [c.m1,c.m2] w1 W->p W) /\
   Nonempty (CW p) /\
   (∀ θ:CW p,θ.w.cell? ⟨c.g,c.o+c.i*21+5,none⟩=some (.int .i64 t.since)) /\
   (∀ θ:CW p,θ.w.cell? ⟨c.go,L.length*8+4,none⟩=some (.int .i64 x.fld)) /\
   (∀ θ:CW p,θ.w.cell? ⟨c.B,1,none⟩=some (.pointer (some ⟨c.gf,0,none⟩))) /\
   (∀ θ:CW p,θ.w.cell? ⟨c.gf,2,none⟩=some (.int .i64 f.ver)) :=
    ⟨Kb [c.m1,c.m2] w1,
   fun _ h=>h,
   fun _ h=>h,
   ⟨⟨_,Kb.refl _ _⟩⟩,
   fun θ=>(θ.h.cell hlg ng).trans hT.c5,
   fun θ=>(θ.h.cell hlo (notin2 ao1 ao2)).trans hS.c4,
   fun θ=>(θ.h.cell hC.lt (notin2 aB1 aB2)).trans hC.c1,
   fun θ=>(θ.h.cell hlf (notin2 af1 af2)).trans (by simpa using hF.c2)⟩
   clear hT hX hS hC hF hU hcc hlg hlo hlf kT kX
   replace g1:=Hid.mk g1
   refine wp_region_lx p (by kernel_rfl) (by kernel_rfl) (fun _ _ d _ _ h=>by cases d<;>exact h) (pK _ (Kb.refl _ _).drew) ?_
   repeat (first|(refine lx_one rfl ?_;(first|go_big_quiet_skip|(go_big_quiet_want;go_big_quiet_op;go_big_quiet_on));refine wpQuiet_nil ?_)|(refine lx_call2 ent_isNewPart (cP w1.drew (tdr1 hb)) rfl rfl (by rfl) ?_;intro W1 hP;have k1:Kb [c.m1,c.m2] w1 W1:=(Kb.refl _ _).drew.trans hP.kb;refine⟨⟨⟨_,pK _ k1⟩,rfl⟩,?_⟩;simp only[pts])|(refine lx_call3 ent_isBetween (cB W1) rfl rfl rfl (by rfl) ?_;intro w' hw';obtain rfl:W1=w':=hw'.symm;refine⟨⟨⟨_,pK _ k1⟩,rfl⟩,?_⟩;simp only[pts])|(refine lx_skip (by rfl) ?_;simp only[pts]))
   refine lx_done ?_
   obtain⟨pd,cd,z3,z4,z5,z8,z12,y4,yf⟩:=hV _ (hP.ct rfl).1
   clear hN pB pK t5 s4 kf1 m2 hV cP cB cT
   have h3:Ct (W1.setCell ⟨c.go,L.length*8+4,none⟩ (.int .i64 t.since)) c f L { x with fld:=t.since } xt t rl dep wh:=(hP.ct rfl).1.wrote (x':={ x with fld:=t.since }) (j:=4) (v:=.int .i64 t.since) (by decide) rfl rfl
   have k3:Kb [c.m1,c.m2,c.go] w (W1.setCell ⟨c.go,L.length*8+4,none⟩ (.int .i64 t.since)):=((Kb.of_below hb).trans (k1.mono (by simp))).set (by simp) _
   have hc3:=hK _ (W1.setCell ⟨c.go,L.length*8+4,none⟩ (.int .i64 t.since)) ((Kb.refl _ _).set (List.mem_singleton.2 rfl) _) (hP.ct rfl).2
   replace h3:=Hid.mk h3
   replace k3:=Hid.mk k3
   replace hc3:=Hid.mk hc3
   go_wp2_with (go_at_call 110;refine(cI _ h3.out).mono ?_;rintro _ w5 ⟨rfl,hL⟩)
   go_ret
   exact⟨rb (by simp),k3.out.trans (hL.kb.mono (by simp)),fun e=>⟨hL.ct (by simpa using e),hK _ _ hL.kb hc3.out⟩⟩
  have d1:(t.pres==1)=false:=beqN p1
  rw[if_neg p1]
  by_cases p2:t.pres=2
  ·have d2:(t.pres==2)=true:=beq_iff_eq.2 p2
   rw[if_pos p2,if_pos p2]
   clear p0 p1 p2
   obtain⟨nc,hnc⟩:∃ n,t.cst.length=n:=⟨_,rfl⟩
   rcases ch2 (t.off==0) (t.siz==0) with e3|⟨e3,e4⟩|⟨e3,e4⟩
   all_goals
    go_enter Tryz.func78,Tryz.ntmps78
    go_wp2_with (go_at_call 92;refine cT.mono ?_;rintro _ w1 ⟨rfl,hb⟩)
    have g1:=h.out.below hb
    obtain⟨pc,cc,hT,hU,hcc,kT⟩:=g1.tk
    obtain⟨px,cx,hX,kX⟩:=g1.xk
    have hS:=g1.sc
    have hC:=g1.ck
    have hF:=g1.fm
    have hlg:=g1.lg
    have hlo:=g1.op.lt
    have hlf:=g1.fl
    obtain⟨p,pB,pK,hN,t5,s4,kf1,m2⟩:∃ p:World->Prop,(∀ W,p W->Kb [c.m1,c.m2] w1 W) /\
   (∀ W,Kb [c.m1,c.m2] w1 W->p W) /\
   Nonempty (CW p) /\
   (∀ θ:CW p,θ.w.cell? ⟨c.g,c.o+c.i*21+5,none⟩=some (.int .i64 t.since)) /\
   (∀ θ:CW p,θ.w.cell? ⟨c.go,L.length*8+4,none⟩=some (.int .i64 x.fld)) /\
   (∀ θ:CW p,θ.w.cell? ⟨c.B,1,none⟩=some (.pointer (some ⟨c.gf,0,none⟩))) /\
   (∀ θ:CW p,θ.w.cell? ⟨c.gf,2,none⟩=some (.int .i64 f.ver)) :=
     ⟨Kb [c.m1,c.m2] w1,
   fun _ h=>h,
   fun _ h=>h,
   ⟨⟨_,Kb.refl _ _⟩⟩,
   fun θ=>(θ.h.cell hlg ng).trans hT.c5,
   fun θ=>(θ.h.cell hlo (notin2 ao1 ao2)).trans hS.c4,
   fun θ=>(θ.h.cell hC.lt (notin2 aB1 aB2)).trans hC.c1,
   fun θ=>(θ.h.cell hlf (notin2 af1 af2)).trans (by simpa using hF.c2)⟩
    clear hT hX hS hC hF hU hcc hlg hlo hlf kT kX
    replace g1:=Hid.mk g1
    refine wp_region_lx p (by kernel_rfl) (by kernel_rfl) (fun _ _ d _ _ h=>by cases d<;>exact h) (pK _ (Kb.refl _ _).drew) ?_
    repeat (first|(refine lx_one rfl ?_;(first|go_big_quiet_skip|(go_big_quiet_want;go_big_quiet_op;go_big_quiet_on));refine wpQuiet_nil ?_)|(refine lx_call2 ent_isNewPart (cP w1.drew (tdr1 hb)) rfl rfl (by rfl) ?_;intro W1 hP;have k1:Kb [c.m1,c.m2] w1 W1:=(Kb.refl _ _).drew.trans hP.kb;refine⟨⟨⟨_,pK _ k1⟩,rfl⟩,?_⟩;simp only[pts])|(refine lx_call3 ent_isBetween (cB W1) rfl rfl rfl (by rfl) ?_;intro w' hw';obtain rfl:W1=w':=hw'.symm;refine⟨⟨⟨_,pK _ k1⟩,rfl⟩,?_⟩;simp only[pts])|(refine lx_skip (by rfl) ?_;simp only[pts]))
    refine lx_done ?_
    obtain⟨pd,cd,z3,z4,z5,z8,z12,y4,yf⟩:=hV _ (hP.ct rfl).1
    clear hN pB pK t5 s4 kf1 m2 hV cP cB cT
    have h3:Ct (W1.setCell ⟨c.go,L.length*8+4,none⟩ (.int .i64 t.since)) c f L { x with fld:=t.since } xt t rl dep wh:=(hP.ct rfl).1.wrote (x':={ x with fld:=t.since }) (j:=4) (v:=.int .i64 t.since) (by decide) rfl rfl
    have k3:Kb [c.m1,c.m2,c.go] w (W1.setCell ⟨c.go,L.length*8+4,none⟩ (.int .i64 t.since)):=((Kb.of_below hb).trans (k1.mono (by simp))).set (by simp) _
    have hc3:=hK _ (W1.setCell ⟨c.go,L.length*8+4,none⟩ (.int .i64 t.since)) ((Kb.refl _ _).set (List.mem_singleton.2 rfl) _) (hP.ct rfl).2
    replace h3:=Hid.mk h3
    replace k3:=Hid.mk k3
    replace hc3:=Hid.mk hc3
    go_wp2_with fail
    all_goals
     go_ret
     exact⟨rb (by simp[*]),k3.out,fun e=>by first|(simp[*] at e;done)|exact⟨h3.out,hc3.out⟩⟩
  ·have d2:(t.pres==2)=false:=beqN p2
   rw[if_neg p2,if_neg p2]
   clear p0 p1 p2
   go_enter Tryz.func78,Tryz.ntmps78
   go_wp2_with (go_at_call 92;refine cT.mono ?_;rintro _ w1 ⟨rfl,hb⟩)
   have g1:=h.out.below hb
   obtain⟨pc,cc,hT,hU,hcc,kT⟩:=g1.tk
   obtain⟨px,cx,hX,kX⟩:=g1.xk
   have hS:=g1.sc
   have hC:=g1.ck
   have hF:=g1.fm
   have hlg:=g1.lg
   have hlo:=g1.op.lt
   have hlf:=g1.fl
   obtain⟨p,pB,pK,hN,t5,s4,kf1,m2⟩:∃ p:World->Prop,(∀ W,p W->Kb [c.m1,c.m2] w1 W) /\
   (∀ W,Kb [c.m1,c.m2] w1 W->p W) /\
   Nonempty (CW p) /\
   (∀ θ:CW p,θ.w.cell? ⟨c.g,c.o+c.i*21+5,none⟩=some (.int .i64 t.since)) /\
   (∀ θ:CW p,θ.w.cell? ⟨c.go,L.length*8+4,none⟩=some (.int .i64 x.fld)) /\
   (∀ θ:CW p,θ.w.cell? ⟨c.B,1,none⟩=some (.pointer (some ⟨c.gf,0,none⟩))) /\
   (∀ θ:CW p,θ.w.cell? ⟨c.gf,2,none⟩=some (.int .i64 f.ver)) :=
    ⟨Kb [c.m1,c.m2] w1,
   fun _ h=>h,
   fun _ h=>h,
   ⟨⟨_,Kb.refl _ _⟩⟩,
   fun θ=>(θ.h.cell hlg ng).trans hT.c5,
   fun θ=>(θ.h.cell hlo (notin2 ao1 ao2)).trans hS.c4,
   fun θ=>(θ.h.cell hC.lt (notin2 aB1 aB2)).trans hC.c1,
   fun θ=>(θ.h.cell hlf (notin2 af1 af2)).trans (by simpa using hF.c2)⟩
   clear hT hX hS hC hF hU hcc hlg hlo hlf kT kX
   replace g1:=Hid.mk g1
   refine wp_region_lx p (by kernel_rfl) (by kernel_rfl) (fun _ _ d _ _ h=>by cases d<;>exact h) (pK _ (Kb.refl _ _).drew) ?_
   repeat (first|(refine lx_one rfl ?_;(first|go_big_quiet_skip|(go_big_quiet_want;go_big_quiet_op;go_big_quiet_on));refine wpQuiet_nil ?_)|(refine lx_call2 ent_isNewPart (cP w1.drew (tdr1 hb)) rfl rfl (by rfl) ?_;intro W1 hP;have k1:Kb [c.m1,c.m2] w1 W1:=(Kb.refl _ _).drew.trans hP.kb;refine⟨⟨⟨_,pK _ k1⟩,rfl⟩,?_⟩;simp only[pts])|(refine lx_call3 ent_isBetween (cB W1) rfl rfl rfl (by rfl) ?_;intro w' hw';obtain rfl:W1=w':=hw'.symm;refine⟨⟨⟨_,pK _ k1⟩,rfl⟩,?_⟩;simp only[pts])|(refine lx_skip (by rfl) ?_;simp only[pts]))
   refine lx_done ?_
   obtain⟨pd,cd,z3,z4,z5,z8,z12,y4,yf⟩:=hV _ (hP.ct rfl).1
   clear hN pB pK t5 s4 kf1 m2 hV cP cB cT
   have h3:Ct (W1.setCell ⟨c.go,L.length*8+4,none⟩ (.int .i64 t.since)) c f L { x with fld:=t.since } xt t rl dep wh:=(hP.ct rfl).1.wrote (x':={ x with fld:=t.since }) (j:=4) (v:=.int .i64 t.since) (by decide) rfl rfl
   have k3:Kb [c.m1,c.m2,c.go] w (W1.setCell ⟨c.go,L.length*8+4,none⟩ (.int .i64 t.since)):=((Kb.of_below hb).trans (k1.mono (by simp))).set (by simp) _
   have hc3:=hK _ (W1.setCell ⟨c.go,L.length*8+4,none⟩ (.int .i64 t.since)) ((Kb.refl _ _).set (List.mem_singleton.2 rfl) _) (hP.ct rfl).2
   replace h3:=Hid.mk h3
   replace k3:=Hid.mk k3
   replace hc3:=Hid.mk hc3
   go_wp2_with fail
   all_goals
    go_ret
    exact⟨rfl,k3.out,fun e=>by simp at e⟩
end Go.Proofs.YtjlbcdnkglaheaaGreatDoor
