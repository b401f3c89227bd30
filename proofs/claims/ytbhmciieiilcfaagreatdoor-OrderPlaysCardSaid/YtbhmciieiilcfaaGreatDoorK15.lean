import Derived.Test.YtbhmciieiilcfaaGreatDoorK14
namespace Go.Proofs.YtbhmciieiilcfaaGreatDoor
set_option maxRecDepth 1000000
set_option maxHeartbeats 16000000
open Go.ChangeShapes Go.WideShapes Go.ChangeAt Go.RowKit Go.Shelf Go.Maps
theorem ent_isData:∀ ag w,(callFunc 88 ag).run Tryz.prog w = .ok (.enter 88 ag) w:=enters_of Tryz.func88 (by kernel_rfl) rfl
theorem ent_isGroup:∀ ag w,(callFunc 87 ag).run Tryz.prog w = .ok (.enter 87 ag) w:=enters_of Tryz.func87 (by kernel_rfl) rfl
theorem notin3 {a b c d:Nat} (h:a≠b) (h':a≠c) (h'':a≠d):a∉[b,c,d]:=fun e=>by simp at e;omega
def datT (f:Fm) (x:Sv) (xt t:Tk) (b1 b2:Bool):Bool:=nwT t b1 b2&&rowT f x xt t&&(t.a.o==0)&&numB t.a.p&&(t.siz==sz t.a.p)&&((t.prim==0)||(t.prim==5))
theorem isData_any (c:Cf) (f:Fm) (L:List Sv) (x:Sv) (xt t:Tk) (rl:Value) (dep:Nat->Int) (wh:Bool) (w:World) (h:Ct w c f L x xt t rl dep wh) (n:Nat) (h1 h2 h3:Value->Prop) (b1 b2:Bool) (hm:Cm w c n h1 h2 h3) (hn:n<17592186043000) (hb1:b1=true↔¬ h1 (.int .i64 t.id)) (hb2:b2=true↔¬ h2 (nmK x.at_ t.name)) :
  Calls Tryz.prog 88 #[.pointer (some ⟨c.B,0,none⟩),.pointer (some ⟨c.g,c.o+c.i*21,none⟩)] w fun r w'=>r = .returned (.bool (datT f x xt t b1 b2))/\Lft [c.m1,c.m2,c.go] w w' (datT f x xt t b1 b2) (Ct w' c f L (rowX x xt t) xt t rl dep wh/\Cm w' c (n+1) (fun v=>v = .int .i64 t.id\/h1 v) (fun v=>v=nmK x.at_ t.name\/h2 v) h3):=by
 have a:=h.ap
 have ng:c.g∉[c.m1,c.m2,c.go]:=by
  have:=a.g;have:=a.m1;have:=a.m2;have:=a.go
  exact notin3 (by omega) (by omega) (by omega)
 have nB:c.B∉[c.m1,c.m2,c.go]:=notin3 a.B1 a.B2 a.Bo
 have cP:=newPart_ct c f L x xt t rl dep wh n h1 h2 h3 b1 b2 w.drew (h.below (tdr1 (Below.refl _ _))) (hm.below (tdr1 (Below.refl _ _))) hn hb1 hb2
 have cR:=fun W (hW:Ct W c f L x xt t rl dep wh)=>isInRow_any c f L x xt t rl dep wh W hW
 obtain⟨pc,cc,hT,hU,hcc,kT⟩:=h.tk
 obtain⟨px,cx,hX,kX⟩:=h.xk
 have hS:=h.sc
 have hC:=h.ck
 have hF:=h.fm
 have hlg:=h.lg
 have hlo:=h.op.lt
 have hlf:=h.fl
 obtain⟨p,pB,pK,hN,t4,t6,t16,t17,cN,cS⟩:∃ p:World->Prop,(∀ W,p W->Kb [c.m1,c.m2,c.go] w W) /\
   (∀ W,Kb [c.m1,c.m2,c.go] w W->p W) /\
   Nonempty (CW p) /\
   (∀ θ:CW p,θ.w.cell? ⟨c.g,c.o+c.i*21+4,none⟩=some (.int .i64 t.siz)) /\
   (∀ θ:CW p,θ.w.cell? ⟨c.g,c.o+c.i*21+6,none⟩=some (.int .i64 t.prim)) /\
   (∀ θ:CW p,θ.w.cell? ⟨c.g,c.o+c.i*21+16,none⟩=some (.int .i64 t.a.p)) /\
   (∀ θ:CW p,θ.w.cell? ⟨c.g,c.o+c.i*21+17,none⟩=some (.int .i64 t.a.o)) /\
   (∀ W,p W->Calls Tryz.prog 114 #[.int .i64 t.a.p] W fun e w'=>e = .returned (.bool (numB t.a.p))/\p w') /\
   (∀ W,KT W->Calls Tryz.prog 115 #[.int .i64 t.a.p] W fun e w'=>e = .returned (.int .i64 (sz t.a.p))/\Below W.heap.size W w') :=
  ⟨Kb [c.m1,c.m2,c.go] w,
   fun _ h=>h,
   fun _ h=>h,
   ⟨⟨_,Kb.refl _ _⟩⟩,
   fun θ=>(θ.h.cell hlg ng).trans hT.c4,
   fun θ=>(θ.h.cell hlg ng).trans hT.c6,
   fun θ=>(θ.h.cell hlg ng).trans hT.c16,
   fun θ=>(θ.h.cell hlg ng).trans hT.c17,
   callS (isNumber_any t.a.p),
   fun W hW=>size_any t.a.p W hW⟩
 have cN2:=isNumber_any t.a.p
 have am:=a.m1
 have hmk:∀ W1 W2,Lft [c.go] W1 W2 true (Ct W2 c f L (rowX x xt t) xt t rl dep wh)->Cm W1 c (n+1) (fun v=>v = .int .i64 t.id\/h1 v) (fun v=>v=nmK x.at_ t.name\/h2 v) h3->Cm W2 c (n+1) (fun v=>v = .int .i64 t.id\/h1 v) (fun v=>v=nmK x.at_ t.name\/h2 v) h3:=fun W1 W2 hl hc=>hc.kept hl.kb (notin1 (Ne.symm a.o1)) (notin1 (Ne.symm a.o2)) (notin1 (Ne.symm a.o3))
 clear hT hX hS hC hF hU hcc hlg hlo hlf kT kX am a ng nB hm hn hb1 hb2
 replace h:=Hid.mk h
 unfold datT
 obtain⟨q1,hq1⟩:∃ q,nwT t b1 b2=q:=⟨_,rfl⟩
 obtain⟨q2,hq2⟩:∃ q,rowT f x xt t=q:=⟨_,rfl⟩
 obtain⟨q4,hq4⟩:∃ q,numB t.a.p=q:=⟨_,rfl⟩
 rw[hq1] at cP ⊢
 rw[hq2] at cR ⊢
 rw[hq4] at cN2 ⊢
 clear cN
 clear hq1 hq2 hq4
 rcases ch5 q1 q2 (t.a.o==0) q4 (t.siz==sz t.a.p) with e1|⟨e1,e2⟩|⟨e1,e2,e3⟩|⟨e1,e2,e3,e4⟩|⟨e1,e2,e3,e4,e5⟩|⟨e1,e2,e3,e4,e5⟩
 ·subst e1
  go_enter Tryz.func88,Tryz.ntmps88
  go_wp2_with fail
  refine wp_region_lx p (by kernel_rfl) (by kernel_rfl) (fun _ _ d _ _ h=>by cases d<;>exact h) (pK _ (Kb.refl _ _).drew) ?_
  repeat (first|(refine lx_one rfl ?_;(first|go_big_quiet_skip|(go_big_quiet_want;go_big_quiet_op;go_big_quiet_on));refine wpQuiet_nil ?_)|(refine lx_call2 ent_isNewPart cP rfl rfl (by rfl) ?_;intro W1 hP;have k1:Kb [c.m1,c.m2,c.go] w W1:=(Kb.refl _ _).drew.trans (hP.kb.mono (by simp));refine⟨⟨⟨_,pK _ k1⟩,rfl⟩,?_⟩;simp only[pts])|(refine lx_skip (by rfl) ?_;simp only[pts]))
  refine lx_done ?_
  go_wp2_with fail
  go_ret
  exact⟨rb (by simp),k1,fun e=>by simp at e⟩
 ·subst e1 e2
  go_enter Tryz.func88,Tryz.ntmps88
  go_wp2_with fail
  refine wp_region_lx p (by kernel_rfl) (by kernel_rfl) (fun _ _ d _ _ h=>by cases d<;>exact h) (pK _ (Kb.refl _ _).drew) ?_
  repeat (first|(refine lx_one rfl ?_;(first|go_big_quiet_skip|(go_big_quiet_want;go_big_quiet_op;go_big_quiet_on));refine wpQuiet_nil ?_)|(refine lx_call2 ent_isNewPart cP rfl rfl (by rfl) ?_;intro W1 hP;have k1:Kb [c.m1,c.m2,c.go] w W1:=(Kb.refl _ _).drew.trans (hP.kb.mono (by simp));refine⟨⟨⟨_,pK _ k1⟩,rfl⟩,?_⟩;simp only[pts])|(refine lx_call2 ent_isInRow (cR W1 (hP.ct rfl).1) rfl rfl (by rfl) ?_;intro W2 hR;have k2:Kb [c.m1,c.m2,c.go] w W2:=k1.trans (hR.kb.mono (by simp));refine⟨⟨⟨_,pK _ k2⟩,rfl⟩,?_⟩;simp only[pts])|(refine lx_skip (by rfl) ?_;simp only[pts]))
  refine lx_done ?_
  go_wp2_with fail
  go_ret
  exact⟨rb (by simp),k2,fun e=>by simp at e⟩
 ·subst e1 e2
  go_enter Tryz.func88,Tryz.ntmps88
  go_wp2_with fail
  refine wp_region_lx p (by kernel_rfl) (by kernel_rfl) (fun _ _ d _ _ h=>by cases d<;>exact h) (pK _ (Kb.refl _ _).drew) ?_
  repeat (first|(refine lx_one rfl ?_;(first|go_big_quiet_skip|(go_big_quiet_want;go_big_quiet_op;go_big_quiet_on));refine wpQuiet_nil ?_)|(refine lx_call2 ent_isNewPart cP rfl rfl (by rfl) ?_;intro W1 hP;have k1:Kb [c.m1,c.m2,c.go] w W1:=(Kb.refl _ _).drew.trans (hP.kb.mono (by simp));refine⟨⟨⟨_,pK _ k1⟩,rfl⟩,?_⟩;simp only[pts])|(refine lx_call2 ent_isInRow (cR W1 (hP.ct rfl).1) rfl rfl (by rfl) ?_;intro W2 hR;have k2:Kb [c.m1,c.m2,c.go] w W2:=k1.trans (hR.kb.mono (by simp));refine⟨⟨⟨_,pK _ k2⟩,rfl⟩,?_⟩;simp only[pts])|(refine lx_skip (by rfl) ?_;simp only[pts]))
  refine lx_done ?_
  go_wp2_with fail
  go_ret
  exact⟨rb (by simp[e3]),k2,fun e=>by simp[e3] at e⟩
 ·subst e1 e2 e4
  go_enter Tryz.func88,Tryz.ntmps88
  go_wp2_with fail
  refine wp_region_lx p (by kernel_rfl) (by kernel_rfl) (fun _ _ d _ _ h=>by cases d<;>exact h) (pK _ (Kb.refl _ _).drew) ?_
  repeat (first|(refine lx_one rfl ?_;(first|go_big_quiet_skip|(go_big_quiet_want;go_big_quiet_op;go_big_quiet_on));refine wpQuiet_nil ?_)|(refine lx_call2 ent_isNewPart cP rfl rfl (by rfl) ?_;intro W1 hP;have k1:Kb [c.m1,c.m2,c.go] w W1:=(Kb.refl _ _).drew.trans (hP.kb.mono (by simp));refine⟨⟨⟨_,pK _ k1⟩,rfl⟩,?_⟩;simp only[pts])|(refine lx_call2 ent_isInRow (cR W1 (hP.ct rfl).1) rfl rfl (by rfl) ?_;intro W2 hR;have k2:Kb [c.m1,c.m2,c.go] w W2:=k1.trans (hR.kb.mono (by simp));refine⟨⟨⟨_,pK _ k2⟩,rfl⟩,?_⟩;simp only[pts])|(refine lx_call1 ent_isNumber (cN2 W2) rfl (by rfl) ?_;intro w' hw';obtain rfl:W2=w':=hw'.symm;refine⟨⟨⟨_,pK _ k2⟩,rfl⟩,?_⟩;simp only[pts])|(refine lx_skip (by rfl) ?_;simp only[pts]))
  refine lx_done ?_
  go_wp2_with fail
  go_ret
  exact⟨rb (by simp),k2,fun e=>by simp at e⟩
 ·subst e1 e2 e4
  go_enter Tryz.func88,Tryz.ntmps88
  go_wp2_with fail
  refine wp_region_lx p (by kernel_rfl) (by kernel_rfl) (fun _ _ d _ _ h=>by cases d<;>exact h) (pK _ (Kb.refl _ _).drew) ?_
  repeat (first|(refine lx_one rfl ?_;(first|go_big_quiet_skip|(go_big_quiet_want;go_big_quiet_op;go_big_quiet_on));refine wpQuiet_nil ?_)|(refine lx_call2 ent_isNewPart cP rfl rfl (by rfl) ?_;intro W1 hP;have k1:Kb [c.m1,c.m2,c.go] w W1:=(Kb.refl _ _).drew.trans (hP.kb.mono (by simp));refine⟨⟨⟨_,pK _ k1⟩,rfl⟩,?_⟩;simp only[pts])|(refine lx_call2 ent_isInRow (cR W1 (hP.ct rfl).1) rfl rfl (by rfl) ?_;intro W2 hR;have k2:Kb [c.m1,c.m2,c.go] w W2:=k1.trans (hR.kb.mono (by simp));refine⟨⟨⟨_,pK _ k2⟩,rfl⟩,?_⟩;simp only[pts])|(refine lx_call1 ent_isNumber (cN2 W2) rfl (by rfl) ?_;intro w' hw';obtain rfl:W2=w':=hw'.symm;refine⟨⟨⟨_,pK _ k2⟩,rfl⟩,?_⟩;simp only[pts])|(refine lx_call1 ent_size (cS W2 (hR.ct rfl).kt) rfl (by rfl) ?_;intro W3 hb3;have k3:Kb [c.m1,c.m2,c.go] w W3:=k2.trans (Kb.of_below hb3);refine⟨⟨⟨_,pK _ k3⟩,rfl⟩,?_⟩;simp only[pts])|(refine lx_skip (by rfl) ?_;simp only[pts]))
  refine lx_done ?_
  go_wp2_with fail
  go_ret
  exact⟨rb (by simp),k3,fun e=>by simp at e⟩
 ·subst e1 e2 e4
  rcases Bool.eq_false_or_eq_true (t.prim==0) with e6|e6
  all_goals
   go_enter Tryz.func88,Tryz.ntmps88
   go_wp2_with fail
   refine wp_region_lx p (by kernel_rfl) (by kernel_rfl) (fun _ _ d _ _ h=>by cases d<;>exact h) (pK _ (Kb.refl _ _).drew) ?_
   repeat (first|(refine lx_one rfl ?_;(first|go_big_quiet_skip|(go_big_quiet_want;go_big_quiet_op;go_big_quiet_on));refine wpQuiet_nil ?_)|(refine lx_call2 ent_isNewPart cP rfl rfl (by rfl) ?_;intro W1 hP;have k1:Kb [c.m1,c.m2,c.go] w W1:=(Kb.refl _ _).drew.trans (hP.kb.mono (by simp));refine⟨⟨⟨_,pK _ k1⟩,rfl⟩,?_⟩;simp only[pts])|(refine lx_call2 ent_isInRow (cR W1 (hP.ct rfl).1) rfl rfl (by rfl) ?_;intro W2 hR;have k2:Kb [c.m1,c.m2,c.go] w W2:=k1.trans (hR.kb.mono (by simp));refine⟨⟨⟨_,pK _ k2⟩,rfl⟩,?_⟩;simp only[pts])|(refine lx_call1 ent_isNumber (cN2 W2) rfl (by rfl) ?_;intro w' hw';obtain rfl:W2=w':=hw'.symm;refine⟨⟨⟨_,pK _ k2⟩,rfl⟩,?_⟩;simp only[pts])|(refine lx_call1 ent_size (cS W2 (hR.ct rfl).kt) rfl (by rfl) ?_;intro W3 hb3;have k3:Kb [c.m1,c.m2,c.go] w W3:=k2.trans (Kb.of_below hb3);refine⟨⟨⟨_,pK _ k3⟩,rfl⟩,?_⟩;simp only[pts])|(refine lx_skip (by rfl) ?_;simp only[pts]))
   refine lx_done ?_
   go_wp2_with fail
   go_ret
   exact⟨rb (by simp),k3,fun _=>⟨(hR.ct rfl).below hb3,(hmk _ _ hR (hP.ct rfl).2).below hb3⟩⟩
theorem ent_isField:∀ ag w,(callFunc 86 ag).run Tryz.prog w = .ok (.enter 86 ag) w:=enters_of Tryz.func86 (by kernel_rfl) rfl
def fldT (f:Fm) (x:Sv) (xt t u:Tk) (b1 b2:Bool):Bool:=nwT t b1 b2&&bet t.since x.fld f.ver&&(if t.pres=0 then (t.since==xt.since)&&inT x xt t u else if t.pres=1 then inT x xt t u else if t.pres=2 then (t.off==0)&&(t.siz==0)&&decide (0<t.cst.length) else false)
def fldX (x:Sv) (t:Tk):Sv:=if t.pres=2 then { x with fld:=t.since } else memX { x with fld:=t.since } t
theorem isField_any (c:Cf) (f:Fm) (L:List Sv) (x:Sv) (xt t:Tk) (rl:Value) (dep:Nat->Int) (wh:Bool) (w:World) (h:Ct w c f L x xt t rl dep wh) (n:Nat) (h1 h2 h3:Value->Prop) (b1 b2:Bool) (hm:Cm w c n h1 h2 h3) (hn:n<17592186043000) (hb1:b1=true↔¬ h1 (.int .i64 t.id)) (hb2:b2=true↔¬ h2 (nmK x.at_ t.name)) (u:Tk) (hu:f.toks[c.i+1]?=some u) (b3:0<=xt.blk/\xt.blk<=65535) :
  Calls Tryz.prog 86 #[.pointer (some ⟨c.B,0,none⟩),.pointer (some ⟨c.g,c.o+c.i*21,none⟩)] w fun r w'=>r = .returned (.bool (fldT f x xt t u b1 b2))/\Lft [c.m1,c.m2,c.go] w w' (fldT f x xt t u b1 b2) (Ct w' c f L (fldX x t) xt t rl dep wh/\Cm w' c (n+1) (fun v=>v = .int .i64 t.id\/h1 v) (fun v=>v=nmK x.at_ t.name\/h2 v) h3):=by
 have a:=h.ap
 have ng:c.g∉[c.m1,c.m2]:=notin2 (by have:=a.g;have:=a.m1;omega) (by have:=a.g;have:=a.m2;omega)
 have cT:=top_any c.B c.go L.length c.cap w h.ck.c0 h.ln
 have cB:=isBetween_any t.since x.fld f.ver
 have cP:=fun W (hW:Below w.heap.size w W)=>newPart_ct c f L x xt t rl dep wh n h1 h2 h3 b1 b2 W (h.below hW) (hm.below hW) hn hb1 hb2
 have cI:∀ W,Ct W c f L { x with fld:=t.since } xt t rl dep wh->Calls Tryz.prog 112 #[.pointer (some ⟨c.B,0,none⟩),.pointer (some ⟨c.g,c.o+c.i*21,none⟩)] W fun r w'=>r = .returned (.bool (inT x xt t u))/\Lfn [c.go] W w' (inT x xt t u) (Ct w' c f L (memX { x with fld:=t.since } t) xt t rl dep wh):=fun W hW=>isInBlock_any c f L { x with fld:=t.since } xt t rl dep wh W hW u hu b3
 have hK:∀ W1 W2,Kb [c.go] W1 W2->Cm W1 c (n+1) (fun v=>v = .int .i64 t.id\/h1 v) (fun v=>v=nmK x.at_ t.name\/h2 v) h3->Cm W2 c (n+1) (fun v=>v = .int .i64 t.id\/h1 v) (fun v=>v=nmK x.at_ t.name\/h2 v) h3:=fun W1 W2 hl hc=>hc.kept hl (notin1 (Ne.symm a.o1)) (notin1 (Ne.symm a.o2)) (notin1 (Ne.symm a.o3))
 have hV:∀ W,Ct W c f L x xt t rl dep wh->∃ pc cc,W.cell? ⟨c.g,c.o+c.i*21+3,none⟩=some (.int .i64 t.off)/\W.cell? ⟨c.g,c.o+c.i*21+4,none⟩=some (.int .i64 t.siz)/\W.cell? ⟨c.g,c.o+c.i*21+5,none⟩=some (.int .i64 t.since)/\W.cell? ⟨c.g,c.o+c.i*21+8,none⟩=some (.int .i64 t.pres)/\W.cell? ⟨c.g,c.o+c.i*21+12,none⟩=some (.slice pc t.cst.length cc)/\W.cell? ⟨c.go,L.length*8+4,none⟩=some (.int .i64 x.fld)/\W.frozen? ⟨c.go,L.length*8+4,none⟩=false:=fun W hW=>by
  obtain⟨pc,cc,hT,_⟩:=hW.tk
  exact⟨pc,cc,hT.c3,hT.c4,hT.c5,hT.c8,hT.c12,hW.sc.c4,hW.op.frz _⟩
 have hne:¬ c.g=c.go:=by have:=a.g;have:=a.go;omega
 have hne2:¬ c.go=c.g:=fun e=>hne e.symm
 have aB1:=a.B1
 have aB2:=a.B2
 have ao1:=a.o1
 have ao2:=a.o2
 have af1:=a.f1
 have af2:=a.f2
 replace h:=Hid.mk h
 clear hm hn hb1 hb2 hu a
 unfold fldT fldX
 obtain⟨q1,hq1⟩:∃ q,nwT t b1 b2=q:=⟨_,rfl⟩
 obtain⟨q2,hq2⟩:∃ q,bet t.since x.fld f.ver=q:=⟨_,rfl⟩
 obtain⟨q4,hq4⟩:∃ q,inT x xt t u=q:=⟨_,rfl⟩
 rw[hq1] at cP ⊢
 rw[hq2] at cB ⊢
 rw[hq4] at cI ⊢
 clear hq1 hq2 hq4
 rcases ch2 q1 q2 with e1|⟨e1,e2⟩|⟨e1,e2⟩
 ·subst e1
  go_enter Tryz.func86,Tryz.ntmps86
  go_wp2_with (go_at_call 100;refine cT.mono ?_;rintro _ w1 ⟨rfl,hb⟩)
  have g1:=h.out.below hb
  obtain⟨pc,cc,hT,hU,hcc,kT⟩:=g1.tk
  obtain⟨px,cx,hX,kX⟩:=g1.xk
  have hS:=g1.sc
  have hC:=g1.ck
  have hF:=g1.fm
  have hlg:=g1.lg
  have hlo:=g1.op.lt
  have hlf:=g1.fl
  obtain⟨p,pB,pK,hN,t5,s4,kf1,m2⟩:∃ p:World->Prop,(∀ W,p W->Kb [c.m1,c.m2] w1 W) /\
   (∀ W,Kb [c.m1,c.m2] w1 W->p W) /\
   Nonempty (CW p) /\
   (∀ θ:CW p,θ.w.cell? ⟨c.g,c.o+c.i*21+5,none⟩=some (.int .i64 t.since)) /\
   (∀ θ:CW p,θ.w.cell? ⟨c.go,L.length*8+4,none⟩=some (.int .i64 x.fld)) /\
   (∀ θ:CW p,θ.w.cell? ⟨c.B,1,none⟩=some (.pointer (some ⟨c.gf,0,none⟩))) /\
   (∀ θ:CW p,θ.w.cell? ⟨c.gf,2,none⟩=some (.int .i64 f.ver)) :=
   ⟨Kb [c.m1,c.m2] w1,
   fun _ h=>h,
   fun _ h=>h,
   ⟨⟨_,Kb.refl _ _⟩⟩,
   fun θ=>(θ.h.cell hlg ng).trans hT.c5,
   fun θ=>(θ.h.cell hlo (notin2 ao1 ao2)).trans hS.c4,
   fun θ=>(θ.h.cell hC.lt (notin2 aB1 aB2)).trans hC.c1,
   fun θ=>(θ.h.cell hlf (notin2 af1 af2)).trans (by simpa using hF.c2)⟩
  clear hT hX hS hC hF hU hcc hlg hlo hlf kT kX
  replace g1:=Hid.mk g1
  refine wp_region_lx p (by kernel_rfl) (by kernel_rfl) (fun _ _ d _ _ h=>by cases d<;>exact h) (pK _ (Kb.refl _ _).drew) ?_
  repeat (first|(refine lx_one rfl ?_;(first|go_big_quiet_skip|(go_big_quiet_want;go_big_quiet_op;go_big_quiet_on));refine wpQuiet_nil ?_)|(refine lx_call2 ent_isNewPart (cP w1.drew (tdr1 hb)) rfl rfl (by rfl) ?_;intro W1 hP;have k1:Kb [c.m1,c.m2] w1 W1:=(Kb.refl _ _).drew.trans hP.kb;refine⟨⟨⟨_,pK _ k1⟩,rfl⟩,?_⟩;simp only[pts])|(refine lx_skip (by rfl) ?_;simp only[pts]))
  refine lx_done ?_
  go_wp2_with fail
  all_goals
   go_ret
   exact⟨rfl,(Kb.of_below hb).trans (k1.mono (by simp)),fun e=>by simp at e⟩
 ·subst e1 e2
  go_enter Tryz.func86,Tryz.ntmps86
  go_wp2_with (go_at_call 100;refine cT.mono ?_;rintro _ w1 ⟨rfl,hb⟩)
  have g1:=h.out.below hb
  obtain⟨pc,cc,hT,hU,hcc,kT⟩:=g1.tk
  obtain⟨px,cx,hX,kX⟩:=g1.xk
  have hS:=g1.sc
  have hC:=g1.ck
  have hF:=g1.fm
  have hlg:=g1.lg
  have hlo:=g1.op.lt
  have hlf:=g1.fl
  obtain⟨p,pB,pK,hN,t5,s4,kf1,m2⟩:∃ p:World->Prop,(∀ W,p W->Kb [c.m1,c.m2] w1 W) /\
   (∀ W,Kb [c.m1,c.m2] w1 W->p W) /\
   Nonempty (CW p) /\
   (∀ θ:CW p,θ.w.cell? ⟨c.g,c.o+c.i*21+5,none⟩=some (.int .i64 t.since)) /\
   (∀ θ:CW p,θ.w.cell? ⟨c.go,L.length*8+4,none⟩=some (.int .i64 x.fld)) /\
   (∀ θ:CW p,θ.w.cell? ⟨c.B,1,none⟩=some (.pointer (some ⟨c.gf,0,none⟩))) /\
   (∀ θ:CW p,θ.w.cell? ⟨c.gf,2,none⟩=some (.int .i64 f.ver)) :=
   ⟨Kb [c.m1,c.m2] w1,
   fun _ h=>h,
   fun _ h=>h,
   ⟨⟨_,Kb.refl _ _⟩⟩,
   fun θ=>(θ.h.cell hlg ng).trans hT.c5,
   fun θ=>(θ.h.cell hlo (notin2 ao1 ao2)).trans hS.c4,
   fun θ=>(θ.h.cell hC.lt (notin2 aB1 aB2)).trans hC.c1,
   fun θ=>(θ.h.cell hlf (notin2 af1 af2)).trans (by simpa using hF.c2)⟩
  clear hT hX hS hC hF hU hcc hlg hlo hlf kT kX
  replace g1:=Hid.mk g1
  refine wp_region_lx p (by kernel_rfl) (by kernel_rfl) (fun _ _ d _ _ h=>by cases d<;>exact h) (pK _ (Kb.refl _ _).drew) ?_
  repeat (first|(refine lx_one rfl ?_;(first|go_big_quiet_skip|(go_big_quiet_want;go_big_quiet_op;go_big_quiet_on));refine wpQuiet_nil ?_)|(refine lx_call2 ent_isNewPart (cP w1.drew (tdr1 hb)) rfl rfl (by rfl) ?_;intro W1 hP;have k1:Kb [c.m1,c.m2] w1 W1:=(Kb.refl _ _).drew.trans hP.kb;refine⟨⟨⟨_,pK _ k1⟩,rfl⟩,?_⟩;simp only[pts])|(refine lx_call3 ent_isBetween (cB W1) rfl rfl rfl (by rfl) ?_;intro w' hw';obtain rfl:W1=w':=hw'.symm;refine⟨⟨⟨_,pK _ k1⟩,rfl⟩,?_⟩;simp only[pts])|(refine lx_skip (by rfl) ?_;simp only[pts]))
  refine lx_done ?_
  go_wp2_with fail
  all_goals
   go_ret
   exact⟨rfl,(Kb.of_below hb).trans (k1.mono (by simp)),fun e=>by simp at e⟩
 ·subst e1 e2
  by_cases p0:t.pres=0
  ·have d0:(t.pres==0)=true:=beq_iff_eq.2 p0
   rw[if_pos p0,if_neg (show ¬ t.pres=2 by omega)]
   clear p0
   rcases Bool.eq_false_or_eq_true (t.since==xt.since) with e3|e3
   all_goals
    go_enter Tryz.func86,Tryz.ntmps86
    go_wp2_with (go_at_call 100;refine cT.mono ?_;rintro _ w1 ⟨rfl,hb⟩)
    have g1:=h.out.below hb
    obtain⟨pc,cc,hT,hU,hcc,kT⟩:=g1.tk
    obtain⟨px,cx,hX,kX⟩:=g1.xk
    have hS:=g1.sc
    have hC:=g1.ck
    have hF:=g1.fm
    have hlg:=g1.lg
    have hlo:=g1.op.lt
    have hlf:=g1.fl
    obtain⟨p,pB,pK,hN,t5,s4,kf1,m2⟩:∃ p:World->Prop,(∀ W,p W->Kb [c.m1,c.m2] w1 W) /\
   (∀ W,Kb [c.m1,c.m2] w1 W->p W) /\
   Nonempty (CW p) /\
   (∀ θ:CW p,θ.w.cell? ⟨c.g,c.o+c.i*21+5,none⟩=some (.int .i64 t.since)) /\
   (∀ θ:CW p,θ.w.cell? ⟨c.go,L.length*8+4,none⟩=some (.int .i64 x.fld)) /\
   (∀ θ:CW p,θ.w.cell? ⟨c.B,1,none⟩=some (.pointer (some ⟨c.gf,0,none⟩))) /\
   (∀ θ:CW p,θ.w.cell? ⟨c.gf,2,none⟩=some (.int .i64 f.ver)) :=
     ⟨Kb [c.m1,c.m2] w1,
   fun _ h=>h,
   fun _ h=>h,
   ⟨⟨_,Kb.refl _ _⟩⟩,
   fun θ=>(θ.h.cell hlg ng).trans hT.c5,
   fun θ=>(θ.h.cell hlo (notin2 ao1 ao2)).trans hS.c4,
   fun θ=>(θ.h.cell hC.lt (notin2 aB1 aB2)).trans hC.c1,
   fun θ=>(θ.h.cell hlf (notin2 af1 af2)).trans (by simpa using hF.c2)⟩
    clear hT hX hS hC hF hU hcc hlg hlo hlf kT kX
    replace g1:=Hid.mk g1
    refine wp_region_lx p (by kernel_rfl) (by kernel_rfl) (fun _ _ d _ _ h=>by cases d<;>exact h) (pK _ (Kb.refl _ _).drew) ?_
    repeat (first|(refine lx_one rfl ?_;(first|go_big_quiet_skip|(go_big_quiet_want;go_big_quiet_op;go_big_quiet_on));refine wpQuiet_nil ?_)|(refine lx_call2 ent_isNewPart (cP w1.drew (tdr1 hb)) rfl rfl (by rfl) ?_;intro W1 hP;have k1:Kb [c.m1,c.m2] w1 W1:=(Kb.refl _ _).drew.trans hP.kb;refine⟨⟨⟨_,pK _ k1⟩,rfl⟩,?_⟩;simp only[pts])|(refine lx_call3 ent_isBetween (cB W1) rfl rfl rfl (by rfl) ?_;intro w' hw';obtain rfl:W1=w':=hw'.symm;refine⟨⟨⟨_,pK _ k1⟩,rfl⟩,?_⟩;simp only[pts])|(refine lx_skip (by rfl) ?_;simp only[pts]))
    refine lx_done ?_
    obtain⟨pd,cd,z3,z4,z5,z8,z12,y4,yf⟩:=hV _ (hP.ct rfl).1
    clear hN pB pK t5 s4 kf1 m2 hV cP cB cT
    have h3:Ct (W1.setCell ⟨c.go,L.length*8+4,none⟩ (.int .i64 t.since)) c f L { x with fld:=t.since } xt t rl dep wh:=(hP.ct rfl).1.wrote (x':={ x with fld:=t.since }) (j:=4) (v:=.int .i64 t.since) (by decide) rfl rfl
    have k3:Kb [c.m1,c.m2,c.go] w (W1.setCell ⟨c.go,L.length*8+4,none⟩ (.int .i64 t.since)):=((Kb.of_below hb).trans (k1.mono (by simp))).set (by simp) _
    have hc3:=hK _ (W1.setCell ⟨c.go,L.length*8+4,none⟩ (.int .i64 t.since)) ((Kb.refl _ _).set (List.mem_singleton.2 rfl) _) (hP.ct rfl).2
    replace h3:=Hid.mk h3
    replace k3:=Hid.mk k3
    replace hc3:=Hid.mk hc3
    go_wp2_with fail
    replace h3:=h3.out
    replace k3:=k3.out
    replace hc3:=hc3.out
    generalize (W1.setCell ⟨c.go,L.length*8+4,none⟩ (.int .i64 t.since))=w4 at h3 k3 hc3 ⊢
    have g5:=h3
    obtain⟨pc,cc,hT,hU,hcc,kT⟩:=g5.tk
    obtain⟨px,cx,hX,kX⟩:=g5.xk
    have hS:=g5.sc
    have hC:=g5.ck
    have hF:=g5.fm
    have hlg:=g5.lg
    have hlo:=g5.op.lt
    have hlf:=g5.fl
    obtain⟨p,pE,pK,hN,t5,x5,s0⟩:∃ p:World->Prop,(∀ W,p W->Kb [c.go] w4 W)/\(∀ W,Kb [c.go] w4 W/\W.cell? ⟨c.go,L.length*8,none⟩=some (.pointer (some ⟨c.g,c.o+x.at_*21,none⟩))->p W)/\Nonempty (CW p)/\(∀ θ:CW p,θ.w.cell? ⟨c.g,c.o+c.i*21+5,none⟩=some (.int .i64 t.since))/\(∀ θ:CW p,θ.w.cell? ⟨c.g,c.o+x.at_*21+5,none⟩=some (.int .i64 xt.since))/\(∀ θ:CW p,θ.w.cell? ⟨c.go,L.length*8,none⟩=some (.pointer (some ⟨c.g,c.o+x.at_*21,none⟩))) :=
     ⟨fun W=>Kb [c.go] w4 W/\W.cell? ⟨c.go,L.length*8,none⟩=some (.pointer (some ⟨c.g,c.o+x.at_*21,none⟩)),fun _ h=>h.1,fun _ h=>h,⟨⟨w4,Kb.refl _ _,hS.c0⟩⟩,fun θ=>(θ.h.1.cell hlg (notin1 hne)).trans hT.c5,fun θ=>(θ.h.1.cell hlg (notin1 hne)).trans hX.c5,fun θ=>θ.h.2⟩
    have pI:∀ w',Lfn [c.go] w4.drew w' q4 (Ct w' c f L (memX { x with fld:=t.since } t) xt t rl dep wh)->p w':=fun w' hl=>pK _ ⟨(Kb.refl _ _).drew.trans hl.kb,by
     cases hq:q4 with
     | true =>
      have:=(hl.ct hq).sc.c0
      unfold memX at this
      split at this<;>exact this
     | false=>exact((hl.nb hq).cell (p:=⟨c.go,L.length*8,none⟩) hlo).trans hS.c0⟩
    have hp0:p w4.drew:=pK _ ⟨(Kb.refl _ _).drew,hS.c0⟩
    clear hT hX hS hC hF hU hcc hlg hlo hlf kT kX g5 pE pK z3 z4 z5 z8 z12 y4 yf
    replace h3:=Hid.mk h3
    refine wp_region_lx p (by kernel_rfl) (by kernel_rfl) (fun _ _ d _ _ h=>by cases d<;>exact h) hp0 ?_
    repeat (first|(refine lx_one rfl ?_;(first|go_big_quiet_skip|(go_big_quiet_want;go_big_quiet_op;go_big_quiet_on));refine wpQuiet_nil ?_)|(refine lx_call2 ent_isInBlock (cI w4.drew (h3.out.below (tdr1 (Below.refl _ _)))) rfl rfl (by rfl) ?_;intro w5 hL;refine⟨⟨⟨_,pI _ hL⟩,rfl⟩,?_⟩;simp only[pts])|(refine lx_skip (by rfl) ?_;simp only[pts]))
    refine lx_done ?_
    go_wp2_with fail
    go_ret
    first
     | exact⟨rb (by simp[e3]),k3.trans ((Kb.refl _ _).drew.trans (hL.kb.mono (by simp))),fun e=>⟨hL.ct (by simpa[e3] using e),hK _ _ ((Kb.refl _ _).drew.trans hL.kb) hc3⟩⟩
     | exact⟨rb (by simp[e3]),k3.drew,fun e=>by simp[e3] at e⟩
  have d0:(t.pres==0)=false:=beqN p0
  rw[if_neg p0]
  by_cases p1:t.pres=1
  ·have d1:(t.pres==1)=true:=beq_iff_eq.2 p1
   rw[if_pos p1,if_neg (show ¬ t.pres=2 by omega)]
   clear p1 p0
   go_enter Tryz.func86,Tryz.ntmps86
   go_wp2_with (go_at_call 100;refine cT.mono ?_;rintro _ w1 ⟨rfl,hb⟩)
   have g1:=h.out.below hb
   obtain⟨pc,cc,hT,hU,hcc,kT⟩:=g1.tk
   obtain⟨px,cx,hX,kX⟩:=g1.xk
   have hS:=g1.sc
   have hC:=g1.ck
   have hF:=g1.fm
   have hlg:=g1.lg
   have hlo:=g1.op.lt
   have hlf:=g1.fl
   obtain⟨p,pB,pK,hN,t5,s4,kf1,m2⟩:∃ p:World->Prop,(∀ W,p W->Kb [c.m1,c.m2] w1 W) /\
   (∀ W,Kb [c.m1,c.m2] w1 W->p W) /\
   Nonempty (CW p) /\
   (∀ θ:CW p,θ.w.cell? ⟨c.g,c.o+c.i*21+5,none⟩=some (.int .i64 t.since)) /\
   (∀ θ:CW p,θ.w.cell? ⟨c.go,L.length*8+4,none⟩=some (.int .i64 x.fld)) /\
   (∀ θ:CW p,θ.w.cell? ⟨c.B,1,none⟩=some (.pointer (some ⟨c.gf,0,none⟩))) /\
   (∀ θ:CW p,θ.w.cell? ⟨c.gf,2,none⟩=some (.int .i64 f.ver)) :=
    ⟨Kb [c.m1,c.m2] w1,
   fun _ h=>h,
   fun _ h=>h,
   ⟨⟨_,Kb.refl _ _⟩⟩,
   fun θ=>(θ.h.cell hlg ng).trans hT.c5,
   fun θ=>(θ.h.cell hlo (notin2 ao1 ao2)).trans hS.c4,
   fun θ=>(θ.h.cell hC.lt (notin2 aB1 aB2)).trans hC.c1,
   fun θ=>(θ.h.cell hlf (notin2 af1 af2)).trans (by simpa using hF.c2)⟩
   clear hT hX hS hC hF hU hcc hlg hlo hlf kT kX
   replace g1:=Hid.mk g1
   refine wp_region_lx p (by kernel_rfl) (by kernel_rfl) (fun _ _ d _ _ h=>by cases d<;>exact h) (pK _ (Kb.refl _ _).drew) ?_
   repeat (first|(refine lx_one rfl ?_;(first|go_big_quiet_skip|(go_big_quiet_want;go_big_quiet_op;go_big_quiet_on));refine wpQuiet_nil ?_)|(refine lx_call2 ent_isNewPart (cP w1.drew (tdr1 hb)) rfl rfl (by rfl) ?_;intro W1 hP;have k1:Kb [c.m1,c.m2] w1 W1:=(Kb.refl _ _).drew.trans hP.kb;refine⟨⟨⟨_,pK _ k1⟩,rfl⟩,?_⟩;simp only[pts])|(refine lx_call3 ent_isBetween (cB W1) rfl rfl rfl (by rfl) ?_;intro w' hw';obtain rfl:W1=w':=hw'.symm;refine⟨⟨⟨_,pK _ k1⟩,rfl⟩,?_⟩;simp only[pts])|(refine lx_skip (by rfl) ?_;simp only[pts]))
   refine lx_done ?_
   obtain⟨pd,cd,z3,z4,z5,z8,z12,y4,yf⟩:=hV _ (hP.ct rfl).1
   clear hN pB pK t5 s4 kf1 m2 hV cP cB cT
   have h3:Ct (W1.setCell ⟨c.go,L.length*8+4,none⟩ (.int .i64 t.since)) c f L { x with fld:=t.since } xt t rl dep wh:=(hP.ct rfl).1.wrote (x':={ x with fld:=t.since }) (j:=4) (v:=.int .i64 t.since) (by decide) rfl rfl
   have k3:Kb [c.m1,c.m2,c.go] w (W1.setCell ⟨c.go,L.length*8+4,none⟩ (.int .i64 t.since)):=((Kb.of_below hb).trans (k1.mono (by simp))).set (by simp) _
   have hc3:=hK _ (W1.setCell ⟨c.go,L.length*8+4,none⟩ (.int .i64 t.since)) ((Kb.refl _ _).set (List.mem_singleton.2 rfl) _) (hP.ct rfl).2
   replace h3:=Hid.mk h3
   replace k3:=Hid.mk k3
   replace hc3:=Hid.mk hc3
   go_wp2_with (go_at_call 112;refine(cI _ h3.out).mono ?_;rintro _ w5 ⟨rfl,hL⟩)
   go_ret
   exact⟨rb (by simp),k3.out.trans (hL.kb.mono (by simp)),fun e=>⟨hL.ct (by simpa using e),hK _ _ hL.kb hc3.out⟩⟩
  have d1:(t.pres==1)=false:=beqN p1
  rw[if_neg p1]
  by_cases p2:t.pres=2
  ·have d2:(t.pres==2)=true:=beq_iff_eq.2 p2
   rw[if_pos p2,if_pos p2]
   clear p0 p1 p2
   obtain⟨nc,hnc⟩:∃ n,t.cst.length=n:=⟨_,rfl⟩
   rcases ch2 (t.off==0) (t.siz==0) with e3|⟨e3,e4⟩|⟨e3,e4⟩
   all_goals
    go_enter Tryz.func86,Tryz.ntmps86
    go_wp2_with (go_at_call 100;refine cT.mono ?_;rintro _ w1 ⟨rfl,hb⟩)
    have g1:=h.out.below hb
    obtain⟨pc,cc,hT,hU,hcc,kT⟩:=g1.tk
    obtain⟨px,cx,hX,kX⟩:=g1.xk
    have hS:=g1.sc
    have hC:=g1.ck
    have hF:=g1.fm
    have hlg:=g1.lg
    have hlo:=g1.op.lt
    have hlf:=g1.fl
    obtain⟨p,pB,pK,hN,t5,s4,kf1,m2⟩:∃ p:World->Prop,(∀ W,p W->Kb [c.m1,c.m2] w1 W) /\
   (∀ W,Kb [c.m1,c.m2] w1 W->p W) /\
   Nonempty (CW p) /\
   (∀ θ:CW p,θ.w.cell? ⟨c.g,c.o+c.i*21+5,none⟩=some (.int .i64 t.since)) /\
   (∀ θ:CW p,θ.w.cell? ⟨c.go,L.length*8+4,none⟩=some (.int .i64 x.fld)) /\
   (∀ θ:CW p,θ.w.cell? ⟨c.B,1,none⟩=some (.pointer (some ⟨c.gf,0,none⟩))) /\
   (∀ θ:CW p,θ.w.cell? ⟨c.gf,2,none⟩=some (.int .i64 f.ver)) :=
     ⟨Kb [c.m1,c.m2] w1,
   fun _ h=>h,
   fun _ h=>h,
   ⟨⟨_,Kb.refl _ _⟩⟩,
   fun θ=>(θ.h.cell hlg ng).trans hT.c5,
   fun θ=>(θ.h.cell hlo (notin2 ao1 ao2)).trans hS.c4,
   fun θ=>(θ.h.cell hC.lt (notin2 aB1 aB2)).trans hC.c1,
   fun θ=>(θ.h.cell hlf (notin2 af1 af2)).trans (by simpa using hF.c2)⟩
    clear hT hX hS hC hF hU hcc hlg hlo hlf kT kX
    replace g1:=Hid.mk g1
    refine wp_region_lx p (by kernel_rfl) (by kernel_rfl) (fun _ _ d _ _ h=>by cases d<;>exact h) (pK _ (Kb.refl _ _).drew) ?_
    repeat (first|(refine lx_one rfl ?_;(first|go_big_quiet_skip|(go_big_quiet_want;go_big_quiet_op;go_big_quiet_on));refine wpQuiet_nil ?_)|(refine lx_call2 ent_isNewPart (cP w1.drew (tdr1 hb)) rfl rfl (by rfl) ?_;intro W1 hP;have k1:Kb [c.m1,c.m2] w1 W1:=(Kb.refl _ _).drew.trans hP.kb;refine⟨⟨⟨_,pK _ k1⟩,rfl⟩,?_⟩;simp only[pts])|(refine lx_call3 ent_isBetween (cB W1) rfl rfl rfl (by rfl) ?_;intro w' hw';obtain rfl:W1=w':=hw'.symm;refine⟨⟨⟨_,pK _ k1⟩,rfl⟩,?_⟩;simp only[pts])|(refine lx_skip (by rfl) ?_;simp only[pts]))
    refine lx_done ?_
    obtain⟨pd,cd,z3,z4,z5,z8,z12,y4,yf⟩:=hV _ (hP.ct rfl).1
    clear hN pB pK t5 s4 kf1 m2 hV cP cB cT
    have h3:Ct (W1.setCell ⟨c.go,L.length*8+4,none⟩ (.int .i64 t.since)) c f L { x with fld:=t.since } xt t rl dep wh:=(hP.ct rfl).1.wrote (x':={ x with fld:=t.since }) (j:=4) (v:=.int .i64 t.since) (by decide) rfl rfl
    have k3:Kb [c.m1,c.m2,c.go] w (W1.setCell ⟨c.go,L.length*8+4,none⟩ (.int .i64 t.since)):=((Kb.of_below hb).trans (k1.mono (by simp))).set (by simp) _
    have hc3:=hK _ (W1.setCell ⟨c.go,L.length*8+4,none⟩ (.int .i64 t.since)) ((Kb.refl _ _).set (List.mem_singleton.2 rfl) _) (hP.ct rfl).2
    replace h3:=Hid.mk h3
    replace k3:=Hid.mk k3
    replace hc3:=Hid.mk hc3
    go_wp2_with fail
    all_goals
     go_ret
     exact⟨rb (by simp[*]),k3.out,fun e=>by first|(simp[*] at e;done)|exact⟨h3.out,hc3.out⟩⟩
  ·have d2:(t.pres==2)=false:=beqN p2
   rw[if_neg p2,if_neg p2]
   clear p0 p1 p2
   go_enter Tryz.func86,Tryz.ntmps86
   go_wp2_with (go_at_call 100;refine cT.mono ?_;rintro _ w1 ⟨rfl,hb⟩)
   have g1:=h.out.below hb
   obtain⟨pc,cc,hT,hU,hcc,kT⟩:=g1.tk
   obtain⟨px,cx,hX,kX⟩:=g1.xk
   have hS:=g1.sc
   have hC:=g1.ck
   have hF:=g1.fm
   have hlg:=g1.lg
   have hlo:=g1.op.lt
   have hlf:=g1.fl
   obtain⟨p,pB,pK,hN,t5,s4,kf1,m2⟩:∃ p:World->Prop,(∀ W,p W->Kb [c.m1,c.m2] w1 W) /\
   (∀ W,Kb [c.m1,c.m2] w1 W->p W) /\
   Nonempty (CW p) /\
   (∀ θ:CW p,θ.w.cell? ⟨c.g,c.o+c.i*21+5,none⟩=some (.int .i64 t.since)) /\
   (∀ θ:CW p,θ.w.cell? ⟨c.go,L.length*8+4,none⟩=some (.int .i64 x.fld)) /\
   (∀ θ:CW p,θ.w.cell? ⟨c.B,1,none⟩=some (.pointer (some ⟨c.gf,0,none⟩))) /\
   (∀ θ:CW p,θ.w.cell? ⟨c.gf,2,none⟩=some (.int .i64 f.ver)) :=
    ⟨Kb [c.m1,c.m2] w1,
   fun _ h=>h,
   fun _ h=>h,
   ⟨⟨_,Kb.refl _ _⟩⟩,
   fun θ=>(θ.h.cell hlg ng).trans hT.c5,
   fun θ=>(θ.h.cell hlo (notin2 ao1 ao2)).trans hS.c4,
   fun θ=>(θ.h.cell hC.lt (notin2 aB1 aB2)).trans hC.c1,
   fun θ=>(θ.h.cell hlf (notin2 af1 af2)).trans (by simpa using hF.c2)⟩
   clear hT hX hS hC hF hU hcc hlg hlo hlf kT kX
   replace g1:=Hid.mk g1
   refine wp_region_lx p (by kernel_rfl) (by kernel_rfl) (fun _ _ d _ _ h=>by cases d<;>exact h) (pK _ (Kb.refl _ _).drew) ?_
   repeat (first|(refine lx_one rfl ?_;(first|go_big_quiet_skip|(go_big_quiet_want;go_big_quiet_op;go_big_quiet_on));refine wpQuiet_nil ?_)|(refine lx_call2 ent_isNewPart (cP w1.drew (tdr1 hb)) rfl rfl (by rfl) ?_;intro W1 hP;have k1:Kb [c.m1,c.m2] w1 W1:=(Kb.refl _ _).drew.trans hP.kb;refine⟨⟨⟨_,pK _ k1⟩,rfl⟩,?_⟩;simp only[pts])|(refine lx_call3 ent_isBetween (cB W1) rfl rfl rfl (by rfl) ?_;intro w' hw';obtain rfl:W1=w':=hw'.symm;refine⟨⟨⟨_,pK _ k1⟩,rfl⟩,?_⟩;simp only[pts])|(refine lx_skip (by rfl) ?_;simp only[pts]))
   refine lx_done ?_
   obtain⟨pd,cd,z3,z4,z5,z8,z12,y4,yf⟩:=hV _ (hP.ct rfl).1
   clear hN pB pK t5 s4 kf1 m2 hV cP cB cT
   have h3:Ct (W1.setCell ⟨c.go,L.length*8+4,none⟩ (.int .i64 t.since)) c f L { x with fld:=t.since } xt t rl dep wh:=(hP.ct rfl).1.wrote (x':={ x with fld:=t.since }) (j:=4) (v:=.int .i64 t.since) (by decide) rfl rfl
   have k3:Kb [c.m1,c.m2,c.go] w (W1.setCell ⟨c.go,L.length*8+4,none⟩ (.int .i64 t.since)):=((Kb.of_below hb).trans (k1.mono (by simp))).set (by simp) _
   have hc3:=hK _ (W1.setCell ⟨c.go,L.length*8+4,none⟩ (.int .i64 t.since)) ((Kb.refl _ _).set (List.mem_singleton.2 rfl) _) (hP.ct rfl).2
   replace h3:=Hid.mk h3
   replace k3:=Hid.mk k3
   replace hc3:=Hid.mk hc3
   go_wp2_with fail
   all_goals
    go_ret
    exact⟨rfl,k3.out,fun e=>by simp at e⟩
theorem ent_isChoice:∀ ag w,(callFunc 92 ag).run Tryz.prog w = .ok (.enter 92 ag) w:=enters_of Tryz.func92 (by kernel_rfl) rfl
theorem ent_fits:∀ ag w,(callFunc 121 ag).run Tryz.prog w = .ok (.enter 121 ag) w:=enters_of Tryz.func121 (by kernel_rfl) rfl
abbrev vlK (a:Nat) (v:Int):Value:=.agg #[.int .i64 (a:Int),.int .u64 v]
def choT (x:Sv) (xt t:Tk) (b2 b3:Bool):Bool:=bet t.since 0 65534&&b2&&b3&&(if xt.op=12 then decide (t.val<8*sz x.cod) else fitsP x.cod t.val)
theorem isChoice_any (c:Cf) (f:Fm) (L:List Sv) (x:Sv) (xt t:Tk) (rl:Value) (dep:Nat->Int) (wh:Bool) (w:World) (h:Ct w c f L x xt t rl dep wh) (n:Nat) (h1 h2 h3:Value->Prop) (b2 b3:Bool) (hm:Cm w c n h1 h2 h3) (hn:n<17592186043000) (hb2:b2=true↔¬ h2 (nmK x.at_ t.name)) (hb3:b3=true↔¬ h3 (vlK x.at_ t.val)) :
  Calls Tryz.prog 92 #[.pointer (some ⟨c.B,0,none⟩),.pointer (some ⟨c.g,c.o+c.i*21,none⟩)] w fun r w'=>r = .returned (.bool (choT x xt t b2 b3))/\Lft [c.m2,c.m3] w w' (choT x xt t b2 b3) (Ct w' c f L x xt t rl dep wh/\Cm w' c (n+1) h1 (fun v=>v=nmK x.at_ t.name\/h2 v) (fun v=>v=vlK x.at_ t.val\/h3 v)):=by
 have a:=h.ap
 have hll:=h.ll
 have hxl:=h.xl
 have hil:=h.il
 have ng:c.g∉[c.m2,c.m3]:=notin2 (by have:=a.g;have:=a.m2;omega) (by have:=a.g;have:=a.m3;omega)
 have ng2:c.g≠c.m2:=by have:=a.g;have:=a.m2;omega
 have cT:=top_any c.B c.go L.length c.cap w h.ck.c0 h.ln
 have cB:=isBetween_any t.since 0 65534
 have cN:∀ W,Ct W c f L x xt t rl dep wh->MHas W 176 c.m2 n h2->Calls Tryz.prog 119 #[.pointer (some ⟨c.B,0,none⟩),.pointer (some ⟨c.g,c.o+c.i*21,none⟩)] W fun r w'=>r = .returned (.bool b2)/\MHas w' 176 c.m2 (n+1) (fun v=>v=nmK x.at_ t.name\/h2 v)/\Kb [c.m2] W w':=fun W hW hM=>by
  obtain⟨pc,cc,hT,_,_,kT⟩:=hW.tk
  exact isNewName_any c.B c.gf c.go L.length c.cap c.g c.o c.g (c.o+c.i*21) c.m1 c.m2 c.m3 n c.i rl dep wh t x pc cc h2 b2 W hW.ck hW.sc hW.op.lt hT hW.lg hM a.B2 a.o2 ng2 hW.ln (by omega) (by omega) kT.name (by unfold i64ok;omega) hb2
 obtain⟨_,_,_,_,_,kT0⟩:=h.tk
 have kv:=kT0.val
 have cV:∀ W,MHas W 162 c.m3 n h3->Calls Tryz.prog 120 #[.map (some c.m3),vlK x.at_ t.val,.int .i64 (c.i:Int)] W fun r w'=>r = .returned (.bool b3)/\MHas w' 162 c.m3 (n+1) (fun v=>v=vlK x.at_ t.val\/h3 v)/\W.grownBy w' (some c.m3):=fun W hM=>isNewV_any c.m3 n x.at_ c.i t.val h3 b3 W hM (by omega) (by unfold i64ok;omega) kv (by unfold i64ok;omega) hb3
 have cS:∀ W,KT W->Calls Tryz.prog 115 #[.int .i64 x.cod] W fun e w'=>e = .returned (.int .i64 (sz x.cod))/\Below W.heap.size W w':=fun W hW=>size_any x.cod W hW
 have cF:∀ W,KT W->Calls Tryz.prog 121 #[.int .i64 x.cod,.int .u64 t.val] W fun e w'=>e = .returned (.bool (fitsP x.cod t.val))/\Below W.heap.size W w':=fun W hW=>Fits_any x.cod t.val W hW kv.1 (by have:=kv.2;omega)
 have hz8:=sz_b x.cod
 have e8:IntKind.i64.wrap (8*sz x.cod)=8*sz x.cod:=by rw[IntKind.wrap_i64];omega
 have e9:IntKind.u64.wrap (8*sz x.cod)=8*sz x.cod:=by rw[IntKind.wrap_u64];omega
 have hH:∀ W1 W2 W3,Ct W1 c f L x xt t rl dep wh->Cm W1 c n h1 h2 h3->MHas W2 176 c.m2 (n+1) (fun v=>v=nmK x.at_ t.name\/h2 v)->Kb [c.m2] W1 W2->MHas W3 162 c.m3 (n+1) (fun v=>v=vlK x.at_ t.val\/h3 v)->W2.grownBy W3 (some c.m3)->Ct W3 c f L x xt t rl dep wh/\Cm W3 c (n+1) h1 (fun v=>v=nmK x.at_ t.name\/h2 v) (fun v=>v=vlK x.at_ t.val\/h3 v):=fun W1 W2 W3 q1 q2 q3 q4 q5 q6=>by
  have k3:Kb [c.m3] W2 W3:=Kb.of_grown q6 (List.mem_singleton.2 rfl)
  have g2:=q1.kept q4 (by simp)
  exact⟨g2.kept k3 (by simp),((q2.m1.same (q4.block _ q2.m1.lt (notin1 a.m12))).same (k3.block _ (Nat.lt_of_lt_of_le q2.m1.lt q4.size) (notin1 a.m13))).mono (Nat.le_succ _),q3.same (k3.block _ q3.lt (notin1 a.m23)),q5,by omega⟩
 have a23:=a.m23
 have aB2:=a.B2
 have aB3:=a.B3
 have ao2:=a.o2
 have ao3:=a.o3
 replace h:=Hid.mk h
 replace hm:=Hid.mk hm
 clear kT0 kv hb2 hb3
 unfold choT
 obtain⟨q1,hq1⟩:∃ q,bet t.since 0 65534=q:=⟨_,rfl⟩
 obtain⟨q5,hq5⟩:∃ q,fitsP x.cod t.val=q:=⟨_,rfl⟩
 rw[hq1] at cB ⊢
 rw[hq5] at cF ⊢
 clear hq1 hq5
 rcases ch3 q1 b2 b3 with e1|⟨e1,e2⟩|⟨e1,e2,e3⟩|⟨e1,e2,e3⟩
 ·subst e1
  go_enter Tryz.func92,Tryz.ntmps92
  go_wp2_with (go_at_call 100;refine cT.mono ?_;rintro _ w1 ⟨rfl,hb⟩)
  have g1:=h.out.below hb
  obtain⟨pc,cc,hT,hU,hcc,kT⟩:=g1.tk
  obtain⟨px,cx,hX,kX⟩:=g1.xk
  have hS:=g1.sc
  have hC:=g1.ck
  have hF:=g1.fm
  have hlg:=g1.lg
  have hlo:=g1.op.lt
  have hlf:=g1.fl
  obtain⟨p,pB,pK,hN,t5,t13,s1,k2,k22⟩:∃ p:World->Prop,(∀ W,p W->Kb [c.m2,c.m3] w1 W) /\
   (∀ W,Kb [c.m2,c.m3] w1 W->p W) /\
   Nonempty (CW p) /\
   (∀ θ:CW p,θ.w.cell? ⟨c.g,c.o+c.i*21+5,none⟩=some (.int .i64 t.since)) /\
   (∀ θ:CW p,θ.w.cell? ⟨c.g,c.o+c.i*21+13,none⟩=some (.int .u64 t.val)) /\
   (∀ θ:CW p,θ.w.cell? ⟨c.go,L.length*8+1,none⟩=some (.int .i64 (x.at_:Int))) /\
   (∀ θ:CW p,θ.w.cell? ⟨c.B,2,none⟩=some (.int .i64 (c.i:Int))) /\
   (∀ θ:CW p,θ.w.cell? ⟨c.B,22,none⟩=some (.map (some c.m3))) :=
   ⟨Kb [c.m2,c.m3] w1,
   fun _ h=>h,
   fun _ h=>h,
   ⟨⟨_,Kb.refl _ _⟩⟩,
   fun θ=>(θ.h.cell hlg ng).trans hT.c5,
   fun θ=>(θ.h.cell hlg ng).trans hT.c13,
   fun θ=>(θ.h.cell hlo (notin2 ao2 ao3)).trans hS.c1,
   fun θ=>(θ.h.cell hC.lt (notin2 aB2 aB3)).trans hC.c2,
   fun θ=>(θ.h.cell hC.lt (notin2 aB2 aB3)).trans hC.c22⟩
  clear hT hX hS hC hF hU hcc hlg hlo hlf kT kX
  replace g1:=Hid.mk g1
  refine wp_region_lx p (by kernel_rfl) (by kernel_rfl) (fun _ _ d _ _ h=>by cases d<;>exact h) (pK _ (Kb.refl _ _).drew) ?_
  repeat (first|(refine lx_one rfl ?_;(first|go_big_quiet_skip|(go_big_quiet_want;go_big_quiet_op;go_big_quiet_on));refine wpQuiet_nil ?_)|(refine lx_call3 ent_isBetween (cB w1.drew) rfl rfl rfl (by rfl) ?_;intro w' hw';obtain rfl:w1.drew=w':=hw'.symm;refine⟨⟨⟨_,pK _ (Kb.refl _ _).drew⟩,rfl⟩,?_⟩;simp only[pts])|(refine lx_skip (by rfl) ?_;simp only[pts]))
  refine lx_done ?_
  go_wp2_with fail
  all_goals
   go_ret
   exact⟨rfl,(Kb.of_below hb).trans (Kb.refl _ _).drew,fun e=>by simp at e⟩
 ·subst e1 e2
  go_enter Tryz.func92,Tryz.ntmps92
  go_wp2_with (go_at_call 100;refine cT.mono ?_;rintro _ w1 ⟨rfl,hb⟩)
  have g1:=h.out.below hb
  obtain⟨pc,cc,hT,hU,hcc,kT⟩:=g1.tk
  obtain⟨px,cx,hX,kX⟩:=g1.xk
  have hS:=g1.sc
  have hC:=g1.ck
  have hF:=g1.fm
  have hlg:=g1.lg
  have hlo:=g1.op.lt
  have hlf:=g1.fl
  obtain⟨p,pB,pK,hN,t5,t13,s1,k2,k22⟩:∃ p:World->Prop,(∀ W,p W->Kb [c.m2,c.m3] w1 W) /\
   (∀ W,Kb [c.m2,c.m3] w1 W->p W) /\
   Nonempty (CW p) /\
   (∀ θ:CW p,θ.w.cell? ⟨c.g,c.o+c.i*21+5,none⟩=some (.int .i64 t.since)) /\
   (∀ θ:CW p,θ.w.cell? ⟨c.g,c.o+c.i*21+13,none⟩=some (.int .u64 t.val)) /\
   (∀ θ:CW p,θ.w.cell? ⟨c.go,L.length*8+1,none⟩=some (.int .i64 (x.at_:Int))) /\
   (∀ θ:CW p,θ.w.cell? ⟨c.B,2,none⟩=some (.int .i64 (c.i:Int))) /\
   (∀ θ:CW p,θ.w.cell? ⟨c.B,22,none⟩=some (.map (some c.m3))) :=
   ⟨Kb [c.m2,c.m3] w1,
   fun _ h=>h,
   fun _ h=>h,
   ⟨⟨_,Kb.refl _ _⟩⟩,
   fun θ=>(θ.h.cell hlg ng).trans hT.c5,
   fun θ=>(θ.h.cell hlg ng).trans hT.c13,
   fun θ=>(θ.h.cell hlo (notin2 ao2 ao3)).trans hS.c1,
   fun θ=>(θ.h.cell hC.lt (notin2 aB2 aB3)).trans hC.c2,
   fun θ=>(θ.h.cell hC.lt (notin2 aB2 aB3)).trans hC.c22⟩
  clear hT hX hS hC hF hU hcc hlg hlo hlf kT kX
  replace g1:=Hid.mk g1
  refine wp_region_lx p (by kernel_rfl) (by kernel_rfl) (fun _ _ d _ _ h=>by cases d<;>exact h) (pK _ (Kb.refl _ _).drew) ?_
  repeat (first|(refine lx_one rfl ?_;(first|go_big_quiet_skip|(go_big_quiet_want;go_big_quiet_op;go_big_quiet_on));refine wpQuiet_nil ?_)|(refine lx_call3 ent_isBetween (cB w1.drew) rfl rfl rfl (by rfl) ?_;intro w' hw';obtain rfl:w1.drew=w':=hw'.symm;refine⟨⟨⟨_,pK _ (Kb.refl _ _).drew⟩,rfl⟩,?_⟩;simp only[pts])|(refine lx_call2 ent_isNewName (cN w1.drew (g1.out.below (tdr1 (Below.refl _ _))) ((hm.out.below hb).below (tdr1 (Below.refl _ _))).m2) rfl rfl (by rfl) ?_;rintro W2 ⟨hM2,hk2⟩;have k2:Kb [c.m2,c.m3] w1 W2:=(Kb.refl _ _).drew.trans (hk2.mono (by simp));have hM3:=((hm.out.below hb).below (tdr1 (Below.refl _ _))).m3.same (hk2.block _ ((hm.out.below hb).below (tdr1 (Below.refl _ _))).m3.lt (notin1 (Ne.symm a23)));refine⟨⟨⟨_,pK _ k2⟩,rfl⟩,?_⟩;simp only[pts])|(refine lx_skip (by rfl) ?_;simp only[pts]))
  refine lx_done ?_
  go_wp2_with fail
  all_goals
   go_ret
   exact⟨rfl,(Kb.of_below hb).trans k2,fun e=>by simp at e⟩
 ·subst e1 e2 e3
  go_enter Tryz.func92,Tryz.ntmps92
  go_wp2_with (go_at_call 100;refine cT.mono ?_;rintro _ w1 ⟨rfl,hb⟩)
  have g1:=h.out.below hb
  obtain⟨pc,cc,hT,hU,hcc,kT⟩:=g1.tk
  obtain⟨px,cx,hX,kX⟩:=g1.xk
  have hS:=g1.sc
  have hC:=g1.ck
  have hF:=g1.fm
  have hlg:=g1.lg
  have hlo:=g1.op.lt
  have hlf:=g1.fl
  obtain⟨p,pB,pK,hN,t5,t13,s1,k2,k22⟩:∃ p:World->Prop,(∀ W,p W->Kb [c.m2,c.m3] w1 W) /\
   (∀ W,Kb [c.m2,c.m3] w1 W->p W) /\
   Nonempty (CW p) /\
   (∀ θ:CW p,θ.w.cell? ⟨c.g,c.o+c.i*21+5,none⟩=some (.int .i64 t.since)) /\
   (∀ θ:CW p,θ.w.cell? ⟨c.g,c.o+c.i*21+13,none⟩=some (.int .u64 t.val)) /\
   (∀ θ:CW p,θ.w.cell? ⟨c.go,L.length*8+1,none⟩=some (.int .i64 (x.at_:Int))) /\
   (∀ θ:CW p,θ.w.cell? ⟨c.B,2,none⟩=some (.int .i64 (c.i:Int))) /\
   (∀ θ:CW p,θ.w.cell? ⟨c.B,22,none⟩=some (.map (some c.m3))) :=
   ⟨Kb [c.m2,c.m3] w1,
   fun _ h=>h,
   fun _ h=>h,
   ⟨⟨_,Kb.refl _ _⟩⟩,
   fun θ=>(θ.h.cell hlg ng).trans hT.c5,
   fun θ=>(θ.h.cell hlg ng).trans hT.c13,
   fun θ=>(θ.h.cell hlo (notin2 ao2 ao3)).trans hS.c1,
   fun θ=>(θ.h.cell hC.lt (notin2 aB2 aB3)).trans hC.c2,
   fun θ=>(θ.h.cell hC.lt (notin2 aB2 aB3)).trans hC.c22⟩
  clear hT hX hS hC hF hU hcc hlg hlo hlf kT kX
  replace g1:=Hid.mk g1
  refine wp_region_lx p (by kernel_rfl) (by kernel_rfl) (fun _ _ d _ _ h=>by cases d<;>exact h) (pK _ (Kb.refl _ _).drew) ?_
  repeat (first|(refine lx_one rfl ?_;(first|go_big_quiet_skip|(go_big_quiet_want;go_big_quiet_op;go_big_quiet_on));refine wpQuiet_nil ?_)|(refine lx_call3 ent_isBetween (cB w1.drew) rfl rfl rfl (by rfl) ?_;intro w' hw';obtain rfl:w1.drew=w':=hw'.symm;refine⟨⟨⟨_,pK _ (Kb.refl _ _).drew⟩,rfl⟩,?_⟩;simp only[pts])|(refine lx_call2 ent_isNewName (cN w1.drew (g1.out.below (tdr1 (Below.refl _ _))) ((hm.out.below hb).below (tdr1 (Below.refl _ _))).m2) rfl rfl (by rfl) ?_;rintro W2 ⟨hM2,hk2⟩;have k2:Kb [c.m2,c.m3] w1 W2:=(Kb.refl _ _).drew.trans (hk2.mono (by simp));have hM3:=((hm.out.below hb).below (tdr1 (Below.refl _ _))).m3.same (hk2.block _ ((hm.out.below hb).below (tdr1 (Below.refl _ _))).m3.lt (notin1 (Ne.symm a23)));refine⟨⟨⟨_,pK _ k2⟩,rfl⟩,?_⟩;simp only[pts])|(refine lx_call3 ent_isNewV (cV W2 hM3) rfl rfl rfl (by rfl) ?_;rintro W3 ⟨hM4,hg3⟩;have k3:Kb [c.m2,c.m3] w1 W3:=k2.trans (Kb.of_grown hg3 (by simp));refine⟨⟨⟨_,pK _ k3⟩,rfl⟩,?_⟩;simp only[pts])|(refine lx_skip (by rfl) ?_;simp only[pts]))
  refine lx_done ?_
  go_wp2_with fail
  all_goals
   go_ret
   exact⟨rfl,(Kb.of_below hb).trans k3,fun e=>by simp at e⟩
 ·subst e1 e2 e3
  have hZ:∀ W,Ct W c f L x xt t rl dep wh->W.cell? ⟨c.g,c.o+c.i*21+13,none⟩=some (.int .u64 t.val)/\W.cell? ⟨c.go,L.length*8,none⟩=some (.pointer (some ⟨c.g,c.o+x.at_*21,none⟩))/\W.cell? ⟨c.g,c.o+x.at_*21,none⟩=some (.int .i64 xt.op)/\W.cell? ⟨c.go,L.length*8+7,none⟩=some (.int .i64 x.cod):=fun W hW=>by
   obtain⟨pc,cc,hT,_⟩:=hW.tk
   obtain⟨px,cx,hX,_⟩:=hW.xk
   exact⟨hT.c13,hW.sc.c0,hX.c0,hW.sc.c7⟩
  by_cases e4:xt.op=12
  ·have d4:(xt.op==12)=true:=beq_iff_eq.2 e4
   rw[if_pos e4]
   clear e4
   go_enter Tryz.func92,Tryz.ntmps92
   go_wp2_with (go_at_call 100;refine cT.mono ?_;rintro _ w1 ⟨rfl,hb⟩)
   have g1:=h.out.below hb
   obtain⟨pc,cc,hT,hU,hcc,kT⟩:=g1.tk
   obtain⟨px,cx,hX,kX⟩:=g1.xk
   have hS:=g1.sc
   have hC:=g1.ck
   have hF:=g1.fm
   have hlg:=g1.lg
   have hlo:=g1.op.lt
   have hlf:=g1.fl
   obtain⟨p,pB,pK,hN,t5,t13,s1,k2,k22⟩:∃ p:World->Prop,(∀ W,p W->Kb [c.m2,c.m3] w1 W) /\
   (∀ W,Kb [c.m2,c.m3] w1 W->p W) /\
   Nonempty (CW p) /\
   (∀ θ:CW p,θ.w.cell? ⟨c.g,c.o+c.i*21+5,none⟩=some (.int .i64 t.since)) /\
   (∀ θ:CW p,θ.w.cell? ⟨c.g,c.o+c.i*21+13,none⟩=some (.int .u64 t.val)) /\
   (∀ θ:CW p,θ.w.cell? ⟨c.go,L.length*8+1,none⟩=some (.int .i64 (x.at_:Int))) /\
   (∀ θ:CW p,θ.w.cell? ⟨c.B,2,none⟩=some (.int .i64 (c.i:Int))) /\
   (∀ θ:CW p,θ.w.cell? ⟨c.B,22,none⟩=some (.map (some c.m3))) :=
    ⟨Kb [c.m2,c.m3] w1,
   fun _ h=>h,
   fun _ h=>h,
   ⟨⟨_,Kb.refl _ _⟩⟩,
   fun θ=>(θ.h.cell hlg ng).trans hT.c5,
   fun θ=>(θ.h.cell hlg ng).trans hT.c13,
   fun θ=>(θ.h.cell hlo (notin2 ao2 ao3)).trans hS.c1,
   fun θ=>(θ.h.cell hC.lt (notin2 aB2 aB3)).trans hC.c2,
   fun θ=>(θ.h.cell hC.lt (notin2 aB2 aB3)).trans hC.c22⟩
   clear hT hX hS hC hF hU hcc hlg hlo hlf kT kX
   replace g1:=Hid.mk g1
   refine wp_region_lx p (by kernel_rfl) (by kernel_rfl) (fun _ _ d _ _ h=>by cases d<;>exact h) (pK _ (Kb.refl _ _).drew) ?_
   repeat (first|(refine lx_one rfl ?_;(first|go_big_quiet_skip|(go_big_quiet_want;go_big_quiet_op;go_big_quiet_on));refine wpQuiet_nil ?_)|(refine lx_call3 ent_isBetween (cB w1.drew) rfl rfl rfl (by rfl) ?_;intro w' hw';obtain rfl:w1.drew=w':=hw'.symm;refine⟨⟨⟨_,pK _ (Kb.refl _ _).drew⟩,rfl⟩,?_⟩;simp only[pts])|(refine lx_call2 ent_isNewName (cN w1.drew (g1.out.below (tdr1 (Below.refl _ _))) ((hm.out.below hb).below (tdr1 (Below.refl _ _))).m2) rfl rfl (by rfl) ?_;rintro W2 ⟨hM2,hk2⟩;have k2:Kb [c.m2,c.m3] w1 W2:=(Kb.refl _ _).drew.trans (hk2.mono (by simp));have hM3:=((hm.out.below hb).below (tdr1 (Below.refl _ _))).m3.same (hk2.block _ ((hm.out.below hb).below (tdr1 (Below.refl _ _))).m3.lt (notin1 (Ne.symm a23)));refine⟨⟨⟨_,pK _ k2⟩,rfl⟩,?_⟩;simp only[pts])|(refine lx_call3 ent_isNewV (cV W2 hM3) rfl rfl rfl (by rfl) ?_;rintro W3 ⟨hM4,hg3⟩;have k3:Kb [c.m2,c.m3] w1 W3:=k2.trans (Kb.of_grown hg3 (by simp));refine⟨⟨⟨_,pK _ k3⟩,rfl⟩,?_⟩;simp only[pts])|(refine lx_skip (by rfl) ?_;simp only[pts]))
   refine lx_done ?_
   have hh:=hH _ _ _ (g1.out.below (tdr1 (Below.refl _ _))) ((hm.out.below hb).below (tdr1 (Below.refl _ _))) hM2 hk2 hM4 hg3
   obtain⟨y13,y0,yx,y7⟩:=hZ _ hh.1
   replace hh:=Hid.mk hh
   clear hN pB pK t5 t13 s1 k22 hZ hH cN cV cB cT
   go_wp2_with fail
   obtain⟨p,pB,pK,hN,z13,z7⟩:∃ p:World->Prop,(∀ W,p W->Kb [] W3 W) /\
   (∀ W,Kb [] W3 W->p W) /\
   Nonempty (CW p) /\
   (∀ θ:CW p,θ.w.cell? ⟨c.g,c.o+c.i*21+13,none⟩=some (.int .u64 t.val)) /\
   (∀ θ:CW p,θ.w.cell? ⟨c.go,L.length*8+7,none⟩=some (.int .i64 x.cod)) :=
    ⟨Kb [] W3,
   fun _ h=>h,
   fun _ h=>h,
   ⟨⟨_,Kb.refl _ _⟩⟩,
   fun θ=>(θ.h.cell hh.out.1.lg List.not_mem_nil).trans y13,
   fun θ=>(θ.h.cell hh.out.1.op.lt List.not_mem_nil).trans y7⟩
   refine wp_region_lx p (by kernel_rfl) (by kernel_rfl) (fun _ _ d _ _ h=>by cases d<;>exact h) (pK _ (Kb.refl _ _).drew) ?_
   repeat (first|(refine lx_one rfl ?_;(first|go_big_quiet_skip|(go_big_quiet_want;go_big_quiet_op;go_big_quiet_on));refine wpQuiet_nil ?_)|(refine lx_call1 ent_size (cS W3.drew (hh.out.1.kt.up (tdr1 (Below.refl _ _)))) rfl (by rfl) ?_;intro W4 hb4;refine⟨⟨⟨_,pK _ ((Kb.refl _ _).drew.trans (Kb.of_below hb4))⟩,rfl⟩,?_⟩;simp only[pts])|(refine lx_skip (by rfl) ?_;simp only[pts]))
   refine lx_done ?_
   go_wp2_with fail
   go_ret
   exact⟨rb (by simp),(Kb.of_below hb).trans (k3.trans ((Kb.refl _ _).drew.trans (Kb.of_below hb4))),fun _=>⟨(hh.out.1.below (tdr1 (Below.refl _ _))).below hb4,(hh.out.2.below (tdr1 (Below.refl _ _))).below hb4⟩⟩
  ·have d4:(xt.op==12)=false:=beqN e4
   rw[if_neg e4]
   clear e4
   go_enter Tryz.func92,Tryz.ntmps92
   go_wp2_with (go_at_call 100;refine cT.mono ?_;rintro _ w1 ⟨rfl,hb⟩)
   have g1:=h.out.below hb
   obtain⟨pc,cc,hT,hU,hcc,kT⟩:=g1.tk
   obtain⟨px,cx,hX,kX⟩:=g1.xk
   have hS:=g1.sc
   have hC:=g1.ck
   have hF:=g1.fm
   have hlg:=g1.lg
   have hlo:=g1.op.lt
   have hlf:=g1.fl
   obtain⟨p,pB,pK,hN,t5,t13,s1,k2,k22⟩:∃ p:World->Prop,(∀ W,p W->Kb [c.m2,c.m3] w1 W) /\
   (∀ W,Kb [c.m2,c.m3] w1 W->p W) /\
   Nonempty (CW p) /\
   (∀ θ:CW p,θ.w.cell? ⟨c.g,c.o+c.i*21+5,none⟩=some (.int .i64 t.since)) /\
   (∀ θ:CW p,θ.w.cell? ⟨c.g,c.o+c.i*21+13,none⟩=some (.int .u64 t.val)) /\
   (∀ θ:CW p,θ.w.cell? ⟨c.go,L.length*8+1,none⟩=some (.int .i64 (x.at_:Int))) /\
   (∀ θ:CW p,θ.w.cell? ⟨c.B,2,none⟩=some (.int .i64 (c.i:Int))) /\
   (∀ θ:CW p,θ.w.cell? ⟨c.B,22,none⟩=some (.map (some c.m3))) :=
    ⟨Kb [c.m2,c.m3] w1,
   fun _ h=>h,
   fun _ h=>h,
   ⟨⟨_,Kb.refl _ _⟩⟩,
   fun θ=>(θ.h.cell hlg ng).trans hT.c5,
   fun θ=>(θ.h.cell hlg ng).trans hT.c13,
   fun θ=>(θ.h.cell hlo (notin2 ao2 ao3)).trans hS.c1,
   fun θ=>(θ.h.cell hC.lt (notin2 aB2 aB3)).trans hC.c2,
   fun θ=>(θ.h.cell hC.lt (notin2 aB2 aB3)).trans hC.c22⟩
   clear hT hX hS hC hF hU hcc hlg hlo hlf kT kX
   replace g1:=Hid.mk g1
   refine wp_region_lx p (by kernel_rfl) (by kernel_rfl) (fun _ _ d _ _ h=>by cases d<;>exact h) (pK _ (Kb.refl _ _).drew) ?_
   repeat (first|(refine lx_one rfl ?_;(first|go_big_quiet_skip|(go_big_quiet_want;go_big_quiet_op;go_big_quiet_on));refine wpQuiet_nil ?_)|(refine lx_call3 ent_isBetween (cB w1.drew) rfl rfl rfl (by rfl) ?_;intro w' hw';obtain rfl:w1.drew=w':=hw'.symm;refine⟨⟨⟨_,pK _ (Kb.refl _ _).drew⟩,rfl⟩,?_⟩;simp only[pts])|(refine lx_call2 ent_isNewName (cN w1.drew (g1.out.below (tdr1 (Below.refl _ _))) ((hm.out.below hb).below (tdr1 (Below.refl _ _))).m2) rfl rfl (by rfl) ?_;rintro W2 ⟨hM2,hk2⟩;have k2:Kb [c.m2,c.m3] w1 W2:=(Kb.refl _ _).drew.trans (hk2.mono (by simp));have hM3:=((hm.out.below hb).below (tdr1 (Below.refl _ _))).m3.same (hk2.block _ ((hm.out.below hb).below (tdr1 (Below.refl _ _))).m3.lt (notin1 (Ne.symm a23)));refine⟨⟨⟨_,pK _ k2⟩,rfl⟩,?_⟩;simp only[pts])|(refine lx_call3 ent_isNewV (cV W2 hM3) rfl rfl rfl (by rfl) ?_;rintro W3 ⟨hM4,hg3⟩;have k3:Kb [c.m2,c.m3] w1 W3:=k2.trans (Kb.of_grown hg3 (by simp));refine⟨⟨⟨_,pK _ k3⟩,rfl⟩,?_⟩;simp only[pts])|(refine lx_skip (by rfl) ?_;simp only[pts]))
   refine lx_done ?_
   have hh:=hH _ _ _ (g1.out.below (tdr1 (Below.refl _ _))) ((hm.out.below hb).below (tdr1 (Below.refl _ _))) hM2 hk2 hM4 hg3
   obtain⟨y13,y0,yx,y7⟩:=hZ _ hh.1
   replace hh:=Hid.mk hh
   clear hN pB pK t5 t13 s1 k22 hZ hH cN cV cB cT
   go_wp2_with fail
   obtain⟨p,pB,pK,hN,z13,z7⟩:∃ p:World->Prop,(∀ W,p W->Kb [] W3 W) /\
   (∀ W,Kb [] W3 W->p W) /\
   Nonempty (CW p) /\
   (∀ θ:CW p,θ.w.cell? ⟨c.g,c.o+c.i*21+13,none⟩=some (.int .u64 t.val)) /\
   (∀ θ:CW p,θ.w.cell? ⟨c.go,L.length*8+7,none⟩=some (.int .i64 x.cod)) :=
    ⟨Kb [] W3,
   fun _ h=>h,
   fun _ h=>h,
   ⟨⟨_,Kb.refl _ _⟩⟩,
   fun θ=>(θ.h.cell hh.out.1.lg List.not_mem_nil).trans y13,
   fun θ=>(θ.h.cell hh.out.1.op.lt List.not_mem_nil).trans y7⟩
   refine wp_region_lx p (by kernel_rfl) (by kernel_rfl) (fun _ _ d _ _ h=>by cases d<;>exact h) (pK _ (Kb.refl _ _).drew) ?_
   repeat (first|(refine lx_one rfl ?_;(first|go_big_quiet_skip|(go_big_quiet_want;go_big_quiet_op;go_big_quiet_on));refine wpQuiet_nil ?_)|(refine lx_call2 ent_fits (cF W3.drew (hh.out.1.kt.up (tdr1 (Below.refl _ _)))) rfl rfl (by rfl) ?_;intro W4 hb4;refine⟨⟨⟨_,pK _ ((Kb.refl _ _).drew.trans (Kb.of_below hb4))⟩,rfl⟩,?_⟩;simp only[pts])|(refine lx_skip (by rfl) ?_;simp only[pts]))
   refine lx_done ?_
   go_wp2_with fail
   go_ret
   exact⟨rb (by simp),(Kb.of_below hb).trans (k3.trans ((Kb.refl _ _).drew.trans (Kb.of_below hb4))),fun _=>⟨(hh.out.1.below (tdr1 (Below.refl _ _))).below hb4,(hh.out.2.below (tdr1 (Below.refl _ _))).below hb4⟩⟩
end Go.Proofs.YtbhmciieiilcfaaGreatDoor
