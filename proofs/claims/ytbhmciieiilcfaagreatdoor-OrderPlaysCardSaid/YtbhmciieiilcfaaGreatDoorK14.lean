import Derived.Test.YtbhmciieiilcfaaGreatDoorK08
namespace Go.Proofs.YtbhmciieiilcfaaGreatDoor
set_option maxRecDepth 1000000
set_option maxHeartbeats 16000000
open Go.ChangeShapes Go.WideShapes Go.ChangeAt Go.RowKit Go.Shelf Go.Maps
variable {c:Cf} {h1 h2 h3:Value->Prop} {n:Nat} {w w':World}
theorem ent_isPlaced:∀ ag w,(callFunc 90 ag).run Tryz.prog w = .ok (.enter 90 ag) w:=enters_of Tryz.func90 (by kernel_rfl) rfl
def codT (xt t:Tk):Bool:=decide (t.off=xt.off)&&decide (t.siz=xt.siz)&&decide (t.pres=xt.pres)&&decide (t.len=1)
theorem isCoding_any (c:Cf) (f:Fm) (L:List Sv) (x:Sv) (xt t:Tk) (rl:Value) (dep:Nat->Int) (wh:Bool) (w:World) (h:Ct w c f L x xt t rl dep wh) :
  Calls Tryz.prog 116 #[.pointer (some ⟨c.B,0,none⟩),.pointer (some ⟨c.g,c.o+c.i*21,none⟩)] w fun r w'=>r = .returned (.bool (codT xt t))/\Ct w' c f L { x with cod:=t.prim } xt t rl dep wh/\Kb [c.go] w w':=by
 have cT:=top_any c.B c.go L.length c.cap w h.ck.c0 h.ln
 have hY:∀ W,Below w.heap.size w W->W.cell? ⟨c.g,c.o+c.i*21+6,none⟩=some (.int .i64 t.prim)/\W.cell? ⟨c.go,L.length*8+7,none⟩=some (.int .i64 x.cod)/\W.frozen? ⟨c.go,L.length*8+7,none⟩=false:=fun W hW=>by
  obtain⟨pc,cc,hT,_⟩:=(h.below hW).tk
  exact⟨hT.c6,(h.below hW).sc.c7,(h.below hW).op.frz _⟩
 replace h:=Hid.mk h
 unfold codT
 rw[<- beqD,<- beqD,<- beqD,<- beqD]
 rcases ch3 (t.off==xt.off) (t.siz==xt.siz) (t.pres==xt.pres) with q1|⟨q1,q2⟩|⟨q1,q2,q3⟩|⟨q1,q2,q3⟩
 all_goals
  go_enter Tryz.func116,Tryz.ntmps116
  go_wp2_with (go_at_call 100;refine cT.mono ?_;rintro _ w1 ⟨rfl,hb⟩;obtain⟨y0,y1,y2⟩:=hY _ hb;clear hY)
  obtain⟨w2,hw2⟩:∃ w2,w2=w1.setCell ⟨c.go,L.length*8+7,none⟩ (.int .i64 t.prim):=⟨_,rfl⟩
  rw[<- hw2]
  have h2:Ct w2 c f L { x with cod:=t.prim } xt t rl dep wh:=by rw[hw2];exact(h.out.below hb).wrote (by decide) rfl rfl
  have hk2:Kb [c.go] w w2:=by rw[hw2];exact(Kb.of_below hb).set (List.mem_singleton.2 rfl) _
  clear hw2 y0 y1 y2 cT
  obtain⟨pc,cc,hT,hU,hcc,kT⟩:=h2.tk
  obtain⟨px,cx,hX,kX⟩:=h2.xk
  have hS:=h2.sc
  have hC:=h2.ck
  have hF:=h2.fm
  have hlg:=h2.lg
  have hlo:=h2.op.lt
  have hlf:=h2.fl
  obtain⟨p,pB,pK,hN,t3,t4,t7,t8,x3,x4,x8,s0⟩:∃ p:World->Prop,(∀ W,p W->Kb [] w2 W) /\
   (∀ W,Kb [] w2 W->p W) /\
   Nonempty (CW p) /\
   (∀ θ:CW p,θ.w.cell? ⟨c.g,c.o+c.i*21+3,none⟩=some (.int .i64 t.off)) /\
   (∀ θ:CW p,θ.w.cell? ⟨c.g,c.o+c.i*21+4,none⟩=some (.int .i64 t.siz)) /\
   (∀ θ:CW p,θ.w.cell? ⟨c.g,c.o+c.i*21+7,none⟩=some (.int .i64 t.len)) /\
   (∀ θ:CW p,θ.w.cell? ⟨c.g,c.o+c.i*21+8,none⟩=some (.int .i64 t.pres)) /\
   (∀ θ:CW p,θ.w.cell? ⟨c.g,c.o+x.at_*21+3,none⟩=some (.int .i64 xt.off)) /\
   (∀ θ:CW p,θ.w.cell? ⟨c.g,c.o+x.at_*21+4,none⟩=some (.int .i64 xt.siz)) /\
   (∀ θ:CW p,θ.w.cell? ⟨c.g,c.o+x.at_*21+8,none⟩=some (.int .i64 xt.pres)) /\
   (∀ θ:CW p,θ.w.cell? ⟨c.go,L.length*8,none⟩=some (.pointer (some ⟨c.g,c.o+x.at_*21,none⟩))) :=
   ⟨Kb [] w2,
   fun _ h=>h,
   fun _ h=>h,
   ⟨⟨_,Kb.refl _ _⟩⟩,
   fun θ=>(θ.h.cell hlg List.not_mem_nil).trans hT.c3,
   fun θ=>(θ.h.cell hlg List.not_mem_nil).trans hT.c4,
   fun θ=>(θ.h.cell hlg List.not_mem_nil).trans hT.c7,
   fun θ=>(θ.h.cell hlg List.not_mem_nil).trans hT.c8,
   fun θ=>(θ.h.cell hlg List.not_mem_nil).trans hX.c3,
   fun θ=>(θ.h.cell hlg List.not_mem_nil).trans hX.c4,
   fun θ=>(θ.h.cell hlg List.not_mem_nil).trans hX.c8,
   fun θ=>(θ.h.cell hlo List.not_mem_nil).trans hS.c0⟩
  clear hT hX hS hC hF hU hcc hlg hlo hlf
  replace h2:=Hid.mk h2
  replace hk2:=Hid.mk hk2
  refine wp_region_lx p (by kernel_rfl) (by kernel_rfl) (fun _ _ d _ _ h=>by cases d<;>exact h) (pK _ (Kb.refl _ _).drew) ?_
  repeat (first|(refine lx_one rfl ?_;(first|go_big_quiet_skip|(go_big_quiet_want;go_big_quiet_op;go_big_quiet_on));refine wpQuiet_nil ?_)|(refine lx_skip (by rfl) ?_;simp only[pts]))
  refine lx_done ?_
  go_wp2_with fail
  go_ret
  exact⟨rb (by simp[*]),h2.out.below (tdr1 (Below.refl _ _)),hk2.out.drew⟩
def memT (x:Sv) (xt t:Tk):Bool:=bet t.off xt.off (xt.off+xt.siz-t.siz)&&(decide (t.siz=0)||decide (x.en<=t.off))
def memX (x:Sv) (t:Tk):Sv:=if t.siz=0 then x else { x with en:=t.off+t.siz }
theorem isMember_any (c:Cf) (f:Fm) (L:List Sv) (x:Sv) (xt t:Tk) (rl:Value) (dep:Nat->Int) (wh:Bool) (w:World) (h:Ct w c f L x xt t rl dep wh) (b1:0<=xt.off/\xt.off<=65535) (b2:0<=xt.siz/\xt.siz<=65535) (b3:0<=t.siz/\t.siz<=65535) :
  Calls Tryz.prog 117 #[.pointer (some ⟨c.B,0,none⟩),.pointer (some ⟨c.g,c.o+c.i*21,none⟩)] w fun r w'=>r = .returned (.bool (memT x xt t))/\Kb [c.go] w w'/\(memT x xt t=true->Ct w' c f L (memX x t) xt t rl dep wh):=by
 have cT:=top_any c.B c.go L.length c.cap w h.ck.c0 h.ln
 have u1:IntKind.i64.wrap (xt.off+xt.siz)=xt.off+xt.siz:=by rw[IntKind.wrap_i64];omega
 have u2:IntKind.i64.wrap (xt.off+xt.siz-t.siz)=xt.off+xt.siz-t.siz:=by rw[IntKind.wrap_i64];omega
 replace h:=Hid.mk h
 obtain⟨q,hq⟩:∃ q,bet t.off xt.off (xt.off+xt.siz-t.siz)=q:=⟨_,rfl⟩
 have u3:q=true->IntKind.i64.wrap (t.off+t.siz)=t.off+t.siz:=fun e=>by
  rw[e] at hq
  have:=betT hq
  rw[IntKind.wrap_i64];omega
 unfold memT memX
 rw[hq]
 rcases(show q=false\/(q=true/\t.siz=0)\/(q=true/\t.siz≠0) from by cases q<;>simp<;>omega) with e0|⟨e0,e1⟩|⟨e0,e1⟩
 ·rw[e0]
  go_enter Tryz.func117,Tryz.ntmps117
  go_wp2_with (go_at_call 100;refine cT.mono ?_;rintro _ w1 ⟨rfl,hb⟩)
  have h1:=h.out.below hb
  obtain⟨pc,cc,hT,hU,hcc,kT⟩:=h1.tk
  obtain⟨px,cx,hX,kX⟩:=h1.xk
  have hS:=h1.sc
  have hC:=h1.ck
  have hF:=h1.fm
  have hlg:=h1.lg
  have hlo:=h1.op.lt
  have hlf:=h1.fl
  obtain⟨p,pB,pK,hN,t3,t4,x3,x4,s0,cN⟩:∃ p:World->Prop,(∀ W,p W->Kb [] w1 W) /\
   (∀ W,Kb [] w1 W->p W) /\
   Nonempty (CW p) /\
   (∀ θ:CW p,θ.w.cell? ⟨c.g,c.o+c.i*21+3,none⟩=some (.int .i64 t.off)) /\
   (∀ θ:CW p,θ.w.cell? ⟨c.g,c.o+c.i*21+4,none⟩=some (.int .i64 t.siz)) /\
   (∀ θ:CW p,θ.w.cell? ⟨c.g,c.o+x.at_*21+3,none⟩=some (.int .i64 xt.off)) /\
   (∀ θ:CW p,θ.w.cell? ⟨c.g,c.o+x.at_*21+4,none⟩=some (.int .i64 xt.siz)) /\
   (∀ θ:CW p,θ.w.cell? ⟨c.go,L.length*8,none⟩=some (.pointer (some ⟨c.g,c.o+x.at_*21,none⟩))) /\
   (∀ W,p W->Calls Tryz.prog 82 #[.int .i64 t.off,.int .i64 xt.off,.int .i64 (xt.off+xt.siz-t.siz)] W fun e w'=>e = .returned (.bool (bet t.off xt.off (xt.off+xt.siz-t.siz)))/\p w') :=
   ⟨Kb [] w1,
   fun _ h=>h,
   fun _ h=>h,
   ⟨⟨_,Kb.refl _ _⟩⟩,
   fun θ=>(θ.h.cell hlg List.not_mem_nil).trans hT.c3,
   fun θ=>(θ.h.cell hlg List.not_mem_nil).trans hT.c4,
   fun θ=>(θ.h.cell hlg List.not_mem_nil).trans hX.c3,
   fun θ=>(θ.h.cell hlg List.not_mem_nil).trans hX.c4,
   fun θ=>(θ.h.cell hlo List.not_mem_nil).trans hS.c0,
   callS (isBetween_any _ _ _)⟩
  clear hT hX hS hC hF hU hcc hlg hlo hlf
  replace h1:=Hid.mk h1
  rw[hq,e0] at cN
  refine wp_region_lp p (by kernel_rfl) (by kernel_rfl) (fun _ _ d _ _ h=>by cases d<;>exact h) (pK _ (Kb.refl _ _).drew) fun W hp=>?_
  repeat (first|(refine lx_one rfl ?_;(first|go_big_quiet_skip|(go_big_quiet_want;go_big_quiet_op;go_big_quiet_on));refine wpQuiet_nil ?_)|(refine lx_p3 ent_isBetween cN hp rfl rfl rfl (by rfl) ?_;intro W hp;simp only[pts])|(refine lx_skip (by rfl) ?_;simp only[pts]))
  refine lx_done ?_
  have hW:Below w1.heap.size w1 W:=Kb0 (pB _ hp)
  go_wp2_with fail
  all_goals
   go_ret
   exact⟨rfl,Kb.of_below (hb.trans (hW.mono hb.size))⟩
 ·have d1:(t.siz==0)=true:=beq_iff_eq.2 e1
  rw[e0,decide_eq_true e1,if_pos e1]
  clear e1
  go_enter Tryz.func117,Tryz.ntmps117
  go_wp2_with (go_at_call 100;refine cT.mono ?_;rintro _ w1 ⟨rfl,hb⟩)
  have h1:=h.out.below hb
  obtain⟨pc,cc,hT,hU,hcc,kT⟩:=h1.tk
  obtain⟨px,cx,hX,kX⟩:=h1.xk
  have hS:=h1.sc
  have hC:=h1.ck
  have hF:=h1.fm
  have hlg:=h1.lg
  have hlo:=h1.op.lt
  have hlf:=h1.fl
  obtain⟨p,pB,pK,hN,t3,t4,x3,x4,s0,cN⟩:∃ p:World->Prop,(∀ W,p W->Kb [] w1 W) /\
   (∀ W,Kb [] w1 W->p W) /\
   Nonempty (CW p) /\
   (∀ θ:CW p,θ.w.cell? ⟨c.g,c.o+c.i*21+3,none⟩=some (.int .i64 t.off)) /\
   (∀ θ:CW p,θ.w.cell? ⟨c.g,c.o+c.i*21+4,none⟩=some (.int .i64 t.siz)) /\
   (∀ θ:CW p,θ.w.cell? ⟨c.g,c.o+x.at_*21+3,none⟩=some (.int .i64 xt.off)) /\
   (∀ θ:CW p,θ.w.cell? ⟨c.g,c.o+x.at_*21+4,none⟩=some (.int .i64 xt.siz)) /\
   (∀ θ:CW p,θ.w.cell? ⟨c.go,L.length*8,none⟩=some (.pointer (some ⟨c.g,c.o+x.at_*21,none⟩))) /\
   (∀ W,p W->Calls Tryz.prog 82 #[.int .i64 t.off,.int .i64 xt.off,.int .i64 (xt.off+xt.siz-t.siz)] W fun e w'=>e = .returned (.bool (bet t.off xt.off (xt.off+xt.siz-t.siz)))/\p w') :=
   ⟨Kb [] w1,
   fun _ h=>h,
   fun _ h=>h,
   ⟨⟨_,Kb.refl _ _⟩⟩,
   fun θ=>(θ.h.cell hlg List.not_mem_nil).trans hT.c3,
   fun θ=>(θ.h.cell hlg List.not_mem_nil).trans hT.c4,
   fun θ=>(θ.h.cell hlg List.not_mem_nil).trans hX.c3,
   fun θ=>(θ.h.cell hlg List.not_mem_nil).trans hX.c4,
   fun θ=>(θ.h.cell hlo List.not_mem_nil).trans hS.c0,
   callS (isBetween_any _ _ _)⟩
  clear hT hX hS hC hF hU hcc hlg hlo hlf
  replace h1:=Hid.mk h1
  rw[hq,e0] at cN
  refine wp_region_lp p (by kernel_rfl) (by kernel_rfl) (fun _ _ d _ _ h=>by cases d<;>exact h) (pK _ (Kb.refl _ _).drew) fun W hp=>?_
  repeat (first|(refine lx_one rfl ?_;(first|go_big_quiet_skip|(go_big_quiet_want;go_big_quiet_op;go_big_quiet_on));refine wpQuiet_nil ?_)|(refine lx_p3 ent_isBetween cN hp rfl rfl rfl (by rfl) ?_;intro W hp;simp only[pts])|(refine lx_skip (by rfl) ?_;simp only[pts]))
  refine lx_done ?_
  have hW:Below w1.heap.size w1 W:=Kb0 (pB _ hp)
  have y4:W.cell? ⟨c.g,c.o+c.i*21+4,none⟩=some (.int .i64 t.siz):=t4 ⟨W,hp⟩
  go_wp2_with fail
  go_ret
  exact⟨rfl,Kb.of_below (hb.trans (hW.mono hb.size)),fun _=>h1.out.below hW⟩
 ·have d1:(t.siz==0)=false:=beq_eq_false_iff_ne.2 e1
  rw[e0,decide_eq_false e1,if_neg e1]
  clear e1
  go_enter Tryz.func117,Tryz.ntmps117
  go_wp2_with (go_at_call 100;refine cT.mono ?_;rintro _ w1 ⟨rfl,hb⟩)
  have h1:=h.out.below hb
  obtain⟨pc,cc,hT,hU,hcc,kT⟩:=h1.tk
  obtain⟨px,cx,hX,kX⟩:=h1.xk
  have hS:=h1.sc
  have hC:=h1.ck
  have hF:=h1.fm
  have hlg:=h1.lg
  have hlo:=h1.op.lt
  have hlf:=h1.fl
  obtain⟨p,pB,pK,hN,t3,t4,x3,x4,s0,cN⟩:∃ p:World->Prop,(∀ W,p W->Kb [] w1 W) /\
   (∀ W,Kb [] w1 W->p W) /\
   Nonempty (CW p) /\
   (∀ θ:CW p,θ.w.cell? ⟨c.g,c.o+c.i*21+3,none⟩=some (.int .i64 t.off)) /\
   (∀ θ:CW p,θ.w.cell? ⟨c.g,c.o+c.i*21+4,none⟩=some (.int .i64 t.siz)) /\
   (∀ θ:CW p,θ.w.cell? ⟨c.g,c.o+x.at_*21+3,none⟩=some (.int .i64 xt.off)) /\
   (∀ θ:CW p,θ.w.cell? ⟨c.g,c.o+x.at_*21+4,none⟩=some (.int .i64 xt.siz)) /\
   (∀ θ:CW p,θ.w.cell? ⟨c.go,L.length*8,none⟩=some (.pointer (some ⟨c.g,c.o+x.at_*21,none⟩))) /\
   (∀ W,p W->Calls Tryz.prog 82 #[.int .i64 t.off,.int .i64 xt.off,.int .i64 (xt.off+xt.siz-t.siz)] W fun e w'=>e = .returned (.bool (bet t.off xt.off (xt.off+xt.siz-t.siz)))/\p w') :=
   ⟨Kb [] w1,
   fun _ h=>h,
   fun _ h=>h,
   ⟨⟨_,Kb.refl _ _⟩⟩,
   fun θ=>(θ.h.cell hlg List.not_mem_nil).trans hT.c3,
   fun θ=>(θ.h.cell hlg List.not_mem_nil).trans hT.c4,
   fun θ=>(θ.h.cell hlg List.not_mem_nil).trans hX.c3,
   fun θ=>(θ.h.cell hlg List.not_mem_nil).trans hX.c4,
   fun θ=>(θ.h.cell hlo List.not_mem_nil).trans hS.c0,
   callS (isBetween_any _ _ _)⟩
  clear hT hX hS hC hF hU hcc hlg hlo hlf
  replace h1:=Hid.mk h1
  rw[hq,e0] at cN
  refine wp_region_lp p (by kernel_rfl) (by kernel_rfl) (fun _ _ d _ _ h=>by cases d<;>exact h) (pK _ (Kb.refl _ _).drew) fun W hp=>?_
  repeat (first|(refine lx_one rfl ?_;(first|go_big_quiet_skip|(go_big_quiet_want;go_big_quiet_op;go_big_quiet_on));refine wpQuiet_nil ?_)|(refine lx_p3 ent_isBetween cN hp rfl rfl rfl (by rfl) ?_;intro W hp;simp only[pts])|(refine lx_skip (by rfl) ?_;simp only[pts]))
  refine lx_done ?_
  have hW:Below w1.heap.size w1 W:=Kb0 (pB _ hp)
  have y4:W.cell? ⟨c.g,c.o+c.i*21+4,none⟩=some (.int .i64 t.siz):=t4 ⟨W,hp⟩
  have h2:=h1.out.below hW
  have z6:=h2.sc.c6
  have zf:=h2.op.frz (L.length*8+6)
  have z6:=z6
  clear hN t3 t4 x3 x4 s0 cN pB pK hp
  have u3:=u3 e0
  obtain⟨w3,hw3⟩:∃ w3,w3=W:=⟨_,rfl⟩
  subst hw3
  go_wp2_with fail
  obtain⟨pc,cc,hT,hU,hcc,kT⟩:=h2.tk
  obtain⟨px,cx,hX,kX⟩:=h2.xk
  have hS:=h2.sc
  have hC:=h2.ck
  have hF:=h2.fm
  have hlg:=h2.lg
  have hlo:=h2.op.lt
  have hlf:=h2.fl
  have ho:c.g≠c.go:=by have:=h2.ap.g;have:=h2.ap.go;omega
  obtain⟨p,pB,pK,hN,t3,t4⟩:∃ p:World->Prop,(∀ W,p W->Kb [c.go] w3 W) /\
   (∀ W,Kb [c.go] w3 W->p W) /\
   Nonempty (CW p) /\
   (∀ θ:CW p,θ.w.cell? ⟨c.g,c.o+c.i*21+3,none⟩=some (.int .i64 t.off)) /\
   (∀ θ:CW p,θ.w.cell? ⟨c.g,c.o+c.i*21+4,none⟩=some (.int .i64 t.siz)) :=
   ⟨Kb [c.go] w3,
   fun _ h=>h,
   fun _ h=>h,
   ⟨⟨_,Kb.refl _ _⟩⟩,
   fun θ=>(θ.h.cell hlg (notin1 ho)).trans hT.c3,
   fun θ=>(θ.h.cell hlg (notin1 ho)).trans hT.c4⟩
  clear hT hX hS hC hF hU hcc hlg hlo hlf ho
  replace h2:=Hid.mk h2
  refine wp_region_lx p (by kernel_rfl) (by kernel_rfl) (fun _ _ d _ _ h=>by cases d<;>exact h) (pK _ (Kb.refl _ _).drew) ?_
  repeat (first|(refine lx_one rfl ?_;(first|go_big_quiet_skip|(go_big_quiet_want;go_big_quiet_op;go_big_quiet_on));refine wpQuiet_nil ?_)|(refine lx_skip (by rfl) ?_;simp only[pts]))
  refine lx_act (by rfl) (by rfl) ?_
  intro K hK
  go_simp
  refine hK _ _ ⟨⟨_,pK _ ((Kb.refl _ _).set (List.mem_singleton.2 rfl) _).drew⟩,rfl⟩ ?_
  clear hK K
  try simp only[pts]
  have h3:Ct (w3.setCell ⟨c.go,L.length*8+6,none⟩ (.int .i64 (t.off+t.siz))).drew c f L { x with en:=t.off+t.siz } xt t rl dep wh:=(h2.out.wrote (x':={ x with en:=t.off+t.siz }) (j:=6) (v:=.int .i64 (t.off+t.siz)) (by decide) rfl rfl).below (tdr1 (Below.refl _ _))
  have hk3:Kb [c.go] w (w3.setCell ⟨c.go,L.length*8+6,none⟩ (.int .i64 (t.off+t.siz))).drew:=((Kb.of_below (hb.trans (hW.mono hb.size))).set (List.mem_singleton.2 rfl) _).drew
  generalize (w3.setCell ⟨c.go,L.length*8+6,none⟩ (.int .i64 (t.off+t.siz))).drew=w4 at h3 hk3 ⊢
  refine lx_done ?_
  obtain⟨_,_,hT3,_⟩:=h3.tk
  have y3:=hT3.c3
  clear hT3
  replace h3:=Hid.mk h3
  go_wp2_with fail
  go_ret
  exact⟨rb (by simp),hk3,fun _=>h3.out⟩
structure Lft (E:List Nat) (w w':World) (b:Bool) (C:Prop):Prop where
 kb:Kb E w w'
 ct:b=true->C
def plcT (x:Sv) (xt t:Tk):Bool:=bet t.siz 0 65535&&bet t.pres 0 2&&(if xt.op=2 then decide (t.off=0) else if xt.op=10 then codT xt t&&decide (t.prim≠9)&&decide (t.prim≠10) else if xt.op=12 then codT xt t&&bet t.prim 5 8 else memT x xt t)
def plcX (x:Sv) (xt t:Tk):Sv:=if xt.op=2 then x else if xt.op=10\/xt.op=12 then { x with cod:=t.prim } else memX x t
theorem isPlaced_any (c:Cf) (f:Fm) (L:List Sv) (x:Sv) (xt t:Tk) (rl:Value) (dep:Nat->Int) (wh:Bool) (w:World) (h:Ct w c f L x xt t rl dep wh) (b0:xt.op=2\/xt.op=8\/xt.op=10\/xt.op=12) (b1:0<=xt.off/\xt.off<=65535) (b2:0<=xt.siz/\xt.siz<=65535) :
  Calls Tryz.prog 90 #[.pointer (some ⟨c.B,0,none⟩),.pointer (some ⟨c.g,c.o+c.i*21,none⟩)] w fun r w'=>r = .returned (.bool (plcT x xt t))/\Lft [c.go] w w' (plcT x xt t) (Ct w' c f L (plcX x xt t) xt t rl dep wh):=by
 have cT:=top_any c.B c.go L.length c.cap w h.ck.c0 h.ln
 have cC:=fun W (hW:Below w.heap.size w W)=>isCoding_any c f L x xt t rl dep wh W (h.below hW)
 have cM:=fun W (hW:Below w.heap.size w W) b3=>isMember_any c f L x xt t rl dep wh W (h.below hW) b1 b2 b3
 have hY:∀ W,Below w.heap.size w W->W.cell? ⟨c.go,L.length*8,none⟩=some (.pointer (some ⟨c.g,c.o+x.at_*21,none⟩))/\W.cell? ⟨c.g,c.o+x.at_*21,none⟩=some (.int .i64 xt.op)/\W.cell? ⟨c.g,c.o+c.i*21+3,none⟩=some (.int .i64 t.off):=fun W hW=>by
  obtain⟨pc,cc,hT,_⟩:=(h.below hW).tk
  obtain⟨px,cx,hX,_⟩:=(h.below hW).xk
  exact⟨(h.below hW).sc.c0,hX.c0,hT.c3⟩
 have hZ:∀ W,Ct W c f L { x with cod:=t.prim } xt t rl dep wh->W.cell? ⟨c.g,c.o+c.i*21+6,none⟩=some (.int .i64 t.prim):=fun W hW=>by
  obtain⟨pc,cc,hT,_⟩:=hW.tk
  exact hT.c6
 obtain⟨pc,cc,hT,_⟩:=h.tk
 have t4:=hT.c4
 have t8:=hT.c8
 clear hT
 replace h:=Hid.mk h
 have cB1:=isBetween_any t.siz 0 65535
 have cB2:=isBetween_any t.pres 0 2
 have cB3:=isBetween_any t.prim 5 8
 unfold plcT plcX
 obtain⟨q1,hq1⟩:∃ q,bet t.siz 0 65535=q:=⟨_,rfl⟩
 obtain⟨q2,hq2⟩:∃ q,bet t.pres 0 2=q:=⟨_,rfl⟩
 have b3:q1=true->0<=t.siz/\t.siz<=65535:=fun e=>betT (hq1.trans e)
 rw[hq1] at cB1 ⊢
 rw[hq2] at cB2 ⊢
 clear hq1 hq2
 rcases ch2 q1 q2 with e1|⟨e1,e2⟩|⟨e1,e2⟩
 ·subst e1
  go_enter Tryz.func90,Tryz.ntmps90
  go_wp2_with (first|(go_at_call_of 82 (Value.int .i64 t.siz);refine(cB1 _).mono ?_;rintro _ _ ⟨rfl,rfl⟩))
  all_goals
   go_ret
   exact⟨rfl,Kb.refl _ _,fun e=>by simp at e⟩
 ·subst e1 e2
  go_enter Tryz.func90,Tryz.ntmps90
  go_wp2_with (first|(go_at_call_of 82 (Value.int .i64 t.siz);refine(cB1 _).mono ?_;rintro _ _ ⟨rfl,rfl⟩)|(go_at_call_of 82 (Value.int .i64 t.pres);refine(cB2 _).mono ?_;rintro _ _ ⟨rfl,rfl⟩))
  all_goals
   go_ret
   exact⟨rfl,Kb.refl _ _,fun e=>by simp at e⟩
 ·subst e1 e2
  have b4:=b3 rfl
  clear b3
  rcases b0 with e|e|e|e
  ·have d2:(xt.op==2)=true:=beq_iff_eq.2 e
   rw[if_pos e,if_pos e,<- beqD]
   clear e
   go_enter Tryz.func90,Tryz.ntmps90
   go_wp2_with (first|(go_at_call_of 82 (Value.int .i64 t.siz);refine(cB1 _).mono ?_;rintro _ _ ⟨rfl,rfl⟩)|(go_at_call_of 82 (Value.int .i64 t.pres);refine(cB2 _).mono ?_;rintro _ _ ⟨rfl,rfl⟩)|(go_at_call 100;refine cT.mono ?_;rintro _ w1 ⟨rfl,hb⟩;obtain⟨y0,y1,y3⟩:=hY _ hb;clear hY))
   all_goals
    go_ret
    exact⟨rb (by simp),Kb.of_below hb,fun _=>h.out.below hb⟩
  ·have d2:(xt.op==2)=false:=beqN (by omega)
   have d10:(xt.op==10)=false:=beqN (by omega)
   have d12:(xt.op==12)=false:=beqN (by omega)
   rw[if_neg (by omega),if_neg (by omega),if_neg (by omega),if_neg (by omega),if_neg (by omega)]
   clear e
   go_enter Tryz.func90,Tryz.ntmps90
   go_wp2_with (first|(go_at_call_of 82 (Value.int .i64 t.siz);refine(cB1 _).mono ?_;rintro _ _ ⟨rfl,rfl⟩)|(go_at_call_of 82 (Value.int .i64 t.pres);refine(cB2 _).mono ?_;rintro _ _ ⟨rfl,rfl⟩)|(go_at_call 100;refine cT.mono ?_;rintro _ w1 ⟨rfl,hb⟩;obtain⟨y0,y1,y3⟩:=hY _ hb;clear hY)|(go_at_call 117;refine(cM _ hb b4).mono ?_;rintro _ w2 ⟨rfl,hk2,h2⟩))
   all_goals
    go_ret
    exact⟨rb (by simp),(Kb.of_below hb).trans hk2,fun e=>h2 (by simpa using e)⟩
  ·have d2:(xt.op==2)=false:=beqN (by omega)
   have d10:(xt.op==10)=true:=beq_iff_eq.2 e
   rw[if_neg (by omega),if_pos e,if_neg (by omega),if_pos (.inl e)]
   clear e
   obtain⟨q3,hq3⟩:∃ q,codT xt t=q:=⟨_,rfl⟩
   rw[hq3] at cC ⊢
   clear hq3
   rcases Bool.eq_false_or_eq_true q3 with e3|e3
   ·subst e3
    by_cases e9:t.prim=9
    ·have d9:(t.prim==9)=true:=beq_iff_eq.2 e9
     replace e9:=Hid.mk e9
     go_enter Tryz.func90,Tryz.ntmps90
     go_wp2_with (first|(go_at_call_of 82 (Value.int .i64 t.siz);refine(cB1 _).mono ?_;rintro _ _ ⟨rfl,rfl⟩)|(go_at_call_of 82 (Value.int .i64 t.pres);refine(cB2 _).mono ?_;rintro _ _ ⟨rfl,rfl⟩)|(go_at_call 100;refine cT.mono ?_;rintro _ w1 ⟨rfl,hb⟩;obtain⟨y0,y1,y3⟩:=hY _ hb;clear hY)|(go_at_call 116;refine(cC _ hb).mono ?_;rintro _ w2 ⟨rfl,h2,hk2⟩;have y6:=hZ _ h2;clear hZ))
     all_goals
      go_ret
      exact⟨rb (by simp[e9.out]),(Kb.of_below hb).trans hk2,fun e=>by simp[e9.out] at e⟩
    ·have d9:(t.prim==9)=false:=beqN e9
     have d9n:(t.prim != 9)=true:=bne_iff_ne.2 e9
     by_cases e10:t.prim=10
     ·have d10p:(t.prim==10)=true:=beq_iff_eq.2 e10
      replace e9:=Hid.mk e9
      replace e10:=Hid.mk e10
      go_enter Tryz.func90,Tryz.ntmps90
      go_wp2_with (first|(go_at_call_of 82 (Value.int .i64 t.siz);refine(cB1 _).mono ?_;rintro _ _ ⟨rfl,rfl⟩)|(go_at_call_of 82 (Value.int .i64 t.pres);refine(cB2 _).mono ?_;rintro _ _ ⟨rfl,rfl⟩)|(go_at_call 100;refine cT.mono ?_;rintro _ w1 ⟨rfl,hb⟩;obtain⟨y0,y1,y3⟩:=hY _ hb;clear hY)|(go_at_call 116;refine(cC _ hb).mono ?_;rintro _ w2 ⟨rfl,h2,hk2⟩;have y6:=hZ _ h2;clear hZ))
      all_goals
       go_ret
       exact⟨rb (by simp[e10.out]),(Kb.of_below hb).trans hk2,fun e=>by simp[e10.out] at e⟩
     ·have d10p:(t.prim==10)=false:=beqN e10
      have d10n:(t.prim != 10)=true:=bne_iff_ne.2 e10
      replace e9:=Hid.mk e9
      replace e10:=Hid.mk e10
      go_enter Tryz.func90,Tryz.ntmps90
      go_wp2_with (first|(go_at_call_of 82 (Value.int .i64 t.siz);refine(cB1 _).mono ?_;rintro _ _ ⟨rfl,rfl⟩)|(go_at_call_of 82 (Value.int .i64 t.pres);refine(cB2 _).mono ?_;rintro _ _ ⟨rfl,rfl⟩)|(go_at_call 100;refine cT.mono ?_;rintro _ w1 ⟨rfl,hb⟩;obtain⟨y0,y1,y3⟩:=hY _ hb;clear hY)|(go_at_call 116;refine(cC _ hb).mono ?_;rintro _ w2 ⟨rfl,h2,hk2⟩;have y6:=hZ _ h2;clear hZ))
      all_goals
       go_ret
       exact⟨rb (by simp[e9.out,e10.out]),(Kb.of_below hb).trans hk2,fun _=>h2⟩
   ·subst e3
    go_enter Tryz.func90,Tryz.ntmps90
    go_wp2_with (first|(go_at_call_of 82 (Value.int .i64 t.siz);refine(cB1 _).mono ?_;rintro _ _ ⟨rfl,rfl⟩)|(go_at_call_of 82 (Value.int .i64 t.pres);refine(cB2 _).mono ?_;rintro _ _ ⟨rfl,rfl⟩)|(go_at_call 100;refine cT.mono ?_;rintro _ w1 ⟨rfl,hb⟩;obtain⟨y0,y1,y3⟩:=hY _ hb;clear hY)|(go_at_call 116;refine(cC _ hb).mono ?_;rintro _ w2 ⟨rfl,h2,hk2⟩;have y6:=hZ _ h2;clear hZ))
    all_goals
     go_ret
     exact⟨rb (by simp),(Kb.of_below hb).trans hk2,fun e=>by simp at e⟩
  ·have d2:(xt.op==2)=false:=beqN (by omega)
   have d10:(xt.op==10)=false:=beqN (by omega)
   have d12:(xt.op==12)=true:=beq_iff_eq.2 e
   rw[if_neg (by omega),if_neg (by omega),if_pos e,if_neg (by omega),if_pos (.inr e)]
   clear e
   obtain⟨q3,hq3⟩:∃ q,codT xt t=q:=⟨_,rfl⟩
   rw[hq3] at cC ⊢
   clear hq3
   rcases Bool.eq_false_or_eq_true q3 with e3|e3
   ·subst e3
    go_enter Tryz.func90,Tryz.ntmps90
    go_wp2_with (first|(go_at_call_of 82 (Value.int .i64 t.siz);refine(cB1 _).mono ?_;rintro _ _ ⟨rfl,rfl⟩)|(go_at_call_of 82 (Value.int .i64 t.pres);refine(cB2 _).mono ?_;rintro _ _ ⟨rfl,rfl⟩)|(go_at_call 100;refine cT.mono ?_;rintro _ w1 ⟨rfl,hb⟩;obtain⟨y0,y1,y3⟩:=hY _ hb;clear hY)|(go_at_call 116;refine(cC _ hb).mono ?_;rintro _ w2 ⟨rfl,h2,hk2⟩;have y6:=hZ _ h2;clear hZ)|(go_at_call_of 82 (Value.int .i64 t.prim);refine(cB3 _).mono ?_;rintro _ _ ⟨rfl,rfl⟩))
    all_goals
     go_ret
     exact⟨rb (by simp),(Kb.of_below hb).trans hk2,fun _=>h2⟩
   ·subst e3
    go_enter Tryz.func90,Tryz.ntmps90
    go_wp2_with (first|(go_at_call_of 82 (Value.int .i64 t.siz);refine(cB1 _).mono ?_;rintro _ _ ⟨rfl,rfl⟩)|(go_at_call_of 82 (Value.int .i64 t.pres);refine(cB2 _).mono ?_;rintro _ _ ⟨rfl,rfl⟩)|(go_at_call 100;refine cT.mono ?_;rintro _ w1 ⟨rfl,hb⟩;obtain⟨y0,y1,y3⟩:=hY _ hb;clear hY)|(go_at_call 116;refine(cC _ hb).mono ?_;rintro _ w2 ⟨rfl,h2,hk2⟩;have y6:=hZ _ h2;clear hZ))
    all_goals
     go_ret
     exact⟨rb (by simp),(Kb.of_below hb).trans hk2,fun e=>by simp at e⟩
theorem ent_isInBlock:∀ ag w,(callFunc 112 ag).run Tryz.prog w = .ok (.enter 112 ag) w:=enters_of Tryz.func112 (by kernel_rfl) rfl
theorem ent_isInRow:∀ ag w,(callFunc 113 ag).run Tryz.prog w = .ok (.enter 113 ag) w:=enters_of Tryz.func113 (by kernel_rfl) rfl
structure Lfn (E:List Nat) (w w':World) (b:Bool) (C:Prop):Prop where
 kb:Kb E w w'
 ct:b=true->C
 nb:b=false->Below w.heap.size w w'
def inT (x:Sv) (xt t u:Tk):Bool:=decide (t.cst.length=0)&&decide (t.siz=u.siz)&&(if t.siz=0 then decide (t.off=0) else decide (0<t.siz)&&bet t.off x.en (xt.blk-t.siz))
theorem isInBlock_any (c:Cf) (f:Fm) (L:List Sv) (x:Sv) (xt t:Tk) (rl:Value) (dep:Nat->Int) (wh:Bool) (w:World) (h:Ct w c f L x xt t rl dep wh) (u:Tk) (hu:f.toks[c.i+1]?=some u) (b1:0<=xt.blk/\xt.blk<=65535) :
  Calls Tryz.prog 112 #[.pointer (some ⟨c.B,0,none⟩),.pointer (some ⟨c.g,c.o+c.i*21,none⟩)] w fun r w'=>r = .returned (.bool (inT x xt t u))/\Lfn [c.go] w w' (inT x xt t u) (Ct w' c f L (memX x t) xt t rl dep wh):=by
 have hll:=h.ll
 have hul:c.i+1<f.toks.length:=(List.getElem?_eq_some_iff.1 hu).1
 obtain⟨pc,cc,hT,hU,hcc,kT⟩:=h.tk
 obtain⟨px,cx,hX,kX⟩:=h.xk
 have hS:=h.sc
 have hC:=h.ck
 have hF:=h.fm
 have hlg:=h.lg
 have hlo:=h.op.lt
 have hlf:=h.fl
 obtain⟨_,_,pu,cu,eu,_,hUc,_⟩:=h.tl.at hu
 cases eu
 have u4:=hUc.c4
 have t12:=hT.c12
 have t4:=hT.c4
 have t3:=hT.c3
 have k1:=hC.c1
 have k2:=hC.c2
 have m12:w.cell? ⟨c.gf,12,none⟩=some (.slice (some ⟨c.g,c.o,none⟩) f.toks.length c.cp):=by simpa using hF.c12
 have cT:=fun W (hW:Below w.heap.size w W)=>top_any c.B c.go L.length c.cap W (h.below hW).ck.c0 h.ln
 have hY:∀ W,Below w.heap.size w W->W.cell? ⟨c.go,L.length*8,none⟩=some (.pointer (some ⟨c.g,c.o+x.at_*21,none⟩))/\W.cell? ⟨c.go,L.length*8+6,none⟩=some (.int .i64 x.en)/\W.cell? ⟨c.g,c.o+x.at_*21+14,none⟩=some (.int .i64 xt.blk)/\W.cell? ⟨c.g,c.o+c.i*21+3,none⟩=some (.int .i64 t.off)/\W.cell? ⟨c.g,c.o+c.i*21+4,none⟩=some (.int .i64 t.siz):=fun W hW=>by
  obtain⟨pc,cc,hT,_⟩:=(h.below hW).tk
  obtain⟨px,cx,hX,_⟩:=(h.below hW).xk
  exact⟨(h.below hW).sc.c0,(h.below hW).sc.c6,hX.c14,hT.c3,hT.c4⟩
 obtain⟨k,hk⟩:∃ k:Nat,k=c.i+1:=⟨_,rfl⟩
 rw[<- hk] at u4
 have e1:IntKind.i64.wrap ((c.i:Int)+1)=(k:Int):=by rw[IntKind.wrap_i64];omega
 have e2:(k:Int)<(f.toks.length:Int):=by omega
 clear hk hul hu
 have hsz:=kT.siz
 have hof:=kT.off
 clear hT hX hS hC hF hU hcc hlg hlo hlf hUc kT kX
 replace h:=Hid.mk h
 unfold inT memX
 obtain⟨nc,hnc⟩:∃ n,t.cst.length=n:=⟨_,rfl⟩
 rw[hnc] at t12 ⊢
 clear hnc
 rcases nc with _|nc
 rotate_left
 ·rw[decide_eq_false (show ¬ nc+1=0 by omega)]
  have d1:decide ((0:Int)<((nc+1:Nat):Int))=true:=decide_eq_true (by omega)
  go_enter Tryz.func112,Tryz.ntmps112
  go_wp2_with fail
  go_quiet (fail)
  go_wp2_with fail
  all_goals
   go_ret
   exact⟨rfl,Kb.of_below (tdr (Below.refl _ _)),fun e=>by simp at e,fun _=>tdr (Below.refl _ _)⟩
 rw[show decide ((0:Nat)=0)=true from rfl]
 by_cases q2:t.siz=u.siz
 rotate_left
 ·have d2:(t.siz != u.siz)=true:=bne_iff_ne.2 q2
  rw[decide_eq_false q2]
  replace q2:=Hid.mk q2
  go_enter Tryz.func112,Tryz.ntmps112
  go_wp2_with fail
  go_quiet (fail)
  go_wp2_with fail
  all_goals
   go_ret
   exact⟨rfl,Kb.of_below (tdr (Below.refl _ _)),fun e=>by simp at e,fun _=>tdr (Below.refl _ _)⟩
 have d2:(t.siz != u.siz)=false:=by simp[bne,q2]
 rw[decide_eq_true q2]
 clear q2
 by_cases q3:t.siz=0
 ·have d3:(t.siz==0)=true:=beq_iff_eq.2 q3
  rw[if_pos q3,if_pos q3,<- beqD]
  clear q3
  go_enter Tryz.func112,Tryz.ntmps112
  go_wp2_with fail
  go_quiet (fail)
  go_wp2_with fail
  all_goals
   go_ret
   exact⟨rb (by simp),Kb.of_below (tdr (Below.refl _ _)),fun _=>h.out.below (tdr (Below.refl _ _)),fun _=>tdr (Below.refl _ _)⟩
 have d3:(t.siz==0)=false:=beqN q3
 rw[if_neg q3,if_neg q3]
 by_cases q4:t.siz<0
 ·have d4:decide (t.siz<0)=true:=decide_eq_true q4
  rw[decide_eq_false (show ¬ 0<t.siz by omega)]
  clear q3 q4
  go_enter Tryz.func112,Tryz.ntmps112
  go_wp2_with fail
  go_quiet (fail)
  go_wp2_with (go_at_call 100;refine(cT _ (tdr (Below.refl _ _))).mono ?_;rintro _ w1 ⟨rfl,hb⟩;have hb1:Below w.heap.size w w1:=(tdr (Below.refl _ _)).trans (hb.mono (Nat.le_refl _));obtain⟨y0,y6,y14,y3,y4⟩:=hY _ hb1;clear hY cT)
  go_quiet (fail)
  go_wp2_with fail
  all_goals
   go_ret
   exact⟨rfl,(Kb.of_below hb1).trans (Kb.of_below (tdr (Below.refl _ _))),fun e=>by simp at e,fun _=>tdr hb1⟩
 have d4:decide (t.siz<0)=false:=decide_eq_false q4
 rw[decide_eq_true (show 0<t.siz by omega)]
 have hsz2:=hsz.2
 have e5:IntKind.i64.wrap (xt.blk-t.siz)=xt.blk-t.siz:=by rw[IntKind.wrap_i64];omega
 obtain⟨q5,hq5⟩:∃ q,bet t.off x.en (xt.blk-t.siz)=q:=⟨_,rfl⟩
 have e6:q5=true->IntKind.i64.wrap (t.off+t.siz)=t.off+t.siz:=fun e=>by
  have:=betT (hq5.trans e)
  have:=hof.1
  rw[IntKind.wrap_i64];omega
 have cB:=isBetween_any t.off x.en (xt.blk-t.siz)
 rw[hq5] at cB ⊢
 clear hq5 q3 q4 hsz hof hsz2
 cases q5 with
 | false =>
  clear e6
  go_enter Tryz.func112,Tryz.ntmps112
  go_wp2_with fail
  go_quiet (fail)
  go_wp2_with (go_at_call 100;refine(cT _ (tdr (Below.refl _ _))).mono ?_;rintro _ w1 ⟨rfl,hb⟩;have hb1:Below w.heap.size w w1:=(tdr (Below.refl _ _)).trans (hb.mono (Nat.le_refl _));obtain⟨y0,y6,y14,y3,y4⟩:=hY _ hb1;clear hY cT)
  go_quiet ((go_at_call 82;exact Calls.quiet_of_same (cB _)))
  go_wp2_with fail
  all_goals
   go_ret
   exact⟨rfl,(Kb.of_below hb1).trans (Kb.of_below (tdr (Below.refl _ _))),fun e=>by simp at e,fun _=>tdr hb1⟩
 | true =>
  have e6:=e6 rfl
  go_enter Tryz.func112,Tryz.ntmps112
  go_wp2_with fail
  go_quiet (fail)
  go_wp2_with (go_at_call 100;refine(cT _ (tdr (Below.refl _ _))).mono ?_;rintro _ w1 ⟨rfl,hb⟩;have hb1:Below w.heap.size w w1:=(tdr (Below.refl _ _)).trans (hb.mono (Nat.le_refl _));obtain⟨y0,y6,y14,y3,y4⟩:=hY _ hb1;clear hY cT)
  go_quiet ((go_at_call 82;exact Calls.quiet_of_same (cB _)))
  go_wp2_with fail
  have hW:Below w.heap.size w (w1.drewN nq):=tdr hb1
  generalize w1.drewN nq=w3 at hW ⊢
  have h2:=h.out.below hW
  have z6:=h2.sc.c6
  have zf:=h2.op.frz (L.length*8+6)
  clear u4 t12 t4 t3 k1 k2 m12 y0 y6 y14 y3 y4 cB e1 e2 e5 b1
  try go_wp2_with fail
  obtain⟨pc,cc,hT,hU,hcc,kT⟩:=h2.tk
  obtain⟨px,cx,hX,kX⟩:=h2.xk
  have hS:=h2.sc
  have hC:=h2.ck
  have hF:=h2.fm
  have hlg:=h2.lg
  have hlo:=h2.op.lt
  have hlf:=h2.fl
  have ho:c.g≠c.go:=by have:=h2.ap.g;have:=h2.ap.go;omega
  obtain⟨p,pB,pK,hN,t3,t4⟩:∃ p:World->Prop,(∀ W,p W->Kb [c.go] w3 W) /\
   (∀ W,Kb [c.go] w3 W->p W) /\
   Nonempty (CW p) /\
   (∀ θ:CW p,θ.w.cell? ⟨c.g,c.o+c.i*21+3,none⟩=some (.int .i64 t.off)) /\
   (∀ θ:CW p,θ.w.cell? ⟨c.g,c.o+c.i*21+4,none⟩=some (.int .i64 t.siz)) :=
   ⟨Kb [c.go] w3,
   fun _ h=>h,
   fun _ h=>h,
   ⟨⟨_,Kb.refl _ _⟩⟩,
   fun θ=>(θ.h.cell hlg (notin1 ho)).trans hT.c3,
   fun θ=>(θ.h.cell hlg (notin1 ho)).trans hT.c4⟩
  clear hT hX hS hC hF hU hcc hlg hlo hlf ho
  replace h2:=Hid.mk h2
  refine wp_region_lx p (by kernel_rfl) (by kernel_rfl) (fun _ _ d _ _ h=>by cases d<;>exact h) (pK _ (Kb.refl _ _).drew) ?_
  repeat (first|(refine lx_one rfl ?_;(first|go_big_quiet_skip|(go_big_quiet_want;go_big_quiet_op;go_big_quiet_on));refine wpQuiet_nil ?_)|(refine lx_skip (by rfl) ?_;simp only[pts]))
  refine lx_act (by rfl) (by rfl) ?_
  intro K hK
  go_simp
  refine hK _ _ ⟨⟨_,pK _ ((Kb.refl _ _).set (List.mem_singleton.2 rfl) _).drew⟩,rfl⟩ ?_
  clear hK K
  try simp only[pts]
  have h3:Ct (w3.setCell ⟨c.go,L.length*8+6,none⟩ (.int .i64 (t.off+t.siz))).drew c f L { x with en:=t.off+t.siz } xt t rl dep wh:=(h2.out.wrote (x':={ x with en:=t.off+t.siz }) (j:=6) (v:=.int .i64 (t.off+t.siz)) (by decide) rfl rfl).below (tdr1 (Below.refl _ _))
  have hk3:Kb [c.go] w (w3.setCell ⟨c.go,L.length*8+6,none⟩ (.int .i64 (t.off+t.siz))).drew:=((Kb.of_below hW).set (List.mem_singleton.2 rfl) _).drew
  generalize (w3.setCell ⟨c.go,L.length*8+6,none⟩ (.int .i64 (t.off+t.siz))).drew=w4 at h3 hk3 ⊢
  refine lx_done ?_
  replace h3:=Hid.mk h3
  go_wp2_with fail
  go_ret
  exact⟨rfl,hk3,fun _=>h3.out,fun e=>by simp at e⟩
def rowT (f:Fm) (x:Sv) (xt t:Tk):Bool:=if xt.op=4 then decide (t.since=xt.since) else bet t.since x.row f.ver
def rowX (x:Sv) (xt t:Tk):Sv:=if xt.op=4 then x else { x with row:=t.since }
theorem isInRow_any (c:Cf) (f:Fm) (L:List Sv) (x:Sv) (xt t:Tk) (rl:Value) (dep:Nat->Int) (wh:Bool) (w:World) (h:Ct w c f L x xt t rl dep wh) :
  Calls Tryz.prog 113 #[.pointer (some ⟨c.B,0,none⟩),.pointer (some ⟨c.g,c.o+c.i*21,none⟩)] w fun r w'=>r = .returned (.bool (rowT f x xt t))/\Lft [c.go] w w' (rowT f x xt t) (Ct w' c f L (rowX x xt t) xt t rl dep wh):=by
 have cT:=top_any c.B c.go L.length c.cap w h.ck.c0 h.ln
 have hY:∀ W,Below w.heap.size w W->W.cell? ⟨c.go,L.length*8,none⟩=some (.pointer (some ⟨c.g,c.o+x.at_*21,none⟩))/\W.cell? ⟨c.go,L.length*8+5,none⟩=some (.int .i64 x.row)/\W.frozen? ⟨c.go,L.length*8+5,none⟩=false/\W.cell? ⟨c.g,c.o+x.at_*21,none⟩=some (.int .i64 xt.op)/\W.cell? ⟨c.g,c.o+x.at_*21+5,none⟩=some (.int .i64 xt.since)/\W.cell? ⟨c.g,c.o+c.i*21+5,none⟩=some (.int .i64 t.since):=fun W hW=>by
  obtain⟨pc,cc,hT,_⟩:=(h.below hW).tk
  obtain⟨px,cx,hX,_⟩:=(h.below hW).xk
  exact⟨(h.below hW).sc.c0,(h.below hW).sc.c5,(h.below hW).op.frz _,hX.c0,hX.c5,hT.c5⟩
 have hZ:∀ W,Ct W c f L { x with row:=t.since } xt t rl dep wh->W.cell? ⟨c.g,c.o+c.i*21+5,none⟩=some (.int .i64 t.since)/\W.cell? ⟨c.B,1,none⟩=some (.pointer (some ⟨c.gf,0,none⟩))/\W.cell? ⟨c.gf,2,none⟩=some (.int .i64 f.ver):=fun W hW=>by
  obtain⟨pc,cc,hT,_⟩:=hW.tk
  exact⟨hT.c5,hW.ck.c1,by simpa using hW.fm.c2⟩
 replace h:=Hid.mk h
 have cB:=isBetween_any t.since x.row f.ver
 unfold rowT rowX
 by_cases e:xt.op=4
 ·have d4:(xt.op==4)=true:=beq_iff_eq.2 e
  rw[if_pos e,if_pos e,<- beqD]
  clear e hZ
  go_enter Tryz.func113,Tryz.ntmps113
  go_wp2_with (go_at_call 100;refine cT.mono ?_;rintro _ w1 ⟨rfl,hb⟩;obtain⟨y0,y5,yf,x0,x5,t5⟩:=hY _ hb;clear hY)
  go_quiet (fail)
  go_wp2_with fail
  go_ret
  exact⟨rfl,Kb.of_below (tdr hb),fun _=>h.out.below (tdr hb)⟩
 ·have d4:(xt.op==4)=false:=beqN e
  rw[if_neg e,if_neg e]
  clear e
  go_enter Tryz.func113,Tryz.ntmps113
  go_wp2_with (go_at_call 100;refine cT.mono ?_;rintro _ w1 ⟨rfl,hb⟩;obtain⟨y0,y5,yf,x0,x5,t5⟩:=hY _ hb;clear hY)
  have h3:Ct (w1.setCell ⟨c.go,L.length*8+5,none⟩ (.int .i64 t.since)) c f L { x with row:=t.since } xt t rl dep wh:=(h.out.below hb).wrote (x':={ x with row:=t.since }) (j:=5) (v:=.int .i64 t.since) (by decide) rfl rfl
  have hk3:Kb [c.go] w (w1.setCell ⟨c.go,L.length*8+5,none⟩ (.int .i64 t.since)):=(Kb.of_below hb).set (List.mem_singleton.2 rfl) _
  generalize w1.setCell ⟨c.go,L.length*8+5,none⟩ (.int .i64 t.since)=w4 at h3 hk3 ⊢
  obtain⟨z5,z1,z2⟩:=hZ _ h3
  clear hZ y0 y5 yf x0 x5 t5
  replace h3:=Hid.mk h3
  go_quiet ((go_at_call 82;exact Calls.quiet_of_same (cB _)))
  go_wp2_with fail
  go_ret
  exact⟨rfl,hk3.trans (Kb.of_below (tdr (Below.refl _ _))),fun _=>h3.out.below (tdr (Below.refl _ _))⟩
structure Cm (w:World) (c:Cf) (n:Nat) (h1 h2 h3:Value->Prop):Prop where
 m1:MHas w 3 c.m1 n h1
 m2:MHas w 176 c.m2 n h2
 m3:MHas w 162 c.m3 n h3
 n:n<17592186044000
theorem MHas.mono {W:World} {k:TypeId} {m n':Nat} {hs:Value->Prop} (h:MHas W k m n hs) (hn:n<=n'):MHas W k m n' hs:=by
 obtain⟨D,h1,h2⟩:=h
 exact⟨D,h1.mono hn,h2⟩
theorem Cm.kept {E:List Nat} (h:Cm w c n h1 h2 h3) (hb:Kb E w w') (e1:c.m1∉E) (e2:c.m2∉E) (e3:c.m3∉E):Cm w' c n h1 h2 h3 :=
 ⟨h.m1.same (hb.block _ h.m1.lt e1),h.m2.same (hb.block _ h.m2.lt e2),h.m3.same (hb.block _ h.m3.lt e3),h.n⟩
theorem Cm.below (h:Cm w c n h1 h2 h3) (hb:Below w.heap.size w w'):Cm w' c n h1 h2 h3:=h.kept (E:=[]) (Kb.of_below hb) List.not_mem_nil List.not_mem_nil List.not_mem_nil
def nwT (t:Tk) (b1 b2:Bool):Bool:=bet t.id 0 65535&&b1&&b2
theorem newPart_ct (c:Cf) (f:Fm) (L:List Sv) (x:Sv) (xt t:Tk) (rl:Value) (dep:Nat->Int) (wh:Bool) (n:Nat) (h1 h2 h3:Value->Prop) (b1 b2:Bool) (w:World) (h:Ct w c f L x xt t rl dep wh) (hm:Cm w c n h1 h2 h3) (hn:n<17592186043000) (hb1:b1=true↔¬ h1 (.int .i64 t.id)) (hb2:b2=true↔¬ h2 (nmK x.at_ t.name)) :
  Calls Tryz.prog 111 #[.pointer (some ⟨c.B,0,none⟩),.pointer (some ⟨c.g,c.o+c.i*21,none⟩)] w fun r w'=>r = .returned (.bool (nwT t b1 b2))/\Lft [c.m1,c.m2] w w' (nwT t b1 b2) (Ct w' c f L x xt t rl dep wh/\Cm w' c (n+1) (fun v=>v = .int .i64 t.id\/h1 v) (fun v=>v=nmK x.at_ t.name\/h2 v) h3):=by
 obtain⟨pc,cc,hT,_,_,kT⟩:=h.tk
 have a:=h.ap
 have hll:=h.ll
 have hxl:=h.xl
 have hil:=h.il
 have ag:=a.g
 have am1:=a.m1
 have am2:=a.m2
 refine(isNewPart_any c.B c.gf c.go L.length c.cap c.g c.o c.g (c.o+c.i*21) c.m1 c.m2 c.m3 n n c.i rl dep wh t x pc cc h1 h2 b1 b2 w h.ck h.sc h.op.lt hT h.lg hm.m1 hm.m2 a.B2 a.o2 (by omega) a.B1 a.o1 (by omega) a.m12 h.ln (by omega) (by omega) (by omega) kT (by unfold i64ok;omega) hb1 hb2).mono ?_
 rintro r w' ⟨hr,hk,hc⟩
 refine⟨hr,hk,fun e=>?_⟩
 obtain⟨q1,q2⟩:=hc e
 exact⟨h.kept hk (by simp),q1,q2,(hm.m3.same (hk.block _ hm.m3.lt (notin2 (Ne.symm a.m13) (Ne.symm a.m23)))).mono (Nat.le_succ _),by omega⟩
theorem all_drop {p:Int} {l:List Int} {j:Nat} {x:Int} (h:l[j]?=some x):(l.drop j).all (fitsP p)=(fitsP p x&&(l.drop (j+1)).all (fitsP p)):=by
 obtain⟨h1,h2⟩:=List.getElem?_eq_some_iff.1 h
 rw[List.drop_eq_getElem_cons h1,h2,List.all_cons]
theorem fit_any (p:Int) (l:List Int) (pp:Option Addr) (cp:Nat) (w:World) (h:KT w) (hr:URow w pp w.heap.size l) (hl:l.length*8<=140737488355328) (hu:∀ x∈l,u64ok x) :
  Calls Tryz.prog 118 #[.int .i64 p,.slice pp l.length cp] w fun r w'=>r = .returned (.bool (l.all (fitsP p)))/\Below w.heap.size w w':=by
 obtain⟨Z,hZ⟩:∃ Z,l.all (fitsP p)=Z:=⟨_,rfl⟩
 rw[hZ]
 go_enter Tryz.func118,Tryz.ntmps118
 go_wp2_with fail
 go_loopw [9] (fun n wr=>∃ j:Nat,j<=l.length/\n = .int .i64 j/\Below w.heap.size w wr/\(l.drop j).all (fitsP p)=Z) (fun n _=>l.length-(RowKit.intOf n).toNat)
 case atStart=>exact⟨0,Nat.zero_le _,rfl,Below.refl _ _,hZ⟩
 case round =>
  obtain⟨j,hj,rfl,hB,hR⟩:=hrel
  by_cases hlt:j<l.length
  ·obtain⟨x,hx⟩:∃ x,l[j]?=some x:=⟨l[j],List.getElem?_eq_getElem hlt⟩
   obtain⟨g,o,rfl,hg,c0⟩:=(hr.below hB).c j x hx
   obtain⟨u1,u2⟩:=hu x (List.mem_of_getElem? hx)
   have hlti:(j:Int)<l.length:=by omega
   have cF:=Fits_any p x wr (h.up hB) u1 (by omega)
   rw[all_drop hx] at hR
   by_cases hf:fitsP p x=true
   ·rw[hf,Bool.true_and] at hR
    have hf2:fitsF (sz p) (rd p) x=true:=hf
    rw[hf2] at cF
    go_wp2_with (go_at_call 121;refine cF.mono ?_;rintro _ w1 ⟨rfl,hb1⟩)
    go_roundw
    case rel=>exact⟨j+1,by omega,by go_num,hB.trans (hb1.mono hB.size),hR⟩
    case measure=>simp[RowKit.intOf];omega
   ·rw[Bool.not_eq_true] at hf
    rw[hf,Bool.false_and] at hR
    subst hR
    have hf2:fitsF (sz p) (rd p) x=false:=hf
    rw[hf2] at cF
    go_wp2_with (go_at_call 121;refine cF.mono ?_;rintro _ w1 ⟨rfl,hb1⟩)
    go_ret
    exact⟨rfl,hB.trans (hb1.mono hB.size)⟩
  ·obtain rfl:j=l.length:=by omega
   rw[List.drop_length] at hR
   subst hR
   go_wp2_with fail
   go_ret
   exact⟨rfl,hB⟩
end Go.Proofs.YtbhmciieiilcfaaGreatDoor
