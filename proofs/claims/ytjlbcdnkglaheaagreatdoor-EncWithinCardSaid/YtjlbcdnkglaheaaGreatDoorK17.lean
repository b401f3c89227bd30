import Derived.Test.YtjlbcdnkglaheaaGreatDoorK15
namespace Go.Proofs.YtjlbcdnkglaheaaGreatDoor
set_option maxRecDepth 1000000
set_option maxHeartbeats 16000000
open Go.ChangeShapes Go.WideShapes Go.ChangeAt Go.RowKit Go.Shelf Go.Maps
theorem ent_isChoice:∀ ag w,(callFunc 84 ag).run Tryz.prog w = .ok (.enter 84 ag) w:=enters_of Tryz.func84 (by kernel_rfl) rfl
theorem ent_fits:∀ ag w,(callFunc 35 ag).run Tryz.prog w = .ok (.enter 35 ag) w:=enters_of Tryz.func35 (by kernel_rfl) rfl
abbrev vlK (a:Nat) (v:Int):Value:=.agg #[.int .i64 (a:Int),.int .u64 v]
def choT (x:Sv) (xt t:Tk) (b2 b3:Bool):Bool:=bet t.since 0 65534&&b2&&b3&&(if xt.op=12 then decide (t.val<8*sz x.cod) else fitsP x.cod t.val)
theorem isChoice_any (c:Cf) (f:Fm) (L:List Sv) (x:Sv) (xt t:Tk) (rl:Value) (dep:Nat->Int) (wh:Bool) (w:World) (h:Ct w c f L x xt t rl dep wh) (n:Nat) (h1 h2 h3:Value->Prop) (b2 b3:Bool) (hm:Cm w c n h1 h2 h3) (hn:n<17592186043000) (hb2:b2=true↔¬ h2 (nmK x.at_ t.name)) (hb3:b3=true↔¬ h3 (vlK x.at_ t.val)) :
  Calls Tryz.prog 84 #[.pointer (some ⟨c.B,0,none⟩),.pointer (some ⟨c.g,c.o+c.i*21,none⟩)] w fun r w'=>r = .returned (.bool (choT x xt t b2 b3))/\Lft [c.m2,c.m3] w w' (choT x xt t b2 b3) (Ct w' c f L x xt t rl dep wh/\Cm w' c (n+1) h1 (fun v=>v=nmK x.at_ t.name\/h2 v) (fun v=>v=vlK x.at_ t.val\/h3 v)):=by
 have a:=h.ap
 have hll:=h.ll
 have hxl:=h.xl
 have hil:=h.il
 have ng:c.g∉[c.m2,c.m3]:=notin2 (by have:=a.g;have:=a.m2;omega) (by have:=a.g;have:=a.m3;omega)
 have ng2:c.g≠c.m2:=by have:=a.g;have:=a.m2;omega
 have cT:=top_any c.B c.go L.length c.cap w h.ck.c0 h.ln
 have cB:=isBetween_any t.since 0 65534
 have cN:∀ W,Ct W c f L x xt t rl dep wh->MHas W 205 c.m2 n h2->Calls Tryz.prog 116 #[.pointer (some ⟨c.B,0,none⟩),.pointer (some ⟨c.g,c.o+c.i*21,none⟩)] W fun r w'=>r = .returned (.bool b2)/\MHas w' 205 c.m2 (n+1) (fun v=>v=nmK x.at_ t.name\/h2 v)/\Kb [c.m2] W w':=fun W hW hM=>by
  obtain⟨pc,cc,hT,_,_,kT⟩:=hW.tk
  exact isNewName_any c.B c.gf c.go L.length c.cap c.g c.o c.g (c.o+c.i*21) c.m1 c.m2 c.m3 n c.i rl dep wh t x pc cc h2 b2 W hW.ck hW.sc hW.op.lt hT hW.lg hM a.B2 a.o2 ng2 hW.ln (by omega) (by omega) kT.name (by unfold i64ok;omega) hb2
 obtain⟨_,_,_,_,_,kT0⟩:=h.tk
 have kv:=kT0.val
 have cV:∀ W,MHas W 191 c.m3 n h3->Calls Tryz.prog 117 #[.map (some c.m3),vlK x.at_ t.val,.int .i64 (c.i:Int)] W fun r w'=>r = .returned (.bool b3)/\MHas w' 191 c.m3 (n+1) (fun v=>v=vlK x.at_ t.val\/h3 v)/\W.grownBy w' (some c.m3):=fun W hM=>isNewV_any c.m3 n x.at_ c.i t.val h3 b3 W hM (by omega) (by unfold i64ok;omega) kv (by unfold i64ok;omega) hb3
 have cS:∀ W,KT W->Calls Tryz.prog 59 #[.int .i64 x.cod] W fun e w'=>e = .returned (.int .i64 (sz x.cod))/\Below W.heap.size W w':=fun W hW=>size_any x.cod W hW
 have cF:∀ W,KT W->Calls Tryz.prog 35 #[.int .i64 x.cod,.int .u64 t.val] W fun e w'=>e = .returned (.bool (fitsP x.cod t.val))/\Below W.heap.size W w':=fun W hW=>Fits_any x.cod t.val W hW kv.1 (by have:=kv.2;omega)
 have hz8:=sz_b x.cod
 have e8:IntKind.i64.wrap (8*sz x.cod)=8*sz x.cod:=by rw[IntKind.wrap_i64];omega
 have e9:IntKind.u64.wrap (8*sz x.cod)=8*sz x.cod:=by rw[IntKind.wrap_u64];omega
 have hH:∀ W1 W2 W3,Ct W1 c f L x xt t rl dep wh->Cm W1 c n h1 h2 h3->MHas W2 205 c.m2 (n+1) (fun v=>v=nmK x.at_ t.name\/h2 v)->Kb [c.m2] W1 W2->MHas W3 191 c.m3 (n+1) (fun v=>v=vlK x.at_ t.val\/h3 v)->W2.grownBy W3 (some c.m3)->Ct W3 c f L x xt t rl dep wh/\Cm W3 c (n+1) h1 (fun v=>v=nmK x.at_ t.name\/h2 v) (fun v=>v=vlK x.at_ t.val\/h3 v):=fun W1 W2 W3 q1 q2 q3 q4 q5 q6=>by
  have k3:Kb [c.m3] W2 W3:=Kb.of_grown q6 (List.mem_singleton.2 rfl)
  have g2:=q1.kept q4 (by simp)
  exact⟨g2.kept k3 (by simp),((q2.m1.same (q4.block _ q2.m1.lt (notin1 a.m12))).same (k3.block _ (Nat.lt_of_lt_of_le q2.m1.lt q4.size) (notin1 a.m13))).mono (Nat.le_succ _),q3.same (k3.block _ q3.lt (notin1 a.m23)),q5,by omega⟩
 have a23:=a.m23
 have aB2:=a.B2
 have aB3:=a.B3
 have ao2:=a.o2
 have ao3:=a.o3
 replace h:=Hid.mk h
 replace hm:=Hid.mk hm
 clear kT0 kv hb2 hb3
 unfold choT
 obtain⟨q1,hq1⟩:∃ q,bet t.since 0 65534=q:=⟨_,rfl⟩
 obtain⟨q5,hq5⟩:∃ q,fitsP x.cod t.val=q:=⟨_,rfl⟩
 rw[hq1] at cB ⊢
 rw[hq5] at cF ⊢
 clear hq1 hq5
 rcases ch3 q1 b2 b3 with e1|⟨e1,e2⟩|⟨e1,e2,e3⟩|⟨e1,e2,e3⟩
 ·subst e1
  go_enter Tryz.func84,Tryz.ntmps84
  go_wp2_with (go_at_call 92;refine cT.mono ?_;rintro _ w1 ⟨rfl,hb⟩)
  have g1:=h.out.below hb
  obtain⟨pc,cc,hT,hU,hcc,kT⟩:=g1.tk
  obtain⟨px,cx,hX,kX⟩:=g1.xk
  have hS:=g1.sc
  have hC:=g1.ck
  have hF:=g1.fm
  have hlg:=g1.lg
  have hlo:=g1.op.lt
  have hlf:=g1.fl
  obtain⟨p,pB,pK,hN,t5,t13,s1,k2,k22⟩:∃ p:World->Prop,(∀ W,p W->Kb [c.m2,c.m3] w1 W) /\
   (∀ W,Kb [c.m2,c.m3] w1 W->p W) /\
   Nonempty (CW p) /\
   (∀ θ:CW p,θ.w.cell? ⟨c.g,c.o+c.i*21+5,none⟩=some (.int .i64 t.since)) /\
   (∀ θ:CW p,θ.w.cell? ⟨c.g,c.o+c.i*21+13,none⟩=some (.int .u64 t.val)) /\
   (∀ θ:CW p,θ.w.cell? ⟨c.go,L.length*8+1,none⟩=some (.int .i64 (x.at_:Int))) /\
   (∀ θ:CW p,θ.w.cell? ⟨c.B,2,none⟩=some (.int .i64 (c.i:Int))) /\
   (∀ θ:CW p,θ.w.cell? ⟨c.B,22,none⟩=some (.map (some c.m3))) :=
   ⟨Kb [c.m2,c.m3] w1,
   fun _ h=>h,
   fun _ h=>h,
   ⟨⟨_,Kb.refl _ _⟩⟩,
   fun θ=>(θ.h.cell hlg ng).trans hT.c5,
   fun θ=>(θ.h.cell hlg ng).trans hT.c13,
   fun θ=>(θ.h.cell hlo (notin2 ao2 ao3)).trans hS.c1,
   fun θ=>(θ.h.cell hC.lt (notin2 aB2 aB3)).trans hC.c2,
   fun θ=>(θ.h.cell hC.lt (notin2 aB2 aB3)).trans hC.c22⟩
  clear hT hX hS hC hF hU hcc hlg hlo hlf kT kX
  replace g1:=Hid.mk g1
  refine wp_region_lx p (by kernel_rfl) (by kernel_rfl) (fun _ _ d _ _ h=>by cases d<;>exact h) (pK _ (Kb.refl _ _).drew) ?_
  repeat (first|(refine lx_one rfl ?_;(first|go_big_quiet_skip|(go_big_quiet_want;go_big_quiet_op;go_big_quiet_on));refine wpQuiet_nil ?_)|(refine lx_call3 ent_isBetween (cB w1.drew) rfl rfl rfl (by rfl) ?_;intro w' hw';obtain rfl:w1.drew=w':=hw'.symm;refine⟨⟨⟨_,pK _ (Kb.refl _ _).drew⟩,rfl⟩,?_⟩;simp only[pts])|(refine lx_skip (by rfl) ?_;simp only[pts]))
  refine lx_done ?_
  go_wp2_with fail
  all_goals
   go_ret
   exact⟨rfl,(Kb.of_below hb).trans (Kb.refl _ _).drew,fun e=>by simp at e⟩
 ·subst e1 e2
  go_enter Tryz.func84,Tryz.ntmps84
  go_wp2_with (go_at_call 92;refine cT.mono ?_;rintro _ w1 ⟨rfl,hb⟩)
  have g1:=h.out.below hb
  obtain⟨pc,cc,hT,hU,hcc,kT⟩:=g1.tk
  obtain⟨px,cx,hX,kX⟩:=g1.xk
  have hS:=g1.sc
  have hC:=g1.ck
  have hF:=g1.fm
  have hlg:=g1.lg
  have hlo:=g1.op.lt
  have hlf:=g1.fl
  obtain⟨p,pB,pK,hN,t5,t13,s1,k2,k22⟩:∃ p:World->Prop,(∀ W,p W->Kb [c.m2,c.m3] w1 W) /\
   (∀ W,Kb [c.m2,c.m3] w1 W->p W) /\
   Nonempty (CW p) /\
   (∀ θ:CW p,θ.w.cell? ⟨c.g,c.o+c.i*21+5,none⟩=some (.int .i64 t.since)) /\
   (∀ θ:CW p,θ.w.cell? ⟨c.g,c.o+c.i*21+13,none⟩=some (.int .u64 t.val)) /\
   (∀ θ:CW p,θ.w.cell? ⟨c.go,L.length*8+1,none⟩=some (.int .i64 (x.at_:Int))) /\
   (∀ θ:CW p,θ.w.cell? ⟨c.B,2,none⟩=some (.int .i64 (c.i:Int))) /\
   (∀ θ:CW p,θ.w.cell? ⟨c.B,22,none⟩=some (.map (some c.m3))) :=
   ⟨Kb [c.m2,c.m3] w1,
   fun _ h=>h,
   fun _ h=>h,
   ⟨⟨_,Kb.refl _ _⟩⟩,
   fun θ=>(θ.h.cell hlg ng).trans hT.c5,
   fun θ=>(θ.h.cell hlg ng).trans hT.c13,
   fun θ=>(θ.h.cell hlo (notin2 ao2 ao3)).trans hS.c1,
   fun θ=>(θ.h.cell hC.lt (notin2 aB2 aB3)).trans hC.c2,
   fun θ=>(θ.h.cell hC.lt (notin2 aB2 aB3)).trans hC.c22⟩
  clear hT hX hS hC hF hU hcc hlg hlo hlf kT kX
  replace g1:=Hid.mk g1
  refine wp_region_lx p (by kernel_rfl) (by kernel_rfl) (fun _ _ d _ _ h=>by cases d<;>exact h) (pK _ (Kb.refl _ _).drew) ?_
  repeat (first|(refine lx_one rfl ?_;(first|go_big_quiet_skip|(go_big_quiet_want;go_big_quiet_op;go_big_quiet_on));refine wpQuiet_nil ?_)|(refine lx_call3 ent_isBetween (cB w1.drew) rfl rfl rfl (by rfl) ?_;intro w' hw';obtain rfl:w1.drew=w':=hw'.symm;refine⟨⟨⟨_,pK _ (Kb.refl _ _).drew⟩,rfl⟩,?_⟩;simp only[pts])|(refine lx_call2 ent_isNewName (cN w1.drew (g1.out.below (tdr1 (Below.refl _ _))) ((hm.out.below hb).below (tdr1 (Below.refl _ _))).m2) rfl rfl (by rfl) ?_;rintro W2 ⟨hM2,hk2⟩;have k2:Kb [c.m2,c.m3] w1 W2:=(Kb.refl _ _).drew.trans (hk2.mono (by simp));have hM3:=((hm.out.below hb).below (tdr1 (Below.refl _ _))).m3.same (hk2.block _ ((hm.out.below hb).below (tdr1 (Below.refl _ _))).m3.lt (notin1 (Ne.symm a23)));refine⟨⟨⟨_,pK _ k2⟩,rfl⟩,?_⟩;simp only[pts])|(refine lx_skip (by rfl) ?_;simp only[pts]))
  refine lx_done ?_
  go_wp2_with fail
  all_goals
   go_ret
   exact⟨rfl,(Kb.of_below hb).trans k2,fun e=>by simp at e⟩
 ·subst e1 e2 e3
  go_enter Tryz.func84,Tryz.ntmps84
  go_wp2_with (go_at_call 92;refine cT.mono ?_;rintro _ w1 ⟨rfl,hb⟩)
  have g1:=h.out.below hb
  obtain⟨pc,cc,hT,hU,hcc,kT⟩:=g1.tk
  obtain⟨px,cx,hX,kX⟩:=g1.xk
  have hS:=g1.sc
  have hC:=g1.ck
  have hF:=g1.fm
  have hlg:=g1.lg
  have hlo:=g1.op.lt
  have hlf:=g1.fl
  obtain⟨p,pB,pK,hN,t5,t13,s1,k2,k22⟩:∃ p:World->Prop,(∀ W,p W->Kb [c.m2,c.m3] w1 W) /\
   (∀ W,Kb [c.m2,c.m3] w1 W->p W) /\
   Nonempty (CW p) /\
   (∀ θ:CW p,θ.w.cell? ⟨c.g,c.o+c.i*21+5,none⟩=some (.int .i64 t.since)) /\
   (∀ θ:CW p,θ.w.cell? ⟨c.g,c.o+c.i*21+13,none⟩=some (.int .u64 t.val)) /\
   (∀ θ:CW p,θ.w.cell? ⟨c.go,L.length*8+1,none⟩=some (.int .i64 (x.at_:Int))) /\
   (∀ θ:CW p,θ.w.cell? ⟨c.B,2,none⟩=some (.int .i64 (c.i:Int))) /\
   (∀ θ:CW p,θ.w.cell? ⟨c.B,22,none⟩=some (.map (some c.m3))) :=
   ⟨Kb [c.m2,c.m3] w1,
   fun _ h=>h,
   fun _ h=>h,
   ⟨⟨_,Kb.refl _ _⟩⟩,
   fun θ=>(θ.h.cell hlg ng).trans hT.c5,
   fun θ=>(θ.h.cell hlg ng).trans hT.c13,
   fun θ=>(θ.h.cell hlo (notin2 ao2 ao3)).trans hS.c1,
   fun θ=>(θ.h.cell hC.lt (notin2 aB2 aB3)).trans hC.c2,
   fun θ=>(θ.h.cell hC.lt (notin2 aB2 aB3)).trans hC.c22⟩
  clear hT hX hS hC hF hU hcc hlg hlo hlf kT kX
  replace g1:=Hid.mk g1
  refine wp_region_lx p (by kernel_rfl) (by kernel_rfl) (fun _ _ d _ _ h=>by cases d<;>exact h) (pK _ (Kb.refl _ _).drew) ?_
  repeat (first|(refine lx_one rfl ?_;(first|go_big_quiet_skip|(go_big_quiet_want;go_big_quiet_op;go_big_quiet_on));refine wpQuiet_nil ?_)|(refine lx_call3 ent_isBetween (cB w1.drew) rfl rfl rfl (by rfl) ?_;intro w' hw';obtain rfl:w1.drew=w':=hw'.symm;refine⟨⟨⟨_,pK _ (Kb.refl _ _).drew⟩,rfl⟩,?_⟩;simp only[pts])|(refine lx_call2 ent_isNewName (cN w1.drew (g1.out.below (tdr1 (Below.refl _ _))) ((hm.out.below hb).below (tdr1 (Below.refl _ _))).m2) rfl rfl (by rfl) ?_;rintro W2 ⟨hM2,hk2⟩;have k2:Kb [c.m2,c.m3] w1 W2:=(Kb.refl _ _).drew.trans (hk2.mono (by simp));have hM3:=((hm.out.below hb).below (tdr1 (Below.refl _ _))).m3.same (hk2.block _ ((hm.out.below hb).below (tdr1 (Below.refl _ _))).m3.lt (notin1 (Ne.symm a23)));refine⟨⟨⟨_,pK _ k2⟩,rfl⟩,?_⟩;simp only[pts])|(refine lx_call3 ent_isNewV (cV W2 hM3) rfl rfl rfl (by rfl) ?_;rintro W3 ⟨hM4,hg3⟩;have k3:Kb [c.m2,c.m3] w1 W3:=k2.trans (Kb.of_grown hg3 (by simp));refine⟨⟨⟨_,pK _ k3⟩,rfl⟩,?_⟩;simp only[pts])|(refine lx_skip (by rfl) ?_;simp only[pts]))
  refine lx_done ?_
  go_wp2_with fail
  all_goals
   go_ret
   exact⟨rfl,(Kb.of_below hb).trans k3,fun e=>by simp at e⟩
 ·subst e1 e2 e3
  have hZ:∀ W,Ct W c f L x xt t rl dep wh->W.cell? ⟨c.g,c.o+c.i*21+13,none⟩=some (.int .u64 t.val)/\W.cell? ⟨c.go,L.length*8,none⟩=some (.pointer (some ⟨c.g,c.o+x.at_*21,none⟩))/\W.cell? ⟨c.g,c.o+x.at_*21,none⟩=some (.int .i64 xt.op)/\W.cell? ⟨c.go,L.length*8+7,none⟩=some (.int .i64 x.cod):=fun W hW=>by
   obtain⟨pc,cc,hT,_⟩:=hW.tk
   obtain⟨px,cx,hX,_⟩:=hW.xk
   exact⟨hT.c13,hW.sc.c0,hX.c0,hW.sc.c7⟩
  by_cases e4:xt.op=12
  ·have d4:(xt.op==12)=true:=beq_iff_eq.2 e4
   rw[if_pos e4]
   clear e4
   go_enter Tryz.func84,Tryz.ntmps84
   go_wp2_with (go_at_call 92;refine cT.mono ?_;rintro _ w1 ⟨rfl,hb⟩)
   have g1:=h.out.below hb
   obtain⟨pc,cc,hT,hU,hcc,kT⟩:=g1.tk
   obtain⟨px,cx,hX,kX⟩:=g1.xk
   have hS:=g1.sc
   have hC:=g1.ck
   have hF:=g1.fm
   have hlg:=g1.lg
   have hlo:=g1.op.lt
   have hlf:=g1.fl
   obtain⟨p,pB,pK,hN,t5,t13,s1,k2,k22⟩:∃ p:World->Prop,(∀ W,p W->Kb [c.m2,c.m3] w1 W) /\
   (∀ W,Kb [c.m2,c.m3] w1 W->p W) /\
   Nonempty (CW p) /\
   (∀ θ:CW p,θ.w.cell? ⟨c.g,c.o+c.i*21+5,none⟩=some (.int .i64 t.since)) /\
   (∀ θ:CW p,θ.w.cell? ⟨c.g,c.o+c.i*21+13,none⟩=some (.int .u64 t.val)) /\
   (∀ θ:CW p,θ.w.cell? ⟨c.go,L.length*8+1,none⟩=some (.int .i64 (x.at_:Int))) /\
   (∀ θ:CW p,θ.w.cell? ⟨c.B,2,none⟩=some (.int .i64 (c.i:Int))) /\
   (∀ θ:CW p,θ.w.cell? ⟨c.B,22,none⟩=some (.map (some c.m3))) :=
    ⟨Kb [c.m2,c.m3] w1,
   fun _ h=>h,
   fun _ h=>h,
   ⟨⟨_,Kb.refl _ _⟩⟩,
   fun θ=>(θ.h.cell hlg ng).trans hT.c5,
   fun θ=>(θ.h.cell hlg ng).trans hT.c13,
   fun θ=>(θ.h.cell hlo (notin2 ao2 ao3)).trans hS.c1,
   fun θ=>(θ.h.cell hC.lt (notin2 aB2 aB3)).trans hC.c2,
   fun θ=>(θ.h.cell hC.lt (notin2 aB2 aB3)).trans hC.c22⟩
   clear hT hX hS hC hF hU hcc hlg hlo hlf kT kX
   replace g1:=Hid.mk g1
   refine wp_region_lx p (by kernel_rfl) (by kernel_rfl) (fun _ _ d _ _ h=>by cases d<;>exact h) (pK _ (Kb.refl _ _).drew) ?_
   repeat (first|(refine lx_one rfl ?_;(first|go_big_quiet_skip|(go_big_quiet_want;go_big_quiet_op;go_big_quiet_on));refine wpQuiet_nil ?_)|(refine lx_call3 ent_isBetween (cB w1.drew) rfl rfl rfl (by rfl) ?_;intro w' hw';obtain rfl:w1.drew=w':=hw'.symm;refine⟨⟨⟨_,pK _ (Kb.refl _ _).drew⟩,rfl⟩,?_⟩;simp only[pts])|(refine lx_call2 ent_isNewName (cN w1.drew (g1.out.below (tdr1 (Below.refl _ _))) ((hm.out.below hb).below (tdr1 (Below.refl _ _))).m2) rfl rfl (by rfl) ?_;rintro W2 ⟨hM2,hk2⟩;have k2:Kb [c.m2,c.m3] w1 W2:=(Kb.refl _ _).drew.trans (hk2.mono (by simp));have hM3:=((hm.out.below hb).below (tdr1 (Below.refl _ _))).m3.same (hk2.block _ ((hm.out.below hb).below (tdr1 (Below.refl _ _))).m3.lt (notin1 (Ne.symm a23)));refine⟨⟨⟨_,pK _ k2⟩,rfl⟩,?_⟩;simp only[pts])|(refine lx_call3 ent_isNewV (cV W2 hM3) rfl rfl rfl (by rfl) ?_;rintro W3 ⟨hM4,hg3⟩;have k3:Kb [c.m2,c.m3] w1 W3:=k2.trans (Kb.of_grown hg3 (by simp));refine⟨⟨⟨_,pK _ k3⟩,rfl⟩,?_⟩;simp only[pts])|(refine lx_skip (by rfl) ?_;simp only[pts]))
   refine lx_done ?_
   have hh:=hH _ _ _ (g1.out.below (tdr1 (Below.refl _ _))) ((hm.out.below hb).below (tdr1 (Below.refl _ _))) hM2 hk2 hM4 hg3
   obtain⟨y13,y0,yx,y7⟩:=hZ _ hh.1
   replace hh:=Hid.mk hh
   clear hN pB pK t5 t13 s1 k22 hZ hH cN cV cB cT
   go_wp2_with fail
   obtain⟨p,pB,pK,hN,z13,z7⟩:∃ p:World->Prop,(∀ W,p W->Kb [] W3 W) /\
   (∀ W,Kb [] W3 W->p W) /\
   Nonempty (CW p) /\
   (∀ θ:CW p,θ.w.cell? ⟨c.g,c.o+c.i*21+13,none⟩=some (.int .u64 t.val)) /\
   (∀ θ:CW p,θ.w.cell? ⟨c.go,L.length*8+7,none⟩=some (.int .i64 x.cod)) :=
    ⟨Kb [] W3,
   fun _ h=>h,
   fun _ h=>h,
   ⟨⟨_,Kb.refl _ _⟩⟩,
   fun θ=>(θ.h.cell hh.out.1.lg List.not_mem_nil).trans y13,
   fun θ=>(θ.h.cell hh.out.1.op.lt List.not_mem_nil).trans y7⟩
   refine wp_region_lx p (by kernel_rfl) (by kernel_rfl) (fun _ _ d _ _ h=>by cases d<;>exact h) (pK _ (Kb.refl _ _).drew) ?_
   repeat (first|(refine lx_one rfl ?_;(first|go_big_quiet_skip|(go_big_quiet_want;go_big_quiet_op;go_big_quiet_on));refine wpQuiet_nil ?_)|(refine lx_call1 ent_size (cS W3.drew (hh.out.1.kt.up (tdr1 (Below.refl _ _)))) rfl (by rfl) ?_;intro W4 hb4;refine⟨⟨⟨_,pK _ ((Kb.refl _ _).drew.trans (Kb.of_below hb4))⟩,rfl⟩,?_⟩;simp only[pts])|(refine lx_skip (by rfl) ?_;simp only[pts]))
   refine lx_done ?_
   go_wp2_with fail
   go_ret
   exact⟨rb (by simp),(Kb.of_below hb).trans (k3.trans ((Kb.refl _ _).drew.trans (Kb.of_below hb4))),fun _=>⟨(hh.out.1.below (tdr1 (Below.refl _ _))).below hb4,(hh.out.2.below (tdr1 (Below.refl _ _))).below hb4⟩⟩
  ·have d4:(xt.op==12)=false:=beqN e4
   rw[if_neg e4]
   clear e4
   go_enter Tryz.func84,Tryz.ntmps84
   go_wp2_with (go_at_call 92;refine cT.mono ?_;rintro _ w1 ⟨rfl,hb⟩)
   have g1:=h.out.below hb
   obtain⟨pc,cc,hT,hU,hcc,kT⟩:=g1.tk
   obtain⟨px,cx,hX,kX⟩:=g1.xk
   have hS:=g1.sc
   have hC:=g1.ck
   have hF:=g1.fm
   have hlg:=g1.lg
   have hlo:=g1.op.lt
   have hlf:=g1.fl
   obtain⟨p,pB,pK,hN,t5,t13,s1,k2,k22⟩:∃ p:World->Prop,(∀ W,p W->Kb [c.m2,c.m3] w1 W) /\
   (∀ W,Kb [c.m2,c.m3] w1 W->p W) /\
   Nonempty (CW p) /\
   (∀ θ:CW p,θ.w.cell? ⟨c.g,c.o+c.i*21+5,none⟩=some (.int .i64 t.since)) /\
   (∀ θ:CW p,θ.w.cell? ⟨c.g,c.o+c.i*21+13,none⟩=some (.int .u64 t.val)) /\
   (∀ θ:CW p,θ.w.cell? ⟨c.go,L.length*8+1,none⟩=some (.int .i64 (x.at_:Int))) /\
   (∀ θ:CW p,θ.w.cell? ⟨c.B,2,none⟩=some (.int .i64 (c.i:Int))) /\
   (∀ θ:CW p,θ.w.cell? ⟨c.B,22,none⟩=some (.map (some c.m3))) :=
    ⟨Kb [c.m2,c.m3] w1,
   fun _ h=>h,
   fun _ h=>h,
   ⟨⟨_,Kb.refl _ _⟩⟩,
   fun θ=>(θ.h.cell hlg ng).trans hT.c5,
   fun θ=>(θ.h.cell hlg ng).trans hT.c13,
   fun θ=>(θ.h.cell hlo (notin2 ao2 ao3)).trans hS.c1,
   fun θ=>(θ.h.cell hC.lt (notin2 aB2 aB3)).trans hC.c2,
   fun θ=>(θ.h.cell hC.lt (notin2 aB2 aB3)).trans hC.c22⟩
   clear hT hX hS hC hF hU hcc hlg hlo hlf kT kX
   replace g1:=Hid.mk g1
   refine wp_region_lx p (by kernel_rfl) (by kernel_rfl) (fun _ _ d _ _ h=>by cases d<;>exact h) (pK _ (Kb.refl _ _).drew) ?_
   repeat (first|(refine lx_one rfl ?_;(first|go_big_quiet_skip|(go_big_quiet_want;go_big_quiet_op;go_big_quiet_on));refine wpQuiet_nil ?_)|(refine lx_call3 ent_isBetween (cB w1.drew) rfl rfl rfl (by rfl) ?_;intro w' hw';obtain rfl:w1.drew=w':=hw'.symm;refine⟨⟨⟨_,pK _ (Kb.refl _ _).drew⟩,rfl⟩,?_⟩;simp only[pts])|(refine lx_call2 ent_isNewName (cN w1.drew (g1.out.below (tdr1 (Below.refl _ _))) ((hm.out.below hb).below (tdr1 (Below.refl _ _))).m2) rfl rfl (by rfl) ?_;rintro W2 ⟨hM2,hk2⟩;have k2:Kb [c.m2,c.m3] w1 W2:=(Kb.refl _ _).drew.trans (hk2.mono (by simp));have hM3:=((hm.out.below hb).below (tdr1 (Below.refl _ _))).m3.same (hk2.block _ ((hm.out.below hb).below (tdr1 (Below.refl _ _))).m3.lt (notin1 (Ne.symm a23)));refine⟨⟨⟨_,pK _ k2⟩,rfl⟩,?_⟩;simp only[pts])|(refine lx_call3 ent_isNewV (cV W2 hM3) rfl rfl rfl (by rfl) ?_;rintro W3 ⟨hM4,hg3⟩;have k3:Kb [c.m2,c.m3] w1 W3:=k2.trans (Kb.of_grown hg3 (by simp));refine⟨⟨⟨_,pK _ k3⟩,rfl⟩,?_⟩;simp only[pts])|(refine lx_skip (by rfl) ?_;simp only[pts]))
   refine lx_done ?_
   have hh:=hH _ _ _ (g1.out.below (tdr1 (Below.refl _ _))) ((hm.out.below hb).below (tdr1 (Below.refl _ _))) hM2 hk2 hM4 hg3
   obtain⟨y13,y0,yx,y7⟩:=hZ _ hh.1
   replace hh:=Hid.mk hh
   clear hN pB pK t5 t13 s1 k22 hZ hH cN cV cB cT
   go_wp2_with fail
   obtain⟨p,pB,pK,hN,z13,z7⟩:∃ p:World->Prop,(∀ W,p W->Kb [] W3 W) /\
   (∀ W,Kb [] W3 W->p W) /\
   Nonempty (CW p) /\
   (∀ θ:CW p,θ.w.cell? ⟨c.g,c.o+c.i*21+13,none⟩=some (.int .u64 t.val)) /\
   (∀ θ:CW p,θ.w.cell? ⟨c.go,L.length*8+7,none⟩=some (.int .i64 x.cod)) :=
    ⟨Kb [] W3,
   fun _ h=>h,
   fun _ h=>h,
   ⟨⟨_,Kb.refl _ _⟩⟩,
   fun θ=>(θ.h.cell hh.out.1.lg List.not_mem_nil).trans y13,
   fun θ=>(θ.h.cell hh.out.1.op.lt List.not_mem_nil).trans y7⟩
   refine wp_region_lx p (by kernel_rfl) (by kernel_rfl) (fun _ _ d _ _ h=>by cases d<;>exact h) (pK _ (Kb.refl _ _).drew) ?_
   repeat (first|(refine lx_one rfl ?_;(first|go_big_quiet_skip|(go_big_quiet_want;go_big_quiet_op;go_big_quiet_on));refine wpQuiet_nil ?_)|(refine lx_call2 ent_fits (cF W3.drew (hh.out.1.kt.up (tdr1 (Below.refl _ _)))) rfl rfl (by rfl) ?_;intro W4 hb4;refine⟨⟨⟨_,pK _ ((Kb.refl _ _).drew.trans (Kb.of_below hb4))⟩,rfl⟩,?_⟩;simp only[pts])|(refine lx_skip (by rfl) ?_;simp only[pts]))
   refine lx_done ?_
   go_wp2_with fail
   go_ret
   exact⟨rb (by simp),(Kb.of_below hb).trans (k3.trans ((Kb.refl _ _).drew.trans (Kb.of_below hb4))),fun _=>⟨(hh.out.1.below (tdr1 (Below.refl _ _))).below hb4,(hh.out.2.below (tdr1 (Below.refl _ _))).below hb4⟩⟩
theorem ch7:∀ a b c d e f g:Bool,a=false\/(a=true/\b=false)\/(a=true/\b=true/\c=false)\/(a=true/\b=true/\c=true/\d=false)\/(a=true/\b=true/\c=true/\d=true/\e=false)\/(a=true/\b=true/\c=true/\d=true/\e=true/\f=false)\/(a=true/\b=true/\c=true/\d=true/\e=true/\f=true/\g=false)\/(a=true/\b=true/\c=true/\d=true/\e=true/\f=true/\g=true):=by
 intro a b c d e f g
 cases a<;>cases b<;>cases c<;>cases d<;>cases e<;>cases f<;>cases g<;>simp
theorem spRow2 {w:World} {g:Nat} {a b:Sp} {ty:TypeId} (h:w.heap[g]?=some (.cells #[.int .i64 a.p,.int .i64 a.o,.int .i64 b.p,.int .i64 b.o] ty)):SpRow w g 0 [a,b] :=
 ⟨fun i s hs=>by
  rcases i with _|_|i
  ·cases hs;exact⟨cell_at h 0,cell_at h 1⟩
  ·cases hs;exact⟨cell_at h 2,cell_at h 3⟩
  ·cases hs⟩
def grpT (f:Fm) (x:Sv) (xt t:Tk) (b1 b2:Bool) (d4:Int):Bool:=decide (d4<8)&&nwT t b1 b2&&rowT f x xt t&&blkB t&&bet t.siz 1 65535&&spOk t.siz [] [t.a,t.b]&&telB t.a t.full
theorem isGroup_any (c:Cf) (f:Fm) (L:List Sv) (x:Sv) (xt t:Tk) (rl:Value) (dep:Nat->Int) (wh:Bool) (w:World) (h:Ct w c f L x xt t rl dep wh) (n:Nat) (h1 h2 h3:Value->Prop) (b1 b2:Bool) (hm:Cm w c n h1 h2 h3) (hn:n<17592186043000) (hb1:b1=true↔¬ h1 (.int .i64 t.id)) (hb2:b2=true↔¬ h2 (nmK x.at_ t.name)) (hop:t.op=4) :
  Calls Tryz.prog 79 #[.pointer (some ⟨c.B,0,none⟩),.pointer (some ⟨c.g,c.o+c.i*21,none⟩)] w fun r w'=>r = .returned (.bool (grpT f x xt t b1 b2 (dep 4)))/\Lft [c.m1,c.m2,c.go] w w' (grpT f x xt t b1 b2 (dep 4)) (Ct w' c f L (rowX x xt t) xt t rl dep wh/\Cm w' c (n+1) (fun v=>v = .int .i64 t.id\/h1 v) (fun v=>v=nmK x.at_ t.name\/h2 v) h3):=by
 have a:=h.ap
 have ng:c.g∉[c.m1,c.m2,c.go]:=by
  have:=a.g;have:=a.m1;have:=a.m2;have:=a.go
  exact notin3 (by omega) (by omega) (by omega)
 have nB:c.B∉[c.m1,c.m2,c.go]:=notin3 a.B1 a.B2 a.Bo
 have cP:=newPart_ct c f L x xt t rl dep wh n h1 h2 h3 b1 b2 w.drew (h.below (tdr1 (Below.refl _ _))) (hm.below (tdr1 (Below.refl _ _))) hn hb1 hb2
 have cR:=fun W (hW:Ct W c f L x xt t rl dep wh)=>isInRow_any c f L x xt t rl dep wh W hW
 obtain⟨pc,cc,hT,hU,hcc,kT⟩:=h.tk
 obtain⟨px,cx,hX,kX⟩:=h.xk
 have hS:=h.sc
 have hC:=h.ck
 have hF:=h.fm
 have hlg:=h.lg
 have hlo:=h.op.lt
 have hlf:=h.fl
 have t0v:w.cell? ⟨c.g,c.o+c.i*21,none⟩=some (.int .i64 4):=hop▸hT.c0
 have k8v:=hC.cd 4 (by decide)
 obtain⟨p,pB,pK,hN,t0,t4,t15,t16,t17,t18,t19,k8⟩:∃ p:World->Prop,(∀ W,p W->Kb [c.m1,c.m2,c.go] w W) /\
   (∀ W,Kb [c.m1,c.m2,c.go] w W->p W) /\
   Nonempty (CW p) /\
   (∀ θ:CW p,θ.w.cell? ⟨c.g,c.o+c.i*21,none⟩=some (.int .i64 4)) /\
   (∀ θ:CW p,θ.w.cell? ⟨c.g,c.o+c.i*21+4,none⟩=some (.int .i64 t.siz)) /\
   (∀ θ:CW p,θ.w.cell? ⟨c.g,c.o+c.i*21+15,none⟩=some (.int .i64 t.full)) /\
   (∀ θ:CW p,θ.w.cell? ⟨c.g,c.o+c.i*21+16,none⟩=some (.int .i64 t.a.p)) /\
   (∀ θ:CW p,θ.w.cell? ⟨c.g,c.o+c.i*21+17,none⟩=some (.int .i64 t.a.o)) /\
   (∀ θ:CW p,θ.w.cell? ⟨c.g,c.o+c.i*21+18,none⟩=some (.int .i64 t.b.p)) /\
   (∀ θ:CW p,θ.w.cell? ⟨c.g,c.o+c.i*21+19,none⟩=some (.int .i64 t.b.o)) /\
   (∀ θ:CW p,θ.w.cell? ⟨c.B,8,none⟩=some (.int .i64 (dep 4))) :=
  ⟨Kb [c.m1,c.m2,c.go] w,
   fun _ h=>h,
   fun _ h=>h,
   ⟨⟨_,Kb.refl _ _⟩⟩,
   fun θ=>(θ.h.cell hlg ng).trans t0v,
   fun θ=>(θ.h.cell hlg ng).trans hT.c4,
   fun θ=>(θ.h.cell hlg ng).trans hT.c15,
   fun θ=>(θ.h.cell hlg ng).trans hT.c16,
   fun θ=>(θ.h.cell hlg ng).trans hT.c17,
   fun θ=>(θ.h.cell hlg ng).trans hT.c18,
   fun θ=>(θ.h.cell hlg ng).trans hT.c19,
   fun θ=>(θ.h.cell hC.lt nB).trans k8v⟩
 have hmk:∀ W1 W2,Lft [c.go] W1 W2 true (Ct W2 c f L (rowX x xt t) xt t rl dep wh)->Cm W1 c (n+1) (fun v=>v = .int .i64 t.id\/h1 v) (fun v=>v=nmK x.at_ t.name\/h2 v) h3->Cm W2 c (n+1) (fun v=>v = .int .i64 t.id\/h1 v) (fun v=>v=nmK x.at_ t.name\/h2 v) h3:=fun W1 W2 hl hc=>hc.kept hl.kb (notin1 (Ne.symm a.o1)) (notin1 (Ne.symm a.o2)) (notin1 (Ne.symm a.o3))
 have cK:∀ W,Ct W c f L (rowX x xt t) xt t rl dep wh->Calls Tryz.prog 108 #[.pointer (some ⟨c.g,c.o+c.i*21,none⟩)] W fun r w'=>r = .returned (.bool (blkB t))/\Below W.heap.size W w':=fun W hW=>by
  obtain⟨pc,cc,hT,_⟩:=hW.tk
  exact isBlock_any t _ _ pc cc W hW.lg hT
 have cB:=isBetween_any t.siz 1 65535
 have cA:(1<=t.siz/\t.siz<=65535)->∀ W,KT W->Calls Tryz.prog 75 #[.int .i64 t.siz,.slice (some ⟨W.heap.size,0,none⟩) 2 2] (W.alloc (.cells #[.int .i64 t.a.p,.int .i64 t.a.o,.int .i64 t.b.p,.int .i64 t.b.o] 25)) fun r w'=>r = .returned (.bool (spOk t.siz [] [t.a,t.b]))/\Below (W.alloc (.cells #[.int .i64 t.a.p,.int .i64 t.a.o,.int .i64 t.b.p,.int .i64 t.b.o] 25)).heap.size (W.alloc (.cells #[.int .i64 t.a.p,.int .i64 t.a.o,.int .i64 t.b.p,.int .i64 t.b.o] 25)) w' :=
  fun hz W hW=>areSpots_any [t.a,t.b] t.siz W.heap.size 0 2 _ (hW.al _) (szal _ _) (spRow2 (heap_al _ _)) (by show 2<=4;omega) (Nat.le_refl 2) (by omega)
 have cE:(0<=t.full/\t.full<=65535)->∀ W,KT W->Calls Tryz.prog 76 #[spV t.a,.int .i64 t.full] W fun r w'=>r = .returned (.bool (telB t.a t.full))/\Below W.heap.size W w':=fun hz W hW=>canTell_any t.a t.full W hW (by omega)
 have hfl:blkB t=true->0<=t.full/\t.full<=65535:=fun e=>by
  unfold blkB at e
  rw[Bool.and_eq_true] at e
  have:=betT e.1
  have:=decT e.2
  omega
 have hzz:bet t.siz 1 65535=true->1<=t.siz/\t.siz<=65535:=betT
 clear hT hX hS hC hF hU hcc hlg hlo hlf kT kX a ng nB hm hn hb1 hb2 t0v k8v hop
 replace h:=Hid.mk h
 unfold grpT
 obtain⟨q2,hq2⟩:∃ q,nwT t b1 b2=q:=⟨_,rfl⟩
 obtain⟨q3,hq3⟩:∃ q,rowT f x xt t=q:=⟨_,rfl⟩
 obtain⟨q4,hq4⟩:∃ q,blkB t=q:=⟨_,rfl⟩
 obtain⟨q5,hq5⟩:∃ q,bet t.siz 1 65535=q:=⟨_,rfl⟩
 obtain⟨q6,hq6⟩:∃ q,spOk t.siz [] [t.a,t.b]=q:=⟨_,rfl⟩
 obtain⟨q7,hq7⟩:∃ q,telB t.a t.full=q:=⟨_,rfl⟩
 rw[hq2] at cP ⊢
 rw[hq3] at cR ⊢
 rw[hq4] at cK hfl ⊢
 rw[hq5] at cB hzz ⊢
 rw[hq6] at cA ⊢
 rw[hq7] at cE ⊢
 clear hq2 hq3 hq4 hq5 hq6 hq7
 rcases ch7 (decide (dep 4<8)) q2 q3 q4 q5 q6 q7 with e1|⟨e1,e2⟩|⟨e1,e2,e3⟩|⟨e1,e2,e3,e4⟩|⟨e1,e2,e3,e4,e5⟩|⟨e1,e2,e3,e4,e5,e6⟩|⟨e1,e2,e3,e4,e5,e6,e7⟩|⟨e1,e2,e3,e4,e5,e6,e7⟩
 ·replace e1:=e1
  go_enter Tryz.func79,Tryz.ntmps79
  go_wp2_with fail
  refine wp_region_lx p (by kernel_rfl) (by kernel_rfl) (fun _ _ d _ _ h=>by cases d<;>exact h) (pK _ (Kb.refl _ _).drew) ?_
  repeat (first|(refine lx_one rfl ?_;(first|go_big_quiet_skip|(go_big_quiet_want;go_big_quiet_op;go_big_quiet_on));refine wpQuiet_nil ?_)|(refine lx_skip (by rfl) ?_;simp only[pts]))
  refine lx_done ?_
  go_wp2_with fail
  go_ret
  exact⟨rb (by simp[e1]),(Kb.refl _ _).drew,fun e=>by simp[e1] at e⟩
 ·subst e2
  go_enter Tryz.func79,Tryz.ntmps79
  go_wp2_with fail
  refine wp_region_lx p (by kernel_rfl) (by kernel_rfl) (fun _ _ d _ _ h=>by cases d<;>exact h) (pK _ (Kb.refl _ _).drew) ?_
  repeat (first|(refine lx_one rfl ?_;(first|go_big_quiet_skip|(go_big_quiet_want;go_big_quiet_op;go_big_quiet_on));refine wpQuiet_nil ?_)|(refine lx_call2 ent_isNewPart cP rfl rfl (by rfl) ?_;intro W1 hP;have k1:Kb [c.m1,c.m2,c.go] w W1:=(Kb.refl _ _).drew.trans (hP.kb.mono (by simp));refine⟨⟨⟨_,pK _ k1⟩,rfl⟩,?_⟩;simp only[pts])|(refine lx_skip (by rfl) ?_;simp only[pts]))
  refine lx_done ?_
  go_wp2_with fail
  go_ret
  exact⟨rb (by simp),k1,fun e=>by simp at e⟩
 ·subst e2 e3
  go_enter Tryz.func79,Tryz.ntmps79
  go_wp2_with fail
  refine wp_region_lx p (by kernel_rfl) (by kernel_rfl) (fun _ _ d _ _ h=>by cases d<;>exact h) (pK _ (Kb.refl _ _).drew) ?_
  repeat (first|(refine lx_one rfl ?_;(first|go_big_quiet_skip|(go_big_quiet_want;go_big_quiet_op;go_big_quiet_on));refine wpQuiet_nil ?_)|(refine lx_call2 ent_isNewPart cP rfl rfl (by rfl) ?_;intro W1 hP;have k1:Kb [c.m1,c.m2,c.go] w W1:=(Kb.refl _ _).drew.trans (hP.kb.mono (by simp));refine⟨⟨⟨_,pK _ k1⟩,rfl⟩,?_⟩;simp only[pts])|(refine lx_call2 ent_isInRow (cR W1 (hP.ct rfl).1) rfl rfl (by rfl) ?_;intro W2 hR;have k2:Kb [c.m1,c.m2,c.go] w W2:=k1.trans (hR.kb.mono (by simp));refine⟨⟨⟨_,pK _ k2⟩,rfl⟩,?_⟩;simp only[pts])|(refine lx_skip (by rfl) ?_;simp only[pts]))
  refine lx_done ?_
  go_wp2_with fail
  go_ret
  exact⟨rb (by simp),k2,fun e=>by simp at e⟩
 ·subst e2 e3 e4
  go_enter Tryz.func79,Tryz.ntmps79
  go_wp2_with fail
  refine wp_region_lx p (by kernel_rfl) (by kernel_rfl) (fun _ _ d _ _ h=>by cases d<;>exact h) (pK _ (Kb.refl _ _).drew) ?_
  repeat (first|(refine lx_one rfl ?_;(first|go_big_quiet_skip|(go_big_quiet_want;go_big_quiet_op;go_big_quiet_on));refine wpQuiet_nil ?_)|(refine lx_call2 ent_isNewPart cP rfl rfl (by rfl) ?_;intro W1 hP;have k1:Kb [c.m1,c.m2,c.go] w W1:=(Kb.refl _ _).drew.trans (hP.kb.mono (by simp));refine⟨⟨⟨_,pK _ k1⟩,rfl⟩,?_⟩;simp only[pts])|(refine lx_call2 ent_isInRow (cR W1 (hP.ct rfl).1) rfl rfl (by rfl) ?_;intro W2 hR;have k2:Kb [c.m1,c.m2,c.go] w W2:=k1.trans (hR.kb.mono (by simp));refine⟨⟨⟨_,pK _ k2⟩,rfl⟩,?_⟩;simp only[pts])|(refine lx_call1 ent_isBlock (cK W2 (hR.ct rfl)) rfl (by rfl) ?_;intro W3 hb3;have k3:Kb [c.m1,c.m2,c.go] w W3:=k2.trans (Kb.of_below hb3);have h3:=Hid.mk ((hR.ct rfl).below hb3);have hc3:=Hid.mk ((hmk _ _ hR (hP.ct rfl).2).below hb3);refine⟨⟨⟨_,pK _ k3⟩,rfl⟩,?_⟩;simp only[pts])|(refine lx_skip (by rfl) ?_;simp only[pts]))
  refine lx_done ?_
  go_wp2_with fail
  go_ret
  exact⟨rb (by simp),k3,fun e=>by simp at e⟩
 ·subst e2 e3 e4 e5
  go_enter Tryz.func79,Tryz.ntmps79
  go_wp2_with fail
  refine wp_region_lx p (by kernel_rfl) (by kernel_rfl) (fun _ _ d _ _ h=>by cases d<;>exact h) (pK _ (Kb.refl _ _).drew) ?_
  repeat (first|(refine lx_one rfl ?_;(first|go_big_quiet_skip|(go_big_quiet_want;go_big_quiet_op;go_big_quiet_on));refine wpQuiet_nil ?_)|(refine lx_call2 ent_isNewPart cP rfl rfl (by rfl) ?_;intro W1 hP;have k1:Kb [c.m1,c.m2,c.go] w W1:=(Kb.refl _ _).drew.trans (hP.kb.mono (by simp));refine⟨⟨⟨_,pK _ k1⟩,rfl⟩,?_⟩;simp only[pts])|(refine lx_call2 ent_isInRow (cR W1 (hP.ct rfl).1) rfl rfl (by rfl) ?_;intro W2 hR;have k2:Kb [c.m1,c.m2,c.go] w W2:=k1.trans (hR.kb.mono (by simp));refine⟨⟨⟨_,pK _ k2⟩,rfl⟩,?_⟩;simp only[pts])|(refine lx_call1 ent_isBlock (cK W2 (hR.ct rfl)) rfl (by rfl) ?_;intro W3 hb3;have k3:Kb [c.m1,c.m2,c.go] w W3:=k2.trans (Kb.of_below hb3);have h3:=Hid.mk ((hR.ct rfl).below hb3);have hc3:=Hid.mk ((hmk _ _ hR (hP.ct rfl).2).below hb3);refine⟨⟨⟨_,pK _ k3⟩,rfl⟩,?_⟩;simp only[pts])|(refine lx_call3 ent_isBetween (cB W3) rfl rfl rfl (by rfl) ?_;intro w' hw';obtain rfl:W3=w':=hw'.symm;refine⟨⟨⟨_,pK _ k3⟩,rfl⟩,?_⟩;simp only[pts])|(refine lx_skip (by rfl) ?_;simp only[pts]))
  refine lx_done ?_
  go_wp2_with fail
  go_ret
  exact⟨rb (by simp),k3,fun e=>by simp at e⟩
 ·subst e2 e3 e4 e5 e6
  replace cA:=cA (hzz rfl)
  go_enter Tryz.func79,Tryz.ntmps79
  go_wp2_with fail
  refine wp_region_lx p (by kernel_rfl) (by kernel_rfl) (fun _ _ d _ _ h=>by cases d<;>exact h) (pK _ (Kb.refl _ _).drew) ?_
  repeat (first|(refine lx_one rfl ?_;(first|go_big_quiet_skip|(go_big_quiet_want;go_big_quiet_op;go_big_quiet_on));refine wpQuiet_nil ?_)|(refine lx_call2 ent_isNewPart cP rfl rfl (by rfl) ?_;intro W1 hP;have k1:Kb [c.m1,c.m2,c.go] w W1:=(Kb.refl _ _).drew.trans (hP.kb.mono (by simp));refine⟨⟨⟨_,pK _ k1⟩,rfl⟩,?_⟩;simp only[pts])|(refine lx_call2 ent_isInRow (cR W1 (hP.ct rfl).1) rfl rfl (by rfl) ?_;intro W2 hR;have k2:Kb [c.m1,c.m2,c.go] w W2:=k1.trans (hR.kb.mono (by simp));refine⟨⟨⟨_,pK _ k2⟩,rfl⟩,?_⟩;simp only[pts])|(refine lx_call1 ent_isBlock (cK W2 (hR.ct rfl)) rfl (by rfl) ?_;intro W3 hb3;have k3:Kb [c.m1,c.m2,c.go] w W3:=k2.trans (Kb.of_below hb3);have h3:=Hid.mk ((hR.ct rfl).below hb3);have hc3:=Hid.mk ((hmk _ _ hR (hP.ct rfl).2).below hb3);refine⟨⟨⟨_,pK _ k3⟩,rfl⟩,?_⟩;simp only[pts])|(refine lx_call3 ent_isBetween (cB W3) rfl rfl rfl (by rfl) ?_;intro w' hw';obtain rfl:W3=w':=hw'.symm;refine⟨⟨⟨_,pK _ k3⟩,rfl⟩,?_⟩;simp only[pts])|(refine lx_act (by rfl) (by rfl) ?_;intro K hK;go_simp;refine hK _ _ ⟨⟨_,pK _ (k3.alloc _)⟩,rfl⟩ ?_;clear hK K;try simp only[pts])|(refine lx_call2 ent_areSpots (cA W3 h3.out.kt) rfl rfl (by rfl) ?_;intro W4 hb4;have hbb:Below W3.heap.size W3 W4:=(bel1 W3 _).trans (hb4.mono (al_le _ _));have k4:Kb [c.m1,c.m2,c.go] w W4:=k3.trans (Kb.of_below hbb);refine⟨⟨⟨_,pK _ k4⟩,rfl⟩,?_⟩;simp only[pts])|(refine lx_skip (by rfl) ?_;simp only[pts]))
  refine lx_done ?_
  go_wp2_with fail
  go_ret
  exact⟨rb (by simp),k4,fun e=>by simp at e⟩
 ·subst e2 e3 e4 e5 e6 e7
  replace cA:=cA (hzz rfl)
  replace cE:=cE (hfl rfl)
  go_enter Tryz.func79,Tryz.ntmps79
  go_wp2_with fail
  refine wp_region_lx p (by kernel_rfl) (by kernel_rfl) (fun _ _ d _ _ h=>by cases d<;>exact h) (pK _ (Kb.refl _ _).drew) ?_
  repeat (first|(refine lx_one rfl ?_;(first|go_big_quiet_skip|(go_big_quiet_want;go_big_quiet_op;go_big_quiet_on));refine wpQuiet_nil ?_)|(refine lx_call2 ent_isNewPart cP rfl rfl (by rfl) ?_;intro W1 hP;have k1:Kb [c.m1,c.m2,c.go] w W1:=(Kb.refl _ _).drew.trans (hP.kb.mono (by simp));refine⟨⟨⟨_,pK _ k1⟩,rfl⟩,?_⟩;simp only[pts])|(refine lx_call2 ent_isInRow (cR W1 (hP.ct rfl).1) rfl rfl (by rfl) ?_;intro W2 hR;have k2:Kb [c.m1,c.m2,c.go] w W2:=k1.trans (hR.kb.mono (by simp));refine⟨⟨⟨_,pK _ k2⟩,rfl⟩,?_⟩;simp only[pts])|(refine lx_call1 ent_isBlock (cK W2 (hR.ct rfl)) rfl (by rfl) ?_;intro W3 hb3;have k3:Kb [c.m1,c.m2,c.go] w W3:=k2.trans (Kb.of_below hb3);have h3:=Hid.mk ((hR.ct rfl).below hb3);have hc3:=Hid.mk ((hmk _ _ hR (hP.ct rfl).2).below hb3);refine⟨⟨⟨_,pK _ k3⟩,rfl⟩,?_⟩;simp only[pts])|(refine lx_call3 ent_isBetween (cB W3) rfl rfl rfl (by rfl) ?_;intro w' hw';obtain rfl:W3=w':=hw'.symm;refine⟨⟨⟨_,pK _ k3⟩,rfl⟩,?_⟩;simp only[pts])|(refine lx_act (by rfl) (by rfl) ?_;intro K hK;go_simp;refine hK _ _ ⟨⟨_,pK _ (k3.alloc _)⟩,rfl⟩ ?_;clear hK K;try simp only[pts])|(refine lx_call2 ent_areSpots (cA W3 h3.out.kt) rfl rfl (by rfl) ?_;intro W4 hb4;have hbb:Below W3.heap.size W3 W4:=(bel1 W3 _).trans (hb4.mono (al_le _ _));have k4:Kb [c.m1,c.m2,c.go] w W4:=k3.trans (Kb.of_below hbb);refine⟨⟨⟨_,pK _ k4⟩,rfl⟩,?_⟩;simp only[pts])|(refine lx_call2 ent_canTell (cE W4 (h3.out.below hbb).kt) rfl rfl (by rfl) ?_;intro W5 hb5;have hbc:Below W3.heap.size W3 W5:=hbb.trans (hb5.mono hbb.size);have k5:Kb [c.m1,c.m2,c.go] w W5:=k3.trans (Kb.of_below hbc);refine⟨⟨⟨_,pK _ k5⟩,rfl⟩,?_⟩;simp only[pts])|(refine lx_skip (by rfl) ?_;simp only[pts]))
  refine lx_done ?_
  go_wp2_with fail
  go_ret
  exact⟨rb (by simp),k5,fun e=>by simp at e⟩
 ·subst e2 e3 e4 e5 e6 e7
  replace cA:=cA (hzz rfl)
  replace cE:=cE (hfl rfl)
  go_enter Tryz.func79,Tryz.ntmps79
  go_wp2_with fail
  refine wp_region_lx p (by kernel_rfl) (by kernel_rfl) (fun _ _ d _ _ h=>by cases d<;>exact h) (pK _ (Kb.refl _ _).drew) ?_
  repeat (first|(refine lx_one rfl ?_;(first|go_big_quiet_skip|(go_big_quiet_want;go_big_quiet_op;go_big_quiet_on));refine wpQuiet_nil ?_)|(refine lx_call2 ent_isNewPart cP rfl rfl (by rfl) ?_;intro W1 hP;have k1:Kb [c.m1,c.m2,c.go] w W1:=(Kb.refl _ _).drew.trans (hP.kb.mono (by simp));refine⟨⟨⟨_,pK _ k1⟩,rfl⟩,?_⟩;simp only[pts])|(refine lx_call2 ent_isInRow (cR W1 (hP.ct rfl).1) rfl rfl (by rfl) ?_;intro W2 hR;have k2:Kb [c.m1,c.m2,c.go] w W2:=k1.trans (hR.kb.mono (by simp));refine⟨⟨⟨_,pK _ k2⟩,rfl⟩,?_⟩;simp only[pts])|(refine lx_call1 ent_isBlock (cK W2 (hR.ct rfl)) rfl (by rfl) ?_;intro W3 hb3;have k3:Kb [c.m1,c.m2,c.go] w W3:=k2.trans (Kb.of_below hb3);have h3:=Hid.mk ((hR.ct rfl).below hb3);have hc3:=Hid.mk ((hmk _ _ hR (hP.ct rfl).2).below hb3);refine⟨⟨⟨_,pK _ k3⟩,rfl⟩,?_⟩;simp only[pts])|(refine lx_call3 ent_isBetween (cB W3) rfl rfl rfl (by rfl) ?_;intro w' hw';obtain rfl:W3=w':=hw'.symm;refine⟨⟨⟨_,pK _ k3⟩,rfl⟩,?_⟩;simp only[pts])|(refine lx_act (by rfl) (by rfl) ?_;intro K hK;go_simp;refine hK _ _ ⟨⟨_,pK _ (k3.alloc _)⟩,rfl⟩ ?_;clear hK K;try simp only[pts])|(refine lx_call2 ent_areSpots (cA W3 h3.out.kt) rfl rfl (by rfl) ?_;intro W4 hb4;have hbb:Below W3.heap.size W3 W4:=(bel1 W3 _).trans (hb4.mono (al_le _ _));have k4:Kb [c.m1,c.m2,c.go] w W4:=k3.trans (Kb.of_below hbb);refine⟨⟨⟨_,pK _ k4⟩,rfl⟩,?_⟩;simp only[pts])|(refine lx_call2 ent_canTell (cE W4 (h3.out.below hbb).kt) rfl rfl (by rfl) ?_;intro W5 hb5;have hbc:Below W3.heap.size W3 W5:=hbb.trans (hb5.mono hbb.size);have k5:Kb [c.m1,c.m2,c.go] w W5:=k3.trans (Kb.of_below hbc);refine⟨⟨⟨_,pK _ k5⟩,rfl⟩,?_⟩;simp only[pts])|(refine lx_skip (by rfl) ?_;simp only[pts]))
  refine lx_done ?_
  go_wp2_with fail
  go_ret
  exact⟨rb (by simp),k5,fun _=>⟨h3.out.below hbc,hc3.out.below hbc⟩⟩
end Go.Proofs.YtjlbcdnkglaheaaGreatDoor
