import Derived.Test.YtjlbcdnkglaheaaGreatDoorK15
namespace Go.Proofs.YtjlbcdnkglaheaaGreatDoor
set_option maxRecDepth 1000000
set_option maxHeartbeats 16000000
open Go.ChangeShapes Go.WideShapes Go.ChangeAt Go.RowKit Go.Shelf Go.Maps
theorem ent_isComposite:∀ ag w,(callFunc 81 ag).run Tryz.prog w = .ok (.enter 81 ag) w:=enters_of Tryz.func81 (by kernel_rfl) rfl
theorem ent_isEncoding:∀ ag w,(callFunc 83 ag).run Tryz.prog w = .ok (.enter 83 ag) w:=enters_of Tryz.func83 (by kernel_rfl) rfl
theorem ent_fit:∀ ag w,(callFunc 115 ag).run Tryz.prog w = .ok (.enter 115 ag) w:=enters_of Tryz.func115 (by kernel_rfl) rfl
def cmpT (x:Sv) (xt t:Tk) (d8:Int):Bool:=decide (d8<16)&&plcT x xt t
theorem isComposite_any (c:Cf) (f:Fm) (L:List Sv) (x:Sv) (xt t:Tk) (rl:Value) (dep:Nat->Int) (wh:Bool) (w:World) (h:Ct w c f L x xt t rl dep wh) (hop:t.op=8) (b0:xt.op=2\/xt.op=8\/xt.op=10\/xt.op=12) (b1:0<=xt.off/\xt.off<=65535) (b2:0<=xt.siz/\xt.siz<=65535) :
  Calls Tryz.prog 81 #[.pointer (some ⟨c.B,0,none⟩),.pointer (some ⟨c.g,c.o+c.i*21,none⟩)] w fun r w'=>r = .returned (.bool (cmpT x xt t (dep 8)))/\Lft [c.go] w w' (cmpT x xt t (dep 8)) (Ct w' c f L (plcX x xt t) xt t rl dep wh):=by
 have a:=h.ap
 have ng:c.g∉[c.go]:=notin1 (by have:=a.g;have:=a.go;omega)
 have cL:=isPlaced_any c f L x xt t rl dep wh w.drew (h.below (tdr1 (Below.refl _ _))) b0 b1 b2
 obtain⟨pc,cc,hT,hU,hcc,kT⟩:=h.tk
 obtain⟨px,cx,hX,kX⟩:=h.xk
 have hS:=h.sc
 have hC:=h.ck
 have hF:=h.fm
 have hlg:=h.lg
 have hlo:=h.op.lt
 have hlf:=h.fl
 have t0v:w.cell? ⟨c.g,c.o+c.i*21,none⟩=some (.int .i64 8):=hop▸hT.c0
 have k8v:=hC.cd 8 (by decide)
 obtain⟨p,pB,pK,hN,t0,k8⟩:∃ p:World->Prop,(∀ W,p W->Kb [c.go] w W) /\
   (∀ W,Kb [c.go] w W->p W) /\
   Nonempty (CW p) /\
   (∀ θ:CW p,θ.w.cell? ⟨c.g,c.o+c.i*21,none⟩=some (.int .i64 8)) /\
   (∀ θ:CW p,θ.w.cell? ⟨c.B,12,none⟩=some (.int .i64 (dep 8))) :=
  ⟨Kb [c.go] w,
   fun _ h=>h,
   fun _ h=>h,
   ⟨⟨_,Kb.refl _ _⟩⟩,
   fun θ=>(θ.h.cell hlg ng).trans t0v,
   fun θ=>(θ.h.cell hC.lt (notin1 a.Bo)).trans k8v⟩
 clear hT hX hS hC hF hU hcc hlg hlo hlf kT kX a ng t0v k8v hop b0 b1 b2
 replace h:=Hid.mk h
 unfold cmpT
 rcases Bool.eq_false_or_eq_true (decide (dep 8<16)) with e1|e1
 ·go_enter Tryz.func81,Tryz.ntmps81
  go_wp2_with fail
  refine wp_region_lx p (by kernel_rfl) (by kernel_rfl) (fun _ _ d _ _ h=>by cases d<;>exact h) (pK _ (Kb.refl _ _).drew) ?_
  repeat (first|(refine lx_one rfl ?_;(first|go_big_quiet_skip|(go_big_quiet_want;go_big_quiet_op;go_big_quiet_on));refine wpQuiet_nil ?_)|(refine lx_call2 ent_isPlaced cL rfl rfl (by rfl) ?_;intro W1 hP;refine⟨⟨⟨_,pK _ ((Kb.refl _ _).drew.trans hP.kb)⟩,rfl⟩,?_⟩;simp only[pts])|(refine lx_skip (by rfl) ?_;simp only[pts]))
  refine lx_done ?_
  go_wp2_with fail
  go_ret
  rw[e1]
  exact⟨rb (by simp),(Kb.refl _ _).drew.trans hP.kb,fun e=>hP.ct (by simpa using e)⟩
 ·go_enter Tryz.func81,Tryz.ntmps81
  go_wp2_with fail
  refine wp_region_lx p (by kernel_rfl) (by kernel_rfl) (fun _ _ d _ _ h=>by cases d<;>exact h) (pK _ (Kb.refl _ _).drew) ?_
  repeat (first|(refine lx_one rfl ?_;(first|go_big_quiet_skip|(go_big_quiet_want;go_big_quiet_op;go_big_quiet_on));refine wpQuiet_nil ?_)|(refine lx_skip (by rfl) ?_;simp only[pts]))
  refine lx_done ?_
  go_wp2_with fail
  go_ret
  rw[e1]
  exact⟨rb (by simp),(Kb.refl _ _).drew,fun e=>by simp at e⟩
theorem uRow3 {w:World} {g H:Nat} {a b d:Int} {ty:TypeId} (h:w.heap[g]?=some (.cells #[.int .u64 a,.int .u64 b,.int .u64 d] ty)) (hg:g<H):URow w (some ⟨g,0,none⟩) H [a,b,d] :=
 ⟨fun i s hs=>by
  refine⟨g,0,rfl,hg,?_⟩
  rcases i with _|_|_|i
  ·cases hs;exact cell_at h 0
  ·cases hs;exact cell_at h 1
  ·cases hs;exact cell_at h 2
  ·cases hs⟩
def encT (x:Sv) (xt t:Tk):Bool:=plcT x xt t&&bet t.len 1 65535&&[t.nul,t.lo,t.hi].all (fitsP t.prim)&&(if t.pres=2 then (t.siz==0)&&((t.cst.length:Int)==t.len)&&t.cst.all (fitsP t.prim) else (t.siz==t.len*sz t.prim)&&((t.cst.length:Int)==0))
theorem isEncoding_any (c:Cf) (f:Fm) (L:List Sv) (x:Sv) (xt t:Tk) (rl:Value) (dep:Nat->Int) (wh:Bool) (w:World) (h:Ct w c f L x xt t rl dep wh) (b0:xt.op=2\/xt.op=8\/xt.op=10\/xt.op=12) (b1:0<=xt.off/\xt.off<=65535) (b2:0<=xt.siz/\xt.siz<=65535) :
  Calls Tryz.prog 83 #[.pointer (some ⟨c.B,0,none⟩),.pointer (some ⟨c.g,c.o+c.i*21,none⟩)] w fun r w'=>r = .returned (.bool (encT x xt t))/\Lft [c.go] w w' (encT x xt t) (Ct w' c f L (plcX x xt t) xt t rl dep wh):=by
 have a:=h.ap
 have ng:c.g∉[c.go]:=notin1 (by have:=a.g;have:=a.go;omega)
 have cL:=isPlaced_any c f L x xt t rl dep wh w.drew (h.below (tdr1 (Below.refl _ _))) b0 b1 b2
 obtain⟨pc,cc,hT,hU,hcc,kT⟩:=h.tk
 obtain⟨px,cx,hX,kX⟩:=h.xk
 have hS:=h.sc
 have hC:=h.ck
 have hF:=h.fm
 have hlg:=h.lg
 have hlo:=h.op.lt
 have hlf:=h.fl
 have cB:=isBetween_any t.len 1 65535
 have cF:∀ W,KT W->Calls Tryz.prog 115 #[.int .i64 t.prim,.slice (some ⟨W.heap.size,0,none⟩) 3 3] (W.alloc (.cells #[.int .u64 t.nul,.int .u64 t.lo,.int .u64 t.hi] 49)) fun r w'=>r = .returned (.bool ([t.nul,t.lo,t.hi].all (fitsP t.prim)))/\Below (W.alloc (.cells #[.int .u64 t.nul,.int .u64 t.lo,.int .u64 t.hi] 49)).heap.size (W.alloc (.cells #[.int .u64 t.nul,.int .u64 t.lo,.int .u64 t.hi] 49)) w' :=
  fun W hW=>fit_any t.prim [t.nul,t.lo,t.hi] _ 3 _ (hW.al _) (uRow3 (heap_al _ _) (szal _ _)) (by show 3*8<=_;omega) (by
   intro y hy
   simp only[List.mem_cons,List.not_mem_nil,or_false] at hy
   rcases hy with rfl|rfl|rfl
   ·exact kT.nul
   ·exact kT.lo
   ·exact kT.hi)
 have hZ:∀ W,Ct W c f L (plcX x xt t) xt t rl dep wh->W.cell? ⟨c.g,c.o+c.i*21+8,none⟩=some (.int .i64 t.pres):=fun W hW=>by
  obtain⟨pc,cc,hT,_⟩:=hW.tk
  exact hT.c8
 have cS:∀ W,KT W->Calls Tryz.prog 59 #[.int .i64 t.prim] W fun e w'=>e = .returned (.int .i64 (sz t.prim))/\Below W.heap.size W w':=fun W hW=>size_any t.prim W hW
 have hz8:=sz_b t.prim
 have hcl:=kT.cst
 have hcs:=kT.cs
 obtain⟨p,pB,pK,hN,t6,t7,t9,t10,t11⟩:∃ p:World->Prop,(∀ W,p W->Kb [c.go] w W) /\
   (∀ W,Kb [c.go] w W->p W) /\
   Nonempty (CW p) /\
   (∀ θ:CW p,θ.w.cell? ⟨c.g,c.o+c.i*21+6,none⟩=some (.int .i64 t.prim)) /\
   (∀ θ:CW p,θ.w.cell? ⟨c.g,c.o+c.i*21+7,none⟩=some (.int .i64 t.len)) /\
   (∀ θ:CW p,θ.w.cell? ⟨c.g,c.o+c.i*21+9,none⟩=some (.int .u64 t.nul)) /\
   (∀ θ:CW p,θ.w.cell? ⟨c.g,c.o+c.i*21+10,none⟩=some (.int .u64 t.lo)) /\
   (∀ θ:CW p,θ.w.cell? ⟨c.g,c.o+c.i*21+11,none⟩=some (.int .u64 t.hi)) :=
  ⟨Kb [c.go] w,
   fun _ h=>h,
   fun _ h=>h,
   ⟨⟨_,Kb.refl _ _⟩⟩,
   fun θ=>(θ.h.cell hlg ng).trans hT.c6,
   fun θ=>(θ.h.cell hlg ng).trans hT.c7,
   fun θ=>(θ.h.cell hlg ng).trans hT.c9,
   fun θ=>(θ.h.cell hlg ng).trans hT.c10,
   fun θ=>(θ.h.cell hlg ng).trans hT.c11⟩
 clear hT hX hS hC hF hU hcc hlg hlo hlf kT kX a ng b0 b1 b2
 replace h:=Hid.mk h
 replace hcs:=Hid.mk hcs
 unfold encT
 obtain⟨q1,hq1⟩:∃ q,plcT x xt t=q:=⟨_,rfl⟩
 obtain⟨q2,hq2⟩:∃ q,bet t.len 1 65535=q:=⟨_,rfl⟩
 obtain⟨q3,hq3⟩:∃ q,[t.nul,t.lo,t.hi].all (fitsP t.prim)=q:=⟨_,rfl⟩
 have hln:q2=true->1<=t.len/\t.len<=65535:=fun e=>betT (hq2.trans e)
 rw[hq1] at cL ⊢
 rw[hq2] at cB ⊢
 rw[hq3] at cF ⊢
 clear hq1 hq2 hq3
 rcases ch3 q1 q2 q3 with e1|⟨e1,e2⟩|⟨e1,e2,e3⟩|⟨e1,e2,e3⟩
 ·subst e1
  go_enter Tryz.func83,Tryz.ntmps83
  go_wp2_with fail
  refine wp_region_lx p (by kernel_rfl) (by kernel_rfl) (fun _ _ d _ _ h=>by cases d<;>exact h) (pK _ (Kb.refl _ _).drew) ?_
  repeat (first|(refine lx_one rfl ?_;(first|go_big_quiet_skip|(go_big_quiet_want;go_big_quiet_op;go_big_quiet_on));refine wpQuiet_nil ?_)|(refine lx_call2 ent_isPlaced cL rfl rfl (by rfl) ?_;intro W1 hP;have k1:Kb [c.go] w W1:=(Kb.refl _ _).drew.trans hP.kb;refine⟨⟨⟨_,pK _ k1⟩,rfl⟩,?_⟩;simp only[pts])|(refine lx_skip (by rfl) ?_;simp only[pts]))
  refine lx_done ?_
  go_wp2_with fail
  all_goals
   go_ret
   exact⟨rfl,k1,fun e=>by simp at e⟩
 ·subst e1 e2
  go_enter Tryz.func83,Tryz.ntmps83
  go_wp2_with fail
  refine wp_region_lx p (by kernel_rfl) (by kernel_rfl) (fun _ _ d _ _ h=>by cases d<;>exact h) (pK _ (Kb.refl _ _).drew) ?_
  repeat (first|(refine lx_one rfl ?_;(first|go_big_quiet_skip|(go_big_quiet_want;go_big_quiet_op;go_big_quiet_on));refine wpQuiet_nil ?_)|(refine lx_call2 ent_isPlaced cL rfl rfl (by rfl) ?_;intro W1 hP;have k1:Kb [c.go] w W1:=(Kb.refl _ _).drew.trans hP.kb;refine⟨⟨⟨_,pK _ k1⟩,rfl⟩,?_⟩;simp only[pts])|(refine lx_call3 ent_isBetween (cB W1) rfl rfl rfl (by rfl) ?_;intro w' hw';obtain rfl:W1=w':=hw'.symm;refine⟨⟨⟨_,pK _ k1⟩,rfl⟩,?_⟩;simp only[pts])|(refine lx_skip (by rfl) ?_;simp only[pts]))
  refine lx_done ?_
  go_wp2_with fail
  all_goals
   go_ret
   exact⟨rfl,k1,fun e=>by simp at e⟩
 ·subst e1 e2 e3
  go_enter Tryz.func83,Tryz.ntmps83
  go_wp2_with fail
  refine wp_region_lx p (by kernel_rfl) (by kernel_rfl) (fun _ _ d _ _ h=>by cases d<;>exact h) (pK _ (Kb.refl _ _).drew) ?_
  repeat (first|(refine lx_one rfl ?_;(first|go_big_quiet_skip|(go_big_quiet_want;go_big_quiet_op;go_big_quiet_on));refine wpQuiet_nil ?_)|(refine lx_call2 ent_isPlaced cL rfl rfl (by rfl) ?_;intro W1 hP;have k1:Kb [c.go] w W1:=(Kb.refl _ _).drew.trans hP.kb;refine⟨⟨⟨_,pK _ k1⟩,rfl⟩,?_⟩;simp only[pts])|(refine lx_call3 ent_isBetween (cB W1) rfl rfl rfl (by rfl) ?_;intro w' hw';obtain rfl:W1=w':=hw'.symm;refine⟨⟨⟨_,pK _ k1⟩,rfl⟩,?_⟩;simp only[pts])|(refine lx_act (by rfl) (by rfl) ?_;intro K hK;go_simp;refine hK _ _ ⟨⟨_,pK _ (k1.alloc _)⟩,rfl⟩ ?_;clear hK K;try simp only[pts])|(refine lx_call2 ent_fit (cF W1 (hP.ct rfl).kt) rfl rfl (by rfl) ?_;intro W2 hb2;have hbb:Below W1.heap.size W1 W2:=(bel1 W1 _).trans (hb2.mono (al_le _ _));have k2:Kb [c.go] w W2:=k1.trans (Kb.of_below hbb);refine⟨⟨⟨_,pK _ k2⟩,rfl⟩,?_⟩;simp only[pts])|(refine lx_skip (by rfl) ?_;simp only[pts]))
  refine lx_done ?_
  go_wp2_with fail
  all_goals
   go_ret
   exact⟨rfl,k2,fun e=>by simp at e⟩
 ·subst e1 e2 e3
  have hln:=hln rfl
  by_cases e4:t.pres=2
  ·have d4:(t.pres==2)=true:=beq_iff_eq.2 e4
   rw[if_pos e4]
   clear e4
   rcases ch2 (t.siz==0) ((t.cst.length:Int)==t.len) with e5|⟨e5,e6⟩|⟨e5,e6⟩
   all_goals
    go_enter Tryz.func83,Tryz.ntmps83
    go_wp2_with fail
    refine wp_region_lx p (by kernel_rfl) (by kernel_rfl) (fun _ _ d _ _ h=>by cases d<;>exact h) (pK _ (Kb.refl _ _).drew) ?_
    repeat (first|(refine lx_one rfl ?_;(first|go_big_quiet_skip|(go_big_quiet_want;go_big_quiet_op;go_big_quiet_on));refine wpQuiet_nil ?_)|(refine lx_call2 ent_isPlaced cL rfl rfl (by rfl) ?_;intro W1 hP;have k1:Kb [c.go] w W1:=(Kb.refl _ _).drew.trans hP.kb;refine⟨⟨⟨_,pK _ k1⟩,rfl⟩,?_⟩;simp only[pts])|(refine lx_call3 ent_isBetween (cB W1) rfl rfl rfl (by rfl) ?_;intro w' hw';obtain rfl:W1=w':=hw'.symm;refine⟨⟨⟨_,pK _ k1⟩,rfl⟩,?_⟩;simp only[pts])|(refine lx_act (by rfl) (by rfl) ?_;intro K hK;go_simp;refine hK _ _ ⟨⟨_,pK _ (k1.alloc _)⟩,rfl⟩ ?_;clear hK K;try simp only[pts])|(refine lx_call2 ent_fit (cF W1 (hP.ct rfl).kt) rfl rfl (by rfl) ?_;intro W2 hb2;have hbb:Below W1.heap.size W1 W2:=(bel1 W1 _).trans (hb2.mono (al_le _ _));have k2:Kb [c.go] w W2:=k1.trans (Kb.of_below hbb);refine⟨⟨⟨_,pK _ k2⟩,rfl⟩,?_⟩;simp only[pts])|(refine lx_skip (by rfl) ?_;simp only[pts]))
    refine lx_done ?_
    have h2:=(hP.ct rfl).below hbb
    have y8:=hZ _ h2
    clear t6 t7 t9 t10 t11 hN pB pK hZ cL cB cF
    go_wp2_with fail
    obtain⟨pc,cc,hT,hU,hcc,kT⟩:=h2.tk
    obtain⟨px,cx,hX,kX⟩:=h2.xk
    have hS:=h2.sc
    have hC:=h2.ck
    have hF:=h2.fm
    have hlg:=h2.lg
    have hlo:=h2.op.lt
    have hlf:=h2.fl
    obtain⟨p,pB,pK,hN,t4,t6,t7,t12⟩:∃ p:World->Prop,(∀ W,p W->Kb [] W2 W) /\
   (∀ W,Kb [] W2 W->p W) /\
   Nonempty (CW p) /\
   (∀ θ:CW p,θ.w.cell? ⟨c.g,c.o+c.i*21+4,none⟩=some (.int .i64 t.siz)) /\
   (∀ θ:CW p,θ.w.cell? ⟨c.g,c.o+c.i*21+6,none⟩=some (.int .i64 t.prim)) /\
   (∀ θ:CW p,θ.w.cell? ⟨c.g,c.o+c.i*21+7,none⟩=some (.int .i64 t.len)) /\
   (∀ θ:CW p,θ.w.cell? ⟨c.g,c.o+c.i*21+12,none⟩=some (.slice pc t.cst.length cc)) :=
     ⟨Kb [] W2,
   fun _ h=>h,
   fun _ h=>h,
   ⟨⟨_,Kb.refl _ _⟩⟩,
   fun θ=>(θ.h.cell hlg List.not_mem_nil).trans hT.c4,
   fun θ=>(θ.h.cell hlg List.not_mem_nil).trans hT.c6,
   fun θ=>(θ.h.cell hlg List.not_mem_nil).trans hT.c7,
   fun θ=>(θ.h.cell hlg List.not_mem_nil).trans hT.c12⟩
    have hU2:=hU.mono h2.sz
    clear hT hX hS hC hF hU hcc hlg hlo hlf kT kX
    have k2t:=h2.kt
    replace h2:=Hid.mk h2
    refine wp_region_lx p (by kernel_rfl) (by kernel_rfl) (fun _ _ d _ _ h=>by cases d<;>exact h) (pK _ (Kb.refl _ _).drew) ?_
    repeat (first|(refine lx_one rfl ?_;(first|go_big_quiet_skip|(go_big_quiet_want;go_big_quiet_op;go_big_quiet_on));refine wpQuiet_nil ?_)|(refine lx_call2 ent_fit (fit_any t.prim t.cst pc cc W2.drew (k2t.up (tdr1 (Below.refl _ _))) (hU2.below (tdr1 (Below.refl _ _))) hcl hcs.out) rfl rfl (by rfl) ?_;intro W3 hb3;refine⟨⟨⟨_,pK _ ((Kb.refl _ _).drew.trans (Kb.of_below hb3))⟩,rfl⟩,?_⟩;simp only[pts])|(refine lx_skip (by rfl) ?_;simp only[pts]))
    refine lx_done ?_
    go_wp2_with fail
    go_ret
    first
     | exact⟨rb (by simp[*]),k2.drew,fun e=>by simp[*] at e⟩
     | exact⟨rb (by simp[*]),k2.trans ((Kb.refl _ _).drew.trans (Kb.of_below hb3)),fun _=>(h2.out.below (tdr1 (Below.refl _ _))).below hb3⟩
  ·have d4:(t.pres==2)=false:=beqN e4
   rw[if_neg e4]
   clear e4
   have hm1:0<=t.len*sz t.prim:=Int.mul_nonneg (by omega) hz8.1
   have hm2:t.len*sz t.prim<=65535*8:=Int.mul_le_mul hln.2 hz8.2 hz8.1 (by omega)
   have e7:IntKind.i64.wrap (t.len*sz t.prim)=t.len*sz t.prim:=by rw[IntKind.wrap_i64];omega
   rcases Bool.eq_false_or_eq_true (t.siz==t.len*sz t.prim) with e5|e5
   all_goals
    go_enter Tryz.func83,Tryz.ntmps83
    go_wp2_with fail
    refine wp_region_lx p (by kernel_rfl) (by kernel_rfl) (fun _ _ d _ _ h=>by cases d<;>exact h) (pK _ (Kb.refl _ _).drew) ?_
    repeat (first|(refine lx_one rfl ?_;(first|go_big_quiet_skip|(go_big_quiet_want;go_big_quiet_op;go_big_quiet_on));refine wpQuiet_nil ?_)|(refine lx_call2 ent_isPlaced cL rfl rfl (by rfl) ?_;intro W1 hP;have k1:Kb [c.go] w W1:=(Kb.refl _ _).drew.trans hP.kb;refine⟨⟨⟨_,pK _ k1⟩,rfl⟩,?_⟩;simp only[pts])|(refine lx_call3 ent_isBetween (cB W1) rfl rfl rfl (by rfl) ?_;intro w' hw';obtain rfl:W1=w':=hw'.symm;refine⟨⟨⟨_,pK _ k1⟩,rfl⟩,?_⟩;simp only[pts])|(refine lx_act (by rfl) (by rfl) ?_;intro K hK;go_simp;refine hK _ _ ⟨⟨_,pK _ (k1.alloc _)⟩,rfl⟩ ?_;clear hK K;try simp only[pts])|(refine lx_call2 ent_fit (cF W1 (hP.ct rfl).kt) rfl rfl (by rfl) ?_;intro W2 hb2;have hbb:Below W1.heap.size W1 W2:=(bel1 W1 _).trans (hb2.mono (al_le _ _));have k2:Kb [c.go] w W2:=k1.trans (Kb.of_below hbb);refine⟨⟨⟨_,pK _ k2⟩,rfl⟩,?_⟩;simp only[pts])|(refine lx_skip (by rfl) ?_;simp only[pts]))
    refine lx_done ?_
    have h2:=(hP.ct rfl).below hbb
    have y8:=hZ _ h2
    clear t6 t7 t9 t10 t11 hN pB pK hZ cL cB cF
    go_wp2_with fail
    obtain⟨pc,cc,hT,hU,hcc,kT⟩:=h2.tk
    obtain⟨px,cx,hX,kX⟩:=h2.xk
    have hS:=h2.sc
    have hC:=h2.ck
    have hF:=h2.fm
    have hlg:=h2.lg
    have hlo:=h2.op.lt
    have hlf:=h2.fl
    obtain⟨p,pB,pK,hN,t4,t6,t7,t12⟩:∃ p:World->Prop,(∀ W,p W->Kb [] W2 W) /\
   (∀ W,Kb [] W2 W->p W) /\
   Nonempty (CW p) /\
   (∀ θ:CW p,θ.w.cell? ⟨c.g,c.o+c.i*21+4,none⟩=some (.int .i64 t.siz)) /\
   (∀ θ:CW p,θ.w.cell? ⟨c.g,c.o+c.i*21+6,none⟩=some (.int .i64 t.prim)) /\
   (∀ θ:CW p,θ.w.cell? ⟨c.g,c.o+c.i*21+7,none⟩=some (.int .i64 t.len)) /\
   (∀ θ:CW p,θ.w.cell? ⟨c.g,c.o+c.i*21+12,none⟩=some (.slice pc t.cst.length cc)) :=
     ⟨Kb [] W2,
   fun _ h=>h,
   fun _ h=>h,
   ⟨⟨_,Kb.refl _ _⟩⟩,
   fun θ=>(θ.h.cell hlg List.not_mem_nil).trans hT.c4,
   fun θ=>(θ.h.cell hlg List.not_mem_nil).trans hT.c6,
   fun θ=>(θ.h.cell hlg List.not_mem_nil).trans hT.c7,
   fun θ=>(θ.h.cell hlg List.not_mem_nil).trans hT.c12⟩
    have hU2:=hU.mono h2.sz
    clear hT hX hS hC hF hU hcc hlg hlo hlf kT kX
    have k2t:=h2.kt
    replace h2:=Hid.mk h2
    refine wp_region_lx p (by kernel_rfl) (by kernel_rfl) (fun _ _ d _ _ h=>by cases d<;>exact h) (pK _ (Kb.refl _ _).drew) ?_
    repeat (first|(refine lx_one rfl ?_;(first|go_big_quiet_skip|(go_big_quiet_want;go_big_quiet_op;go_big_quiet_on));refine wpQuiet_nil ?_)|(refine lx_call1 ent_size (cS W2.drew (k2t.up (tdr1 (Below.refl _ _)))) rfl (by rfl) ?_;intro W3 hb3;refine⟨⟨⟨_,pK _ ((Kb.refl _ _).drew.trans (Kb.of_below hb3))⟩,rfl⟩,?_⟩;simp only[pts])|(refine lx_skip (by rfl) ?_;simp only[pts]))
    refine lx_done ?_
    go_wp2_with fail
    go_ret
    exact⟨rb (by simp[*]),k2.trans ((Kb.refl _ _).drew.trans (Kb.of_below hb3)),fun _=>(h2.out.below (tdr1 (Below.refl _ _))).below hb3⟩
end Go.Proofs.YtjlbcdnkglaheaaGreatDoor
