import Derived.Test.YtbhmciieiilcfaaGreatDoorK18
namespace Go.Proofs.YtbhmciieiilcfaaGreatDoor
set_option maxRecDepth 1000000
set_option maxHeartbeats 16000000
open Go.ChangeShapes Go.WideShapes Go.ChangeAt Go.RowKit Go.Shelf Go.Maps
theorem ent_isPaired:∀ ag w,(callFunc 96 ag).run Tryz.prog w = .ok (.enter 96 ag) w:=enters_of Tryz.func96 (by kernel_rfl) rfl
theorem isPaired_beg (B gf g o i H m1 m2 m3 cp:Nat) (op rl:Value) (dep:Nat->Int) (wh:Bool) (f:Fm) (t:Tk) (w:World) (hC:CkC w B gf op (i:Int) rl m1 m2 m3 dep wh) (hF:FmC w gf 0 f (some ⟨g,o,none⟩) cp) (hgf:gf<w.heap.size) (hL:TkL w (some ⟨g,o,none⟩) H f.toks) (hH:H<=w.heap.size) (ht:f.toks[i]?=some t) (hb:bgO t.op=true) :
  Calls Tryz.prog 96 #[.pointer (some ⟨B,0,none⟩),.pointer (some ⟨g,o+i*21,none⟩)] w fun r w'=>r = .returned (.bool (pairB f.toks i t))/\Below w.heap.size w w':=by
 obtain⟨_,_,pc,cc,e,hgH,hT,_,_,kT⟩:=hL.at ht
 cases e
 have hg:g<w.heap.size:=Nat.lt_of_lt_of_le hgH hH
 have hlen:=hL.len
 have hil:=(List.getElem?_eq_some_iff.1 ht).1
 have ho:0<=t.op/\t.op<=15:=by
  have hb:=hb
  unfold bgO at hb
  have:=decT hb
  omega
 have cG:=fun W=>begins_any t.op W ho
 rw[hb] at cG
 have t0:=hT.c0
 have e1:IntKind.i64.wrap ((i:Int)+1)=(i:Int)+1:=by rw[IntKind.wrap_i64];omega
 have e2:IntKind.i64.wrap ((f.toks.length:Int)-1)=(f.toks.length:Int)-1:=by rw[IntKind.wrap_i64];omega
 by_cases q:(i:Int)<t.pair/\t.pair<f.toks.length
 ·obtain⟨n,hn⟩:∃ n:Nat,t.pair=n:=⟨t.pair.toNat,by omega⟩
  obtain⟨u,hu⟩:∃ u,f.toks[n]?=some u:=⟨f.toks[n]'(by omega),List.getElem?_eq_getElem (by omega)⟩
  obtain⟨_,_,pu,cu,e,_,hU,_⟩:=hL.at hu
  cases e
  have hbt:bet (n:Int) ((i:Int)+1) ((f.toks.length:Int)-1)=true:=decide_eq_true (by omega)
  have hres:pairB f.toks i t=endT t u i:=by
   unfold pairB endT
   rw[decide_eq_true q,hn,Int.toNat_natCast,hu]
   simp only[Bool.true_and,beqD]
  rw[hres]
  have t20v:w.cell? ⟨g,o+i*21+20,none⟩=some (.int .i64 (n:Int)):=by rw[hT.c20,hn]
  have hni:(n:Int)<(f.toks.length:Int):=by omega
  obtain⟨p,pB,pK,hN,t20,k1,k2,m12,c1,c2⟩:∃ p:World->Prop,(∀ W,p W->Kb [] w W) /\
   (∀ W,Kb [] w W->p W) /\
   Nonempty (CW p) /\
   (∀ θ:CW p,θ.w.cell? ⟨g,o+i*21+20,none⟩=some (.int .i64 (n:Int))) /\
   (∀ θ:CW p,θ.w.cell? ⟨B,1,none⟩=some (.pointer (some ⟨gf,0,none⟩))) /\
   (∀ θ:CW p,θ.w.cell? ⟨B,2,none⟩=some (.int .i64 (i:Int))) /\
   (∀ θ:CW p,θ.w.cell? ⟨gf,12,none⟩=some (.slice (some ⟨g,o,none⟩) f.toks.length cp)) /\
   (∀ W,p W->Calls Tryz.prog 82 #[.int .i64 (n:Int),.int .i64 ((i:Int)+1),.int .i64 ((f.toks.length:Int)-1)] W fun e w'=>e = .returned (.bool true)/\p w') /\
   (∀ W,p W->Calls Tryz.prog 128 #[.pointer (some ⟨B,0,none⟩),.pointer (some ⟨g,o+i*21,none⟩),.pointer (some ⟨g,o+n*21,none⟩)] W fun e w'=>e = .returned (.bool (endT t u i))/\p w') :=
   ⟨Kb [] w,
   fun _ h=>h,
   fun _ h=>h,
   ⟨⟨_,Kb.refl _ _⟩⟩,
   fun θ=>(θ.h.cell hg List.not_mem_nil).trans t20v,
   fun θ=>(θ.h.cell hC.lt List.not_mem_nil).trans hC.c1,
   fun θ=>(θ.h.cell hC.lt List.not_mem_nil).trans hC.c2,
   fun θ=>(θ.h.cell hgf List.not_mem_nil).trans (by simpa using hF.c12),
   callS (fun W=>hbt▸isBetween_any _ _ _ W),
   bcall (fun W hW=>isEndedBy_any B gf g (o+i*21) (o+n*21) m1 m2 m3 op rl i dep wh t u pc pu cc cu W (hC.same hW.size (hW.block _ hC.lt List.not_mem_nil)) (hT.same (hW.block _ hg List.not_mem_nil)) (hU.same (hW.block _ hg List.not_mem_nil)) (Nat.lt_of_lt_of_le hg hW.size) (by omega))⟩
  clear hC hF hL hT hU hgf hH ht hb hu hbt hres t20v hn q ho hgH hil hlen kT
  go_enter Tryz.func96,Tryz.ntmps96
  go_wp2_with (go_at_call 101;refine(cG _).mono ?_;rintro _ w' ⟨rfl,hw'⟩;obtain rfl:w=w':=hw'.symm)
  refine wp_region_lp p (by kernel_rfl) (by kernel_rfl) (fun _ _ d _ _ h=>by cases d<;>exact h) (pK _ (Kb.refl _ _).drew) fun W hp=>?_
  repeat (first|(refine lx_one rfl ?_;(first|go_big_quiet_skip|(go_big_quiet_want;go_big_quiet_op;go_big_quiet_on));refine wpQuiet_nil ?_)|(refine lx_p3 ent_isBetween c1 hp rfl rfl rfl (by rfl) ?_;intro W hp;simp only[pts])|(refine lx_p3 ent_isEndedBy c2 hp rfl rfl rfl (by rfl) ?_;intro W hp;simp only[pts])|(refine lx_skip (by rfl) ?_;simp only[pts]))
  refine lx_done ?_
  go_wp2_with fail
  go_ret
  exact⟨rfl,Kb0 (pB _ hp)⟩
 ·have hbt:bet t.pair ((i:Int)+1) ((f.toks.length:Int)-1)=false:=decide_eq_false (by omega)
  have hres:pairB f.toks i t=false:=by
   unfold pairB
   rw[decide_eq_false q,Bool.false_and]
  rw[hres]
  obtain⟨p,pB,pK,hN,t20,k1,k2,m12,c1⟩:∃ p:World->Prop,(∀ W,p W->Kb [] w W) /\
   (∀ W,Kb [] w W->p W) /\
   Nonempty (CW p) /\
   (∀ θ:CW p,θ.w.cell? ⟨g,o+i*21+20,none⟩=some (.int .i64 t.pair)) /\
   (∀ θ:CW p,θ.w.cell? ⟨B,1,none⟩=some (.pointer (some ⟨gf,0,none⟩))) /\
   (∀ θ:CW p,θ.w.cell? ⟨B,2,none⟩=some (.int .i64 (i:Int))) /\
   (∀ θ:CW p,θ.w.cell? ⟨gf,12,none⟩=some (.slice (some ⟨g,o,none⟩) f.toks.length cp)) /\
   (∀ W,p W->Calls Tryz.prog 82 #[.int .i64 t.pair,.int .i64 ((i:Int)+1),.int .i64 ((f.toks.length:Int)-1)] W fun e w'=>e = .returned (.bool false)/\p w') :=
   ⟨Kb [] w,
   fun _ h=>h,
   fun _ h=>h,
   ⟨⟨_,Kb.refl _ _⟩⟩,
   fun θ=>(θ.h.cell hg List.not_mem_nil).trans hT.c20,
   fun θ=>(θ.h.cell hC.lt List.not_mem_nil).trans hC.c1,
   fun θ=>(θ.h.cell hC.lt List.not_mem_nil).trans hC.c2,
   fun θ=>(θ.h.cell hgf List.not_mem_nil).trans (by simpa using hF.c12),
   callS (fun W=>hbt▸isBetween_any _ _ _ W)⟩
  clear hC hF hL hT hgf hH ht hb hbt hres q ho hgH hil hlen kT
  go_enter Tryz.func96,Tryz.ntmps96
  go_wp2_with (go_at_call 101;refine(cG _).mono ?_;rintro _ w' ⟨rfl,hw'⟩;obtain rfl:w=w':=hw'.symm)
  refine wp_region_lp p (by kernel_rfl) (by kernel_rfl) (fun _ _ d _ _ h=>by cases d<;>exact h) (pK _ (Kb.refl _ _).drew) fun W hp=>?_
  repeat (first|(refine lx_one rfl ?_;(first|go_big_quiet_skip|(go_big_quiet_want;go_big_quiet_op;go_big_quiet_on));refine wpQuiet_nil ?_)|(refine lx_p3 ent_isBetween c1 hp rfl rfl rfl (by rfl) ?_;intro W hp;simp only[pts])|(refine lx_skip (by rfl) ?_;simp only[pts]))
  refine lx_done ?_
  go_wp2_with fail
  go_ret
  exact⟨rfl,Kb0 (pB _ hp)⟩
theorem isPaired_end (c:Cf) (f:Fm) (L:List Sv) (x:Sv) (xt t:Tk) (rl:Value) (dep:Nat->Int) (wh:Bool) (w:World) (h:Ct w c f L x xt t rl dep wh) (he:edO t.op=true) :
  Calls Tryz.prog 96 #[.pointer (some ⟨c.B,0,none⟩),.pointer (some ⟨c.g,c.o+c.i*21,none⟩)] w fun r w'=>r = .returned (.bool ((t.pair==(x.at_:Int))&&(xt.pair==(c.i:Int))))/\Below w.heap.size w w':=by
 have ho:0<=t.op/\t.op<=15/\bgO t.op=false:=by
  unfold edO at he
  have:=decT he
  exact⟨by omega,by omega,by unfold bgO;exact decide_eq_false (by omega)⟩
 have cG:=fun W=>begins_any t.op W ⟨ho.1,ho.2.1⟩
 have cE:=fun W=>ends_any t.op W ⟨ho.1,ho.2.1⟩
 rw[ho.2.2] at cG
 rw[he] at cE
 obtain⟨pc,cc,hT,hU,hcc,kT⟩:=h.tk
 obtain⟨px,cx,hX,kX⟩:=h.xk
 have hS:=h.sc
 have hC:=h.ck
 have hF:=h.fm
 have hlg:=h.lg
 have hlo:=h.op.lt
 have hlf:=h.fl
 have t0:=hT.c0
 obtain⟨p,pB,pK,hN,t20,x20,s0,s1,k2,cT⟩:∃ p:World->Prop,(∀ W,p W->Kb [] w W) /\
   (∀ W,Kb [] w W->p W) /\
   Nonempty (CW p) /\
   (∀ θ:CW p,θ.w.cell? ⟨c.g,c.o+c.i*21+20,none⟩=some (.int .i64 t.pair)) /\
   (∀ θ:CW p,θ.w.cell? ⟨c.g,c.o+x.at_*21+20,none⟩=some (.int .i64 xt.pair)) /\
   (∀ θ:CW p,θ.w.cell? ⟨c.go,L.length*8,none⟩=some (.pointer (some ⟨c.g,c.o+x.at_*21,none⟩))) /\
   (∀ θ:CW p,θ.w.cell? ⟨c.go,L.length*8+1,none⟩=some (.int .i64 (x.at_:Int))) /\
   (∀ θ:CW p,θ.w.cell? ⟨c.B,2,none⟩=some (.int .i64 (c.i:Int))) /\
   (∀ W,p W->Calls Tryz.prog 100 #[.pointer (some ⟨c.B,0,none⟩)] W fun e w'=>e = .returned (.pointer (some ⟨c.go,L.length*8,none⟩))/\p w') :=
  ⟨Kb [] w,
   fun _ h=>h,
   fun _ h=>h,
   ⟨⟨_,Kb.refl _ _⟩⟩,
   fun θ=>(θ.h.cell hlg List.not_mem_nil).trans hT.c20,
   fun θ=>(θ.h.cell hlg List.not_mem_nil).trans hX.c20,
   fun θ=>(θ.h.cell hlo List.not_mem_nil).trans hS.c0,
   fun θ=>(θ.h.cell hlo List.not_mem_nil).trans hS.c1,
   fun θ=>(θ.h.cell hC.lt List.not_mem_nil).trans hC.c2,
   bcall (fun W hW=>top_any c.B c.go L.length c.cap W (h.below (Kb0 hW)).ck.c0 h.ln)⟩
 clear hT hX hS hC hF hU hcc hlg hlo hlf kT kX h he ho
 rcases Bool.eq_false_or_eq_true (t.pair==(x.at_:Int)) with e1|e1
 all_goals
  go_enter Tryz.func96,Tryz.ntmps96
  go_wp2_with (first|(go_at_call 101;refine(cG _).mono ?_;rintro _ w' ⟨rfl,hw'⟩;obtain rfl:w=w':=hw'.symm)|(go_at_call 97;refine(cE _).mono ?_;rintro _ w' ⟨rfl,hw'⟩;obtain rfl:w=w':=hw'.symm))
  refine wp_region_pp p [0,1,2,3,4,5,6,7,8,9,10,11,12,13,14,15,23,24,25,26,16,17,18,19,20,21,22,27,28,29] (by kernel_rfl) (by kernel_rfl) (fun _ _ d _ _ h=>by cases d<;>exact h) (pK _ (Kb.refl _ _).drew) ?_
  simp only[List.filterMap_cons,List.filterMap_nil,List.getElem?_cons_zero,List.getElem?_cons_succ]
  have hp:p w.drew:=pK _ (Kb.refl _ _).drew
  generalize w.drew=W at hp ⊢
  repeat (first|(refine lx_one rfl ?_;(first|go_big_quiet_skip|(go_big_quiet_want;go_big_quiet_op;go_big_quiet_on));refine wpQuiet_nil ?_)|(refine lx_p1 ent_top cT hp rfl (by rfl) ?_;intro W hp;simp only[pts])|(refine lx_skip (by rfl) ?_;simp only[pts]))
  refine lx_done ?_
  go_wp2_with fail
  go_ret
  exact⟨rb (by simp[e1]),Kb0 (pB _ hp)⟩
theorem isPaired_own (c:Cf) (f:Fm) (L:List Sv) (x:Sv) (xt t:Tk) (rl:Value) (dep:Nat->Int) (wh:Bool) (w:World) (h:Ct w c f L x xt t rl dep wh) (he:t.op=14\/t.op=15) :
  Calls Tryz.prog 96 #[.pointer (some ⟨c.B,0,none⟩),.pointer (some ⟨c.g,c.o+c.i*21,none⟩)] w fun r w'=>r = .returned (.bool (t.pair==(c.i:Int)))/\Below w.heap.size w w':=by
 have ho:0<=t.op/\t.op<=15/\bgO t.op=false/\edO t.op=false:=⟨by omega,by omega,by unfold bgO;exact decide_eq_false (by omega),by unfold edO;exact decide_eq_false (by omega)⟩
 have cG:=fun W=>begins_any t.op W ⟨ho.1,ho.2.1⟩
 have cE:=fun W=>ends_any t.op W ⟨ho.1,ho.2.1⟩
 rw[ho.2.2.1] at cG
 rw[ho.2.2.2] at cE
 obtain⟨pc,cc,hT,hU,hcc,kT⟩:=h.tk
 obtain⟨px,cx,hX,kX⟩:=h.xk
 have hS:=h.sc
 have hC:=h.ck
 have hF:=h.fm
 have hlg:=h.lg
 have hlo:=h.op.lt
 have hlf:=h.fl
 have t0:=hT.c0
 have t20:=hT.c20
 have k2:=hC.c2
 clear hT hX hS hC hF hU hcc hlg hlo hlf kT kX h he ho
 go_enter Tryz.func96,Tryz.ntmps96
 go_wp2_with (first|(go_at_call 101;refine(cG _).mono ?_;rintro _ w' ⟨rfl,hw'⟩;obtain rfl:w=w':=hw'.symm)|(go_at_call 97;refine(cE _).mono ?_;rintro _ w' ⟨rfl,hw'⟩;obtain rfl:w=w':=hw'.symm))
 go_quiet (fail)
 go_wp2_with fail
 go_ret
 exact⟨rfl,tdr (Below.refl _ _)⟩
end Go.Proofs.YtbhmciieiilcfaaGreatDoor
