import Derived.Test.YtcgimchhcaankaaGreatDoorK17
namespace Go.Proofs.YtcgimchhcaankaaGreatDoor
set_option maxRecDepth 1000000
set_option maxHeartbeats 16000000
open Go.ChangeShapes Go.WideShapes Go.ChangeAt Go.RowKit Go.Shelf Go.Maps
theorem ent_isPaired:∀ ag w,(callFunc 98 ag).run Tryz.prog w = .ok (.enter 98 ag) w:=enters_of Tryz.func98 (by kernel_rfl) rfl
theorem isPaired_beg (B gf g o i H m1 m2 m3 cp:Nat) (op rl:Value) (dep:Nat->Int) (wh:Bool) (f:Fm) (t:Tk) (w:World) (hC:CkC w B gf op (i:Int) rl m1 m2 m3 dep wh) (hF:FmC w gf 0 f (some ⟨g,o,none⟩) cp) (hgf:gf<w.heap.size) (hL:TkL w (some ⟨g,o,none⟩) H f.toks) (hH:H<=w.heap.size) (ht:f.toks[i]?=some t) (hb:bgO t.op=true) :
  Calls Tryz.prog 98 #[.pointer (some ⟨B,0,none⟩),.pointer (some ⟨g,o+i*21,none⟩)] w fun r w'=>r = .returned (.bool (pairB f.toks i t))/\Below w.heap.size w w':=by
 obtain⟨_,_,pc,cc,e,hgH,hT,_,_,kT⟩:=hL.at ht
 cases e
 have hg:g<w.heap.size:=Nat.lt_of_lt_of_le hgH hH
 have hlen:=hL.len
 have hil:=(List.getElem?_eq_some_iff.1 ht).1
 have ho:0<=t.op/\t.op<=15:=by
  have hb:=hb
  unfold bgO at hb
  have:=decT hb
  omega
 have cG:=fun W=>begins_any t.op W ho
 rw[hb] at cG
 have t0:=hT.c0
 have e1:IntKind.i64.wrap ((i:Int)+1)=(i:Int)+1:=by rw[IntKind.wrap_i64];omega
 have e2:IntKind.i64.wrap ((f.toks.length:Int)-1)=(f.toks.length:Int)-1:=by rw[IntKind.wrap_i64];omega
 by_cases q:(i:Int)<t.pair/\t.pair<f.toks.length
 ·obtain⟨n,hn⟩:∃ n:Nat,t.pair=n:=⟨t.pair.toNat,by omega⟩
  obtain⟨u,hu⟩:∃ u,f.toks[n]?=some u:=⟨f.toks[n]'(by omega),List.getElem?_eq_getElem (by omega)⟩
  obtain⟨_,_,pu,cu,e,_,hU,_⟩:=hL.at hu
  cases e
  have hbt:bet (n:Int) ((i:Int)+1) ((f.toks.length:Int)-1)=true:=decide_eq_true (by omega)
  have hres:pairB f.toks i t=endT t u i:=by
   unfold pairB endT
   rw[decide_eq_true q,hn,Int.toNat_natCast,hu]
   simp only[Bool.true_and,beqD]
  rw[hres]
  have t20v:w.cell? ⟨g,o+i*21+20,none⟩=some (.int .i64 (n:Int)):=by rw[hT.c20,hn]
  have hni:(n:Int)<(f.toks.length:Int):=by omega
  obtain⟨p,pB,pK,hN,t20,k1,k2,m12,c1,c2⟩:∃ p:World->Prop,(∀ W,p W->Kb [] w W) /\
   (∀ W,Kb [] w W->p W) /\
   Nonempty (CW p) /\
   (∀ θ:CW p,θ.w.cell? ⟨g,o+i*21+20,none⟩=some (.int .i64 (n:Int))) /\
   (∀ θ:CW p,θ.w.cell? ⟨B,1,none⟩=some (.pointer (some ⟨gf,0,none⟩))) /\
   (∀ θ:CW p,θ.w.cell? ⟨B,2,none⟩=some (.int .i64 (i:Int))) /\
   (∀ θ:CW p,θ.w.cell? ⟨gf,12,none⟩=some (.slice (some ⟨g,o,none⟩) f.toks.length cp)) /\
   (∀ W,p W->Calls Tryz.prog 84 #[.int .i64 (n:Int),.int .i64 ((i:Int)+1),.int .i64 ((f.toks.length:Int)-1)] W fun e w'=>e = .returned (.bool true)/\p w') /\
   (∀ W,p W->Calls Tryz.prog 132 #[.pointer (some ⟨B,0,none⟩),.pointer (some ⟨g,o+i*21,none⟩),.pointer (some ⟨g,o+n*21,none⟩)] W fun e w'=>e = .returned (.bool (endT t u i))/\p w') :=
   ⟨Kb [] w,
   fun _ h=>h,
   fun _ h=>h,
   ⟨⟨_,Kb.refl _ _⟩⟩,
   fun θ=>(θ.h.cell hg List.not_mem_nil).trans t20v,
   fun θ=>(θ.h.cell hC.lt List.not_mem_nil).trans hC.c1,
   fun θ=>(θ.h.cell hC.lt List.not_mem_nil).trans hC.c2,
   fun θ=>(θ.h.cell hgf List.not_mem_nil).trans (by simpa using hF.c12),
   callS (fun W=>hbt▸isBetween_any _ _ _ W),
   bcall (fun W hW=>isEndedBy_any B gf g (o+i*21) (o+n*21) m1 m2 m3 op rl i dep wh t u pc pu cc cu W (hC.same hW.size (hW.block _ hC.lt List.not_mem_nil)) (hT.same (hW.block _ hg List.not_mem_nil)) (hU.same (hW.block _ hg List.not_mem_nil)) (Nat.lt_of_lt_of_le hg hW.size) (by omega))⟩
  clear hC hF hL hT hU hgf hH ht hb hu hbt hres t20v hn q ho hgH hil hlen kT
  go_enter Tryz.func98,Tryz.ntmps98
  go_wp2_with (go_at_call 103;refine(cG _).mono ?_;rintro _ w' ⟨rfl,hw'⟩;obtain rfl:w=w':=hw'.symm)
  refine wp_region_lp p (by kernel_rfl) (by kernel_rfl) (fun _ _ d _ _ h=>by cases d<;>exact h) (pK _ (Kb.refl _ _).drew) fun W hp=>?_
  repeat (first|(refine lx_one rfl ?_;(first|go_big_quiet_skip|(go_big_quiet_want;go_big_quiet_op;go_big_quiet_on));refine wpQuiet_nil ?_)|(refine lx_p3 ent_isBetween c1 hp rfl rfl rfl (by rfl) ?_;intro W hp;simp only[pts])|(refine lx_p3 ent_isEndedBy c2 hp rfl rfl rfl (by rfl) ?_;intro W hp;simp only[pts])|(refine lx_skip (by rfl) ?_;simp only[pts]))
  refine lx_done ?_
  go_wp2_with fail
  go_ret
  exact⟨rfl,Kb0 (pB _ hp)⟩
 ·have hbt:bet t.pair ((i:Int)+1) ((f.toks.length:Int)-1)=false:=decide_eq_false (by omega)
  have hres:pairB f.toks i t=false:=by
   unfold pairB
   rw[decide_eq_false q,Bool.false_and]
  rw[hres]
  obtain⟨p,pB,pK,hN,t20,k1,k2,m12,c1⟩:∃ p:World->Prop,(∀ W,p W->Kb [] w W) /\
   (∀ W,Kb [] w W->p W) /\
   Nonempty (CW p) /\
   (∀ θ:CW p,θ.w.cell? ⟨g,o+i*21+20,none⟩=some (.int .i64 t.pair)) /\
   (∀ θ:CW p,θ.w.cell? ⟨B,1,none⟩=some (.pointer (some ⟨gf,0,none⟩))) /\
   (∀ θ:CW p,θ.w.cell? ⟨B,2,none⟩=some (.int .i64 (i:Int))) /\
   (∀ θ:CW p,θ.w.cell? ⟨gf,12,none⟩=some (.slice (some ⟨g,o,none⟩) f.toks.length cp)) /\
   (∀ W,p W->Calls Tryz.prog 84 #[.int .i64 t.pair,.int .i64 ((i:Int)+1),.int .i64 ((f.toks.length:Int)-1)] W fun e w'=>e = .returned (.bool false)/\p w') :=
   ⟨Kb [] w,
   fun _ h=>h,
   fun _ h=>h,
   ⟨⟨_,Kb.refl _ _⟩⟩,
   fun θ=>(θ.h.cell hg List.not_mem_nil).trans hT.c20,
   fun θ=>(θ.h.cell hC.lt List.not_mem_nil).trans hC.c1,
   fun θ=>(θ.h.cell hC.lt List.not_mem_nil).trans hC.c2,
   fun θ=>(θ.h.cell hgf List.not_mem_nil).trans (by simpa using hF.c12),
   callS (fun W=>hbt▸isBetween_any _ _ _ W)⟩
  clear hC hF hL hT hgf hH ht hb hbt hres q ho hgH hil hlen kT
  go_enter Tryz.func98,Tryz.ntmps98
  go_wp2_with (go_at_call 103;refine(cG _).mono ?_;rintro _ w' ⟨rfl,hw'⟩;obtain rfl:w=w':=hw'.symm)
  refine wp_region_lp p (by kernel_rfl) (by kernel_rfl) (fun _ _ d _ _ h=>by cases d<;>exact h) (pK _ (Kb.refl _ _).drew) fun W hp=>?_
  repeat (first|(refine lx_one rfl ?_;(first|go_big_quiet_skip|(go_big_quiet_want;go_big_quiet_op;go_big_quiet_on));refine wpQuiet_nil ?_)|(refine lx_p3 ent_isBetween c1 hp rfl rfl rfl (by rfl) ?_;intro W hp;simp only[pts])|(refine lx_skip (by rfl) ?_;simp only[pts]))
  refine lx_done ?_
  go_wp2_with fail
  go_ret
  exact⟨rfl,Kb0 (pB _ hp)⟩
theorem isPaired_end (c:Cf) (f:Fm) (L:List Sv) (x:Sv) (xt t:Tk) (rl:Value) (dep:Nat->Int) (wh:Bool) (w:World) (h:Ct w c f L x xt t rl dep wh) (he:edO t.op=true) :
  Calls Tryz.prog 98 #[.pointer (some ⟨c.B,0,none⟩),.pointer (some ⟨c.g,c.o+c.i*21,none⟩)] w fun r w'=>r = .returned (.bool ((t.pair==(x.at_:Int))&&(xt.pair==(c.i:Int))))/\Below w.heap.size w w':=by
 have ho:0<=t.op/\t.op<=15/\bgO t.op=false:=by
  unfold edO at he
  have:=decT he
  exact⟨by omega,by omega,by unfold bgO;exact decide_eq_false (by omega)⟩
 have cG:=fun W=>begins_any t.op W ⟨ho.1,ho.2.1⟩
 have cE:=fun W=>ends_any t.op W ⟨ho.1,ho.2.1⟩
 rw[ho.2.2] at cG
 rw[he] at cE
 obtain⟨pc,cc,hT,hU,hcc,kT⟩:=h.tk
 obtain⟨px,cx,hX,kX⟩:=h.xk
 have hS:=h.sc
 have hC:=h.ck
 have hF:=h.fm
 have hlg:=h.lg
 have hlo:=h.op.lt
 have hlf:=h.fl
 have t0:=hT.c0
 obtain⟨p,pB,pK,hN,t20,x20,s0,s1,k2,cT⟩:∃ p:World->Prop,(∀ W,p W->Kb [] w W) /\
   (∀ W,Kb [] w W->p W) /\
   Nonempty (CW p) /\
   (∀ θ:CW p,θ.w.cell? ⟨c.g,c.o+c.i*21+20,none⟩=some (.int .i64 t.pair)) /\
   (∀ θ:CW p,θ.w.cell? ⟨c.g,c.o+x.at_*21+20,none⟩=some (.int .i64 xt.pair)) /\
   (∀ θ:CW p,θ.w.cell? ⟨c.go,L.length*8,none⟩=some (.pointer (some ⟨c.g,c.o+x.at_*21,none⟩))) /\
   (∀ θ:CW p,θ.w.cell? ⟨c.go,L.length*8+1,none⟩=some (.int .i64 (x.at_:Int))) /\
   (∀ θ:CW p,θ.w.cell? ⟨c.B,2,none⟩=some (.int .i64 (c.i:Int))) /\
   (∀ W,p W->Calls Tryz.prog 102 #[.pointer (some ⟨c.B,0,none⟩)] W fun e w'=>e = .returned (.pointer (some ⟨c.go,L.length*8,none⟩))/\p w') :=
  ⟨Kb [] w,
   fun _ h=>h,
   fun _ h=>h,
   ⟨⟨_,Kb.refl _ _⟩⟩,
   fun θ=>(θ.h.cell hlg List.not_mem_nil).trans hT.c20,
   fun θ=>(θ.h.cell hlg List.not_mem_nil).trans hX.c20,
   fun θ=>(θ.h.cell hlo List.not_mem_nil).trans hS.c0,
   fun θ=>(θ.h.cell hlo List.not_mem_nil).trans hS.c1,
   fun θ=>(θ.h.cell hC.lt List.not_mem_nil).trans hC.c2,
   bcall (fun W hW=>top_any c.B c.go L.length c.cap W (h.below (Kb0 hW)).ck.c0 h.ln)⟩
 clear hT hX hS hC hF hU hcc hlg hlo hlf kT kX h he ho
 rcases Bool.eq_false_or_eq_true (t.pair==(x.at_:Int)) with e1|e1
 all_goals
  go_enter Tryz.func98,Tryz.ntmps98
  go_wp2_with (first|(go_at_call 103;refine(cG _).mono ?_;rintro _ w' ⟨rfl,hw'⟩;obtain rfl:w=w':=hw'.symm)|(go_at_call 99;refine(cE _).mono ?_;rintro _ w' ⟨rfl,hw'⟩;obtain rfl:w=w':=hw'.symm))
  refine wp_region_pp p [0,1,2,3,4,5,6,7,8,9,10,11,12,13,14,15,23,24,25,26,16,17,18,19,20,21,22,27,28,29] (by kernel_rfl) (by kernel_rfl) (fun _ _ d _ _ h=>by cases d<;>exact h) (pK _ (Kb.refl _ _).drew) ?_
  simp only[List.filterMap_cons,List.filterMap_nil,List.getElem?_cons_zero,List.getElem?_cons_succ]
  have hp:p w.drew:=pK _ (Kb.refl _ _).drew
  generalize w.drew=W at hp ⊢
  repeat (first|(refine lx_one rfl ?_;(first|go_big_quiet_skip|(go_big_quiet_want;go_big_quiet_op;go_big_quiet_on));refine wpQuiet_nil ?_)|(refine lx_p1 ent_top cT hp rfl (by rfl) ?_;intro W hp;simp only[pts])|(refine lx_skip (by rfl) ?_;simp only[pts]))
  refine lx_done ?_
  go_wp2_with fail
  go_ret
  exact⟨rb (by simp[e1]),Kb0 (pB _ hp)⟩
theorem isPaired_own (c:Cf) (f:Fm) (L:List Sv) (x:Sv) (xt t:Tk) (rl:Value) (dep:Nat->Int) (wh:Bool) (w:World) (h:Ct w c f L x xt t rl dep wh) (he:t.op=14\/t.op=15) :
  Calls Tryz.prog 98 #[.pointer (some ⟨c.B,0,none⟩),.pointer (some ⟨c.g,c.o+c.i*21,none⟩)] w fun r w'=>r = .returned (.bool (t.pair==(c.i:Int)))/\Below w.heap.size w w':=by
 have ho:0<=t.op/\t.op<=15/\bgO t.op=false/\edO t.op=false:=⟨by omega,by omega,by unfold bgO;exact decide_eq_false (by omega),by unfold edO;exact decide_eq_false (by omega)⟩
 have cG:=fun W=>begins_any t.op W ⟨ho.1,ho.2.1⟩
 have cE:=fun W=>ends_any t.op W ⟨ho.1,ho.2.1⟩
 rw[ho.2.2.1] at cG
 rw[ho.2.2.2] at cE
 obtain⟨pc,cc,hT,hU,hcc,kT⟩:=h.tk
 obtain⟨px,cx,hX,kX⟩:=h.xk
 have hS:=h.sc
 have hC:=h.ck
 have hF:=h.fm
 have hlg:=h.lg
 have hlo:=h.op.lt
 have hlf:=h.fl
 have t0:=hT.c0
 have t20:=hT.c20
 have k2:=hC.c2
 clear hT hX hS hC hF hU hcc hlg hlo hlf kT kX h he ho
 go_enter Tryz.func98,Tryz.ntmps98
 go_wp2_with (first|(go_at_call 103;refine(cG _).mono ?_;rintro _ w' ⟨rfl,hw'⟩;obtain rfl:w=w':=hw'.symm)|(go_at_call 99;refine(cE _).mono ?_;rintro _ w' ⟨rfl,hw'⟩;obtain rfl:w=w':=hw'.symm))
 go_quiet (fail)
 go_wp2_with fail
 go_ret
 exact⟨rfl,tdr (Below.refl _ _)⟩
theorem tdrN {B n:Nat} {a w:World} (h:Below B a w):Below B a (w.drewN n):=⟨h.os,h.tape,h.output,h.size,h.block⟩
theorem i64_or_nat (a b:Nat) (ha:a<65536) (hb:b<65536):bits .or .i64 (a:Int) (b:Int)=((a ||| b:Nat):Int):=by
 have hx:a ||| b<2 ^ 16:=Nat.or_lt_two_pow (by omega) (by omega)
 show IntKind.i64.wrap ((BitVec.ofInt 64 (a:Int) ||| BitVec.ofInt 64 (b:Int)).toNat:Int)=_
 rw[BitVec.toNat_or,BitVec.ofInt_natCast,BitVec.ofInt_natCast,BitVec.toNat_ofNat,BitVec.toNat_ofNat,Nat.mod_eq_of_lt (by omega),Nat.mod_eq_of_lt (by omega),IntKind.wrap_i64]
 omega
theorem bneD (a:Int):(a != 0)=decide (a≠0):=by rw[Bool.eq_iff_iff];simp
theorem bneL (n:Nat):((n:Int) != 0)=decide (n≠0):=by rw[Bool.eq_iff_iff];simp
def BitsTo (l:List Bool) (j N:Nat):Prop:=N<65536/\∀ k,N.testBit k=(decide (k<j)&&l.getD k false)
theorem bits_zero (l:List Bool):BitsTo l 0 0:=⟨by omega,fun k=>by simp⟩
theorem bits_no {l:List Bool} {j N:Nat} (h:BitsTo l j N) (hb:l.getD j false=false):BitsTo l (j+1) N:=⟨h.1,fun k=>by
 rw[h.2 k]
 by_cases e:k=j
 ·subst e;rw[hb];simp
 ·congr 1
  exact decide_eq_decide.2 (by omega)⟩
theorem bits_yes {l:List Bool} {j N:Nat} (h:BitsTo l j N) (hj:j<16) (hb:l.getD j false=true):BitsTo l (j+1) (N ||| 2 ^ j):=⟨Nat.or_lt_two_pow (n:=16) (by have:=h.1;omega) (Nat.pow_lt_pow_right (by omega) hj),fun k=>by
 rw[Nat.testBit_or,h.2 k,Nat.testBit_two_pow]
 by_cases e:k=j
 ·subst e;rw[hb];simp
 ·rw[decide_eq_false (show ¬ j=k from fun x=>e x.symm),Bool.or_false]
  congr 1
  exact decide_eq_decide.2 (by omega)⟩
theorem marksOf_any (t:Tk) (g o:Nat) (pc:Option Addr) (cc:Nat) (w:World) (hT:TkC w g o t pc cc) :
  Calls Tryz.prog 129 #[.pointer (some ⟨g,o,none⟩)] w fun r w'=>∃ N:Nat,r = .returned (.int .i64 (N:Int))/\BitsTo (nzs t) 16 N/\Below w.heap.size w w':=by
 have t2:=hT.c2
 have t3:=hT.c3
 have t4:=hT.c4
 have t5:=hT.c5
 have t6:=hT.c6
 have t7:=hT.c7
 have t8:=hT.c8
 have t9:=hT.c9
 have t10:=hT.c10
 have t11:=hT.c11
 have t12:=hT.c12
 have t13:=hT.c13
 have t14:=hT.c14
 have t15:=hT.c15
 have t16:=hT.c16
 have t17:=hT.c17
 have t18:=hT.c18
 have t19:=hT.c19
 clear hT
 obtain⟨b0,hb0⟩:∃ b,(t.id != 0)=b:=⟨_,rfl⟩
 obtain⟨b1,hb1⟩:∃ b,(t.off != 0)=b:=⟨_,rfl⟩
 obtain⟨b2,hb2⟩:∃ b,(t.siz != 0)=b:=⟨_,rfl⟩
 obtain⟨b3,hb3⟩:∃ b,(t.since != 0)=b:=⟨_,rfl⟩
 obtain⟨b4,hb4⟩:∃ b,(t.prim != 0)=b:=⟨_,rfl⟩
 obtain⟨b5,hb5⟩:∃ b,(t.len != 0)=b:=⟨_,rfl⟩
 obtain⟨b6,hb6⟩:∃ b,(t.pres != 0)=b:=⟨_,rfl⟩
 obtain⟨b7,hb7⟩:∃ b,(t.nul != 0)=b:=⟨_,rfl⟩
 obtain⟨b8,hb8⟩:∃ b,(t.lo != 0)=b:=⟨_,rfl⟩
 obtain⟨b9,hb9⟩:∃ b,(t.hi != 0)=b:=⟨_,rfl⟩
 obtain⟨b10,hb10⟩:∃ b,((t.cst.length:Int) != 0)=b:=⟨_,rfl⟩
 obtain⟨b11,hb11⟩:∃ b,(t.val != 0)=b:=⟨_,rfl⟩
 obtain⟨b12,hb12⟩:∃ b,(t.blk != 0)=b:=⟨_,rfl⟩
 obtain⟨b13,hb13⟩:∃ b,(t.full != 0)=b:=⟨_,rfl⟩
 obtain⟨b14,hb14⟩:∃ b,(!decide (t.a.p=0/\t.a.o=0))=b:=⟨_,rfl⟩
 obtain⟨b15,hb15⟩:∃ b,(!decide (t.b.p=0/\t.b.o=0))=b:=⟨_,rfl⟩
 have hl:nzs t=[b0,b1,b2,b3,b4,b5,b6,b7,b8,b9,b10,b11,b12,b13,b14,b15]:=by
  unfold nzs
  rw[<- hb0,<- hb1,<- hb2,<- hb3,<- hb4,<- hb5,<- hb6,<- hb7,<- hb8,<- hb9,<- hb10,<- hb11,<- hb12,<- hb13,<- hb14,<- hb15]
  simp only[bneL]
  simp only[bneD,decide_not]
 rw[hl]
 clear hl
 go_enter Tryz.func129,Tryz.ntmps129
 go_wp2_with fail
 simp only[List.append_eq,List.cons_append,List.nil_append]
 refine wp_region_quiet_lit (by kernel_rfl) (by kernel_rfl) ?_
 repeat (go_big_quiet_step (fail))
 go_big_quiet_want
 go_big_quiet_op
 refine⟨.bool b14,fun _=>?_,?_⟩
 ·rw[<- hb14];by_cases q1:t.a.p=0<;>by_cases q2:t.a.o=0<;>simp[q1,q2]
 go_big_quiet_on
 repeat (go_big_quiet_step (fail))
 go_big_quiet_want
 go_big_quiet_op
 refine⟨.bool b15,fun _=>?_,?_⟩
 ·rw[<- hb15];by_cases q1:t.b.p=0<;>by_cases q2:t.b.o=0<;>simp[q1,q2]
 go_big_quiet_on
 repeat (go_big_quiet_step (fail))
 refine wpQuiet_nil ?_
 intro _ hw'
 obtain⟨nq,hw''⟩:=hw'
 subst hw''
 clear t2 t3 t4 t5 t6 t7 t8 t9 t10 t11 t12 t13 t14 t15 t16 t17 t18 t19 hb0 hb1 hb2 hb3 hb4 hb5 hb6 hb7 hb8 hb9 hb10 hb11 hb12 hb13 hb14 hb15
 go_wp2_with fail
 go_loopw [90,3] (fun n h wr=>∃ j N:Nat,j<=16/\n = .int .i64 j/\h = .int .i64 (N:Int)/\BitsTo [b0,b1,b2,b3,b4,b5,b6,b7,b8,b9,b10,b11,b12,b13,b14,b15] j N/\wr=w.drewN nq) (fun n _ _=>16-(RowKit.intOf n).toNat)
 case atStart=>exact⟨0,0,by omega,rfl,rfl,bits_zero _,rfl⟩
 case round =>
  obtain⟨j,N,hj,rfl,rfl,hN,rfl⟩:=hrel
  have hN1:=hN.1
  by_cases hlt:j<16
  ·rcases(show j=0\/j=1\/j=2\/j=3\/j=4\/j=5\/j=6\/j=7\/j=8\/j=9\/j=10\/j=11\/j=12\/j=13\/j=14\/j=15 by omega) with rfl|rfl|rfl|rfl|rfl|rfl|rfl|rfl|rfl|rfl|rfl|rfl|rfl|rfl|rfl|rfl
   ·have ho:=i64_or_nat N 1 hN1 (by omega)
    rw[show ((0:Nat):Int)=0 from rfl]
    have hix:∀ W,(Instr.index 171 (.agg #[.bool b0,.bool b1,.bool b2,.bool b3,.bool b4,.bool b5,.bool b6,.bool b7,.bool b8,.bool b9,.bool b10,.bool b11,.bool b12,.bool b13,.bool b14,.bool b15]) (.int .i64 0)).run Tryz.prog W = .ok (.bool b0) W:=fun W=>by kernel_rfl
    cases b0 with
    | false =>
     go_wp2_with fail
     go_roundw
     case rel=>exact⟨1,N,by omega,rfl,rfl,bits_no hN rfl,trivial⟩
     case measure=>simp[RowKit.intOf]
    | true =>
     go_wp2_with fail
     go_roundw
     case rel=>exact⟨1,N ||| 1,by omega,rfl,by first|rfl|exact congrArg _ ho,bits_yes hN (by omega) rfl,trivial⟩
     case measure=>simp[RowKit.intOf]
   ·have ho:=i64_or_nat N 2 hN1 (by omega)
    rw[show ((1:Nat):Int)=1 from rfl]
    have hix:∀ W,(Instr.index 171 (.agg #[.bool b0,.bool b1,.bool b2,.bool b3,.bool b4,.bool b5,.bool b6,.bool b7,.bool b8,.bool b9,.bool b10,.bool b11,.bool b12,.bool b13,.bool b14,.bool b15]) (.int .i64 1)).run Tryz.prog W = .ok (.bool b1) W:=fun W=>by kernel_rfl
    cases b1 with
    | false =>
     go_wp2_with fail
     go_roundw
     case rel=>exact⟨2,N,by omega,rfl,rfl,bits_no hN rfl,trivial⟩
     case measure=>simp[RowKit.intOf]
    | true =>
     go_wp2_with fail
     go_roundw
     case rel=>exact⟨2,N ||| 2,by omega,rfl,by first|rfl|exact congrArg _ ho,bits_yes hN (by omega) rfl,trivial⟩
     case measure=>simp[RowKit.intOf]
   ·have ho:=i64_or_nat N 4 hN1 (by omega)
    rw[show ((2:Nat):Int)=2 from rfl]
    have hix:∀ W,(Instr.index 171 (.agg #[.bool b0,.bool b1,.bool b2,.bool b3,.bool b4,.bool b5,.bool b6,.bool b7,.bool b8,.bool b9,.bool b10,.bool b11,.bool b12,.bool b13,.bool b14,.bool b15]) (.int .i64 2)).run Tryz.prog W = .ok (.bool b2) W:=fun W=>by kernel_rfl
    cases b2 with
    | false =>
     go_wp2_with fail
     go_roundw
     case rel=>exact⟨3,N,by omega,rfl,rfl,bits_no hN rfl,trivial⟩
     case measure=>simp[RowKit.intOf]
    | true =>
     go_wp2_with fail
     go_roundw
     case rel=>exact⟨3,N ||| 4,by omega,rfl,by first|rfl|exact congrArg _ ho,bits_yes hN (by omega) rfl,trivial⟩
     case measure=>simp[RowKit.intOf]
   ·have ho:=i64_or_nat N 8 hN1 (by omega)
    rw[show ((3:Nat):Int)=3 from rfl]
    have hix:∀ W,(Instr.index 171 (.agg #[.bool b0,.bool b1,.bool b2,.bool b3,.bool b4,.bool b5,.bool b6,.bool b7,.bool b8,.bool b9,.bool b10,.bool b11,.bool b12,.bool b13,.bool b14,.bool b15]) (.int .i64 3)).run Tryz.prog W = .ok (.bool b3) W:=fun W=>by kernel_rfl
    cases b3 with
    | false =>
     go_wp2_with fail
     go_roundw
     case rel=>exact⟨4,N,by omega,rfl,rfl,bits_no hN rfl,trivial⟩
     case measure=>simp[RowKit.intOf]
    | true =>
     go_wp2_with fail
     go_roundw
     case rel=>exact⟨4,N ||| 8,by omega,rfl,by first|rfl|exact congrArg _ ho,bits_yes hN (by omega) rfl,trivial⟩
     case measure=>simp[RowKit.intOf]
   ·have ho:=i64_or_nat N 16 hN1 (by omega)
    rw[show ((4:Nat):Int)=4 from rfl]
    have hix:∀ W,(Instr.index 171 (.agg #[.bool b0,.bool b1,.bool b2,.bool b3,.bool b4,.bool b5,.bool b6,.bool b7,.bool b8,.bool b9,.bool b10,.bool b11,.bool b12,.bool b13,.bool b14,.bool b15]) (.int .i64 4)).run Tryz.prog W = .ok (.bool b4) W:=fun W=>by kernel_rfl
    cases b4 with
    | false =>
     go_wp2_with fail
     go_roundw
     case rel=>exact⟨5,N,by omega,rfl,rfl,bits_no hN rfl,trivial⟩
     case measure=>simp[RowKit.intOf]
    | true =>
     go_wp2_with fail
     go_roundw
     case rel=>exact⟨5,N ||| 16,by omega,rfl,by first|rfl|exact congrArg _ ho,bits_yes hN (by omega) rfl,trivial⟩
     case measure=>simp[RowKit.intOf]
   ·have ho:=i64_or_nat N 32 hN1 (by omega)
    rw[show ((5:Nat):Int)=5 from rfl]
    have hix:∀ W,(Instr.index 171 (.agg #[.bool b0,.bool b1,.bool b2,.bool b3,.bool b4,.bool b5,.bool b6,.bool b7,.bool b8,.bool b9,.bool b10,.bool b11,.bool b12,.bool b13,.bool b14,.bool b15]) (.int .i64 5)).run Tryz.prog W = .ok (.bool b5) W:=fun W=>by kernel_rfl
    cases b5 with
    | false =>
     go_wp2_with fail
     go_roundw
     case rel=>exact⟨6,N,by omega,rfl,rfl,bits_no hN rfl,trivial⟩
     case measure=>simp[RowKit.intOf]
    | true =>
     go_wp2_with fail
     go_roundw
     case rel=>exact⟨6,N ||| 32,by omega,rfl,by first|rfl|exact congrArg _ ho,bits_yes hN (by omega) rfl,trivial⟩
     case measure=>simp[RowKit.intOf]
   ·have ho:=i64_or_nat N 64 hN1 (by omega)
    rw[show ((6:Nat):Int)=6 from rfl]
    have hix:∀ W,(Instr.index 171 (.agg #[.bool b0,.bool b1,.bool b2,.bool b3,.bool b4,.bool b5,.bool b6,.bool b7,.bool b8,.bool b9,.bool b10,.bool b11,.bool b12,.bool b13,.bool b14,.bool b15]) (.int .i64 6)).run Tryz.prog W = .ok (.bool b6) W:=fun W=>by kernel_rfl
    cases b6 with
    | false =>
     go_wp2_with fail
     go_roundw
     case rel=>exact⟨7,N,by omega,rfl,rfl,bits_no hN rfl,trivial⟩
     case measure=>simp[RowKit.intOf]
    | true =>
     go_wp2_with fail
     go_roundw
     case rel=>exact⟨7,N ||| 64,by omega,rfl,by first|rfl|exact congrArg _ ho,bits_yes hN (by omega) rfl,trivial⟩
     case measure=>simp[RowKit.intOf]
   ·have ho:=i64_or_nat N 128 hN1 (by omega)
    rw[show ((7:Nat):Int)=7 from rfl]
    have hix:∀ W,(Instr.index 171 (.agg #[.bool b0,.bool b1,.bool b2,.bool b3,.bool b4,.bool b5,.bool b6,.bool b7,.bool b8,.bool b9,.bool b10,.bool b11,.bool b12,.bool b13,.bool b14,.bool b15]) (.int .i64 7)).run Tryz.prog W = .ok (.bool b7) W:=fun W=>by kernel_rfl
    cases b7 with
    | false =>
     go_wp2_with fail
     go_roundw
     case rel=>exact⟨8,N,by omega,rfl,rfl,bits_no hN rfl,trivial⟩
     case measure=>simp[RowKit.intOf]
    | true =>
     go_wp2_with fail
     go_roundw
     case rel=>exact⟨8,N ||| 128,by omega,rfl,by first|rfl|exact congrArg _ ho,bits_yes hN (by omega) rfl,trivial⟩
     case measure=>simp[RowKit.intOf]
   ·have ho:=i64_or_nat N 256 hN1 (by omega)
    rw[show ((8:Nat):Int)=8 from rfl]
    have hix:∀ W,(Instr.index 171 (.agg #[.bool b0,.bool b1,.bool b2,.bool b3,.bool b4,.bool b5,.bool b6,.bool b7,.bool b8,.bool b9,.bool b10,.bool b11,.bool b12,.bool b13,.bool b14,.bool b15]) (.int .i64 8)).run Tryz.prog W = .ok (.bool b8) W:=fun W=>by kernel_rfl
    cases b8 with
    | false =>
     go_wp2_with fail
     go_roundw
     case rel=>exact⟨9,N,by omega,rfl,rfl,bits_no hN rfl,trivial⟩
     case measure=>simp[RowKit.intOf]
    | true =>
     go_wp2_with fail
     go_roundw
     case rel=>exact⟨9,N ||| 256,by omega,rfl,by first|rfl|exact congrArg _ ho,bits_yes hN (by omega) rfl,trivial⟩
     case measure=>simp[RowKit.intOf]
   ·have ho:=i64_or_nat N 512 hN1 (by omega)
    rw[show ((9:Nat):Int)=9 from rfl]
    have hix:∀ W,(Instr.index 171 (.agg #[.bool b0,.bool b1,.bool b2,.bool b3,.bool b4,.bool b5,.bool b6,.bool b7,.bool b8,.bool b9,.bool b10,.bool b11,.bool b12,.bool b13,.bool b14,.bool b15]) (.int .i64 9)).run Tryz.prog W = .ok (.bool b9) W:=fun W=>by kernel_rfl
    cases b9 with
    | false =>
     go_wp2_with fail
     go_roundw
     case rel=>exact⟨10,N,by omega,rfl,rfl,bits_no hN rfl,trivial⟩
     case measure=>simp[RowKit.intOf]
    | true =>
     go_wp2_with fail
     go_roundw
     case rel=>exact⟨10,N ||| 512,by omega,rfl,by first|rfl|exact congrArg _ ho,bits_yes hN (by omega) rfl,trivial⟩
     case measure=>simp[RowKit.intOf]
   ·have ho:=i64_or_nat N 1024 hN1 (by omega)
    rw[show ((10:Nat):Int)=10 from rfl]
    have hix:∀ W,(Instr.index 171 (.agg #[.bool b0,.bool b1,.bool b2,.bool b3,.bool b4,.bool b5,.bool b6,.bool b7,.bool b8,.bool b9,.bool b10,.bool b11,.bool b12,.bool b13,.bool b14,.bool b15]) (.int .i64 10)).run Tryz.prog W = .ok (.bool b10) W:=fun W=>by kernel_rfl
    cases b10 with
    | false =>
     go_wp2_with fail
     go_roundw
     case rel=>exact⟨11,N,by omega,rfl,rfl,bits_no hN rfl,trivial⟩
     case measure=>simp[RowKit.intOf]
    | true =>
     go_wp2_with fail
     go_roundw
     case rel=>exact⟨11,N ||| 1024,by omega,rfl,by first|rfl|exact congrArg _ ho,bits_yes hN (by omega) rfl,trivial⟩
     case measure=>simp[RowKit.intOf]
   ·have ho:=i64_or_nat N 2048 hN1 (by omega)
    rw[show ((11:Nat):Int)=11 from rfl]
    have hix:∀ W,(Instr.index 171 (.agg #[.bool b0,.bool b1,.bool b2,.bool b3,.bool b4,.bool b5,.bool b6,.bool b7,.bool b8,.bool b9,.bool b10,.bool b11,.bool b12,.bool b13,.bool b14,.bool b15]) (.int .i64 11)).run Tryz.prog W = .ok (.bool b11) W:=fun W=>by kernel_rfl
    cases b11 with
    | false =>
     go_wp2_with fail
     go_roundw
     case rel=>exact⟨12,N,by omega,rfl,rfl,bits_no hN rfl,trivial⟩
     case measure=>simp[RowKit.intOf]
    | true =>
     go_wp2_with fail
     go_roundw
     case rel=>exact⟨12,N ||| 2048,by omega,rfl,by first|rfl|exact congrArg _ ho,bits_yes hN (by omega) rfl,trivial⟩
     case measure=>simp[RowKit.intOf]
   ·have ho:=i64_or_nat N 4096 hN1 (by omega)
    rw[show ((12:Nat):Int)=12 from rfl]
    have hix:∀ W,(Instr.index 171 (.agg #[.bool b0,.bool b1,.bool b2,.bool b3,.bool b4,.bool b5,.bool b6,.bool b7,.bool b8,.bool b9,.bool b10,.bool b11,.bool b12,.bool b13,.bool b14,.bool b15]) (.int .i64 12)).run Tryz.prog W = .ok (.bool b12) W:=fun W=>by kernel_rfl
    cases b12 with
    | false =>
     go_wp2_with fail
     go_roundw
     case rel=>exact⟨13,N,by omega,rfl,rfl,bits_no hN rfl,trivial⟩
     case measure=>simp[RowKit.intOf]
    | true =>
     go_wp2_with fail
     go_roundw
     case rel=>exact⟨13,N ||| 4096,by omega,rfl,by first|rfl|exact congrArg _ ho,bits_yes hN (by omega) rfl,trivial⟩
     case measure=>simp[RowKit.intOf]
   ·have ho:=i64_or_nat N 8192 hN1 (by omega)
    rw[show ((13:Nat):Int)=13 from rfl]
    have hix:∀ W,(Instr.index 171 (.agg #[.bool b0,.bool b1,.bool b2,.bool b3,.bool b4,.bool b5,.bool b6,.bool b7,.bool b8,.bool b9,.bool b10,.bool b11,.bool b12,.bool b13,.bool b14,.bool b15]) (.int .i64 13)).run Tryz.prog W = .ok (.bool b13) W:=fun W=>by kernel_rfl
    cases b13 with
    | false =>
     go_wp2_with fail
     go_roundw
     case rel=>exact⟨14,N,by omega,rfl,rfl,bits_no hN rfl,trivial⟩
     case measure=>simp[RowKit.intOf]
    | true =>
     go_wp2_with fail
     go_roundw
     case rel=>exact⟨14,N ||| 8192,by omega,rfl,by first|rfl|exact congrArg _ ho,bits_yes hN (by omega) rfl,trivial⟩
     case measure=>simp[RowKit.intOf]
   ·have ho:=i64_or_nat N 16384 hN1 (by omega)
    rw[show ((14:Nat):Int)=14 from rfl]
    have hix:∀ W,(Instr.index 171 (.agg #[.bool b0,.bool b1,.bool b2,.bool b3,.bool b4,.bool b5,.bool b6,.bool b7,.bool b8,.bool b9,.bool b10,.bool b11,.bool b12,.bool b13,.bool b14,.bool b15]) (.int .i64 14)).run Tryz.prog W = .ok (.bool b14) W:=fun W=>by kernel_rfl
    cases b14 with
    | false =>
     go_wp2_with fail
     go_roundw
     case rel=>exact⟨15,N,by omega,rfl,rfl,bits_no hN rfl,trivial⟩
     case measure=>simp[RowKit.intOf]
    | true =>
     go_wp2_with fail
     go_roundw
     case rel=>exact⟨15,N ||| 16384,by omega,rfl,by first|rfl|exact congrArg _ ho,bits_yes hN (by omega) rfl,trivial⟩
     case measure=>simp[RowKit.intOf]
   ·have ho:=i64_or_nat N 32768 hN1 (by omega)
    rw[show ((15:Nat):Int)=15 from rfl]
    have hix:∀ W,(Instr.index 171 (.agg #[.bool b0,.bool b1,.bool b2,.bool b3,.bool b4,.bool b5,.bool b6,.bool b7,.bool b8,.bool b9,.bool b10,.bool b11,.bool b12,.bool b13,.bool b14,.bool b15]) (.int .i64 15)).run Tryz.prog W = .ok (.bool b15) W:=fun W=>by kernel_rfl
    cases b15 with
    | false =>
     go_wp2_with fail
     go_roundw
     case rel=>exact⟨16,N,by omega,rfl,rfl,bits_no hN rfl,trivial⟩
     case measure=>simp[RowKit.intOf]
    | true =>
     go_wp2_with fail
     go_roundw
     case rel=>exact⟨16,N ||| 32768,by omega,rfl,by first|rfl|exact congrArg _ ho,bits_yes hN (by omega) rfl,trivial⟩
     case measure=>simp[RowKit.intOf]
  ·obtain rfl:j=16:=by omega
   go_wp2_with fail
   go_ret
   exact⟨N,rfl,hN,tdrN (Below.refl _ _)⟩
end Go.Proofs.YtcgimchhcaankaaGreatDoor
