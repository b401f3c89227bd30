import Derived.Test.YtjnafpefolgcoaaGreatDoorK32
namespace Go.Proofs.YtjnafpefolgcoaaGreatDoor
set_option maxRecDepth 1000000
set_option maxHeartbeats 16000000
open Go.ChangeShapes Go.WideShapes Go.ChangeAt Go.RowKit Go.Shelf Go.Maps
theorem refRowed_mg (c:Df) (f:Fm) (L:List Od) (x:Od) (xt t:Tk) (ids:List Int) (vi:Value) (w:World) (P:Prop) (Q:World->Prop) (h:Dt w c f L x xt t ids vi) (ho:xt.op≠4) (hp:t.op=4)
  (hall:∀ y∈L++[x],y.at_<f.toks.length) (hP:Hid (P↔((xt.since<=t.since/\x.row<=t.since/\t.since<=f.ver)/\(1<=t.siz/\t.siz<=65535/\0<=t.blk/\t.blk<=t.full/\t.full<=65535)/\lieB t.a t.siz=true/\lieB t.b t.siz=true/\aptB t.a t.b=true/\telB t.a t.full=true/\cntD f.toks 4 (L++[{ x with row:=t.since }])<8))) (hQ:Hid (∀ w',Dt w' c f L { x with row:=t.since } xt t ids vi->Q w')) :
  Calls Tryz.prog 34 #[.pointer (some ⟨c.B,0,none⟩),.int .i64 (c.i:Int),.pointer (some ⟨c.go,L.length*5,none⟩)] w fun r w'=>Lfd r P c w w' (Q w'):=by
 have a4:(xt.op==4)=false:=by simp[ho]
 have b6:(t.op==6)=false:=by simp[hp]
 clear ho hp
 have hall':∀ y∈L++[{ x with row:=t.since }],y.at_<f.toks.length:=fun y hy=>by
  rcases List.mem_append.1 hy with hy|hy
  ·exact hall y (List.mem_append_left _ hy)
  ·rw[List.mem_singleton.1 hy];exact hall x (by simp)
 replace hall':=Hid.mk hall'
 clear hall
 obtain⟨pc,cc,hT,hU,hC,hO⟩:=h.tk
 obtain⟨px,cx,hTx,hOx⟩:=h.xk
 have b12:=h.ds.c12
 have hii:(c.i:Int)<f.toks.length:=by have:=h.il;omega
 have hxl:(x.at_:Int)<f.toks.length:=by have:=h.xl;omega
 have hll:=h.ll
 have l1:=hT.load
 have hgo:=h.op.lt
 obtain⟨W1,s1,hA,hb1,hz1⟩:=ld_new w t pc cc
 have h1:=h.below hb1
 have hX1:=hTx.below (B:=w.heap.size) h.lg hb1
 obtain⟨p,p0,pB,pI,hNe,pc',pl,pk⟩:=clsT W1
 have f12:=fun θ=>(pc' c.B 12 h1.ds.lt θ).trans h1.ds.c12
 have f0:=fun θ=>(pc' c.go (L.length*5) h1.op.lt θ).trans h1.sc.c0
 have lu:=pl c.g _ xt px cx h1.lg hX1
 clear pc' pl pk hX1 hTx
 replace l1:=Hid.mk l1
 replace s1:=Hid.mk s1
 replace h:=Hid.mk h
 replace h1:=Hid.mk h1
 replace hA:=Hid.mk hA
 replace hb1:=Hid.mk hb1
 replace hO:=Hid.mk hO
 replace hOx:=Hid.mk hOx
 clear hT hU hC
 go_enter Tryz.func34,Tryz.ntmps34
 go_wp2_with (first
  | (guard_target =~ wpList _ _ _ (Oper.mk _ (Op.load 53 _) _ _ _ _::_) _ _;go_must (first|refine wpList_ld 53 _ rfl rfl _ _ rfl l1.out ?_);simp only[pts])
  | (guard_target =~ wpList _ _ _ (Oper.mk _ (Op.store 53 _ _) _ _ _ _::_) _ _;go_must (refine wpList_st 53 _ _ rfl rfl _ _ rfl rfl (s1.out _ rfl) ?_);simp only[pts]))
 refine wp_region_lp p (by kernel_rfl) (by kernel_rfl) (fun _ _ d _ _ h=>by cases d<;>exact h) p0 fun W hp=>?_
 repeat (first|(guard_target =~ Lx _ _ _ _ (Oper.mk _ (Op.load 53 _) _ _ _ _::_) _ _;(first|refine lx_ld lu rfl rfl ?_);simp only[pts])|(guard_target =~ Lx _ _ _ _ (Oper.mk _ (Op.alloc 53) _ _ _ _::_) _ _;refine lx_act (by rfl) (by rfl) ?_;intro K hK;go_simp;refine hK _ _ ⟨⟨_,pI _ ((pB _ hp).trans ((bel1 W _).mono (pB _ hp).size))⟩,rfl⟩ ?_;clear hK K)|(guard_target =~ Lx _ _ _ _ (Oper.mk _ (Op.store 53 _ _) _ _ _ _::_) _ _;obtain⟨W2,s2,hY,hb2,hz2⟩:=ld_new W xt px cx;refine lx_st (s2 _ rfl) ⟨⟨W2,pI _ ((pB _ hp).trans (hb2.mono (pB _ hp).size))⟩,rfl⟩ rfl rfl (by rfl) ?_;clear s2;simp only[pts])|(refine lx_one rfl ?_;(first|go_big_quiet_skip|(go_big_quiet_want;go_big_quiet_op;go_big_quiet_on));refine wpQuiet_nil ?_)|(refine lx_skip (by rfl) ?_;simp only[pts]))
 refine lx_done ?_
 have hbW:=pB _ hp
 have hb:Below w.heap.size w W2:=hb1.out.trans ((hbW.trans (hb2.mono hbW.size)).mono hb1.out.size)
 have h2:=h.out.below hb
 have hTT:TkC W2 w.heap.size 0 t pc cc:=hA.out.below (B:=W1.heap.size) (by omega) (hbW.trans (hb2.mono hbW.size))
 have gT:w.heap.size≠c.go:=by omega
 have gO:W.heap.size≠c.go:=by have:=hbW.size;omega
 have gTl:w.heap.size<W2.heap.size:=by have:=hbW.size;omega
 have gOl:W.heap.size<W2.heap.size:=by omega
 have t0:=hTT.c0
 have t4:=hTT.c4
 have t5:=hTT.c5
 have t14:=hTT.c14
 have t15:=hTT.c15
 have t16:=hTT.c16
 have t17:=hTT.c17
 have o0:=hY.c0
 have o5:=hY.c5
 replace h2:=Hid.mk h2
 replace hb:=Hid.mk hb
 replace hTT:=Hid.mk hTT
 replace hYY:Hid _:=⟨hY⟩
 clear pB pI p0 f0 f12 hNe hp lu hY hbW
 simp only[Nat.zero_add] at t0 t4 t5 t14 t15 t16 t17 o0 o5
 have v2:=h2.out.ds.fm.c2
 have x4:=h2.out.sc.c4
 have nB:c.B≠c.go:=h.out.ap.Bo
 have z4:W2.frozen? ⟨c.go,L.length*5+4,none⟩=false:=h2.out.op.frz _
 by_cases k9:t.since<xt.since
 ·have d9_0:decide (t.since<xt.since)=true:=by simp<;>omega
  have HX:Hid (¬ P):=⟨by rw[hP.out];omega⟩
  clear k9
  go_wp2_with fail
  go_quiet (fail)
  go_wp2_with fail
  go_ret
  exact Lfd.no HX.out (Kb.drewM (Kb.of_below hb.out) _)
 have d9_0:decide (t.since<xt.since)=false:=by simp<;>omega
 by_cases k10:t.since<x.row
 ·have d10_0:decide (t.since<x.row)=true:=by simp<;>omega
  have HX:Hid (¬ P):=⟨by rw[hP.out];omega⟩
  clear k10
  go_wp2_with fail
  go_quiet (fail)
  go_wp2_with fail
  go_ret
  exact Lfd.no HX.out (Kb.drewM (Kb.of_below hb.out) _)
 have d10_0:decide (t.since<x.row)=false:=by simp<;>omega
 by_cases k11:f.ver<t.since
 ·have d11_0:decide (t.since > f.ver)=true:=by simp<;>omega
  have HX:Hid (¬ P):=⟨by rw[hP.out];omega⟩
  clear k11
  go_wp2_with fail
  go_quiet (fail)
  go_wp2_with fail
  go_ret
  exact Lfd.no HX.out (Kb.drewM (Kb.of_below hb.out) _)
 have d11_0:decide (t.since > f.ver)=false:=by simp<;>omega
 have hk:Hid (xt.since<=t.since/\x.row<=t.since/\t.since<=f.ver):=⟨by omega,by omega,by omega⟩
 have hP':Hid (P↔((1<=t.siz/\t.siz<=65535/\0<=t.blk/\t.blk<=t.full/\t.full<=65535)/\lieB t.a t.siz=true/\lieB t.b t.siz=true/\aptB t.a t.b=true/\telB t.a t.full=true/\cntD f.toks 4 (L++[{ x with row:=t.since }])<8)):=⟨by rw[hP.out];have:=hk.out;simp[this]⟩
 clear hP hk k9 k10 k11
 have hP:=hP'
 clear hP'
 go_wp2_with fail
 go_quiet (fail)
 have h3:Dt ((W2.drewN nq).setCell ⟨c.go,L.length*5+4,none⟩ (.int .i64 t.since)) c f L { x with row:=t.since } xt t ids vi:=(h2.out.below (tdr (Below.refl _ _))).wrote (j:=4) (by decide) rfl rfl
 have tT:TkC ((W2.drewN nq).setCell ⟨c.go,L.length*5+4,none⟩ (.int .i64 t.since)) w.heap.size 0 t pc cc:=(hTT.out.same (w':=W2.drewN nq) rfl).same (set_oth gT.symm)
 have KB:Hid (Kb [c.go] w ((W2.drewN nq).setCell ⟨c.go,L.length*5+4,none⟩ (.int .i64 t.since))):=⟨(Kb.drewM (Kb.of_below hb.out) nq).set (List.mem_singleton.2 rfl) _⟩
 have gl3:=KB.out.size
 replace h3:=Hid.mk h3
 replace tT:=Hid.mk tT
 by_cases k12:t.siz<1
 ·have d12_0:decide (t.siz<1)=true:=by simp<;>omega
  have HX:Hid (¬ P):=⟨by rw[hP.out];omega⟩
  clear k12
  go_wp2_with fail
  go_ret
  exact Lfd.no HX.out KB.out
 have d12_0:decide (t.siz<1)=false:=by simp<;>omega
 by_cases k13:65535<t.siz
 ·have d13_0:decide (t.siz > 65535)=true:=by simp<;>omega
  have HX:Hid (¬ P):=⟨by rw[hP.out];omega⟩
  clear k13
  go_wp2_with fail
  go_ret
  exact Lfd.no HX.out KB.out
 have d13_0:decide (t.siz > 65535)=false:=by simp<;>omega
 by_cases k14:t.blk<0
 ·have d14_0:decide (t.blk<0)=true:=by simp<;>omega
  have HX:Hid (¬ P):=⟨by rw[hP.out];omega⟩
  clear k14
  go_wp2_with fail
  go_ret
  exact Lfd.no HX.out KB.out
 have d14_0:decide (t.blk<0)=false:=by simp<;>omega
 by_cases k15:t.full<t.blk
 ·have d15_0:decide (t.blk > t.full)=true:=by simp<;>omega
  have HX:Hid (¬ P):=⟨by rw[hP.out];omega⟩
  clear k15
  go_wp2_with fail
  go_ret
  exact Lfd.no HX.out KB.out
 have d15_0:decide (t.blk > t.full)=false:=by simp<;>omega
 by_cases k16:65535<t.full
 ·have d16_0:decide (t.full > 65535)=true:=by simp<;>omega
  have HX:Hid (¬ P):=⟨by rw[hP.out];omega⟩
  clear k16
  go_wp2_with fail
  go_ret
  exact Lfd.no HX.out KB.out
 have d16_0:decide (t.full > 65535)=false:=by simp<;>omega
 obtain⟨p,p0,pB,hNe,pc',pk⟩:=clsB ((W2.drewN nq).setCell ⟨c.go,L.length*5+4,none⟩ (.int .i64 t.since))
 have wTl:w.heap.size<((W2.drewN nq).setCell ⟨c.go,L.length*5+4,none⟩ (.int .i64 t.since)).heap.size:=by
  have e:=tT.out.c0
  simp only[World.cell?] at e
  cases hh:((W2.drewN nq).setCell ⟨c.go,L.length*5+4,none⟩ (.int .i64 t.since)).heap[w.heap.size]? with
  | none=>rw[hh] at e;cases e
  | some o=>exact(Array.getElem?_eq_some_iff.1 hh).1
 have hsz:0<=t.siz/\t.siz<=9223372036854775807:=by omega
 have hfl:i64ok t.full:=by unfold i64ok;omega
 have cL:=fun W=>refLies_any t.a t.siz W hsz
 have cM:=fun W=>refLies_any t.b t.siz W hsz
 have cT:=fun W=>refTells_any t.a t.full W hfl
 have cC:=fun W (hW:Below ((W2.drewN nq).setCell ⟨c.go,L.length*5+4,none⟩ (.int .i64 t.since)).heap.size ((W2.drewN nq).setCell ⟨c.go,L.length*5+4,none⟩ (.int .i64 t.since)) W)=>refCount_any c f L { x with row:=t.since } xt t ids vi 4 W (h3.out.below hW) hall'.out
 have cA:lieB t.a t.siz=true->lieB t.b t.siz=true->∀ W,Calls Tryz.prog 26 #[spV t.a,spV t.b] W fun e w'=>e = .returned (.bool (aptB t.a t.b))/\Below W.heap.size W w':=fun e1 e2 W=>by
  unfold lieB at e1 e2
  rw[Bool.and_eq_true] at e1 e2
  have e1:=decT e1.2
  have e2:=decT e2.2
  have:=sz_b t.a.p
  have:=sz_b t.b.p
  exact refApart_any t.a t.b W (by omega) (by omega)
 have hY:∀ W,Below ((W2.drewN nq).setCell ⟨c.go,L.length*5+4,none⟩ (.int .i64 t.since)).heap.size ((W2.drewN nq).setCell ⟨c.go,L.length*5+4,none⟩ (.int .i64 t.since)) W->TkC W w.heap.size 0 t pc cc:=fun W hW=>tT.out.below wTl hW
 clear pc' pk hNe p0 pB p
 replace cA:=Hid.mk cA
 replace hY:=Hid.mk hY
 have hP2:Hid (P↔(lieB t.a t.siz=true/\lieB t.b t.siz=true/\aptB t.a t.b=true/\telB t.a t.full=true/\cntD f.toks 4 (L++[{ x with row:=t.since }])<8)):=⟨by rw[hP.out];constructor;(exact fun h=>h.2);(exact fun h=>⟨by omega,h⟩)⟩
 clear hP k12 k13 k14 k15 k16
 generalize lieB t.a t.siz=q1 at *
 generalize lieB t.b t.siz=q2 at *
 generalize aptB t.a t.b=q3 at *
 generalize telB t.a t.full=q4 at *
 have cle:=cnt_le f.toks 4 (L++[{ x with row:=t.since }])
 generalize cntD f.toks 4 (L++[{ x with row:=t.since }])=n at *
 by_cases eq1:q1=false
 ·subst eq1
  have HX:Hid (¬ P):=⟨by rw[hP2.out];simp⟩
  go_wp2_with (first|(go_at_call_of 25 (Value.agg #[Value.int .i64 t.a.p,Value.int .i64 t.a.o]);refine(cL _).mono ?_;rintro _ wa ⟨rfl,ewa⟩;have ba:Below ((W2.drewN nq).setCell ⟨c.go,L.length*5+4,none⟩ (.int .i64 t.since)).heap.size ((W2.drewN nq).setCell ⟨c.go,L.length*5+4,none⟩ (.int .i64 t.since)) wa:=ewa;have yy:=hY.out _ ba;have z4:=yy.c4;have z18:=yy.c18;have z19:=yy.c19;clear yy;simp only[Nat.zero_add] at z4 z18 z19))
  go_ret
  exact Lfd.no HX.out (KB.out.trans (Kb.of_below ba))
 obtain rfl:q1=true:=by simpa using eq1
 by_cases eq2:q2=false
 ·subst eq2
  have HX:Hid (¬ P):=⟨by rw[hP2.out];simp⟩
  go_wp2_with (first|(go_at_call_of 25 (Value.agg #[Value.int .i64 t.a.p,Value.int .i64 t.a.o]);refine(cL _).mono ?_;rintro _ wa ⟨rfl,ewa⟩;have ba:Below ((W2.drewN nq).setCell ⟨c.go,L.length*5+4,none⟩ (.int .i64 t.since)).heap.size ((W2.drewN nq).setCell ⟨c.go,L.length*5+4,none⟩ (.int .i64 t.since)) wa:=ewa;have yy:=hY.out _ ba;have z4:=yy.c4;have z18:=yy.c18;have z19:=yy.c19;clear yy;simp only[Nat.zero_add] at z4 z18 z19)|(go_at_call_of 25 (Value.agg #[Value.int .i64 t.b.p,Value.int .i64 t.b.o]);refine(cM _).mono ?_;rintro _ wb ⟨rfl,ewb⟩;have bb:Below ((W2.drewN nq).setCell ⟨c.go,L.length*5+4,none⟩ (.int .i64 t.since)).heap.size ((W2.drewN nq).setCell ⟨c.go,L.length*5+4,none⟩ (.int .i64 t.since)) wb:=ba.trans (ewb.mono ba.size);have yy:=hY.out _ bb;have z16:=yy.c16;have z17:=yy.c17;have z18:=yy.c18;have z19:=yy.c19;clear yy;simp only[Nat.zero_add] at z16 z17 z18 z19))
  go_ret
  exact Lfd.no HX.out (KB.out.trans (Kb.of_below bb))
 obtain rfl:q2=true:=by simpa using eq2
 have cP:=cA.out rfl rfl
 by_cases eq3:q3=false
 ·subst eq3
  have HX:Hid (¬ P):=⟨by rw[hP2.out];simp⟩
  go_wp2_with (first|(go_at_call_of 25 (Value.agg #[Value.int .i64 t.a.p,Value.int .i64 t.a.o]);refine(cL _).mono ?_;rintro _ wa ⟨rfl,ewa⟩;have ba:Below ((W2.drewN nq).setCell ⟨c.go,L.length*5+4,none⟩ (.int .i64 t.since)).heap.size ((W2.drewN nq).setCell ⟨c.go,L.length*5+4,none⟩ (.int .i64 t.since)) wa:=ewa;have yy:=hY.out _ ba;have z4:=yy.c4;have z18:=yy.c18;have z19:=yy.c19;clear yy;simp only[Nat.zero_add] at z4 z18 z19)|(go_at_call_of 25 (Value.agg #[Value.int .i64 t.b.p,Value.int .i64 t.b.o]);refine(cM _).mono ?_;rintro _ wb ⟨rfl,ewb⟩;have bb:Below ((W2.drewN nq).setCell ⟨c.go,L.length*5+4,none⟩ (.int .i64 t.since)).heap.size ((W2.drewN nq).setCell ⟨c.go,L.length*5+4,none⟩ (.int .i64 t.since)) wb:=ba.trans (ewb.mono ba.size);have yy:=hY.out _ bb;have z16:=yy.c16;have z17:=yy.c17;have z18:=yy.c18;have z19:=yy.c19;clear yy;simp only[Nat.zero_add] at z16 z17 z18 z19)|(go_at_call 26;refine(cP _).mono ?_;rintro _ wc ⟨rfl,ewc⟩;have bc:Below ((W2.drewN nq).setCell ⟨c.go,L.length*5+4,none⟩ (.int .i64 t.since)).heap.size ((W2.drewN nq).setCell ⟨c.go,L.length*5+4,none⟩ (.int .i64 t.since)) wc:=bb.trans (ewc.mono bb.size);have yy:=hY.out _ bc;have z15:=yy.c15;have z16:=yy.c16;have z17:=yy.c17;clear yy;simp only[Nat.zero_add] at z15 z16 z17))
  go_ret
  exact Lfd.no HX.out (KB.out.trans (Kb.of_below bc))
 obtain rfl:q3=true:=by simpa using eq3
 by_cases eq4:q4=false
 ·subst eq4
  have HX:Hid (¬ P):=⟨by rw[hP2.out];simp⟩
  go_wp2_with (first|(go_at_call_of 25 (Value.agg #[Value.int .i64 t.a.p,Value.int .i64 t.a.o]);refine(cL _).mono ?_;rintro _ wa ⟨rfl,ewa⟩;have ba:Below ((W2.drewN nq).setCell ⟨c.go,L.length*5+4,none⟩ (.int .i64 t.since)).heap.size ((W2.drewN nq).setCell ⟨c.go,L.length*5+4,none⟩ (.int .i64 t.since)) wa:=ewa;have yy:=hY.out _ ba;have z4:=yy.c4;have z18:=yy.c18;have z19:=yy.c19;clear yy;simp only[Nat.zero_add] at z4 z18 z19)|(go_at_call_of 25 (Value.agg #[Value.int .i64 t.b.p,Value.int .i64 t.b.o]);refine(cM _).mono ?_;rintro _ wb ⟨rfl,ewb⟩;have bb:Below ((W2.drewN nq).setCell ⟨c.go,L.length*5+4,none⟩ (.int .i64 t.since)).heap.size ((W2.drewN nq).setCell ⟨c.go,L.length*5+4,none⟩ (.int .i64 t.since)) wb:=ba.trans (ewb.mono ba.size);have yy:=hY.out _ bb;have z16:=yy.c16;have z17:=yy.c17;have z18:=yy.c18;have z19:=yy.c19;clear yy;simp only[Nat.zero_add] at z16 z17 z18 z19)|(go_at_call 26;refine(cP _).mono ?_;rintro _ wc ⟨rfl,ewc⟩;have bc:Below ((W2.drewN nq).setCell ⟨c.go,L.length*5+4,none⟩ (.int .i64 t.since)).heap.size ((W2.drewN nq).setCell ⟨c.go,L.length*5+4,none⟩ (.int .i64 t.since)) wc:=bb.trans (ewc.mono bb.size);have yy:=hY.out _ bc;have z15:=yy.c15;have z16:=yy.c16;have z17:=yy.c17;clear yy;simp only[Nat.zero_add] at z15 z16 z17)|(go_at_call 27;refine(cT _).mono ?_;rintro _ wd ⟨rfl,ewd⟩;have bd:Below ((W2.drewN nq).setCell ⟨c.go,L.length*5+4,none⟩ (.int .i64 t.since)).heap.size ((W2.drewN nq).setCell ⟨c.go,L.length*5+4,none⟩ (.int .i64 t.since)) wd:=bc.trans (ewd.mono bc.size)))
  go_ret
  exact Lfd.no HX.out (KB.out.trans (Kb.of_below bd))
 obtain rfl:q4=true:=by simpa using eq4
 have HX:Hid (P↔n<8):=⟨by rw[hP2.out];simp⟩
 go_wp2_with (first|(go_at_call_of 25 (Value.agg #[Value.int .i64 t.a.p,Value.int .i64 t.a.o]);refine(cL _).mono ?_;rintro _ wa ⟨rfl,ewa⟩;have ba:Below ((W2.drewN nq).setCell ⟨c.go,L.length*5+4,none⟩ (.int .i64 t.since)).heap.size ((W2.drewN nq).setCell ⟨c.go,L.length*5+4,none⟩ (.int .i64 t.since)) wa:=ewa;have yy:=hY.out _ ba;have z4:=yy.c4;have z18:=yy.c18;have z19:=yy.c19;clear yy;simp only[Nat.zero_add] at z4 z18 z19)|(go_at_call_of 25 (Value.agg #[Value.int .i64 t.b.p,Value.int .i64 t.b.o]);refine(cM _).mono ?_;rintro _ wb ⟨rfl,ewb⟩;have bb:Below ((W2.drewN nq).setCell ⟨c.go,L.length*5+4,none⟩ (.int .i64 t.since)).heap.size ((W2.drewN nq).setCell ⟨c.go,L.length*5+4,none⟩ (.int .i64 t.since)) wb:=ba.trans (ewb.mono ba.size);have yy:=hY.out _ bb;have z16:=yy.c16;have z17:=yy.c17;have z18:=yy.c18;have z19:=yy.c19;clear yy;simp only[Nat.zero_add] at z16 z17 z18 z19)|(go_at_call 26;refine(cP _).mono ?_;rintro _ wc ⟨rfl,ewc⟩;have bc:Below ((W2.drewN nq).setCell ⟨c.go,L.length*5+4,none⟩ (.int .i64 t.since)).heap.size ((W2.drewN nq).setCell ⟨c.go,L.length*5+4,none⟩ (.int .i64 t.since)) wc:=bb.trans (ewc.mono bb.size);have yy:=hY.out _ bc;have z15:=yy.c15;have z16:=yy.c16;have z17:=yy.c17;clear yy;simp only[Nat.zero_add] at z15 z16 z17)|(go_at_call 27;refine(cT _).mono ?_;rintro _ wd ⟨rfl,ewd⟩;have bd:Below ((W2.drewN nq).setCell ⟨c.go,L.length*5+4,none⟩ (.int .i64 t.since)).heap.size ((W2.drewN nq).setCell ⟨c.go,L.length*5+4,none⟩ (.int .i64 t.since)) wd:=bc.trans (ewd.mono bc.size))|(go_at_call 36;refine(cC _ bd).mono ?_;rintro _ we ⟨rfl,ewe⟩;have be:Below ((W2.drewN nq).setCell ⟨c.go,L.length*5+4,none⟩ (.int .i64 t.since)).heap.size ((W2.drewN nq).setCell ⟨c.go,L.length*5+4,none⟩ (.int .i64 t.since)) we:=bd.trans (ewe.mono bd.size)))
 go_ret
 refine⟨_,rfl,Iff.trans ?_ HX.out.symm,KB.out.trans (Kb.of_below be),fun _=>hQ.out _ (h3.out.below be)⟩
 simp
 try omega
theorem refRowed_gg (c:Df) (f:Fm) (L:List Od) (x:Od) (xt t:Tk) (ids:List Int) (vi:Value) (w:World) (P:Prop) (Q:World->Prop) (h:Dt w c f L x xt t ids vi) (ho:xt.op=4) (hp:t.op=4)
  (hall:∀ y∈L++[x],y.at_<f.toks.length) (hP:Hid (P↔((t.since=xt.since)/\(1<=t.siz/\t.siz<=65535/\0<=t.blk/\t.blk<=t.full/\t.full<=65535)/\lieB t.a t.siz=true/\lieB t.b t.siz=true/\aptB t.a t.b=true/\telB t.a t.full=true/\cntD f.toks 4 (L++[x])<8))) (hQ:Hid (∀ w',Dt w' c f L x xt t ids vi->Q w')) :
  Calls Tryz.prog 34 #[.pointer (some ⟨c.B,0,none⟩),.int .i64 (c.i:Int),.pointer (some ⟨c.go,L.length*5,none⟩)] w fun r w'=>Lfd r P c w w' (Q w'):=by
 have a4:(xt.op==4)=true:=by simp[ho]
 have b6:(t.op==6)=false:=by simp[hp]
 clear ho hp
 have hall':∀ y∈L++[x],y.at_<f.toks.length:=fun y hy=>by
  rcases List.mem_append.1 hy with hy|hy
  ·exact hall y (List.mem_append_left _ hy)
  ·rw[List.mem_singleton.1 hy];exact hall x (by simp)
 replace hall':=Hid.mk hall'
 clear hall
 obtain⟨pc,cc,hT,hU,hC,hO⟩:=h.tk
 obtain⟨px,cx,hTx,hOx⟩:=h.xk
 have b12:=h.ds.c12
 have hii:(c.i:Int)<f.toks.length:=by have:=h.il;omega
 have hxl:(x.at_:Int)<f.toks.length:=by have:=h.xl;omega
 have hll:=h.ll
 have l1:=hT.load
 have hgo:=h.op.lt
 obtain⟨W1,s1,hA,hb1,hz1⟩:=ld_new w t pc cc
 have h1:=h.below hb1
 have hX1:=hTx.below (B:=w.heap.size) h.lg hb1
 obtain⟨p,p0,pB,pI,hNe,pc',pl,pk⟩:=clsT W1
 have f12:=fun θ=>(pc' c.B 12 h1.ds.lt θ).trans h1.ds.c12
 have f0:=fun θ=>(pc' c.go (L.length*5) h1.op.lt θ).trans h1.sc.c0
 have lu:=pl c.g _ xt px cx h1.lg hX1
 clear pc' pl pk hX1 hTx
 replace l1:=Hid.mk l1
 replace s1:=Hid.mk s1
 replace h:=Hid.mk h
 replace h1:=Hid.mk h1
 replace hA:=Hid.mk hA
 replace hb1:=Hid.mk hb1
 replace hO:=Hid.mk hO
 replace hOx:=Hid.mk hOx
 clear hT hU hC
 go_enter Tryz.func34,Tryz.ntmps34
 go_wp2_with (first
  | (guard_target =~ wpList _ _ _ (Oper.mk _ (Op.load 53 _) _ _ _ _::_) _ _;go_must (first|refine wpList_ld 53 _ rfl rfl _ _ rfl l1.out ?_);simp only[pts])
  | (guard_target =~ wpList _ _ _ (Oper.mk _ (Op.store 53 _ _) _ _ _ _::_) _ _;go_must (refine wpList_st 53 _ _ rfl rfl _ _ rfl rfl (s1.out _ rfl) ?_);simp only[pts]))
 refine wp_region_lp p (by kernel_rfl) (by kernel_rfl) (fun _ _ d _ _ h=>by cases d<;>exact h) p0 fun W hp=>?_
 repeat (first|(guard_target =~ Lx _ _ _ _ (Oper.mk _ (Op.load 53 _) _ _ _ _::_) _ _;(first|refine lx_ld lu rfl rfl ?_);simp only[pts])|(guard_target =~ Lx _ _ _ _ (Oper.mk _ (Op.alloc 53) _ _ _ _::_) _ _;refine lx_act (by rfl) (by rfl) ?_;intro K hK;go_simp;refine hK _ _ ⟨⟨_,pI _ ((pB _ hp).trans ((bel1 W _).mono (pB _ hp).size))⟩,rfl⟩ ?_;clear hK K)|(guard_target =~ Lx _ _ _ _ (Oper.mk _ (Op.store 53 _ _) _ _ _ _::_) _ _;obtain⟨W2,s2,hY,hb2,hz2⟩:=ld_new W xt px cx;refine lx_st (s2 _ rfl) ⟨⟨W2,pI _ ((pB _ hp).trans (hb2.mono (pB _ hp).size))⟩,rfl⟩ rfl rfl (by rfl) ?_;clear s2;simp only[pts])|(refine lx_one rfl ?_;(first|go_big_quiet_skip|(go_big_quiet_want;go_big_quiet_op;go_big_quiet_on));refine wpQuiet_nil ?_)|(refine lx_skip (by rfl) ?_;simp only[pts]))
 refine lx_done ?_
 have hbW:=pB _ hp
 have hb:Below w.heap.size w W2:=hb1.out.trans ((hbW.trans (hb2.mono hbW.size)).mono hb1.out.size)
 have h2:=h.out.below hb
 have hTT:TkC W2 w.heap.size 0 t pc cc:=hA.out.below (B:=W1.heap.size) (by omega) (hbW.trans (hb2.mono hbW.size))
 have gT:w.heap.size≠c.go:=by omega
 have gO:W.heap.size≠c.go:=by have:=hbW.size;omega
 have gTl:w.heap.size<W2.heap.size:=by have:=hbW.size;omega
 have gOl:W.heap.size<W2.heap.size:=by omega
 have t0:=hTT.c0
 have t4:=hTT.c4
 have t5:=hTT.c5
 have t14:=hTT.c14
 have t15:=hTT.c15
 have t16:=hTT.c16
 have t17:=hTT.c17
 have o0:=hY.c0
 have o5:=hY.c5
 replace h2:=Hid.mk h2
 replace hb:=Hid.mk hb
 replace hTT:=Hid.mk hTT
 replace hYY:Hid _:=⟨hY⟩
 clear pB pI p0 f0 f12 hNe hp lu hY hbW
 simp only[Nat.zero_add] at t0 t4 t5 t14 t15 t16 t17 o0 o5
 by_cases k17:¬ t.since=xt.since
 ·have d17_0:(t.since != xt.since)=true:=by simp<;>omega
  have HX:Hid (¬ P):=⟨by rw[hP.out];omega⟩
  clear k17
  go_wp2_with fail
  go_ret
  exact Lfd.no HX.out (Kb.of_below hb.out)
 have d17_0:(t.since != xt.since)=false:=by simp<;>omega
 have hk:Hid _:=⟨Decidable.not_not.1 k17⟩
 have hP':Hid (P↔((1<=t.siz/\t.siz<=65535/\0<=t.blk/\t.blk<=t.full/\t.full<=65535)/\lieB t.a t.siz=true/\lieB t.b t.siz=true/\aptB t.a t.b=true/\telB t.a t.full=true/\cntD f.toks 4 (L++[x])<8)):=⟨by rw[hP.out];have:=hk.out;simp[this]⟩
 clear hP k17 hk
 have hP:=hP'
 clear hP'
 have KB:Hid (Kb [c.go] w W2):=⟨Kb.of_below hb.out⟩
 have h3:=h2.out
 have tT:=hTT.out
 have gl3:=KB.out.size
 replace h3:=Hid.mk h3
 replace tT:=Hid.mk tT
 by_cases k18:t.siz<1
 ·have d18_0:decide (t.siz<1)=true:=by simp<;>omega
  have HX:Hid (¬ P):=⟨by rw[hP.out];omega⟩
  clear k18
  go_wp2_with fail
  go_ret
  exact Lfd.no HX.out KB.out
 have d18_0:decide (t.siz<1)=false:=by simp<;>omega
 by_cases k19:65535<t.siz
 ·have d19_0:decide (t.siz > 65535)=true:=by simp<;>omega
  have HX:Hid (¬ P):=⟨by rw[hP.out];omega⟩
  clear k19
  go_wp2_with fail
  go_ret
  exact Lfd.no HX.out KB.out
 have d19_0:decide (t.siz > 65535)=false:=by simp<;>omega
 by_cases k20:t.blk<0
 ·have d20_0:decide (t.blk<0)=true:=by simp<;>omega
  have HX:Hid (¬ P):=⟨by rw[hP.out];omega⟩
  clear k20
  go_wp2_with fail
  go_ret
  exact Lfd.no HX.out KB.out
 have d20_0:decide (t.blk<0)=false:=by simp<;>omega
 by_cases k21:t.full<t.blk
 ·have d21_0:decide (t.blk > t.full)=true:=by simp<;>omega
  have HX:Hid (¬ P):=⟨by rw[hP.out];omega⟩
  clear k21
  go_wp2_with fail
  go_ret
  exact Lfd.no HX.out KB.out
 have d21_0:decide (t.blk > t.full)=false:=by simp<;>omega
 by_cases k22:65535<t.full
 ·have d22_0:decide (t.full > 65535)=true:=by simp<;>omega
  have HX:Hid (¬ P):=⟨by rw[hP.out];omega⟩
  clear k22
  go_wp2_with fail
  go_ret
  exact Lfd.no HX.out KB.out
 have d22_0:decide (t.full > 65535)=false:=by simp<;>omega
 obtain⟨p,p0,pB,hNe,pc',pk⟩:=clsB W2
 have wTl:w.heap.size<W2.heap.size:=by
  have e:=tT.out.c0
  simp only[World.cell?] at e
  cases hh:W2.heap[w.heap.size]? with
  | none=>rw[hh] at e;cases e
  | some o=>exact(Array.getElem?_eq_some_iff.1 hh).1
 have hsz:0<=t.siz/\t.siz<=9223372036854775807:=by omega
 have hfl:i64ok t.full:=by unfold i64ok;omega
 have cL:=fun W=>refLies_any t.a t.siz W hsz
 have cM:=fun W=>refLies_any t.b t.siz W hsz
 have cT:=fun W=>refTells_any t.a t.full W hfl
 have cC:=fun W (hW:Below W2.heap.size W2 W)=>refCount_any c f L x xt t ids vi 4 W (h3.out.below hW) hall'.out
 have cA:lieB t.a t.siz=true->lieB t.b t.siz=true->∀ W,Calls Tryz.prog 26 #[spV t.a,spV t.b] W fun e w'=>e = .returned (.bool (aptB t.a t.b))/\Below W.heap.size W w':=fun e1 e2 W=>by
  unfold lieB at e1 e2
  rw[Bool.and_eq_true] at e1 e2
  have e1:=decT e1.2
  have e2:=decT e2.2
  have:=sz_b t.a.p
  have:=sz_b t.b.p
  exact refApart_any t.a t.b W (by omega) (by omega)
 have hY:∀ W,Below W2.heap.size W2 W->TkC W w.heap.size 0 t pc cc:=fun W hW=>tT.out.below wTl hW
 clear pc' pk hNe p0 pB p
 replace cA:=Hid.mk cA
 replace hY:=Hid.mk hY
 have hP2:Hid (P↔(lieB t.a t.siz=true/\lieB t.b t.siz=true/\aptB t.a t.b=true/\telB t.a t.full=true/\cntD f.toks 4 (L++[x])<8)):=⟨by rw[hP.out];constructor;(exact fun h=>h.2);(exact fun h=>⟨by omega,h⟩)⟩
 clear hP k18 k19 k20 k21 k22
 generalize lieB t.a t.siz=q1 at *
 generalize lieB t.b t.siz=q2 at *
 generalize aptB t.a t.b=q3 at *
 generalize telB t.a t.full=q4 at *
 have cle:=cnt_le f.toks 4 (L++[x])
 generalize cntD f.toks 4 (L++[x])=n at *
 by_cases eq1:q1=false
 ·subst eq1
  have HX:Hid (¬ P):=⟨by rw[hP2.out];simp⟩
  go_wp2_with (first|(go_at_call_of 25 (Value.agg #[Value.int .i64 t.a.p,Value.int .i64 t.a.o]);refine(cL _).mono ?_;rintro _ wa ⟨rfl,ewa⟩;have ba:Below W2.heap.size W2 wa:=ewa;have yy:=hY.out _ ba;have z4:=yy.c4;have z18:=yy.c18;have z19:=yy.c19;clear yy;simp only[Nat.zero_add] at z4 z18 z19))
  go_ret
  exact Lfd.no HX.out (KB.out.trans (Kb.of_below ba))
 obtain rfl:q1=true:=by simpa using eq1
 by_cases eq2:q2=false
 ·subst eq2
  have HX:Hid (¬ P):=⟨by rw[hP2.out];simp⟩
  go_wp2_with (first|(go_at_call_of 25 (Value.agg #[Value.int .i64 t.a.p,Value.int .i64 t.a.o]);refine(cL _).mono ?_;rintro _ wa ⟨rfl,ewa⟩;have ba:Below W2.heap.size W2 wa:=ewa;have yy:=hY.out _ ba;have z4:=yy.c4;have z18:=yy.c18;have z19:=yy.c19;clear yy;simp only[Nat.zero_add] at z4 z18 z19)|(go_at_call_of 25 (Value.agg #[Value.int .i64 t.b.p,Value.int .i64 t.b.o]);refine(cM _).mono ?_;rintro _ wb ⟨rfl,ewb⟩;have bb:Below W2.heap.size W2 wb:=ba.trans (ewb.mono ba.size);have yy:=hY.out _ bb;have z16:=yy.c16;have z17:=yy.c17;have z18:=yy.c18;have z19:=yy.c19;clear yy;simp only[Nat.zero_add] at z16 z17 z18 z19))
  go_ret
  exact Lfd.no HX.out (KB.out.trans (Kb.of_below bb))
 obtain rfl:q2=true:=by simpa using eq2
 have cP:=cA.out rfl rfl
 by_cases eq3:q3=false
 ·subst eq3
  have HX:Hid (¬ P):=⟨by rw[hP2.out];simp⟩
  go_wp2_with (first|(go_at_call_of 25 (Value.agg #[Value.int .i64 t.a.p,Value.int .i64 t.a.o]);refine(cL _).mono ?_;rintro _ wa ⟨rfl,ewa⟩;have ba:Below W2.heap.size W2 wa:=ewa;have yy:=hY.out _ ba;have z4:=yy.c4;have z18:=yy.c18;have z19:=yy.c19;clear yy;simp only[Nat.zero_add] at z4 z18 z19)|(go_at_call_of 25 (Value.agg #[Value.int .i64 t.b.p,Value.int .i64 t.b.o]);refine(cM _).mono ?_;rintro _ wb ⟨rfl,ewb⟩;have bb:Below W2.heap.size W2 wb:=ba.trans (ewb.mono ba.size);have yy:=hY.out _ bb;have z16:=yy.c16;have z17:=yy.c17;have z18:=yy.c18;have z19:=yy.c19;clear yy;simp only[Nat.zero_add] at z16 z17 z18 z19)|(go_at_call 26;refine(cP _).mono ?_;rintro _ wc ⟨rfl,ewc⟩;have bc:Below W2.heap.size W2 wc:=bb.trans (ewc.mono bb.size);have yy:=hY.out _ bc;have z15:=yy.c15;have z16:=yy.c16;have z17:=yy.c17;clear yy;simp only[Nat.zero_add] at z15 z16 z17))
  go_ret
  exact Lfd.no HX.out (KB.out.trans (Kb.of_below bc))
 obtain rfl:q3=true:=by simpa using eq3
 by_cases eq4:q4=false
 ·subst eq4
  have HX:Hid (¬ P):=⟨by rw[hP2.out];simp⟩
  go_wp2_with (first|(go_at_call_of 25 (Value.agg #[Value.int .i64 t.a.p,Value.int .i64 t.a.o]);refine(cL _).mono ?_;rintro _ wa ⟨rfl,ewa⟩;have ba:Below W2.heap.size W2 wa:=ewa;have yy:=hY.out _ ba;have z4:=yy.c4;have z18:=yy.c18;have z19:=yy.c19;clear yy;simp only[Nat.zero_add] at z4 z18 z19)|(go_at_call_of 25 (Value.agg #[Value.int .i64 t.b.p,Value.int .i64 t.b.o]);refine(cM _).mono ?_;rintro _ wb ⟨rfl,ewb⟩;have bb:Below W2.heap.size W2 wb:=ba.trans (ewb.mono ba.size);have yy:=hY.out _ bb;have z16:=yy.c16;have z17:=yy.c17;have z18:=yy.c18;have z19:=yy.c19;clear yy;simp only[Nat.zero_add] at z16 z17 z18 z19)|(go_at_call 26;refine(cP _).mono ?_;rintro _ wc ⟨rfl,ewc⟩;have bc:Below W2.heap.size W2 wc:=bb.trans (ewc.mono bb.size);have yy:=hY.out _ bc;have z15:=yy.c15;have z16:=yy.c16;have z17:=yy.c17;clear yy;simp only[Nat.zero_add] at z15 z16 z17)|(go_at_call 27;refine(cT _).mono ?_;rintro _ wd ⟨rfl,ewd⟩;have bd:Below W2.heap.size W2 wd:=bc.trans (ewd.mono bc.size)))
  go_ret
  exact Lfd.no HX.out (KB.out.trans (Kb.of_below bd))
 obtain rfl:q4=true:=by simpa using eq4
 have HX:Hid (P↔n<8):=⟨by rw[hP2.out];simp⟩
 go_wp2_with (first|(go_at_call_of 25 (Value.agg #[Value.int .i64 t.a.p,Value.int .i64 t.a.o]);refine(cL _).mono ?_;rintro _ wa ⟨rfl,ewa⟩;have ba:Below W2.heap.size W2 wa:=ewa;have yy:=hY.out _ ba;have z4:=yy.c4;have z18:=yy.c18;have z19:=yy.c19;clear yy;simp only[Nat.zero_add] at z4 z18 z19)|(go_at_call_of 25 (Value.agg #[Value.int .i64 t.b.p,Value.int .i64 t.b.o]);refine(cM _).mono ?_;rintro _ wb ⟨rfl,ewb⟩;have bb:Below W2.heap.size W2 wb:=ba.trans (ewb.mono ba.size);have yy:=hY.out _ bb;have z16:=yy.c16;have z17:=yy.c17;have z18:=yy.c18;have z19:=yy.c19;clear yy;simp only[Nat.zero_add] at z16 z17 z18 z19)|(go_at_call 26;refine(cP _).mono ?_;rintro _ wc ⟨rfl,ewc⟩;have bc:Below W2.heap.size W2 wc:=bb.trans (ewc.mono bb.size);have yy:=hY.out _ bc;have z15:=yy.c15;have z16:=yy.c16;have z17:=yy.c17;clear yy;simp only[Nat.zero_add] at z15 z16 z17)|(go_at_call 27;refine(cT _).mono ?_;rintro _ wd ⟨rfl,ewd⟩;have bd:Below W2.heap.size W2 wd:=bc.trans (ewd.mono bc.size))|(go_at_call 36;refine(cC _ bd).mono ?_;rintro _ we ⟨rfl,ewe⟩;have be:Below W2.heap.size W2 we:=bd.trans (ewe.mono bd.size)))
 go_ret
 refine⟨_,rfl,Iff.trans ?_ HX.out.symm,KB.out.trans (Kb.of_below be),fun _=>hQ.out _ (h3.out.below be)⟩
 simp
 try omega
end Go.Proofs.YtjnafpefolgcoaaGreatDoor
