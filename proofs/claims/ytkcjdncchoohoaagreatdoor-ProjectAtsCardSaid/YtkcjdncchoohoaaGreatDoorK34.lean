import Derived.Test.YtkcjdncchoohoaaGreatDoorK30
namespace Go.Proofs.YtkcjdncchoohoaaGreatDoor
set_option maxRecDepth 1000000
set_option maxHeartbeats 16000000
open Go.ChangeShapes Go.WideShapes Go.ChangeAt Go.RowKit Go.Shelf Go.Maps
theorem copSpare {w:World} {base g cap:Nat} {ps:List J.TkP} (h:J.Cop w base g cap ps):w.cell? ⟨g,ps.length*21+1,none⟩=some (.string J.spareS):=by
 have hc:=World.ownsRow.cells h.row (g:=g) rfl (ps.length*21+1) (.string J.spareS) (by rw[List.getElem?_append_right (by rw[J.tpC_length];omega),J.tpC_length,show ps.length*21+1-ps.length*21=1 by omega];rfl)
 rwa [J.addr0] at hc
theorem sameForm13 (f:Fm) (pa pb:Option Addr) (ca cb:Nat) (w:World) (ha:TkL w pa w.heap.size f.toks) (hb:TkL w pb w.heap.size f.toks) :
  Calls Tryz.prog 8 #[fmV f pa ca,fmV f pb cb] w fun r w'=>r = .returned (.bool true)/\Below w.heap.size w w':=by
 have HB:Below w.heap.size w ((w.alloc (fmO f pa ca)).alloc (fmO f pb cb)):=two_b w _ _
 have lA:=(J.fm_of (two_1 w (fmO f pa ca) (fmO f pb cb))).load
 have lC:=(J.fm_of (two_2 w (fmO f pa ca) (fmO f pb cb))).load
 have cS:=J.refSame_any f f pa pb ca cb _ ((ha.below HB).mono HB.size) ((hb.below HB).mono HB.size)
 replace HB:=Hid.mk HB
 generalize hW:(w.alloc (fmO f pa ca)).alloc (fmO f pb cb)=W at HB lA lC cS
 simp only[fmO] at hW
 clear ha hb
 go_enter Tryz.func8,Tryz.ntmps8
 go_wp2_with (first
  | (guard_target =~ wpList _ _ _ (Oper.mk _ (Op.load 30 _) _ _ _ _::_) _ _;go_must (first|refine wpList_ld 30 (.tmp 2) rfl rfl _ _ rfl lA ?_|refine wpList_ld 30 (.tmp 3) rfl rfl _ _ rfl lC ?_);simp only[pts])
  | (go_at_call 22;refine cS.mono ?_;rintro _ w1 ⟨hA1,hb1⟩;obtain rfl:=hA1.said (b:=true) (by simp);replace hb1:=Hid.mk hb1;clear hA1))
 go_ret
 exact⟨rfl,HB.out.trans (hb1.out.mono HB.out.size)⟩
theorem spared13 (f:Fm) (g cap:Nat) (ps:List J.TkP) (base:Nat) (pb:Option Addr) (cb:Nat) (w:World) (hc:J.Cop w base g cap ps) (hp:ps.map J.TkP.t=f.toks) (hb:TkL w pb w.heap.size f.toks) :
  Calls Tryz.prog 9 #[fmV f (some ⟨g,0,none⟩) cap,fmV f pb cb] w fun r w'=>r = .returned (.bool true)/\Below w.heap.size w w':=by
 have ha:TkL w (some ⟨g,0,none⟩) w.heap.size f.toks:=⟨hp▸hc.trow,hb.len,hb.ok⟩
 have HB:Below w.heap.size w ((w.alloc (fmO f (some ⟨g,0,none⟩) cap)).alloc (fmO f pb cb)):=two_b w _ _
 have hA:=J.fm_of (two_1 w (fmO f (some ⟨g,0,none⟩) cap) (fmO f pb cb))
 have lC:=(J.fm_of (two_2 w (fmO f (some ⟨g,0,none⟩) cap) (fmO f pb cb))).load
 have HS:w.heap.size+1<((w.alloc (fmO f (some ⟨g,0,none⟩) cap)).alloc (fmO f pb cb)).heap.size:=by simp
 have cS:=sameForm13 f (some ⟨g,0,none⟩) pb cap cb _ ((ha.below HB).mono HB.size) ((hb.below HB).mono HB.size)
 replace hc:=hc.below HB
 have hll:=hb.len
 have hok:=hb.ok
 generalize hW:(w.alloc (fmO f (some ⟨g,0,none⟩) cap)).alloc (fmO f pb cb)=W at HB hA lC cS HS hc
 simp only[fmO] at hW
 have x12:W.cell? ⟨w.heap.size,12,none⟩=some (.slice (some ⟨g,0,none⟩) f.toks.length cap):=hA.c12
 have lA:=hA.load
 have hpl:ps.length=f.toks.length:=by rw[<- hp,List.length_map]
 have hroom:(f.toks.length:Int)+1<=cap:=by have:=hc.room;omega
 have hw1:IntKind.i64.wrap ((f.toks.length:Int)+1)=(f.toks.length:Int)+1:=by rw[IntKind.wrap_i64];omega
 have K:Hid (∀ W',Below W.heap.size W W'->W'.cell? ⟨w.heap.size,12,none⟩=some (.slice (some ⟨g,0,none⟩) f.toks.length cap)/\W'.cell? ⟨g,f.toks.length*21+1,none⟩=some (.string J.spareS)/\Below w.heap.size w W'):=⟨fun W' h=>⟨(hA.below (by omega) h).c12,by rw[<- hpl];exact copSpare (hc.below h),HB.trans (h.mono HB.size)⟩⟩
 replace hc:=Hid.mk hc
 replace hp:=Hid.mk hp
 replace hpl:=Hid.mk hpl
 replace hok:=Hid.mk hok
 clear ha hb hA HB HS
 go_enter Tryz.func9,Tryz.ntmps9
 go_wp2_with fail
 go_loopw [5] (fun q wr=>∃ j:Nat,j<=f.toks.length/\q = .int .i64 (j:Int)/\wr=W) (fun q _=>f.toks.length-(RowKit.intOf q).toNat)
 case atStart=>exact⟨0,Nat.zero_le _,by go_num,rfl⟩
 case round =>
  obtain⟨j,hj,rfl,rfl⟩:=hrel
  by_cases hlt:j<f.toks.length
  ·obtain⟨x,hx⟩:∃ x,ps[j]?=some x:=⟨ps[j]'(by have:=hpl.out;omega),List.getElem?_eq_getElem (by have:=hpl.out;omega)⟩
   have hxt:f.toks[j]?=some x.t:=by rw[<- hp.out,List.getElem?_map,hx];rfl
   have t12:=(hc.out.tk hx).c12
   have hG:=(hc.out.good x (List.mem_of_getElem? hx)).1
   have hlti:(j:Int)<f.toks.length:=by omega
   have hrm:=hG.room
   have hcst:=(hok.out x.t (List.mem_of_getElem? hxt)).cst
   have h77:wr.cell? ⟨x.g,x.t.cst.length,none⟩=some (.int .u64 77):=by
    have hc7:=World.ownsRow.cells hG (g:=x.g) rfl x.t.cst.length (.int .u64 77) (by rw[List.getElem?_map,List.getElem?_append_right (Nat.le_refl _),Nat.sub_self];rfl)
    rwa [J.addr0] at hc7
   have hw2:IntKind.i64.wrap ((x.t.cst.length:Int)+1)=(x.t.cst.length:Int)+1:=by rw[IntKind.wrap_i64];omega
   have hci:(x.t.cst.length:Int)+1<=x.c:=by omega
   clear hx hxt hG
   go_wp2_with fail
   go_roundw
   case rel=>exact⟨j+1,by omega,by go_num,trivial⟩
   case measure=>simp[RowKit.intOf];omega
  ·obtain rfl:j=f.toks.length:=by omega
   have d3:decide ((f.toks.length:Int)<f.toks.length)=false:=by simp
   clear hlt
   go_wp2_with (first
    | (guard_target =~ wpList _ _ _ (Oper.mk _ (Op.load 30 _) _ _ _ _::_) _ _;go_must (first|refine wpList_ld 30 (.tmp 2) rfl rfl _ _ rfl lA ?_|refine wpList_ld 30 (.tmp 3) rfl rfl _ _ rfl lC ?_);simp only[pts])
    | (go_at_call 8;refine cS.mono ?_;rintro _ w1 ⟨rfl,hb1⟩;obtain⟨k1,k2,k3⟩:=K.out w1 hb1;replace k3:=Hid.mk k3;clear hb1))
   go_ret
   exact⟨rfl,k3.out⟩
def Lfd (r:Ending) (P:Prop) (c:Df) (w w':World) (D:Prop):Prop:=∃ b,r = .returned (.bool b)/\(b=true↔P)/\Kb [c.go] w w'/\(b=true->D)
theorem Lfd.no {P D:Prop} {c:Df} {w w':World} (h:¬ P) (hk:Kb [c.go] w w'):Lfd (.returned (.bool false)) P c w w' D:=⟨false,rfl,by simp[h],hk,fun e=>by cases e⟩
theorem Lfd.yes {P D:Prop} {c:Df} {w w':World} (h:P) (hk:Kb [c.go] w w') (hd:D):Lfd (.returned (.bool true)) P c w w' D:=⟨true,rfl,by simp[h],hk,fun _=>hd⟩
theorem Kb.drewM {E:List Nat} {a b:World} (h:Kb E a b) (n:Nat):Kb E a (b.drewN n):=⟨h.os,h.tape,h.output,h.size,h.block⟩
def Lfg (r:Ending) (P:Prop) (c:Df) (w w':World) (D:Prop):Prop:=∃ b,r = .returned (.bool b)/\(b=true↔P)/\(b=false->Below w.heap.size w w')/\Kb [c.go] w w'/\(b=true->D)
theorem Lfg.no {P D:Prop} {c:Df} {w w':World} (h:¬ P) (hb:Below w.heap.size w w'):Lfg (.returned (.bool false)) P c w w' D:=⟨false,rfl,by simp[h],fun _=>hb,Kb.of_below hb,fun e=>by cases e⟩
theorem Lfg.yes {P D:Prop} {c:Df} {w w':World} (h:P) (hk:Kb [c.go] w w') (hd:D):Lfg (.returned (.bool true)) P c w w' D:=⟨true,rfl,by simp[h],(fun e=>by cases e),hk,fun _=>hd⟩
theorem refFitted_2 (c:Df) (f:Fm) (L:List Od) (x:Od) (xt t:Tk) (ids:List Int) (vi:Value) (w:World) (P:Prop) (Q:World->Prop) (h:Dt w c f L x xt t ids vi) (ho:xt.op=2)
  (hP:Hid (P↔(0<=t.siz/\t.siz<=65535/\0<=t.pres/\t.pres<=2/\t.off=0))) (hQ:Hid (∀ w',Dt w' c f L x xt t ids vi->Q w')) :
  Calls Tryz.prog 52 #[.pointer (some ⟨c.B,0,none⟩),.int .i64 (c.i:Int),.pointer (some ⟨c.go,L.length*5,none⟩)] w fun r w'=>Lfg r P c w w' (Q w'):=by
 have a2:(xt.op==2)=true:=by simp[ho]
 have a10:(xt.op==10)=false:=by simp[ho]
 have a12:(xt.op==12)=false:=by simp[ho]
 clear ho
 obtain⟨pc,cc,hT,hU,hC,hO⟩:=h.tk
 obtain⟨px,cx,hTx,hOx⟩:=h.xk
 have b12:=h.ds.c12
 have hii:(c.i:Int)<f.toks.length:=by have:=h.il;omega
 have hxl:(x.at_:Int)<f.toks.length:=by have:=h.xl;omega
 have hll:=h.ll
 have l1:=hT.load
 have hgo:=h.op.lt
 obtain⟨W1,s1,hA,hb1,hz1⟩:=ld_new w t pc cc
 have h1:=h.below hb1
 have hX1:=hTx.below (B:=w.heap.size) h.lg hb1
 obtain⟨p,p0,pB,pI,hNe,pc',pl,pk⟩:=clsT W1
 have f12:=fun θ=>(pc' c.B 12 h1.ds.lt θ).trans h1.ds.c12
 have f0:=fun θ=>(pc' c.go (L.length*5) h1.op.lt θ).trans h1.sc.c0
 have lu:=pl c.g _ xt px cx h1.lg hX1
 clear pc' pl pk hX1 hTx
 replace l1:=Hid.mk l1
 replace s1:=Hid.mk s1
 replace h:=Hid.mk h
 replace h1:=Hid.mk h1
 replace hA:=Hid.mk hA
 replace hb1:=Hid.mk hb1
 replace hO:=Hid.mk hO
 replace hOx:=Hid.mk hOx
 clear hT hU hC
 go_enter Tryz.func52,Tryz.ntmps52
 go_wp2_with (first
  | (guard_target =~ wpList _ _ _ (Oper.mk _ (Op.load 47 _) _ _ _ _::_) _ _;go_must (first|refine wpList_ld 47 _ rfl rfl _ _ rfl l1.out ?_);simp only[pts])
  | (guard_target =~ wpList _ _ _ (Oper.mk _ (Op.store 47 _ _) _ _ _ _::_) _ _;go_must (refine wpList_st 47 _ _ rfl rfl _ _ rfl rfl (s1.out _ rfl) ?_);simp only[pts]))
 refine wp_region_lp p (by kernel_rfl) (by kernel_rfl) (fun _ _ d _ _ h=>by cases d<;>exact h) p0 fun W hp=>?_
 repeat (first|(guard_target =~ Lx _ _ _ _ (Oper.mk _ (Op.load 47 _) _ _ _ _::_) _ _;(first|refine lx_ld lu rfl rfl ?_);simp only[pts])|(guard_target =~ Lx _ _ _ _ (Oper.mk _ (Op.alloc 47) _ _ _ _::_) _ _;refine lx_act (by rfl) (by rfl) ?_;intro K hK;go_simp;refine hK _ _ ⟨⟨_,pI _ ((pB _ hp).trans ((bel1 W _).mono (pB _ hp).size))⟩,rfl⟩ ?_;clear hK K)|(guard_target =~ Lx _ _ _ _ (Oper.mk _ (Op.store 47 _ _) _ _ _ _::_) _ _;obtain⟨W2,s2,hY,hb2,hz2⟩:=ld_new W xt px cx;refine lx_st (s2 _ rfl) ⟨⟨W2,pI _ ((pB _ hp).trans (hb2.mono (pB _ hp).size))⟩,rfl⟩ rfl rfl (by rfl) ?_;clear s2;simp only[pts])|(refine lx_one rfl ?_;(first|go_big_quiet_skip|(go_big_quiet_want;go_big_quiet_op;go_big_quiet_on));refine wpQuiet_nil ?_)|(refine lx_skip (by rfl) ?_;simp only[pts]))
 refine lx_done ?_
 have hbW:=pB _ hp
 have hb:Below w.heap.size w W2:=hb1.out.trans ((hbW.trans (hb2.mono hbW.size)).mono hb1.out.size)
 have h2:=h.out.below hb
 have hTT:TkC W2 w.heap.size 0 t pc cc:=hA.out.below (B:=W1.heap.size) (by omega) (hbW.trans (hb2.mono hbW.size))
 have gT:w.heap.size≠c.go:=by omega
 have gO:W.heap.size≠c.go:=by have:=hbW.size;omega
 have gTl:w.heap.size<W2.heap.size:=by have:=hbW.size;omega
 have gOl:W.heap.size<W2.heap.size:=by omega
 have t3:=hTT.c3
 have t4:=hTT.c4
 have t6:=hTT.c6
 have t7:=hTT.c7
 have t8:=hTT.c8
 have o0:=hY.c0
 have o3:=hY.c3
 have o4:=hY.c4
 have o8:=hY.c8
 replace h2:=Hid.mk h2
 replace hb:=Hid.mk hb
 replace hTT:=Hid.mk hTT
 replace hYY:Hid _:=⟨hY⟩
 clear pB pI p0 f0 f12 hNe hp lu hY hbW
 simp only[Nat.zero_add] at t3 t4 t6 t7 t8 o0 o3 o4 o8
 have DB:=h2.out
 replace DB:=Hid.mk DB
 by_cases k1:t.siz<0
 ·have d1_0:decide (t.siz<0)=true:=by simp<;>omega
  have HX:Hid (¬ P):=⟨by rw[hP.out];omega⟩
  clear k1
  go_wp2_with fail
  go_ret
  exact Lfg.no HX.out hb.out
 have d1_0:decide (t.siz<0)=false:=by simp<;>omega
 by_cases k2:65535<t.siz
 ·have d2_0:decide (t.siz > 65535)=true:=by simp<;>omega
  have HX:Hid (¬ P):=⟨by rw[hP.out];omega⟩
  clear k2
  go_wp2_with fail
  go_ret
  exact Lfg.no HX.out hb.out
 have d2_0:decide (t.siz > 65535)=false:=by simp<;>omega
 by_cases k3:t.pres<0
 ·have d3_0:decide (t.pres<0)=true:=by simp<;>omega
  have HX:Hid (¬ P):=⟨by rw[hP.out];omega⟩
  clear k3
  go_wp2_with fail
  go_ret
  exact Lfg.no HX.out hb.out
 have d3_0:decide (t.pres<0)=false:=by simp<;>omega
 by_cases k4:2<t.pres
 ·have d4_0:decide (t.pres > 2)=true:=by simp<;>omega
  have HX:Hid (¬ P):=⟨by rw[hP.out];omega⟩
  clear k4
  go_wp2_with fail
  go_ret
  exact Lfg.no HX.out hb.out
 have d4_0:decide (t.pres > 2)=false:=by simp<;>omega
 have HX:Hid (P↔t.off=0):=⟨by rw[hP.out];omega⟩
 go_wp2_with fail
 go_ret
 refine⟨_,rfl,Iff.trans ?_ HX.out.symm,fun _=>hb.out,Kb.of_below hb.out,fun _=>hQ.out _ DB.out⟩
 simp
theorem refFitted_8 (c:Df) (f:Fm) (L:List Od) (x:Od) (xt t:Tk) (ids:List Int) (vi:Value) (w:World) (P:Prop) (Q:World->Prop) (h:Dt w c f L x xt t ids vi) (ho:xt.op=8)
  (b1:0<=xt.off/\xt.off<=65535) (b2:0<=xt.siz/\xt.siz<=65535) (hP:Hid (P↔(0<=t.siz/\t.siz<=65535/\0<=t.pres/\t.pres<=2/\xt.off<=t.off/\t.off<=xt.off+xt.siz/\t.siz<=xt.off+xt.siz-t.off/\(0<t.siz->x.en<=t.off)))) (hQ:Hid (∀ w',Dt w' c f L { x with en:=if 0<t.siz then t.off+t.siz else x.en } xt t ids vi->Q w')) :
  Calls Tryz.prog 52 #[.pointer (some ⟨c.B,0,none⟩),.int .i64 (c.i:Int),.pointer (some ⟨c.go,L.length*5,none⟩)] w fun r w'=>Lfg r P c w w' (Q w'):=by
 have a2:(xt.op==2)=false:=by simp[ho]
 have a10:(xt.op==10)=false:=by simp[ho]
 have a12:(xt.op==12)=false:=by simp[ho]
 clear ho
 obtain⟨pc,cc,hT,hU,hC,hO⟩:=h.tk
 obtain⟨px,cx,hTx,hOx⟩:=h.xk
 have b12:=h.ds.c12
 have hii:(c.i:Int)<f.toks.length:=by have:=h.il;omega
 have hxl:(x.at_:Int)<f.toks.length:=by have:=h.xl;omega
 have hll:=h.ll
 have l1:=hT.load
 have hgo:=h.op.lt
 obtain⟨W1,s1,hA,hb1,hz1⟩:=ld_new w t pc cc
 have h1:=h.below hb1
 have hX1:=hTx.below (B:=w.heap.size) h.lg hb1
 obtain⟨p,p0,pB,pI,hNe,pc',pl,pk⟩:=clsT W1
 have f12:=fun θ=>(pc' c.B 12 h1.ds.lt θ).trans h1.ds.c12
 have f0:=fun θ=>(pc' c.go (L.length*5) h1.op.lt θ).trans h1.sc.c0
 have lu:=pl c.g _ xt px cx h1.lg hX1
 clear pc' pl pk hX1 hTx
 replace l1:=Hid.mk l1
 replace s1:=Hid.mk s1
 replace h:=Hid.mk h
 replace h1:=Hid.mk h1
 replace hA:=Hid.mk hA
 replace hb1:=Hid.mk hb1
 replace hO:=Hid.mk hO
 replace hOx:=Hid.mk hOx
 clear hT hU hC
 go_enter Tryz.func52,Tryz.ntmps52
 go_wp2_with (first
  | (guard_target =~ wpList _ _ _ (Oper.mk _ (Op.load 47 _) _ _ _ _::_) _ _;go_must (first|refine wpList_ld 47 _ rfl rfl _ _ rfl l1.out ?_);simp only[pts])
  | (guard_target =~ wpList _ _ _ (Oper.mk _ (Op.store 47 _ _) _ _ _ _::_) _ _;go_must (refine wpList_st 47 _ _ rfl rfl _ _ rfl rfl (s1.out _ rfl) ?_);simp only[pts]))
 refine wp_region_lp p (by kernel_rfl) (by kernel_rfl) (fun _ _ d _ _ h=>by cases d<;>exact h) p0 fun W hp=>?_
 repeat (first|(guard_target =~ Lx _ _ _ _ (Oper.mk _ (Op.load 47 _) _ _ _ _::_) _ _;(first|refine lx_ld lu rfl rfl ?_);simp only[pts])|(guard_target =~ Lx _ _ _ _ (Oper.mk _ (Op.alloc 47) _ _ _ _::_) _ _;refine lx_act (by rfl) (by rfl) ?_;intro K hK;go_simp;refine hK _ _ ⟨⟨_,pI _ ((pB _ hp).trans ((bel1 W _).mono (pB _ hp).size))⟩,rfl⟩ ?_;clear hK K)|(guard_target =~ Lx _ _ _ _ (Oper.mk _ (Op.store 47 _ _) _ _ _ _::_) _ _;obtain⟨W2,s2,hY,hb2,hz2⟩:=ld_new W xt px cx;refine lx_st (s2 _ rfl) ⟨⟨W2,pI _ ((pB _ hp).trans (hb2.mono (pB _ hp).size))⟩,rfl⟩ rfl rfl (by rfl) ?_;clear s2;simp only[pts])|(refine lx_one rfl ?_;(first|go_big_quiet_skip|(go_big_quiet_want;go_big_quiet_op;go_big_quiet_on));refine wpQuiet_nil ?_)|(refine lx_skip (by rfl) ?_;simp only[pts]))
 refine lx_done ?_
 have hbW:=pB _ hp
 have hb:Below w.heap.size w W2:=hb1.out.trans ((hbW.trans (hb2.mono hbW.size)).mono hb1.out.size)
 have h2:=h.out.below hb
 have hTT:TkC W2 w.heap.size 0 t pc cc:=hA.out.below (B:=W1.heap.size) (by omega) (hbW.trans (hb2.mono hbW.size))
 have gT:w.heap.size≠c.go:=by omega
 have gO:W.heap.size≠c.go:=by have:=hbW.size;omega
 have gTl:w.heap.size<W2.heap.size:=by have:=hbW.size;omega
 have gOl:W.heap.size<W2.heap.size:=by omega
 have t3:=hTT.c3
 have t4:=hTT.c4
 have t6:=hTT.c6
 have t7:=hTT.c7
 have t8:=hTT.c8
 have o0:=hY.c0
 have o3:=hY.c3
 have o4:=hY.c4
 have o8:=hY.c8
 replace h2:=Hid.mk h2
 replace hb:=Hid.mk hb
 replace hTT:=Hid.mk hTT
 replace hYY:Hid _:=⟨hY⟩
 clear pB pI p0 f0 f12 hNe hp lu hY hbW
 simp only[Nat.zero_add] at t3 t4 t6 t7 t8 o0 o3 o4 o8
 have DB:=h2.out
 replace DB:=Hid.mk DB
 by_cases k5:t.siz<0
 ·have d5_0:decide (t.siz<0)=true:=by simp<;>omega
  have HX:Hid (¬ P):=⟨by rw[hP.out];omega⟩
  clear k5
  go_wp2_with fail
  go_ret
  exact Lfg.no HX.out hb.out
 have d5_0:decide (t.siz<0)=false:=by simp<;>omega
 by_cases k6:65535<t.siz
 ·have d6_0:decide (t.siz > 65535)=true:=by simp<;>omega
  have HX:Hid (¬ P):=⟨by rw[hP.out];omega⟩
  clear k6
  go_wp2_with fail
  go_ret
  exact Lfg.no HX.out hb.out
 have d6_0:decide (t.siz > 65535)=false:=by simp<;>omega
 by_cases k7:t.pres<0
 ·have d7_0:decide (t.pres<0)=true:=by simp<;>omega
  have HX:Hid (¬ P):=⟨by rw[hP.out];omega⟩
  clear k7
  go_wp2_with fail
  go_ret
  exact Lfg.no HX.out hb.out
 have d7_0:decide (t.pres<0)=false:=by simp<;>omega
 by_cases k8:2<t.pres
 ·have d8_0:decide (t.pres > 2)=true:=by simp<;>omega
  have HX:Hid (¬ P):=⟨by rw[hP.out];omega⟩
  clear k8
  go_wp2_with fail
  go_ret
  exact Lfg.no HX.out hb.out
 have d8_0:decide (t.pres > 2)=false:=by simp<;>omega
 have nB:c.B≠c.go:=h.out.ap.Bo
 have ng:c.g≠c.go:=by have:=h.out.ap.g;have:=h.out.ap.go;omega
 have x2:=h2.out.sc.c2
 have z2:W2.frozen? ⟨c.go,L.length*5+2,none⟩=false:=h2.out.op.frz _
 have hw:IntKind.i64.wrap (xt.off+xt.siz)=xt.off+xt.siz:=by rw[IntKind.wrap_i64];omega
 by_cases k9:t.off<xt.off
 ·have d9_0:decide (t.off<xt.off)=true:=by simp<;>omega
  have HX:Hid (¬ P):=⟨by rw[hP.out];omega⟩
  clear k9
  go_wp2_with fail
  go_ret
  exact Lfg.no HX.out hb.out
 have d9_0:decide (t.off<xt.off)=false:=by simp<;>omega
 by_cases k10:xt.off+xt.siz<t.off
 ·have d10_0:decide (t.off > xt.off+xt.siz)=true:=by simp<;>omega
  have HX:Hid (¬ P):=⟨by rw[hP.out];omega⟩
  clear k10
  go_wp2_with fail
  go_ret
  exact Lfg.no HX.out hb.out
 have d10_0:decide (t.off > xt.off+xt.siz)=false:=by simp<;>omega
 have hw1:IntKind.i64.wrap (xt.off+xt.siz-t.off)=xt.off+xt.siz-t.off:=by rw[IntKind.wrap_i64];omega
 by_cases k11:xt.off+xt.siz-t.off<t.siz
 ·have d11_0:decide (t.siz > xt.off+xt.siz-t.off)=true:=by simp<;>omega
  have HX:Hid (¬ P):=⟨by rw[hP.out];omega⟩
  clear k11
  go_wp2_with fail
  go_ret
  exact Lfg.no HX.out hb.out
 have d11_0:decide (t.siz > xt.off+xt.siz-t.off)=false:=by simp<;>omega
 have hw2:IntKind.i64.wrap (t.off+t.siz)=t.off+t.siz:=by rw[IntKind.wrap_i64];omega
 by_cases q7:0<t.siz
 ·have r8:decide (t.siz > 0)=true:=by simp;omega
  by_cases q8:t.off<x.en
  ·have r9:decide (t.off<x.en)=true:=by simp;omega
   have HX:Hid (¬ P):=⟨by rw[hP.out];omega⟩
   go_wp2_with fail
   go_quiet (fail)
   go_wp2_with fail
   go_ret
   exact Lfg.no HX.out (tdr hb.out)
  ·have r9:decide (t.off<x.en)=false:=by simp;omega
   have HX:Hid P:=⟨by rw[hP.out];omega⟩
   have HE:Hid (0<t.siz):=⟨q7⟩
   go_wp2_with fail
   go_quiet (fail)
   go_wp2_with fail
   go_ret
   refine Lfg.yes HX.out ((Kb.drewM (Kb.of_below hb.out) _).set (List.mem_singleton.2 rfl) _) (hQ.out _ ?_)
   rw[if_pos HE.out]
   exact(DB.out.below (tdr (Below.refl _ _))).wrote (j:=2) (by decide) rfl rfl
 ·have r8:decide (t.siz > 0)=false:=by simp;omega
  have HX:Hid P:=⟨by rw[hP.out];omega⟩
  have HE:Hid (t.siz<=0):=⟨by omega⟩
  go_wp2_with fail
  go_ret
  refine Lfg.yes HX.out (Kb.of_below hb.out) (hQ.out _ ?_)
  rw[if_neg (by have:=HE.out;omega)]
  exact DB.out
theorem refFitted_10 (c:Df) (f:Fm) (L:List Od) (x:Od) (xt t:Tk) (ids:List Int) (vi:Value) (w:World) (P:Prop) (Q:World->Prop) (h:Dt w c f L x xt t ids vi) (ho:xt.op=10)
  (hP:Hid (P↔(0<=t.siz/\t.siz<=65535/\0<=t.pres/\t.pres<=2/\t.off=xt.off/\t.siz=xt.siz/\t.pres=xt.pres/\t.len=1/\t.prim≠9/\t.prim≠10))) (hQ:Hid (∀ w',Dt w' c f L x xt t ids vi->Q w')) :
  Calls Tryz.prog 52 #[.pointer (some ⟨c.B,0,none⟩),.int .i64 (c.i:Int),.pointer (some ⟨c.go,L.length*5,none⟩)] w fun r w'=>Lfg r P c w w' (Q w'):=by
 have a2:(xt.op==2)=false:=by simp[ho]
 have a10:(xt.op==10)=true:=by simp[ho]
 have a12:(xt.op==12)=false:=by simp[ho]
 clear ho
 obtain⟨pc,cc,hT,hU,hC,hO⟩:=h.tk
 obtain⟨px,cx,hTx,hOx⟩:=h.xk
 have b12:=h.ds.c12
 have hii:(c.i:Int)<f.toks.length:=by have:=h.il;omega
 have hxl:(x.at_:Int)<f.toks.length:=by have:=h.xl;omega
 have hll:=h.ll
 have l1:=hT.load
 have hgo:=h.op.lt
 obtain⟨W1,s1,hA,hb1,hz1⟩:=ld_new w t pc cc
 have h1:=h.below hb1
 have hX1:=hTx.below (B:=w.heap.size) h.lg hb1
 obtain⟨p,p0,pB,pI,hNe,pc',pl,pk⟩:=clsT W1
 have f12:=fun θ=>(pc' c.B 12 h1.ds.lt θ).trans h1.ds.c12
 have f0:=fun θ=>(pc' c.go (L.length*5) h1.op.lt θ).trans h1.sc.c0
 have lu:=pl c.g _ xt px cx h1.lg hX1
 clear pc' pl pk hX1 hTx
 replace l1:=Hid.mk l1
 replace s1:=Hid.mk s1
 replace h:=Hid.mk h
 replace h1:=Hid.mk h1
 replace hA:=Hid.mk hA
 replace hb1:=Hid.mk hb1
 replace hO:=Hid.mk hO
 replace hOx:=Hid.mk hOx
 clear hT hU hC
 go_enter Tryz.func52,Tryz.ntmps52
 go_wp2_with (first
  | (guard_target =~ wpList _ _ _ (Oper.mk _ (Op.load 47 _) _ _ _ _::_) _ _;go_must (first|refine wpList_ld 47 _ rfl rfl _ _ rfl l1.out ?_);simp only[pts])
  | (guard_target =~ wpList _ _ _ (Oper.mk _ (Op.store 47 _ _) _ _ _ _::_) _ _;go_must (refine wpList_st 47 _ _ rfl rfl _ _ rfl rfl (s1.out _ rfl) ?_);simp only[pts]))
 refine wp_region_lp p (by kernel_rfl) (by kernel_rfl) (fun _ _ d _ _ h=>by cases d<;>exact h) p0 fun W hp=>?_
 repeat (first|(guard_target =~ Lx _ _ _ _ (Oper.mk _ (Op.load 47 _) _ _ _ _::_) _ _;(first|refine lx_ld lu rfl rfl ?_);simp only[pts])|(guard_target =~ Lx _ _ _ _ (Oper.mk _ (Op.alloc 47) _ _ _ _::_) _ _;refine lx_act (by rfl) (by rfl) ?_;intro K hK;go_simp;refine hK _ _ ⟨⟨_,pI _ ((pB _ hp).trans ((bel1 W _).mono (pB _ hp).size))⟩,rfl⟩ ?_;clear hK K)|(guard_target =~ Lx _ _ _ _ (Oper.mk _ (Op.store 47 _ _) _ _ _ _::_) _ _;obtain⟨W2,s2,hY,hb2,hz2⟩:=ld_new W xt px cx;refine lx_st (s2 _ rfl) ⟨⟨W2,pI _ ((pB _ hp).trans (hb2.mono (pB _ hp).size))⟩,rfl⟩ rfl rfl (by rfl) ?_;clear s2;simp only[pts])|(refine lx_one rfl ?_;(first|go_big_quiet_skip|(go_big_quiet_want;go_big_quiet_op;go_big_quiet_on));refine wpQuiet_nil ?_)|(refine lx_skip (by rfl) ?_;simp only[pts]))
 refine lx_done ?_
 have hbW:=pB _ hp
 have hb:Below w.heap.size w W2:=hb1.out.trans ((hbW.trans (hb2.mono hbW.size)).mono hb1.out.size)
 have h2:=h.out.below hb
 have hTT:TkC W2 w.heap.size 0 t pc cc:=hA.out.below (B:=W1.heap.size) (by omega) (hbW.trans (hb2.mono hbW.size))
 have gT:w.heap.size≠c.go:=by omega
 have gO:W.heap.size≠c.go:=by have:=hbW.size;omega
 have gTl:w.heap.size<W2.heap.size:=by have:=hbW.size;omega
 have gOl:W.heap.size<W2.heap.size:=by omega
 have t3:=hTT.c3
 have t4:=hTT.c4
 have t6:=hTT.c6
 have t7:=hTT.c7
 have t8:=hTT.c8
 have o0:=hY.c0
 have o3:=hY.c3
 have o4:=hY.c4
 have o8:=hY.c8
 replace h2:=Hid.mk h2
 replace hb:=Hid.mk hb
 replace hTT:=Hid.mk hTT
 replace hYY:Hid _:=⟨hY⟩
 clear pB pI p0 f0 f12 hNe hp lu hY hbW
 simp only[Nat.zero_add] at t3 t4 t6 t7 t8 o0 o3 o4 o8
 have DB:=h2.out
 replace DB:=Hid.mk DB
 by_cases k12:t.siz<0
 ·have d12_0:decide (t.siz<0)=true:=by simp<;>omega
  have HX:Hid (¬ P):=⟨by rw[hP.out];omega⟩
  clear k12
  go_wp2_with fail
  go_ret
  exact Lfg.no HX.out hb.out
 have d12_0:decide (t.siz<0)=false:=by simp<;>omega
 by_cases k13:65535<t.siz
 ·have d13_0:decide (t.siz > 65535)=true:=by simp<;>omega
  have HX:Hid (¬ P):=⟨by rw[hP.out];omega⟩
  clear k13
  go_wp2_with fail
  go_ret
  exact Lfg.no HX.out hb.out
 have d13_0:decide (t.siz > 65535)=false:=by simp<;>omega
 by_cases k14:t.pres<0
 ·have d14_0:decide (t.pres<0)=true:=by simp<;>omega
  have HX:Hid (¬ P):=⟨by rw[hP.out];omega⟩
  clear k14
  go_wp2_with fail
  go_ret
  exact Lfg.no HX.out hb.out
 have d14_0:decide (t.pres<0)=false:=by simp<;>omega
 by_cases k15:2<t.pres
 ·have d15_0:decide (t.pres > 2)=true:=by simp<;>omega
  have HX:Hid (¬ P):=⟨by rw[hP.out];omega⟩
  clear k15
  go_wp2_with fail
  go_ret
  exact Lfg.no HX.out hb.out
 have d15_0:decide (t.pres > 2)=false:=by simp<;>omega
 by_cases k16:t.prim=9
 ·have d16_0:(t.prim==9)=true:=by simp<;>omega
  have HX:Hid (¬ P):=⟨by rw[hP.out];omega⟩
  clear k16
  go_wp2_with fail
  go_ret
  exact Lfg.no HX.out hb.out
 have d16_0:(t.prim==9)=false:=by simp<;>omega
 by_cases k17:t.prim=10
 ·have d17_0:(t.prim==10)=true:=by simp<;>omega
  have HX:Hid (¬ P):=⟨by rw[hP.out];omega⟩
  clear k17
  go_wp2_with fail
  go_ret
  exact Lfg.no HX.out hb.out
 have d17_0:(t.prim==10)=false:=by simp<;>omega
 by_cases k18:¬ t.off=xt.off
 ·have d18_0:(t.off==xt.off)=false:=by simp<;>omega
  have HX:Hid (¬ P):=⟨by rw[hP.out];omega⟩
  clear k18
  go_wp2_with fail
  go_ret
  exact Lfg.no HX.out hb.out
 have d18_0:(t.off==xt.off)=true:=by simp<;>omega
 by_cases k19:¬ t.siz=xt.siz
 ·have d19_0:(t.siz==xt.siz)=false:=by simp<;>omega
  have HX:Hid (¬ P):=⟨by rw[hP.out];omega⟩
  clear k19
  go_wp2_with fail
  go_ret
  exact Lfg.no HX.out hb.out
 have d19_0:(t.siz==xt.siz)=true:=by simp<;>omega
 by_cases k20:¬ t.pres=xt.pres
 ·have d20_0:(t.pres==xt.pres)=false:=by simp<;>omega
  have HX:Hid (¬ P):=⟨by rw[hP.out];omega⟩
  clear k20
  go_wp2_with fail
  go_ret
  exact Lfg.no HX.out hb.out
 have d20_0:(t.pres==xt.pres)=true:=by simp<;>omega
 have HX:Hid (P↔t.len=1):=⟨by rw[hP.out];omega⟩
 clear k18 k19 k20
 go_wp2_with fail
 go_ret
 refine⟨_,rfl,Iff.trans ?_ HX.out.symm,fun _=>hb.out,Kb.of_below hb.out,fun _=>hQ.out _ DB.out⟩
 simp
theorem refFitted_12 (c:Df) (f:Fm) (L:List Od) (x:Od) (xt t:Tk) (ids:List Int) (vi:Value) (w:World) (P:Prop) (Q:World->Prop) (h:Dt w c f L x xt t ids vi) (ho:xt.op=12)
  (hP:Hid (P↔(0<=t.siz/\t.siz<=65535/\0<=t.pres/\t.pres<=2/\t.off=xt.off/\t.siz=xt.siz/\t.pres=xt.pres/\t.len=1/\5<=t.prim/\t.prim<=8))) (hQ:Hid (∀ w',Dt w' c f L x xt t ids vi->Q w')) :
  Calls Tryz.prog 52 #[.pointer (some ⟨c.B,0,none⟩),.int .i64 (c.i:Int),.pointer (some ⟨c.go,L.length*5,none⟩)] w fun r w'=>Lfg r P c w w' (Q w'):=by
 have a2:(xt.op==2)=false:=by simp[ho]
 have a10:(xt.op==10)=false:=by simp[ho]
 have a12:(xt.op==12)=true:=by simp[ho]
 clear ho
 obtain⟨pc,cc,hT,hU,hC,hO⟩:=h.tk
 obtain⟨px,cx,hTx,hOx⟩:=h.xk
 have b12:=h.ds.c12
 have hii:(c.i:Int)<f.toks.length:=by have:=h.il;omega
 have hxl:(x.at_:Int)<f.toks.length:=by have:=h.xl;omega
 have hll:=h.ll
 have l1:=hT.load
 have hgo:=h.op.lt
 obtain⟨W1,s1,hA,hb1,hz1⟩:=ld_new w t pc cc
 have h1:=h.below hb1
 have hX1:=hTx.below (B:=w.heap.size) h.lg hb1
 obtain⟨p,p0,pB,pI,hNe,pc',pl,pk⟩:=clsT W1
 have f12:=fun θ=>(pc' c.B 12 h1.ds.lt θ).trans h1.ds.c12
 have f0:=fun θ=>(pc' c.go (L.length*5) h1.op.lt θ).trans h1.sc.c0
 have lu:=pl c.g _ xt px cx h1.lg hX1
 clear pc' pl pk hX1 hTx
 replace l1:=Hid.mk l1
 replace s1:=Hid.mk s1
 replace h:=Hid.mk h
 replace h1:=Hid.mk h1
 replace hA:=Hid.mk hA
 replace hb1:=Hid.mk hb1
 replace hO:=Hid.mk hO
 replace hOx:=Hid.mk hOx
 clear hT hU hC
 go_enter Tryz.func52,Tryz.ntmps52
 go_wp2_with (first
  | (guard_target =~ wpList _ _ _ (Oper.mk _ (Op.load 47 _) _ _ _ _::_) _ _;go_must (first|refine wpList_ld 47 _ rfl rfl _ _ rfl l1.out ?_);simp only[pts])
  | (guard_target =~ wpList _ _ _ (Oper.mk _ (Op.store 47 _ _) _ _ _ _::_) _ _;go_must (refine wpList_st 47 _ _ rfl rfl _ _ rfl rfl (s1.out _ rfl) ?_);simp only[pts]))
 refine wp_region_lp p (by kernel_rfl) (by kernel_rfl) (fun _ _ d _ _ h=>by cases d<;>exact h) p0 fun W hp=>?_
 repeat (first|(guard_target =~ Lx _ _ _ _ (Oper.mk _ (Op.load 47 _) _ _ _ _::_) _ _;(first|refine lx_ld lu rfl rfl ?_);simp only[pts])|(guard_target =~ Lx _ _ _ _ (Oper.mk _ (Op.alloc 47) _ _ _ _::_) _ _;refine lx_act (by rfl) (by rfl) ?_;intro K hK;go_simp;refine hK _ _ ⟨⟨_,pI _ ((pB _ hp).trans ((bel1 W _).mono (pB _ hp).size))⟩,rfl⟩ ?_;clear hK K)|(guard_target =~ Lx _ _ _ _ (Oper.mk _ (Op.store 47 _ _) _ _ _ _::_) _ _;obtain⟨W2,s2,hY,hb2,hz2⟩:=ld_new W xt px cx;refine lx_st (s2 _ rfl) ⟨⟨W2,pI _ ((pB _ hp).trans (hb2.mono (pB _ hp).size))⟩,rfl⟩ rfl rfl (by rfl) ?_;clear s2;simp only[pts])|(refine lx_one rfl ?_;(first|go_big_quiet_skip|(go_big_quiet_want;go_big_quiet_op;go_big_quiet_on));refine wpQuiet_nil ?_)|(refine lx_skip (by rfl) ?_;simp only[pts]))
 refine lx_done ?_
 have hbW:=pB _ hp
 have hb:Below w.heap.size w W2:=hb1.out.trans ((hbW.trans (hb2.mono hbW.size)).mono hb1.out.size)
 have h2:=h.out.below hb
 have hTT:TkC W2 w.heap.size 0 t pc cc:=hA.out.below (B:=W1.heap.size) (by omega) (hbW.trans (hb2.mono hbW.size))
 have gT:w.heap.size≠c.go:=by omega
 have gO:W.heap.size≠c.go:=by have:=hbW.size;omega
 have gTl:w.heap.size<W2.heap.size:=by have:=hbW.size;omega
 have gOl:W.heap.size<W2.heap.size:=by omega
 have t3:=hTT.c3
 have t4:=hTT.c4
 have t6:=hTT.c6
 have t7:=hTT.c7
 have t8:=hTT.c8
 have o0:=hY.c0
 have o3:=hY.c3
 have o4:=hY.c4
 have o8:=hY.c8
 replace h2:=Hid.mk h2
 replace hb:=Hid.mk hb
 replace hTT:=Hid.mk hTT
 replace hYY:Hid _:=⟨hY⟩
 clear pB pI p0 f0 f12 hNe hp lu hY hbW
 simp only[Nat.zero_add] at t3 t4 t6 t7 t8 o0 o3 o4 o8
 have DB:=h2.out
 replace DB:=Hid.mk DB
 by_cases k21:t.siz<0
 ·have d21_0:decide (t.siz<0)=true:=by simp<;>omega
  have HX:Hid (¬ P):=⟨by rw[hP.out];omega⟩
  clear k21
  go_wp2_with fail
  go_ret
  exact Lfg.no HX.out hb.out
 have d21_0:decide (t.siz<0)=false:=by simp<;>omega
 by_cases k22:65535<t.siz
 ·have d22_0:decide (t.siz > 65535)=true:=by simp<;>omega
  have HX:Hid (¬ P):=⟨by rw[hP.out];omega⟩
  clear k22
  go_wp2_with fail
  go_ret
  exact Lfg.no HX.out hb.out
 have d22_0:decide (t.siz > 65535)=false:=by simp<;>omega
 by_cases k23:t.pres<0
 ·have d23_0:decide (t.pres<0)=true:=by simp<;>omega
  have HX:Hid (¬ P):=⟨by rw[hP.out];omega⟩
  clear k23
  go_wp2_with fail
  go_ret
  exact Lfg.no HX.out hb.out
 have d23_0:decide (t.pres<0)=false:=by simp<;>omega
 by_cases k24:2<t.pres
 ·have d24_0:decide (t.pres > 2)=true:=by simp<;>omega
  have HX:Hid (¬ P):=⟨by rw[hP.out];omega⟩
  clear k24
  go_wp2_with fail
  go_ret
  exact Lfg.no HX.out hb.out
 have d24_0:decide (t.pres > 2)=false:=by simp<;>omega
 by_cases k25:t.prim<5
 ·have d25_0:decide (t.prim<5)=true:=by simp<;>omega
  have HX:Hid (¬ P):=⟨by rw[hP.out];omega⟩
  clear k25
  go_wp2_with fail
  go_ret
  exact Lfg.no HX.out hb.out
 have d25_0:decide (t.prim<5)=false:=by simp<;>omega
 by_cases k26:8<t.prim
 ·have d26_0:decide (t.prim > 8)=true:=by simp<;>omega
  have HX:Hid (¬ P):=⟨by rw[hP.out];omega⟩
  clear k26
  go_wp2_with fail
  go_ret
  exact Lfg.no HX.out hb.out
 have d26_0:decide (t.prim > 8)=false:=by simp<;>omega
 by_cases k27:¬ t.off=xt.off
 ·have d27_0:(t.off==xt.off)=false:=by simp<;>omega
  have HX:Hid (¬ P):=⟨by rw[hP.out];omega⟩
  clear k27
  go_wp2_with fail
  go_ret
  exact Lfg.no HX.out hb.out
 have d27_0:(t.off==xt.off)=true:=by simp<;>omega
 by_cases k28:¬ t.siz=xt.siz
 ·have d28_0:(t.siz==xt.siz)=false:=by simp<;>omega
  have HX:Hid (¬ P):=⟨by rw[hP.out];omega⟩
  clear k28
  go_wp2_with fail
  go_ret
  exact Lfg.no HX.out hb.out
 have d28_0:(t.siz==xt.siz)=true:=by simp<;>omega
 by_cases k29:¬ t.pres=xt.pres
 ·have d29_0:(t.pres==xt.pres)=false:=by simp<;>omega
  have HX:Hid (¬ P):=⟨by rw[hP.out];omega⟩
  clear k29
  go_wp2_with fail
  go_ret
  exact Lfg.no HX.out hb.out
 have d29_0:(t.pres==xt.pres)=true:=by simp<;>omega
 have HX:Hid (P↔t.len=1):=⟨by rw[hP.out];omega⟩
 clear k27 k28 k29
 go_wp2_with fail
 go_ret
 refine⟨_,rfl,Iff.trans ?_ HX.out.symm,fun _=>hb.out,Kb.of_below hb.out,fun _=>hQ.out _ DB.out⟩
 simp
end Go.Proofs.YtkcjdncchoohoaaGreatDoor
