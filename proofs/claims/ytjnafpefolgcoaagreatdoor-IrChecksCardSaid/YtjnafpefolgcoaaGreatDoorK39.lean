import Derived.Test.YtjnafpefolgcoaaGreatDoorK35
import Derived.Test.YtjnafpefolgcoaaGreatDoorK34
namespace Go.Proofs.YtjnafpefolgcoaaGreatDoor
set_option maxRecDepth 1000000
set_option maxHeartbeats 16000000
open Go.ChangeShapes Go.WideShapes Go.ChangeAt Go.RowKit Go.Shelf Go.Maps
theorem refEnds_any (c:Df) (f:Fm) (L:List Od) (x:Od) (xt t:Tk) (ids:List Int) (vi:Value) (w:World) (P:Prop) (h:Dt w c f L x xt t ids vi) (hob:bgO xt.op=true)
  (hP:Hid (P↔(plainB t=true/\t.op=xt.op+1/\t.name=xt.name/\t.pair=x.at_/\xt.pair=c.i/\(0<x.stg\/(xt.op≠2/\xt.op≠10/\xt.op≠12))))) :
  Calls Tryz.prog 15 #[.pointer (some ⟨c.B,0,none⟩),.int .i64 (c.i:Int)] w fun r w'=>Ans r P/\Below w.heap.size w w':=by
 have hw:=bgO_i64 hob
 clear hob
 have hii:(c.i:Int)<f.toks.length:=by have:=h.il;omega
 have hxl:(x.at_:Int)<f.toks.length:=by have:=h.xl;omega
 have hll:=h.ll
 have hln:=h.ln
 have e1:((L.length+1:Nat):Int)-1=(L.length:Int):=by omega
 have e2:(L.length:Int)<((L.length+1:Nat):Int):=by omega
 obtain⟨p,p0,pB,pI,hNe,pc',pl,pk⟩:=clsT w
 have hol:=h.op.lt
 have f13:=fun θ=>(pc' c.B 13 h.ds.lt θ).trans h.ds.c13
 have f0:=fun θ=>(pc' c.go (L.length*5) hol θ).trans h.sc.c0
 have f1:=fun θ=>(pc' c.go (L.length*5+1) hol θ).trans h.sc.c1
 have f2:=fun θ=>(pc' c.go (L.length*5+2) hol θ).trans h.sc.c2
 have f3:=fun θ=>(pc' c.go (L.length*5+3) hol θ).trans h.sc.c3
 have f4:=fun θ=>(pc' c.go (L.length*5+4) hol θ).trans h.sc.c4
 replace h:=Hid.mk h
 clear pc' pl pk
 go_enter Tryz.func15,Tryz.ntmps15
 go_wp2_with fail
 refine wp_region_lp p (by kernel_rfl) (by kernel_rfl) (fun _ _ d _ _ h=>by cases d<;>exact h) p0 fun W hp=>?_
 repeat (first|(guard_target =~ Lx _ _ _ _ (Oper.mk _ (Op.alloc 58) _ _ _ _::_) _ _;refine lx_act (by rfl) (by rfl) ?_;intro K hK;go_simp;refine hK _ _ ⟨⟨_,pI _ ((pB _ hp).trans ((bel1 W _).mono (pB _ hp).size))⟩,rfl⟩ ?_;clear hK K)|(guard_target =~ Lx _ _ _ _ (Oper.mk _ (Op.store 58 _ _) _ _ _ _::_) _ _;obtain⟨W2,s2,hY,hb2,hz2⟩:=od_new W x;refine lx_st (s2 _ rfl) ⟨⟨W2,pI _ ((pB _ hp).trans (hb2.mono (pB _ hp).size))⟩,rfl⟩ rfl rfl (by rfl) ?_;clear s2;simp only[pts])|(refine lx_one rfl ?_;(first|go_big_quiet_skip|(go_big_quiet_want;go_big_quiet_op;go_big_quiet_on));refine wpQuiet_nil ?_)|(refine lx_skip (by rfl) ?_;simp only[pts]))
 refine lx_done ?_
 have hb:Below w.heap.size w W2:=(pB _ hp).trans (hb2.mono (pB _ hp).size)
 have h2:=h.out.below hb
 obtain⟨pc,cc,hT,hU,hC,hO⟩:=h2.tk
 have b12:=h2.ds.c12
 have hXv:=hY
 have hWl:W.heap.size<W2.heap.size:=by omega
 have l1:=hT.load
 obtain⟨W3,s3,hA,hb3,hz3⟩:=ld_new W2 t pc cc
 have h3:=h2.below hb3
 have hX3:OdC W3 W.heap.size 0 x:=hXv.same (hb3.block _ hWl)
 have x30:W3.cell? ⟨W.heap.size,0,none⟩=some (.int .i64 (x.at_:Int)):=hX3.c0
 replace hz2:=Hid.mk hz2
 replace hz3:=Hid.mk hz3
 replace l1:=Hid.mk l1
 replace s3:=Hid.mk s3
 replace h2:=Hid.mk h2
 replace h3:=Hid.mk h3
 replace hb:=Hid.mk hb
 replace hb3:=Hid.mk hb3
 replace hA:=Hid.mk hA
 replace hX3:=Hid.mk hX3
 replace hO:=Hid.mk hO
 replace hU:=Hid.mk hU
 clear hT hC hY hXv pB pI p0 f0 f1 f2 f3 f4 f13 hNe hp
 go_wp2_with (first
  | (guard_target =~ wpList _ _ _ (Oper.mk _ (Op.load 53 _) _ _ _ _::_) _ _;go_must (first|refine wpList_ld 53 _ rfl rfl _ _ rfl l1.out ?_);simp only[pts])
  | (guard_target =~ wpList _ _ _ (Oper.mk _ (Op.store 53 _ _) _ _ _ _::_) _ _;go_must (refine wpList_st 53 _ _ rfl rfl _ _ rfl rfl (s3.out _ rfl) ?_);simp only[pts]))
 generalize hgx:W.heap.size=gx at *
 generalize hgt:W2.heap.size=gt at *
 obtain⟨px,cx,hTx,hOx⟩:=h3.out.xk
 obtain⟨p,p0,pB,pI,hNe,pc',pl,pk⟩:=clsT W3
 have hz3o:=hz3.out
 have f12:=fun θ=>(pc' c.B 12 h3.out.ds.lt θ).trans h3.out.ds.c12
 have f0:=fun θ=>(pc' gx 0 (by omega) θ).trans x30
 have lu:=pl c.g _ xt px cx h3.out.lg hTx
 clear pc' pl pk hTx
 refine wp_region_lp p (by kernel_rfl) (by kernel_rfl) (fun _ _ d _ _ h=>by cases d<;>exact h) p0 fun W4 hp=>?_
 repeat (first|(guard_target =~ Lx _ _ _ _ (Oper.mk _ (Op.load 53 _) _ _ _ _::_) _ _;(first|refine lx_ld lu rfl rfl ?_);simp only[pts])|(guard_target =~ Lx _ _ _ _ (Oper.mk _ (Op.alloc 53) _ _ _ _::_) _ _;refine lx_act (by rfl) (by rfl) ?_;intro K hK;go_simp;refine hK _ _ ⟨⟨_,pI _ ((pB _ hp).trans ((bel1 W4 _).mono (pB _ hp).size))⟩,rfl⟩ ?_;clear hK K)|(guard_target =~ Lx _ _ _ _ (Oper.mk _ (Op.store 53 _ _) _ _ _ _::_) _ _;obtain⟨W5,s2,hY,hb5,hz5⟩:=ld_new W4 xt px cx;refine lx_st (s2 _ rfl) ⟨⟨W5,pI _ ((pB _ hp).trans (hb5.mono (pB _ hp).size))⟩,rfl⟩ rfl rfl (by rfl) ?_;clear s2;simp only[pts])|(refine lx_one rfl ?_;(first|go_big_quiet_skip|(go_big_quiet_want;go_big_quiet_op;go_big_quiet_on));refine wpQuiet_nil ?_)|(refine lx_skip (by rfl) ?_;simp only[pts]))
 refine lx_done ?_
 have hbW:=pB _ hp
 have hb35:Below W3.heap.size W3 W5:=hbW.trans (hb5.mono hbW.size)
 have hX5:OdC W5 gx 0 x:=hX3.out.same (hb35.block _ (by omega))
 have hA5:TkC W5 gt 0 t pc cc:=hA.out.below (B:=W3.heap.size) (by omega) hb35
 have hbb:Below w.heap.size w W5:=hb.out.trans ((hb3.out.trans (hb35.mono (by omega))).mono (by have:=hb.out.size;omega))
 have lt5:=hA5.load
 have hU5:URow W5 pc W5.heap.size t.cst:=(hU.out.below (hb3.out.trans (hb35.mono (by omega)) |>.mono (by have:=h2.out.sz;omega))).mono (by have:=h2.out.sz;have:=hb35.size;omega)
 have cPl:=refPlain_any t pc cc W5 hU5 hO.out.cst
 have gO:W4.heap.size<W5.heap.size:=by omega
 have hR:Hid (∀ W6,Below W5.heap.size W5 W6->OdC W6 gx 0 x/\TkC W6 gt 0 t pc cc/\TkC W6 W4.heap.size 0 xt px cx/\Below w.heap.size w W6):=⟨fun W6 h6=>⟨hX5.same (h6.block _ (by have:=hb35.size;omega)),hA5.below (B:=W5.heap.size) (by have:=hb35.size;omega) h6,hY.below gO h6,hbb.trans (h6.mono hbb.size)⟩⟩
 replace lt5:=Hid.mk lt5
 replace hbb:=Hid.mk hbb
 clear hX5 hA5 hU5 hb35 hbW pB pI p0 f0 f12 hNe hp lu hY hb5 x30 b12 l1 s3
 replace hz5:=Hid.mk hz5
 generalize hgo:W4.heap.size=go' at *
 generalize plainB t=q1 at *
 by_cases eq1:q1=false
 ·subst eq1
  have HX:Hid (¬ P):=⟨by rw[hP.out];simp⟩
  go_wp2_with (first
   | (guard_target =~ wpList _ _ _ (Oper.mk _ (Op.load 53 _) _ _ _ _::_) _ _;go_must (refine wpList_ld 53 _ rfl rfl _ _ rfl lt5.out ?_);simp only[pts])
   | (go_at_call 28;refine cPl.mono ?_;rintro _ w6 ⟨rfl,e6⟩))
  go_ret
  exact⟨Ans.no HX.out,(hR.out _ e6).2.2.2⟩
 obtain rfl:q1=true:=by simpa using eq1
 have hP2:Hid (P↔(t.op=xt.op+1/\t.name.toList=xt.name.toList/\t.pair=x.at_/\xt.pair=c.i/\(0<x.stg\/(xt.op≠2/\xt.op≠10/\xt.op≠12)))):=⟨by rw[hP.out,ba_eq];simp⟩
 clear hP
 go_wp2_with (first
  | (guard_target =~ wpList _ _ _ (Oper.mk _ (Op.load 53 _) _ _ _ _::_) _ _;go_must (refine wpList_ld 53 _ rfl rfl _ _ rfl lt5.out ?_);simp only[pts])
  | (go_at_call 28;refine cPl.mono ?_;rintro _ w6 ⟨rfl,e6⟩;obtain⟨y1,y2,y3,y4⟩:=hR.out _ e6;have u0:=y1.c0;have u1:=y1.c1;have v0:=y2.c0;have v1:=y2.c1;have v20:=y2.c20;have z0:=y3.c0;have z1:=y3.c1;have z20:=y3.c20;simp only[Nat.zero_add] at u0 u1 v0 v1 v20 z0 z1 z20;replace y4:=Hid.mk y4;clear y1 y2 y3))
 all_goals
  go_ret
  refine⟨⟨_,rfl,?_⟩,y4.out⟩
  refine Iff.trans ?_ hP2.out.symm
  simp_all
  try omega
theorem ok_first {f:Fm} {t:Tk}:okZ f ⟨[],[]⟩ 0 t=true↔(t.op=0/\plainB t=true/\pairB f.toks 0 t=true/\symbolB t.name=true/\bet t.id 0 65535=true/\(0<=t.since/\t.since<=f.ver/\0<=t.blk/\t.blk<=t.full/\t.full<=65535)/\telB f.hb t.full=true/\telB f.ht t.id=true):=by
 unfold okZ msgB blkB
 simp only[Bool.and_eq_true,decide_eq_true_eq]
 constructor
 ·rintro⟨⟨⟨⟨⟨_,h1⟩,h2⟩,h3⟩,h4⟩,⟨⟨⟨h5,h6⟩,h7,h8⟩,h9⟩,h10⟩
  have h6:=betT h6
  have h7:=betT h7
  exact⟨h1,h2,h4,h3,h5,⟨h6.1,h6.2,h7.1,h7.2,h8⟩,h9,h10⟩
 ·rintro⟨h1,h2,h4,h3,h5,⟨a,b,c,d,e⟩,h9,h10⟩
  exact⟨⟨⟨⟨⟨trivial,h1⟩,h2⟩,h3⟩,h4⟩,⟨⟨⟨h5,decide_eq_true ⟨a,b⟩⟩,decide_eq_true ⟨c,d⟩,e⟩,h9⟩,h10⟩
theorem refFirst_any (B go cap g o cp H:Nat) (f:Fm) (t:Tk) (vo vi:Value) (w:World) (h:D0 w ⟨B,go,cap,g,o,cp,H,0⟩ f t vo vi) :
  Calls Tryz.prog 14 #[.pointer (some ⟨B,0,none⟩)] w fun r w'=>Ans r (okZ f ⟨[],[]⟩ 0 t=true)/\Below w.heap.size w w':=by
 generalize hPd:(okZ f ⟨[],[]⟩ 0 t=true)=P
 have hP:Hid (P↔(t.op=0/\plainB t=true/\pairB f.toks 0 t=true/\symbolB t.name=true/\bet t.id 0 65535=true/\(0<=t.since/\t.since<=f.ver/\0<=t.blk/\t.blk<=t.full/\t.full<=65535)/\telB f.hb t.full=true/\telB f.ht t.id=true)):=⟨hPd▸ok_first⟩
 clear hPd
 obtain⟨pc,cc,hT,hU,hC,hO⟩:=h.tk
 simp only[Nat.zero_mul,Nat.add_zero] at hT
 have b12:w.cell? ⟨B,12,none⟩=some (.slice (some ⟨g,o,none⟩) f.toks.length cp):=h.ds.c12
 have hil:(0:Int)<f.toks.length:=by have:=h.il;show (0:Int)<_;have:0<f.toks.length:=this;omega
 have hil2:0<f.toks.length:=by omega
 have l1:=hT.load
 obtain⟨W1,s1,hA,hb1,hz1⟩:=ld_new w t pc cc
 have h1:=h.below hb1
 have a0:W1.cell? ⟨w.heap.size,0,none⟩=some (.int .i64 t.op):=hA.c0
 have lt1:=hA.load
 have hwl:w.heap.size<W1.heap.size:=by omega
 have cPl:=refPlain_any t pc cc W1 ((hU.below hb1).mono hb1.size) hO.cst
 have cPr:∀ W,Below W1.heap.size W1 W->Calls Tryz.prog 29 #[.pointer (some ⟨B,0,none⟩),.int .i64 0] W fun r w'=>r = .returned (.bool (if bgO t.op then pairB f.toks 0 t else decide (t.pair=((0:Nat):Int))))/\Below W.heap.size W w':=fun W hW=>refPaired_any ⟨B,go,cap,g,o,cp,H,0⟩ f t vo vi W (h1.below hW)
 have cSy:=fun W=>rSymbol t.name (by have:=hO.name;omega) W
 have cNm:∀ W,Below W1.heap.size W1 W->Calls Tryz.prog 31 #[.pointer (some ⟨B,0,none⟩),.int .i64 0] W fun r w'=>r = .returned (.bool (bet t.id 0 65535))/\Below W.heap.size W w':=fun W hW=>(refNamed_0 ⟨B,go,cap,g,o,cp,H,0⟩ f t vo vi W (h1.below hW) rfl).mono fun r w' hh=>⟨hh.1.same,hh.2⟩
 have hR:Hid (∀ W,Below W1.heap.size W1 W->TkC W w.heap.size 0 t pc cc/\FmC W B 0 f (some ⟨g,o,none⟩) cp):=⟨fun W hW=>⟨hA.below hwl hW,(h1.below hW).ds.fm⟩⟩
 replace l1:=Hid.mk l1
 replace lt1:=Hid.mk lt1
 replace s1:=Hid.mk s1
 replace h:=Hid.mk h
 replace h1:=Hid.mk h1
 replace hb1:=Hid.mk hb1
 replace hz1:=Hid.mk hz1
 have hful:=hO.full
 have hidk:=hO.id
 replace hO:=Hid.mk hO
 clear hT hU hC hA
 by_cases k0:t.op=0
 case neg =>
  have d0:(t.op != 0)=true:=by simp[k0]
  have HX:Hid (¬ P):=⟨by rw[hP.out];simp[k0]⟩
  go_enter Tryz.func14,Tryz.ntmps14
  go_wp2_with (first
   | (guard_target =~ wpList _ _ _ (Oper.mk _ (Op.load 53 _) _ _ _ _::_) _ _;refine wpList_ld 53 _ rfl rfl _ _ rfl l1.out ?_;simp only[pts])
   | (guard_target =~ wpList _ _ _ (Oper.mk _ (Op.store 53 _ _) _ _ _ _::_) _ _;go_must (refine wpList_st 53 _ _ rfl rfl _ _ rfl rfl (s1.out _ rfl) ?_);simp only[pts]))
  go_ret
  exact⟨Ans.no HX.out,hb1.out⟩
 have d0:(t.op != 0)=false:=by simp[k0]
 have hbg:bgO t.op=true:=by rw[k0];rfl
 rw[hbg,if_pos rfl] at cPr
 replace k0:=Hid.mk k0
 clear hbg
 have hP2:Hid (P↔(plainB t=true/\pairB f.toks 0 t=true/\symbolB t.name=true/\bet t.id 0 65535=true/\(0<=t.since/\t.since<=f.ver/\0<=t.blk/\t.blk<=t.full/\t.full<=65535)/\telB f.hb t.full=true/\telB f.ht t.id=true)):=⟨by rw[hP.out];simp[k0.out]⟩
 clear hP
 have cU:=fun W=>refTells_any f.hb t.full W hful
 have cV:=fun W=>refTells_any f.ht t.id W hidk
 generalize telB f.hb t.full=q5 at *
 generalize telB f.ht t.id=q6 at *
 generalize plainB t=q1 at *
 generalize pairB f.toks 0 t=q2 at *
 generalize symbolB t.name=q3 at *
 generalize bet t.id 0 65535=q4 at *
 by_cases eq1:q1=false
 ·subst eq1
  have HX:Hid (¬ P):=⟨by rw[hP2.out];simp⟩
  go_enter Tryz.func14,Tryz.ntmps14
  go_wp2_with (first
   | (guard_target =~ wpList _ _ _ (Oper.mk _ (Op.load 53 _) _ _ _ _::_) _ _;go_must (first|refine wpList_ld 53 _ rfl rfl _ _ rfl l1.out ?_|refine wpList_ld 53 _ rfl rfl _ _ rfl lt1.out ?_);simp only[pts])
   | (guard_target =~ wpList _ _ _ (Oper.mk _ (Op.store 53 _ _) _ _ _ _::_) _ _;go_must (refine wpList_st 53 _ _ rfl rfl _ _ rfl rfl (s1.out _ rfl) ?_);simp only[pts])
   | (go_at_call 28;refine cPl.mono ?_;rintro _ wa ⟨rfl,ea⟩)
   | (go_at_call 29;refine(cPr _ ea).mono ?_;rintro _ wb ⟨rfl,eb'⟩;have eb:Below W1.heap.size W1 wb:=ea.trans (eb'.mono ea.size);have t1:=(hR.out _ eb).1.c1;simp only[Nat.zero_add] at t1)
   | (go_at_call 30;refine(cSy _).mono ?_;rintro _ wc ⟨rfl,ec'⟩;have ec:Below W1.heap.size W1 wc:=eb.trans (ec'.mono eb.size))
   | (go_at_call 31;refine(cNm _ ec).mono ?_;rintro _ wd ⟨rfl,ed'⟩;have ed:Below W1.heap.size W1 wd:=ec.trans (ed'.mono ec.size);obtain⟨y1,y2⟩:=hR.out _ ed;have t5:=y1.c5;have t14:=y1.c14;have t15:=y1.c15;have v2:=y2.c2;simp only[Nat.zero_add] at t5 t14 t15 v2;replace y1:=Hid.mk y1;replace y2:=Hid.mk y2))
  go_ret
  exact⟨Ans.no HX.out,hb1.out.trans (ea.mono hb1.out.size)⟩
 obtain rfl:q1=true:=by simpa using eq1
 by_cases eq2:q2=false
 ·subst eq2
  have HX:Hid (¬ P):=⟨by rw[hP2.out];simp⟩
  go_enter Tryz.func14,Tryz.ntmps14
  go_wp2_with (first
   | (guard_target =~ wpList _ _ _ (Oper.mk _ (Op.load 53 _) _ _ _ _::_) _ _;go_must (first|refine wpList_ld 53 _ rfl rfl _ _ rfl l1.out ?_|refine wpList_ld 53 _ rfl rfl _ _ rfl lt1.out ?_);simp only[pts])
   | (guard_target =~ wpList _ _ _ (Oper.mk _ (Op.store 53 _ _) _ _ _ _::_) _ _;go_must (refine wpList_st 53 _ _ rfl rfl _ _ rfl rfl (s1.out _ rfl) ?_);simp only[pts])
   | (go_at_call 28;refine cPl.mono ?_;rintro _ wa ⟨rfl,ea⟩)
   | (go_at_call 29;refine(cPr _ ea).mono ?_;rintro _ wb ⟨rfl,eb'⟩;have eb:Below W1.heap.size W1 wb:=ea.trans (eb'.mono ea.size);have t1:=(hR.out _ eb).1.c1;simp only[Nat.zero_add] at t1)
   | (go_at_call 30;refine(cSy _).mono ?_;rintro _ wc ⟨rfl,ec'⟩;have ec:Below W1.heap.size W1 wc:=eb.trans (ec'.mono eb.size))
   | (go_at_call 31;refine(cNm _ ec).mono ?_;rintro _ wd ⟨rfl,ed'⟩;have ed:Below W1.heap.size W1 wd:=ec.trans (ed'.mono ec.size);obtain⟨y1,y2⟩:=hR.out _ ed;have t5:=y1.c5;have t14:=y1.c14;have t15:=y1.c15;have v2:=y2.c2;simp only[Nat.zero_add] at t5 t14 t15 v2;replace y1:=Hid.mk y1;replace y2:=Hid.mk y2))
  go_ret
  exact⟨Ans.no HX.out,hb1.out.trans (eb.mono hb1.out.size)⟩
 obtain rfl:q2=true:=by simpa using eq2
 by_cases eq3:q3=false
 ·subst eq3
  have HX:Hid (¬ P):=⟨by rw[hP2.out];simp⟩
  go_enter Tryz.func14,Tryz.ntmps14
  go_wp2_with (first
   | (guard_target =~ wpList _ _ _ (Oper.mk _ (Op.load 53 _) _ _ _ _::_) _ _;go_must (first|refine wpList_ld 53 _ rfl rfl _ _ rfl l1.out ?_|refine wpList_ld 53 _ rfl rfl _ _ rfl lt1.out ?_);simp only[pts])
   | (guard_target =~ wpList _ _ _ (Oper.mk _ (Op.store 53 _ _) _ _ _ _::_) _ _;go_must (refine wpList_st 53 _ _ rfl rfl _ _ rfl rfl (s1.out _ rfl) ?_);simp only[pts])
   | (go_at_call 28;refine cPl.mono ?_;rintro _ wa ⟨rfl,ea⟩)
   | (go_at_call 29;refine(cPr _ ea).mono ?_;rintro _ wb ⟨rfl,eb'⟩;have eb:Below W1.heap.size W1 wb:=ea.trans (eb'.mono ea.size);have t1:=(hR.out _ eb).1.c1;simp only[Nat.zero_add] at t1)
   | (go_at_call 30;refine(cSy _).mono ?_;rintro _ wc ⟨rfl,ec'⟩;have ec:Below W1.heap.size W1 wc:=eb.trans (ec'.mono eb.size))
   | (go_at_call 31;refine(cNm _ ec).mono ?_;rintro _ wd ⟨rfl,ed'⟩;have ed:Below W1.heap.size W1 wd:=ec.trans (ed'.mono ec.size);obtain⟨y1,y2⟩:=hR.out _ ed;have t5:=y1.c5;have t14:=y1.c14;have t15:=y1.c15;have v2:=y2.c2;simp only[Nat.zero_add] at t5 t14 t15 v2;replace y1:=Hid.mk y1;replace y2:=Hid.mk y2))
  go_ret
  exact⟨Ans.no HX.out,hb1.out.trans (ec.mono hb1.out.size)⟩
 obtain rfl:q3=true:=by simpa using eq3
 by_cases eq4:q4=false
 ·subst eq4
  have HX:Hid (¬ P):=⟨by rw[hP2.out];simp⟩
  go_enter Tryz.func14,Tryz.ntmps14
  go_wp2_with (first
   | (guard_target =~ wpList _ _ _ (Oper.mk _ (Op.load 53 _) _ _ _ _::_) _ _;go_must (first|refine wpList_ld 53 _ rfl rfl _ _ rfl l1.out ?_|refine wpList_ld 53 _ rfl rfl _ _ rfl lt1.out ?_);simp only[pts])
   | (guard_target =~ wpList _ _ _ (Oper.mk _ (Op.store 53 _ _) _ _ _ _::_) _ _;go_must (refine wpList_st 53 _ _ rfl rfl _ _ rfl rfl (s1.out _ rfl) ?_);simp only[pts])
   | (go_at_call 28;refine cPl.mono ?_;rintro _ wa ⟨rfl,ea⟩)
   | (go_at_call 29;refine(cPr _ ea).mono ?_;rintro _ wb ⟨rfl,eb'⟩;have eb:Below W1.heap.size W1 wb:=ea.trans (eb'.mono ea.size);have t1:=(hR.out _ eb).1.c1;simp only[Nat.zero_add] at t1)
   | (go_at_call 30;refine(cSy _).mono ?_;rintro _ wc ⟨rfl,ec'⟩;have ec:Below W1.heap.size W1 wc:=eb.trans (ec'.mono eb.size))
   | (go_at_call 31;refine(cNm _ ec).mono ?_;rintro _ wd ⟨rfl,ed'⟩;have ed:Below W1.heap.size W1 wd:=ec.trans (ed'.mono ec.size);obtain⟨y1,y2⟩:=hR.out _ ed;have t5:=y1.c5;have t14:=y1.c14;have t15:=y1.c15;have v2:=y2.c2;simp only[Nat.zero_add] at t5 t14 t15 v2;replace y1:=Hid.mk y1;replace y2:=Hid.mk y2))
  go_ret
  exact⟨Ans.no HX.out,hb1.out.trans (ed.mono hb1.out.size)⟩
 obtain rfl:q4=true:=by simpa using eq4
 have hP3:Hid (P↔((0<=t.since/\t.since<=f.ver/\0<=t.blk/\t.blk<=t.full/\t.full<=65535)/\q5=true/\q6=true)):=⟨by rw[hP2.out];simp⟩
 clear hP2
 go_enter Tryz.func14,Tryz.ntmps14
 go_wp2_with (first
  | (guard_target =~ wpList _ _ _ (Oper.mk _ (Op.load 53 _) _ _ _ _::_) _ _;go_must (first|refine wpList_ld 53 _ rfl rfl _ _ rfl l1.out ?_|refine wpList_ld 53 _ rfl rfl _ _ rfl lt1.out ?_);simp only[pts])
  | (guard_target =~ wpList _ _ _ (Oper.mk _ (Op.store 53 _ _) _ _ _ _::_) _ _;go_must (refine wpList_st 53 _ _ rfl rfl _ _ rfl rfl (s1.out _ rfl) ?_);simp only[pts])
  | (go_at_call 28;refine cPl.mono ?_;rintro _ wa ⟨rfl,ea⟩)
  | (go_at_call 29;refine(cPr _ ea).mono ?_;rintro _ wb ⟨rfl,eb'⟩;have eb:Below W1.heap.size W1 wb:=ea.trans (eb'.mono ea.size);have t1:=(hR.out _ eb).1.c1;simp only[Nat.zero_add] at t1)
  | (go_at_call 30;refine(cSy _).mono ?_;rintro _ wc ⟨rfl,ec'⟩;have ec:Below W1.heap.size W1 wc:=eb.trans (ec'.mono eb.size))
  | (go_at_call 31;refine(cNm _ ec).mono ?_;rintro _ wd ⟨rfl,ed'⟩;have ed:Below W1.heap.size W1 wd:=ec.trans (ed'.mono ec.size);obtain⟨y1,y2⟩:=hR.out _ ed;have t5:=y1.c5;have t14:=y1.c14;have t15:=y1.c15;have v2:=y2.c2;simp only[Nat.zero_add] at t5 t14 t15 v2;replace y1:=Hid.mk y1;replace y2:=Hid.mk y2))
 by_cases k1:t.since<0
 ·have d1:decide (t.since<0)=true:=by simp;omega
  have HX:Hid (¬ P):=⟨by rw[hP3.out];omega⟩
  go_quiet (fail)
  go_wp2_with fail
  go_ret
  exact⟨Ans.no HX.out,tdr (hb1.out.trans (ed.mono hb1.out.size))⟩
 have d1:decide (t.since<0)=false:=by simp;omega
 by_cases k2:f.ver<t.since
 ·have d2:decide (t.since > f.ver)=true:=by simp;omega
  have HX:Hid (¬ P):=⟨by rw[hP3.out];omega⟩
  go_quiet (fail)
  go_wp2_with fail
  go_ret
  exact⟨Ans.no HX.out,tdr (hb1.out.trans (ed.mono hb1.out.size))⟩
 have d2:decide (t.since > f.ver)=false:=by simp;omega
 by_cases k3:t.blk<0
 ·have d3:decide (t.blk<0)=true:=by simp;omega
  have HX:Hid (¬ P):=⟨by rw[hP3.out];omega⟩
  go_quiet (fail)
  go_wp2_with fail
  go_ret
  exact⟨Ans.no HX.out,tdr (hb1.out.trans (ed.mono hb1.out.size))⟩
 have d3:decide (t.blk<0)=false:=by simp;omega
 by_cases k4:t.full<t.blk
 ·have d4:decide (t.blk > t.full)=true:=by simp;omega
  have HX:Hid (¬ P):=⟨by rw[hP3.out];omega⟩
  go_quiet (fail)
  go_wp2_with fail
  go_ret
  exact⟨Ans.no HX.out,tdr (hb1.out.trans (ed.mono hb1.out.size))⟩
 have d4:decide (t.blk > t.full)=false:=by simp;omega
 by_cases k5:65535<t.full
 ·have d5:decide (t.full > 65535)=true:=by simp;omega
  have HX:Hid (¬ P):=⟨by rw[hP3.out];omega⟩
  go_quiet (fail)
  go_wp2_with fail
  go_ret
  exact⟨Ans.no HX.out,tdr (hb1.out.trans (ed.mono hb1.out.size))⟩
 have d5:decide (t.full > 65535)=false:=by simp;omega
 have hP4:Hid (P↔(q5=true/\q6=true)):=⟨by rw[hP3.out];constructor;(exact fun h=>h.2);(exact fun h=>⟨by omega,h⟩)⟩
 clear hP3 k1 k2 k3 k4 k5
 have hBl:B<wd.heap.size:=Nat.lt_of_lt_of_le h1.out.ds.lt ed.size
 have hTl:w.heap.size<wd.heap.size:=Nat.lt_of_lt_of_le hwl ed.size
 go_quiet (fail)
 go_wp2_with fail
 obtain⟨p,p0,pB,hNe,pc',pk⟩:=clsB (wd.drewN nq)
 have f4:∀ θ:CW p,θ.w.cell? ⟨B,4,none⟩=some (.int .i64 f.hb.p):=fun θ=>(pc' B 4 hBl θ).trans y2.out.c4
 have f5:∀ θ:CW p,θ.w.cell? ⟨B,5,none⟩=some (.int .i64 f.hb.o):=fun θ=>(pc' B 5 hBl θ).trans y2.out.c5
 have f6:∀ θ:CW p,θ.w.cell? ⟨B,6,none⟩=some (.int .i64 f.ht.p):=fun θ=>(pc' B 6 hBl θ).trans y2.out.c6
 have f7:∀ θ:CW p,θ.w.cell? ⟨B,7,none⟩=some (.int .i64 f.ht.o):=fun θ=>(pc' B 7 hBl θ).trans y2.out.c7
 have f2:∀ θ:CW p,θ.w.cell? ⟨w.heap.size,2,none⟩=some (.int .i64 t.id):=fun θ=>(pc' w.heap.size 2 hTl θ).trans y1.out.c2
 have f15:∀ θ:CW p,θ.w.cell? ⟨w.heap.size,15,none⟩=some (.int .i64 t.full):=fun θ=>(pc' w.heap.size 15 hTl θ).trans y1.out.c15
 have cP:=pk _ _ _ (fun W _=>cU W)
 have cQ:=pk _ _ _ (fun W _=>cV W)
 have pB2:Hid (∀ W,p W->Below w.heap.size w W):=⟨fun W hW=>hb1.out.trans ((ed.trans (((tdr (Below.refl _ _)).trans (pB W hW)).mono ed.size)).mono hb1.out.size)⟩
 clear pc' pk pB
 cases q5 with
 | false =>
  refine wp_region_lp p (by kernel_rfl) (by kernel_rfl) (fun _ _ d _ _ h=>by cases d<;>exact h) p0 fun W hp=>?_
  repeat (first|(refine lx_one rfl ?_;(first|go_big_quiet_skip|(go_big_quiet_want;go_big_quiet_op;go_big_quiet_on));refine wpQuiet_nil ?_)|(refine lx_p2 ent_tells cP hp rfl rfl (by rfl) ?_;intro W hp;simp only[pts])|(refine lx_p2 ent_tells cQ hp rfl rfl (by rfl) ?_;intro W hp;simp only[pts])|(refine lx_skip (by rfl) ?_;simp only[pts]))
  refine lx_done ?_
  go_wp2_with fail
  go_ret
  refine⟨⟨_,rfl,Iff.trans ?_ hP4.out.symm⟩,pB2.out _ hp⟩
  simp
 | true =>
  refine wp_region_lp p (by kernel_rfl) (by kernel_rfl) (fun _ _ d _ _ h=>by cases d<;>exact h) p0 fun W hp=>?_
  repeat (first|(refine lx_one rfl ?_;(first|go_big_quiet_skip|(go_big_quiet_want;go_big_quiet_op;go_big_quiet_on));refine wpQuiet_nil ?_)|(refine lx_p2 ent_tells cP hp rfl rfl (by rfl) ?_;intro W hp;simp only[pts])|(refine lx_p2 ent_tells cQ hp rfl rfl (by rfl) ?_;intro W hp;simp only[pts])|(refine lx_skip (by rfl) ?_;simp only[pts]))
  refine lx_done ?_
  go_wp2_with fail
  go_ret
  refine⟨⟨_,rfl,Iff.trans ?_ hP4.out.symm⟩,pB2.out _ hp⟩
  simp
def hdL (f:Fm):List Sp:=[f.hb,f.ht,f.hs,f.hv]
def headN (f:Fm):Prop:=(f.ord=0\/f.ord=1)/\0<=f.sch/\f.sch<=65535/\0<=f.ver/\f.ver<=65534/\1<=f.hsz/\f.hsz<=65535
theorem headB_iff (f:Fm):headB f=true↔headN f/\spOk f.hsz [] (hdL f)=true/\telB f.hs f.sch=true/\telB f.hv f.ver=true:=by
 unfold headB headN bet hdL
 simp[spOk,Bool.and_assoc]
 try (constructor<;>intro h<;>simp_all)
theorem dhp1 (w:World) (A B:Obj):((w.alloc A).alloc B).heap[w.heap.size]?=some A:=by
 show ((w.heap.push A).push B)[w.heap.size]?=_
 rw[Array.getElem?_push,if_neg (by simp),Array.getElem?_push,if_pos rfl]
theorem dhp2 (w:World) (A B:Obj):((w.alloc A).alloc B).heap[w.heap.size+1]?=some B:=by
 show ((w.heap.push A).push B)[w.heap.size+1]?=_
 rw[Array.getElem?_push,if_pos (by simp)]
theorem sp_new (w:World) (f:Fm) (A:Obj):SpRow ((w.alloc A).alloc (.cells #[.int .i64 f.hb.p,.int .i64 f.hb.o,.int .i64 f.ht.p,.int .i64 f.ht.o,.int .i64 f.hs.p,.int .i64 f.hs.o,.int .i64 f.hv.p,.int .i64 f.hv.o] 66)) (w.heap.size+1) 0 (hdL f):=by
 have hh:=fun k=>cell_at (dhp2 w A (.cells #[.int .i64 f.hb.p,.int .i64 f.hb.o,.int .i64 f.ht.p,.int .i64 f.ht.o,.int .i64 f.hs.p,.int .i64 f.hs.o,.int .i64 f.hv.p,.int .i64 f.hv.o] 66)) k
 refine⟨fun i s hs=>?_⟩
 have hi:i<4:=(List.getElem?_eq_some_iff.1 hs).1
 rcases(show i=0\/i=1\/i=2\/i=3 by omega) with rfl|rfl|rfl|rfl<;>cases Option.some.inj hs
 ·exact⟨hh 0,hh 1⟩
 ·exact⟨hh 2,hh 3⟩
 ·exact⟨hh 4,hh 5⟩
 ·exact⟨hh 6,hh 7⟩
theorem fm_two (w:World) (f:Fm) (pp:Option Addr) (cp:Nat) (B:Obj):FmC ((w.alloc (fmO f pp cp)).alloc B) w.heap.size 0 f pp cp :=
 have hh:=fun k=>cell_at (dhp1 w (fmO f pp cp) B) k
 ⟨hh 0,hh 1,hh 2,hh 3,hh 4,hh 5,hh 6,hh 7,hh 8,hh 9,hh 10,hh 11,hh 12⟩
theorem refHeaded_any (f:Fm) (pp:Option Addr) (cp:Nat) (w:World) (ok:FmOk f):Calls Tryz.prog 13 #[fmV f pp cp] w fun r w'=>r = .returned (.bool (headB f))/\Below w.heap.size w w':=by
 suffices hh:Calls Tryz.prog 13 #[fmV f pp cp] w fun r w'=>Ans r (headB f=true)/\Below w.heap.size w w' from hh.mono fun r w' h=>⟨h.1.same,h.2⟩
 have hb:Hid0 (headB f=true↔_):=⟨headB_iff f⟩
 by_cases hN:headN f
 ·have HN:Hid0 (headN f):=⟨hN⟩
  obtain⟨ho,h1,h2,h3,h4,h5,h6⟩:=hN
  have d1:decide (f.sch<0)=false:=by simp;omega
  have d2:decide (f.sch > 65535)=false:=by simp;omega
  have d3:decide (f.ver<0)=false:=by simp;omega
  have d4:decide (f.ver > 65534)=false:=by simp;omega
  have d5:decide (f.hsz<1)=false:=by simp;omega
  have d6:decide (f.hsz > 65535)=false:=by simp;omega
  have d7:(f.ord != 0)=false\/((f.ord != 0)=true/\(f.ord != 1)=false):=by rcases ho with e|e<;>simp[e]
  clear ho
  rcases d7 with d7|⟨d7,d8⟩
  all_goals
   go_enter Tryz.func13,Tryz.ntmps13
   go_wp2_with fail
   have hS0:SpRow ((w.alloc (fmO f pp cp)).alloc (.cells #[.int .i64 f.hb.p,.int .i64 f.hb.o,.int .i64 f.ht.p,.int .i64 f.ht.o,.int .i64 f.hs.p,.int .i64 f.hs.o,.int .i64 f.hv.p,.int .i64 f.hv.o] 66)) (w.heap.size+1) 0 (hdL f):=sp_new _ _ _
   have HB0:=dbb2 w (fmO f pp cp) (.cells #[.int .i64 f.hb.p,.int .i64 f.hb.o,.int .i64 f.ht.p,.int .i64 f.ht.o,.int .i64 f.hs.p,.int .i64 f.hs.o,.int .i64 f.hv.p,.int .i64 f.hv.o] 66)
   have HF0:FmC ((w.alloc (fmO f pp cp)).alloc (.cells #[.int .i64 f.hb.p,.int .i64 f.hb.o,.int .i64 f.ht.p,.int .i64 f.ht.o,.int .i64 f.hs.p,.int .i64 f.hs.o,.int .i64 f.hv.p,.int .i64 f.hv.o] 66)) w.heap.size 0 f pp cp:=fm_two _ _ _ _ _
   have HS0:w.heap.size+2=((w.alloc (fmO f pp cp)).alloc (.cells #[.int .i64 f.hb.p,.int .i64 f.hb.o,.int .i64 f.ht.p,.int .i64 f.ht.o,.int .i64 f.hs.p,.int .i64 f.hs.o,.int .i64 f.hv.p,.int .i64 f.hv.o] 66)).heap.size:=by simp
   generalize hW0:(w.alloc (.cells #[.int .i64 f.ord,.int .i64 f.sch,.int .i64 f.ver,.int .i64 f.hsz,.int .i64 f.hb.p,.int .i64 f.hb.o,.int .i64 f.ht.p,.int .i64 f.ht.o,.int .i64 f.hs.p,.int .i64 f.hs.o,.int .i64 f.hv.p,.int .i64 f.hv.o,.slice pp f.toks.length cp] 30)).alloc _=W0 at hS0 HB0 HF0 HS0 ⊢
   clear d1 d2 d3 d4 d5 d6 d7
   have hR0:Hid0 (spOk f.hsz [] (hdL f)=true↔spOk f.hsz ((hdL f).take 0) ((hdL f).drop 0)=true):=⟨Iff.rfl⟩
   replace HB0:Hid0 _:=⟨HB0⟩
   replace HF0:Hid0 _:=⟨HF0⟩
   replace hS0:Hid0 _:=⟨hS0⟩
   have hl4:(hdL f).length=4:=rfl
   go_loopw [4,5] (fun q q5 wr=>∃ j:Nat,j<=4/\q = .int .i64 j/\Below W0.heap.size W0 wr/\(∀ t∈(hdL f).take j,lieB t f.hsz=true)/\Hid0 (spOk f.hsz [] (hdL f)=true↔spOk f.hsz ((hdL f).take j) ((hdL f).drop j)=true)/\q5=q5) (fun q _ _=>4-(RowKit.intOf q).toNat)
   case atStart=>exact⟨0,Nat.zero_le _,rfl,Below.refl _ _,fun t ht=>absurd ht List.not_mem_nil,hR0,rfl⟩
   case round =>
    clear hW0
    obtain⟨j,hj,rfl,hB,hL,hR,-⟩:=hrel
    have hf3:wr.cell? ⟨w.heap.size,3,none⟩=some (.int .i64 f.hsz):=(HF0.out.below (by omega) hB).c3
    by_cases hlt:j<4
    ·obtain⟨s,hs⟩:∃ s,(hdL f)[j]?=some s:=⟨(hdL f)[j],List.getElem?_eq_getElem hlt⟩
     obtain⟨c0,c1⟩:=(hS0.out.below (by omega) hB).c j s hs
     have hlti:(j:Int)<4:=by omega
     have hR:=hR.out
     rw[drop_at hs,spOk] at hR
     have cL:=fun W=>refLies_any s f.hsz W (by omega)
     obtain⟨p,p0,pB,hNe,pc,pk⟩:=clsB wr
     have hsz0:=hB.size
     rw[Nat.zero_add] at c0 c1
     have f0:=fun θ=>(pc (w.heap.size+1) (j*2) (by omega) θ).trans c0
     have f1:=fun θ=>(pc (w.heap.size+1) (j*2+1) (by omega) θ).trans c1
     have f3:=fun θ=>(pc w.heap.size 3 (by omega) θ).trans hf3
     have cP:=pk _ _ _ (fun W _=>cL W)
     replace pB:Hid0 _:=⟨pB⟩
     clear pc pk cL c0 c1 hf3
     cases k1:lieB s f.hsz with
     | false =>
      rw[k1] at cP
      have HX:Hid0 (¬ headB f=true):=⟨fun e=>by have:=hR.1 (hb.out.1 e).2.1;rw[k1] at this;simp at this⟩
      clear hR
      go_wp2_with fail
      refine wp_region_lp p (by kernel_rfl) (by kernel_rfl) (fun _ _ d _ _ h=>by cases d<;>exact h) p0 fun W hp=>?_
      repeat (first|(refine lx_one rfl ?_;(first|go_big_quiet_skip|(go_big_quiet_want;go_big_quiet_op;go_big_quiet_on));refine wpQuiet_nil ?_)|(refine lx_p2 ent_lies cP hp rfl rfl (by rfl) ?_;intro W hp;simp only[pts])|(refine lx_skip (by rfl) ?_;simp only[pts]))
      refine lx_done ?_
      go_wp2_with fail
      go_ret
      exact⟨Ans.no HX.out,HB0.out.trans ((hB.trans ((pB.out _ hp).mono hsz0)).mono HB0.out.size)⟩
     | true =>
      rw[k1] at cP
      rw[k1,Bool.true_and] at hR
      go_wp2_with fail
      refine wp_region_lp p (by kernel_rfl) (by kernel_rfl) (fun _ _ d _ _ h=>by cases d<;>exact h) p0 fun W hp=>?_
      repeat (first|(refine lx_one rfl ?_;(first|go_big_quiet_skip|(go_big_quiet_want;go_big_quiet_op;go_big_quiet_on));refine wpQuiet_nil ?_)|(refine lx_p2 ent_lies cP hp rfl rfl (by rfl) ?_;intro W hp;simp only[pts])|(refine lx_skip (by rfl) ?_;simp only[pts]))
      refine lx_done ?_
      go_wp2_with fail
      have hb1:=(pB.out _ hp)
      have hBW:Below W0.heap.size W0 W:=hB.trans (hb1.mono hsz0)
      have hR1:Hid0 (spOk f.hsz [] (hdL f)=true↔(((hdL f).take j).drop 0).all (aptB s)=true/\spOk f.hsz ((hdL f).take j++[s]) ((hdL f).drop (j+1))=true):=⟨by rw[hR,Bool.and_eq_true];rfl⟩
      have ls:=k1
      unfold lieB at ls
      rw[Bool.and_eq_true] at ls
      have ls:=decT ls.2
      have hz:=sz_b s.p
      replace hb1:Hid0 _:=⟨hb1⟩
      clear hR cP f0 f1 f3 hNe pB hp p0
      go_loopw [6,5] (fun q q5 wq=>∃ k:Nat,k<=j/\q = .int .i64 k/\Below W0.heap.size W0 wq/\Hid0 (spOk f.hsz [] (hdL f)=true↔(((hdL f).take j).drop k).all (aptB s)=true/\spOk f.hsz ((hdL f).take j++[s]) ((hdL f).drop (j+1))=true)/\q5=q5) (fun q _ _=>j-(RowKit.intOf q).toNat)
      case atStart=>exact⟨0,Nat.zero_le _,rfl,hBW,hR1,rfl⟩
      case round =>
       obtain⟨k,hk,rfl,hD,hQ,-⟩:=hrel
       have hsz1:=hD.size
       by_cases hkj:k<j
       ·obtain⟨t,ht⟩:∃ t,(hdL f)[k]?=some t:=⟨(hdL f)[k],List.getElem?_eq_getElem (by omega)⟩
        have ht2:((hdL f).take j)[k]?=some t:=by rw[List.getElem?_take,if_pos hkj];exact ht
        obtain⟨c0,c1⟩:=(hS0.out.below (by omega) hD).c j s hs
        obtain⟨e0,e1⟩:=(hS0.out.below (by omega) hD).c k t ht
        have lt:=hL t (List.mem_of_getElem? ht2)
        unfold lieB at lt
        rw[Bool.and_eq_true] at lt
        have lt:=decT lt.2
        have hy:=sz_b t.p
        have hkji:(k:Int)<j:=by omega
        have hk4:(k:Int)<4:=by omega
        have hQ:=hQ.out
        rw[drop_at ht2,List.all_cons,Bool.and_eq_true] at hQ
        rw[Nat.zero_add] at c0 c1 e0 e1
        obtain⟨p,p0,pB,hNe,pc,pk⟩:=clsB wr
        have f0:=fun θ=>(pc (w.heap.size+1) (j*2) (by omega) θ).trans c0
        have f1:=fun θ=>(pc (w.heap.size+1) (j*2+1) (by omega) θ).trans c1
        have f2:=fun θ=>(pc (w.heap.size+1) (k*2) (by omega) θ).trans e0
        have f3:=fun θ=>(pc (w.heap.size+1) (k*2+1) (by omega) θ).trans e1
        have cP:=pk _ _ _ (fun W _=>refApart_any s t W (by omega) (by omega))
        replace pB:Hid0 _:=⟨pB⟩
        clear pc pk c0 c1 e0 e1
        cases k3:aptB s t with
        | false =>
         rw[k3] at cP
         have HX:Hid0 (¬ headB f=true):=⟨fun e=>by have:=(hQ.1 (hb.out.1 e).2.1).1.1;rw[k3] at this;cases this⟩
         clear hQ
         go_wp2_with fail
         refine wp_region_lp p (by kernel_rfl) (by kernel_rfl) (fun _ _ d _ _ h=>by cases d<;>exact h) p0 fun W hp=>?_
         repeat (first|(refine lx_one rfl ?_;(first|go_big_quiet_skip|(go_big_quiet_want;go_big_quiet_op;go_big_quiet_on));refine wpQuiet_nil ?_)|(refine lx_p2 ent_apart cP hp rfl rfl (by rfl) ?_;intro W hp;simp only[pts])|(refine lx_skip (by rfl) ?_;simp only[pts]))
         refine lx_done ?_
         go_wp2_with fail
         go_ret
         exact⟨Ans.no HX.out,HB0.out.trans ((hD.trans ((pB.out _ hp).mono hsz1)).mono HB0.out.size)⟩
        | true =>
         rw[k3] at cP
         have HX:Hid0 (spOk f.hsz [] (hdL f)=true↔(((hdL f).take j).drop (k+1)).all (aptB s)=true/\spOk f.hsz ((hdL f).take j++[s]) ((hdL f).drop (j+1))=true):=⟨by rw[hQ,k3];simp⟩
         clear hQ
         go_wp2_with fail
         refine wp_region_lp p (by kernel_rfl) (by kernel_rfl) (fun _ _ d _ _ h=>by cases d<;>exact h) p0 fun W hp=>?_
         repeat (first|(refine lx_one rfl ?_;(first|go_big_quiet_skip|(go_big_quiet_want;go_big_quiet_op;go_big_quiet_on));refine wpQuiet_nil ?_)|(refine lx_p2 ent_apart cP hp rfl rfl (by rfl) ?_;intro W hp;simp only[pts])|(refine lx_skip (by rfl) ?_;simp only[pts]))
         refine lx_done ?_
         go_wp2_with fail
         go_roundw
         case rel=>exact⟨k+1,by omega,by go_num,hD.trans ((pB.out _ hp).mono hsz1),HX,trivial⟩
         case measure=>simp[RowKit.intOf];omega
       ·obtain rfl:k=j:=by omega
        have hQ:=hQ.out
        rw[List.drop_eq_nil_of_le (by rw[List.length_take];omega)] at hQ
        have HX:Hid0 (spOk f.hsz [] (hdL f)=true↔spOk f.hsz ((hdL f).take (k+1)) ((hdL f).drop (k+1))=true):=⟨by rw[hQ,take_at hs];simp⟩
        clear hQ
        go_wp2_with fail
        go_roundw
        case rel =>
         refine⟨k+1,by omega,by go_num,hD,?_,HX,trivial⟩
         intro t ht
         rw[take_at hs] at ht
         rcases List.mem_append.1 ht with ht|ht
         ·exact hL t ht
         ·rw[List.mem_singleton.1 ht];exact k1
        case measure=>simp[RowKit.intOf];omega
    ·obtain rfl:j=4:=by omega
     have hR:=hR.out
     have hsz0:=hB.size
     have HX:Hid0 (headB f=true↔telB f.hs f.sch=true/\telB f.hv f.ver=true):=⟨by
      rw[hb.out,hR]
      have:spOk f.hsz ((hdL f).take 4) ((hdL f).drop 4)=true:=rfl
      simp[HN.out,this]⟩
     have g:=HF0.out.below (by omega) hB
     have g1:=g.c1
     have g8:=g.c8
     have g9:=g.c9
     have cP:=refTells_any f.hs f.sch wr ok.sch
     have cQ:=fun W=>refTells_any f.hv f.ver W ok.ver
     have gY:∀ W,Below wr.heap.size wr W->FmC W w.heap.size 0 f pp cp:=fun W hW=>g.below (by omega) hW
     replace gY:Hid0 _:=⟨gY⟩
     clear g hR
     cases k1:telB f.hs f.sch with
     | false =>
      rw[k1] at cP
      go_wp2_with (go_at_call_of 27 (Value.agg #[Value.int .i64 f.hs.p,Value.int .i64 f.hs.o]);refine cP.mono ?_;rintro _ w1 ⟨rfl,hb1⟩)
      go_ret
      refine⟨⟨_,rfl,?_⟩,HB0.out.trans ((hB.trans (hb1.mono hsz0)).mono HB0.out.size)⟩
      rw[HX.out,k1]
      simp
     | true =>
      rw[k1] at cP
      go_wp2_with (first|(go_at_call_of 27 (Value.agg #[Value.int .i64 f.hs.p,Value.int .i64 f.hs.o]);refine cP.mono ?_;rintro _ w1 ⟨rfl,hb1⟩;have y:=gY.out _ hb1;have y2:=y.c2;have y10:=y.c10;have y11:=y.c11;clear y)|(go_at_call_of 27 (Value.agg #[Value.int .i64 f.hv.p,Value.int .i64 f.hv.o]);refine(cQ _).mono ?_;rintro _ w2 ⟨rfl,hb2⟩))
      go_ret
      refine⟨⟨_,rfl,?_⟩,HB0.out.trans ((hB.trans ((hb1.trans (hb2.mono hb1.size)).mono hsz0)).mono HB0.out.size)⟩
      rw[HX.out,k1]
      simp
 ·have HN:Hid0 (¬ headB f=true):=⟨fun e=>hN (hb.out.1 e).1⟩
  unfold headN at hN
  go_enter Tryz.func13,Tryz.ntmps13
  go_wp2_with fail
  all_goals first
   | (exfalso;omega)
   | (go_ret;exact⟨Ans.no HN.out,bel1 _ _⟩)
end Go.Proofs.YtjnafpefolgcoaaGreatDoor
