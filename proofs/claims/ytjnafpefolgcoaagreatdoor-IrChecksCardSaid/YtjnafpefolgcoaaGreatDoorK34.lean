import Derived.Test.YtjnafpefolgcoaaGreatDoorK32
namespace Go.Proofs.YtjnafpefolgcoaaGreatDoor
set_option maxRecDepth 1000000
set_option maxHeartbeats 16000000
open Go.ChangeShapes Go.WideShapes Go.ChangeAt Go.RowKit Go.Shelf Go.Maps
theorem refChosen_10 (c:Df) (f:Fm) (L:List Od) (x:Od) (xt t v:Tk) (ids:List Int) (vi:Value) (w:World) (P:Prop) (h:Dt w c f L x xt t ids vi) (ho:xt.op=10) (hv:f.toks[x.at_+1]?=some v) (hxi:x.at_+2<=c.i)
  (hP:Hid (P↔((0<=t.since/\t.since<=65534)/\fitsP v.prim t.val=true/\∀ k,x.at_+2<=k->k<c.i->∀ u,f.toks[k]?=some u->¬ (u.name=t.name\/u.val=t.val)))) :
  Calls Tryz.prog 38 #[.pointer (some ⟨c.B,0,none⟩),.int .i64 (c.i:Int),.pointer (some ⟨c.go,L.length*5,none⟩)] w fun r w'=>Ans r P/\Below w.heap.size w w':=by
 have a10:(xt.op==10)=true:=by simp[ho]
 clear ho
 obtain⟨pc,cc,hT,hU,hC,hO⟩:=h.tk
 obtain⟨px,cx,hTx,hOx⟩:=h.xk
 obtain⟨pv,cv,hTv,_,_,hOv⟩:=h.at hv
 have b12:=h.ds.c12
 have hii:(c.i:Int)<f.toks.length:=by have:=h.il;omega
 have hxl:(x.at_:Int)<f.toks.length:=by have:=h.xl;omega
 have hxl1:(x.at_:Int)+1<f.toks.length:=by omega
 have hll:=h.ll
 have l1:=hT.load
 obtain⟨W1,s1,hA,hb1,hz1⟩:=ld_new w t pc cc
 have h1:=h.below hb1
 have t5:W1.cell? ⟨w.heap.size,5,none⟩=some (.int .i64 t.since):=hA.c5
 have t13:W1.cell? ⟨w.heap.size,13,none⟩=some (.int .u64 t.val):=hA.c13
 have y12:=h1.ds.c12
 have y0:=h1.sc.c0
 have v6:=(hTv.below (B:=w.heap.size) h.lg hb1).c6
 have x0:=(hTx.below (B:=w.heap.size) h.lg hb1).c0
 have hwl:w.heap.size<W1.heap.size:=by omega
 have hzb:=sz_b v.prim
 have hval:=hO.val
 unfold u64ok at hval
 replace l1:=Hid.mk l1
 replace s1:=Hid.mk s1
 replace h1:=Hid.mk h1
 replace hA:=Hid.mk hA
 replace hb1:=Hid.mk hb1
 clear hT hU hC hTx hTv hOx hOv
 go_enter Tryz.func38,Tryz.ntmps38
 by_cases k1:t.since<0
 ·have d1:decide (t.since<0)=true:=by simp;omega
  have HX:Hid (¬ P):=⟨by rw[hP.out];omega⟩
  go_wp2_with (first
   | (guard_target =~ wpList _ _ _ (Oper.mk _ (Op.load 53 _) _ _ _ _::_) _ _;go_must (first|refine wpList_ld 53 _ rfl rfl _ _ rfl l1.out ?_);simp only[pts])
   | (guard_target =~ wpList _ _ _ (Oper.mk _ (Op.store 53 _ _) _ _ _ _::_) _ _;go_must (refine wpList_st 53 _ _ rfl rfl _ _ rfl rfl (s1.out _ rfl) ?_);simp only[pts]))
  go_ret
  exact⟨Ans.no HX.out,hb1.out⟩
 have d1:decide (t.since<0)=false:=by simp;omega
 by_cases k2:65534<t.since
 ·have d2:decide (t.since > 65534)=true:=by simp;omega
  have HX:Hid (¬ P):=⟨by rw[hP.out];omega⟩
  go_wp2_with (first
   | (guard_target =~ wpList _ _ _ (Oper.mk _ (Op.load 53 _) _ _ _ _::_) _ _;go_must (first|refine wpList_ld 53 _ rfl rfl _ _ rfl l1.out ?_);simp only[pts])
   | (guard_target =~ wpList _ _ _ (Oper.mk _ (Op.store 53 _ _) _ _ _ _::_) _ _;go_must (refine wpList_st 53 _ _ rfl rfl _ _ rfl rfl (s1.out _ rfl) ?_);simp only[pts]))
  go_ret
  exact⟨Ans.no HX.out,hb1.out⟩
 have d2:decide (t.since > 65534)=false:=by simp;omega
 have hP2:Hid (P↔(fitsP v.prim t.val=true/\∀ k,x.at_+2<=k->k<c.i->∀ u,f.toks[k]?=some u->¬ (u.name=t.name\/u.val=t.val))):=⟨by rw[hP.out];constructor;(exact fun h=>h.2);(exact fun h=>⟨by omega,h⟩)⟩
 clear hP k1 k2
 go_wp2_with (first
  | (guard_target =~ wpList _ _ _ (Oper.mk _ (Op.load 53 _) _ _ _ _::_) _ _;go_must (first|refine wpList_ld 53 _ rfl rfl _ _ rfl l1.out ?_);simp only[pts])
  | (guard_target =~ wpList _ _ _ (Oper.mk _ (Op.store 53 _ _) _ _ _ _::_) _ _;go_must (refine wpList_st 53 _ _ rfl rfl _ _ rfl rfl (s1.out _ rfl) ?_);simp only[pts]))
 have cF:=fun W=>rfits_b v.prim t.val W hO.val
 replace hO:=Hid.mk hO
 generalize fitsP v.prim t.val=q1 at *
 go_quiet (fail)
 go_wp2_with fail
 go_quiet (fail)
 by_cases eq1:q1=false
 ·subst eq1
  have HX:Hid (¬ P):=⟨by rw[hP2.out];simp⟩
  go_wp2_with (go_at_call 59;refine(cF _).mono ?_;rintro _ wq ⟨rfl,e⟩;subst e)
  go_ret
  exact⟨Ans.no HX.out,tdr hb1.out⟩
 obtain rfl:q1=true:=by simpa using eq1
 have hP3:Hid (P↔∀ k,x.at_+2<=k->k<c.i->∀ u,f.toks[k]?=some u->¬ (u.name=t.name\/u.val=t.val)):=⟨by rw[hP2.out];simp⟩
 go_wp2_with (go_at_call 59;refine(cF _).mono ?_;rintro _ wq ⟨rfl,e⟩;subst e)
 all_goals try (go_quiet (fail);go_wp2_with fail)
 clear y12 y0 v6 x0 t5 t13 d1 d2
 go_loopw [10] (fun q wr=>∃ k:Nat,x.at_+2<=k/\k<=c.i/\q = .int .i64 k/\Below W1.heap.size W1 wr/\Hid (P↔∀ k',k<=k'->k'<c.i->∀ u,f.toks[k']?=some u->¬ (u.name=t.name\/u.val=t.val))) (fun q _=>c.i-(RowKit.intOf q).toNat)
 case atStart=>exact⟨x.at_+2,Nat.le_refl _,hxi,by go_num,by first|exact tdr hbW.out|exact hbW.out|exact tdr (tdr (tdr (Below.refl _ _)))|exact tdr (tdr (Below.refl _ _))|exact tdr (Below.refl _ _),hP3⟩
 case round =>
  obtain⟨k,hk1,hk2,rfl,hB,hR⟩:=hrel
  have h3:=h1.out.below hB
  have hA3:=own_tk hA.out hwl hB
  have b12:=h3.ds.c12
  have t1:wr.cell? ⟨w.heap.size,1,none⟩=some (.string t.name):=hA3.c1
  have t13:wr.cell? ⟨w.heap.size,13,none⟩=some (.int .u64 t.val):=hA3.c13
  by_cases hlt:k<c.i
  ·obtain⟨u,hu⟩:∃ u,f.toks[k]?=some u:=⟨f.toks[k]'(by omega),List.getElem?_eq_getElem (by omega)⟩
   obtain⟨qc,qd,hX3,_,_,hOu⟩:=h3.at hu
   have u1:=hX3.c1
   have u13:=hX3.c13
   have hki:(k:Int)<f.toks.length:=by omega
   have hkc:(k:Int)<c.i:=by omega
   have hR:=hR.out
   clear hX3 hOu hA3
   replace h3:=Hid.mk h3
   by_cases e1:u.name=t.name
   ·have d:(u.name.toList==t.name.toList)=true:=by rw[e1];simp
    have HX:Hid (¬ P):=⟨fun p=>hR.1 p k (Nat.le_refl _) hlt u hu (.inl e1)⟩
    clear e1 hR
    go_wp2_with fail
    go_quiet (fail)
    go_wp2_with fail
    go_ret
    exact⟨Ans.no HX.out,tdr (hb1.out.trans (hB.mono hb1.out.size))⟩
   have d:(u.name.toList==t.name.toList)=false:=by simp[<- ba_eq,e1]
   by_cases e2:u.val=t.val
   ·have d':(u.val==t.val)=true:=by simp[e2]
    have HX:Hid (¬ P):=⟨fun p=>hR.1 p k (Nat.le_refl _) hlt u hu (.inr e2)⟩
    clear e1 e2 hR
    go_wp2_with fail
    go_quiet (fail)
    go_wp2_with fail
    go_ret
    exact⟨Ans.no HX.out,tdr (hb1.out.trans (hB.mono hb1.out.size))⟩
   have d':(u.val==t.val)=false:=by simp[e2]
   have HX:Hid (P↔∀ k',k+1<=k'->k'<c.i->∀ u,f.toks[k']?=some u->¬ (u.name=t.name\/u.val=t.val)):=⟨by
    rw[hR]
    constructor
    ·exact fun hh k' h1 h2=>hh k' (by omega) h2
    ·intro hh k' h1 h2 u' hu'
     by_cases ek:k'=k
     ·subst ek
      rw[hu] at hu'
      cases hu'
      exact fun e=>e.elim e1 e2
     ·exact hh k' (by omega) h2 u' hu'⟩
   clear e1 e2 hR
   go_wp2_with fail
   go_quiet (fail)
   go_wp2_with fail
   go_roundw
   case rel=>exact⟨k+1,by omega,by omega,by go_num,tdr hB,HX⟩
   case measure=>simp[RowKit.intOf];omega
  ·obtain rfl:k=c.i:=by omega
   have HX:Hid P:=⟨by rw[hR.out];exact fun k' h1 h2=>by omega⟩
   go_wp2_with fail
   go_ret
   exact⟨Ans.yes HX.out,hb1.out.trans (hB.mono hb1.out.size)⟩
theorem refChosen_12 (c:Df) (f:Fm) (L:List Od) (x:Od) (xt t v:Tk) (ids:List Int) (vi:Value) (w:World) (P:Prop) (h:Dt w c f L x xt t ids vi) (ho:xt.op=12) (hv:f.toks[x.at_+1]?=some v) (hxi:x.at_+2<=c.i)
  (hP:Hid (P↔((0<=t.since/\t.since<=65534)/\t.val<8*sz v.prim/\∀ k,x.at_+2<=k->k<c.i->∀ u,f.toks[k]?=some u->¬ (u.name=t.name\/u.val=t.val)))) :
  Calls Tryz.prog 38 #[.pointer (some ⟨c.B,0,none⟩),.int .i64 (c.i:Int),.pointer (some ⟨c.go,L.length*5,none⟩)] w fun r w'=>Ans r P/\Below w.heap.size w w':=by
 have a10:(xt.op==10)=false:=by simp[ho]
 clear ho
 obtain⟨pc,cc,hT,hU,hC,hO⟩:=h.tk
 obtain⟨px,cx,hTx,hOx⟩:=h.xk
 obtain⟨pv,cv,hTv,_,_,hOv⟩:=h.at hv
 have b12:=h.ds.c12
 have hii:(c.i:Int)<f.toks.length:=by have:=h.il;omega
 have hxl:(x.at_:Int)<f.toks.length:=by have:=h.xl;omega
 have hxl1:(x.at_:Int)+1<f.toks.length:=by omega
 have hll:=h.ll
 have l1:=hT.load
 obtain⟨W1,s1,hA,hb1,hz1⟩:=ld_new w t pc cc
 have h1:=h.below hb1
 have t5:W1.cell? ⟨w.heap.size,5,none⟩=some (.int .i64 t.since):=hA.c5
 have t13:W1.cell? ⟨w.heap.size,13,none⟩=some (.int .u64 t.val):=hA.c13
 have y12:=h1.ds.c12
 have y0:=h1.sc.c0
 have v6:=(hTv.below (B:=w.heap.size) h.lg hb1).c6
 have x0:=(hTx.below (B:=w.heap.size) h.lg hb1).c0
 have hwl:w.heap.size<W1.heap.size:=by omega
 have hzb:=sz_b v.prim
 have hval:=hO.val
 unfold u64ok at hval
 replace l1:=Hid.mk l1
 replace s1:=Hid.mk s1
 replace h1:=Hid.mk h1
 replace hA:=Hid.mk hA
 replace hb1:=Hid.mk hb1
 clear hT hU hC hTx hTv hOx hOv
 go_enter Tryz.func38,Tryz.ntmps38
 by_cases k1:t.since<0
 ·have d1:decide (t.since<0)=true:=by simp;omega
  have HX:Hid (¬ P):=⟨by rw[hP.out];omega⟩
  go_wp2_with (first
   | (guard_target =~ wpList _ _ _ (Oper.mk _ (Op.load 53 _) _ _ _ _::_) _ _;go_must (first|refine wpList_ld 53 _ rfl rfl _ _ rfl l1.out ?_);simp only[pts])
   | (guard_target =~ wpList _ _ _ (Oper.mk _ (Op.store 53 _ _) _ _ _ _::_) _ _;go_must (refine wpList_st 53 _ _ rfl rfl _ _ rfl rfl (s1.out _ rfl) ?_);simp only[pts]))
  go_ret
  exact⟨Ans.no HX.out,hb1.out⟩
 have d1:decide (t.since<0)=false:=by simp;omega
 by_cases k2:65534<t.since
 ·have d2:decide (t.since > 65534)=true:=by simp;omega
  have HX:Hid (¬ P):=⟨by rw[hP.out];omega⟩
  go_wp2_with (first
   | (guard_target =~ wpList _ _ _ (Oper.mk _ (Op.load 53 _) _ _ _ _::_) _ _;go_must (first|refine wpList_ld 53 _ rfl rfl _ _ rfl l1.out ?_);simp only[pts])
   | (guard_target =~ wpList _ _ _ (Oper.mk _ (Op.store 53 _ _) _ _ _ _::_) _ _;go_must (refine wpList_st 53 _ _ rfl rfl _ _ rfl rfl (s1.out _ rfl) ?_);simp only[pts]))
  go_ret
  exact⟨Ans.no HX.out,hb1.out⟩
 have d2:decide (t.since > 65534)=false:=by simp;omega
 have hP2:Hid (P↔(t.val<8*sz v.prim/\∀ k,x.at_+2<=k->k<c.i->∀ u,f.toks[k]?=some u->¬ (u.name=t.name\/u.val=t.val))):=⟨by rw[hP.out];constructor;(exact fun h=>h.2);(exact fun h=>⟨by omega,h⟩)⟩
 clear hP k1 k2
 go_wp2_with (first
  | (guard_target =~ wpList _ _ _ (Oper.mk _ (Op.load 53 _) _ _ _ _::_) _ _;go_must (first|refine wpList_ld 53 _ rfl rfl _ _ rfl l1.out ?_);simp only[pts])
  | (guard_target =~ wpList _ _ _ (Oper.mk _ (Op.store 53 _ _) _ _ _ _::_) _ _;go_must (refine wpList_st 53 _ _ rfl rfl _ _ rfl rfl (s1.out _ rfl) ?_);simp only[pts]))
 have cF:=fun W=>refSize_any v.prim W
 replace hO:=Hid.mk hO
 generalize sz v.prim=z at *
 have hw1:IntKind.i64.wrap (8*z)=8*z:=by rw[IntKind.wrap_i64];omega
 have hw2:IntKind.u64.wrap (8*z)=8*z:=by rw[IntKind.wrap_u64];omega
 go_quiet (fail)
 rename Nat=>n1
 go_wp2_with fail
 go_quiet (fail)
 go_wp2_with fail
 obtain⟨p,p0,pB,hNe,pc',pk⟩:=clsB ((W1.drewN n1).drewN nq)
 have f13:∀ θ:CW p,θ.w.cell? ⟨w.heap.size,13,none⟩=some (.int .u64 t.val):=fun θ=>(pc' w.heap.size 13 hwl θ).trans t13
 have cP:=pk _ _ _ (fun W _=>(cF W).mono fun _ _ hh=>⟨hh.1,hh.2▸Below.refl _ _⟩)
 have pB2:Hid (∀ W,p W->Below W1.heap.size W1 W):=⟨fun W hW=>(tdr (tdr (Below.refl _ _))).trans (pB W hW)⟩
 clear pc' pk pB
 by_cases eq1:t.val<8*z
 case neg =>
  have d3:decide (t.val≥8*z)=true:=by simp;omega
  have HX:Hid (¬ P):=⟨by rw[hP2.out];simp[eq1]⟩
  refine wp_region_lp p (by kernel_rfl) (by kernel_rfl) (fun _ _ d _ _ h=>by cases d<;>exact h) p0 fun W hp=>?_
  repeat (first|(refine lx_one rfl ?_;(first|go_big_quiet_skip|(go_big_quiet_want;go_big_quiet_op;go_big_quiet_on));refine wpQuiet_nil ?_)|(refine lx_p1 ent_rsize cP hp rfl (by rfl) ?_;intro W hp;simp only[pts])|(refine lx_skip (by rfl) ?_;simp only[pts]))
  refine lx_done ?_
  go_wp2_with fail
  go_ret
  exact⟨Ans.no HX.out,hb1.out.trans ((pB2.out _ hp).mono hb1.out.size)⟩
 have d3:decide (t.val≥8*z)=false:=by simp;omega
 have hP3:Hid (P↔∀ k,x.at_+2<=k->k<c.i->∀ u,f.toks[k]?=some u->¬ (u.name=t.name\/u.val=t.val)):=⟨by rw[hP2.out];simp[eq1]⟩
 refine wp_region_lp p (by kernel_rfl) (by kernel_rfl) (fun _ _ d _ _ h=>by cases d<;>exact h) p0 fun W hp=>?_
 repeat (first|(refine lx_one rfl ?_;(first|go_big_quiet_skip|(go_big_quiet_want;go_big_quiet_op;go_big_quiet_on));refine wpQuiet_nil ?_)|(refine lx_p1 ent_rsize cP hp rfl (by rfl) ?_;intro W hp;simp only[pts])|(refine lx_skip (by rfl) ?_;simp only[pts]))
 refine lx_done ?_
 have hbW:=pB2.out _ hp
 have y0:=(h1.out.below hbW).sc.c0
 replace hbW:=Hid.mk hbW
 clear hp p0 cP f13 pB2 hNe
 go_wp2_with fail
 all_goals try (go_quiet (fail);go_wp2_with fail)
 clear y12 y0 v6 x0 t5 t13 d1 d2
 go_loopw [10] (fun q wr=>∃ k:Nat,x.at_+2<=k/\k<=c.i/\q = .int .i64 k/\Below W1.heap.size W1 wr/\Hid (P↔∀ k',k<=k'->k'<c.i->∀ u,f.toks[k']?=some u->¬ (u.name=t.name\/u.val=t.val))) (fun q _=>c.i-(RowKit.intOf q).toNat)
 case atStart=>exact⟨x.at_+2,Nat.le_refl _,hxi,by go_num,by first|exact tdr hbW.out|exact hbW.out|exact tdr (tdr (tdr (Below.refl _ _)))|exact tdr (tdr (Below.refl _ _))|exact tdr (Below.refl _ _),hP3⟩
 case round =>
  obtain⟨k,hk1,hk2,rfl,hB,hR⟩:=hrel
  have h3:=h1.out.below hB
  have hA3:=own_tk hA.out hwl hB
  have b12:=h3.ds.c12
  have t1:wr.cell? ⟨w.heap.size,1,none⟩=some (.string t.name):=hA3.c1
  have t13:wr.cell? ⟨w.heap.size,13,none⟩=some (.int .u64 t.val):=hA3.c13
  by_cases hlt:k<c.i
  ·obtain⟨u,hu⟩:∃ u,f.toks[k]?=some u:=⟨f.toks[k]'(by omega),List.getElem?_eq_getElem (by omega)⟩
   obtain⟨qc,qd,hX3,_,_,hOu⟩:=h3.at hu
   have u1:=hX3.c1
   have u13:=hX3.c13
   have hki:(k:Int)<f.toks.length:=by omega
   have hkc:(k:Int)<c.i:=by omega
   have hR:=hR.out
   clear hX3 hOu hA3
   replace h3:=Hid.mk h3
   by_cases e1:u.name=t.name
   ·have d:(u.name.toList==t.name.toList)=true:=by rw[e1];simp
    have HX:Hid (¬ P):=⟨fun p=>hR.1 p k (Nat.le_refl _) hlt u hu (.inl e1)⟩
    clear e1 hR
    go_wp2_with fail
    go_quiet (fail)
    go_wp2_with fail
    go_ret
    exact⟨Ans.no HX.out,tdr (hb1.out.trans (hB.mono hb1.out.size))⟩
   have d:(u.name.toList==t.name.toList)=false:=by simp[<- ba_eq,e1]
   by_cases e2:u.val=t.val
   ·have d':(u.val==t.val)=true:=by simp[e2]
    have HX:Hid (¬ P):=⟨fun p=>hR.1 p k (Nat.le_refl _) hlt u hu (.inr e2)⟩
    clear e1 e2 hR
    go_wp2_with fail
    go_quiet (fail)
    go_wp2_with fail
    go_ret
    exact⟨Ans.no HX.out,tdr (hb1.out.trans (hB.mono hb1.out.size))⟩
   have d':(u.val==t.val)=false:=by simp[e2]
   have HX:Hid (P↔∀ k',k+1<=k'->k'<c.i->∀ u,f.toks[k']?=some u->¬ (u.name=t.name\/u.val=t.val)):=⟨by
    rw[hR]
    constructor
    ·exact fun hh k' h1 h2=>hh k' (by omega) h2
    ·intro hh k' h1 h2 u' hu'
     by_cases ek:k'=k
     ·subst ek
      rw[hu] at hu'
      cases hu'
      exact fun e=>e.elim e1 e2
     ·exact hh k' (by omega) h2 u' hu'⟩
   clear e1 e2 hR
   go_wp2_with fail
   go_quiet (fail)
   go_wp2_with fail
   go_roundw
   case rel=>exact⟨k+1,by omega,by omega,by go_num,tdr hB,HX⟩
   case measure=>simp[RowKit.intOf];omega
  ·obtain rfl:k=c.i:=by omega
   have HX:Hid P:=⟨by rw[hR.out];exact fun k' h1 h2=>by omega⟩
   go_wp2_with fail
   go_ret
   exact⟨Ans.yes HX.out,hb1.out.trans (hB.mono hb1.out.size)⟩
theorem ids_row {w:World} {H:Nat} {vi:Value} {ids:List Int} (h:w.ownsRow H 3 1 vi ids.length (idC ids)):∃ p cap,vi = .slice p ids.length cap/\ids.length<=cap/\∀ (j:Nat) (v:Int),ids[j]?=some v->∃ gi,p=some ⟨gi,0,none⟩/\gi<w.heap.size/\w.cell? ⟨gi,j,none⟩=some (.int .i64 v):=by
 rcases h.2 with ⟨h0,h1⟩|⟨g,cap,cur,e,hb',hg,h1,h2,h3,h4⟩
 ·have:ids=[]:=List.length_eq_zero_iff.1 h1
  subst this
  exact⟨none,0,h0,Nat.le_refl _,fun j v hv=>by cases hv⟩
 ·refine⟨_,cap,e,h1,fun j v hv=>⟨g,rfl,(Array.getElem?_eq_some_iff.1 hg).1,?_⟩⟩
  have hl:=(List.getElem?_eq_some_iff.1 hv).1
  have:(idC ids)[j]?=some (.int .i64 v):=by unfold idC;rw[List.getElem?_map,hv];rfl
  rw[<- h4,List.getElem?_take,if_pos (by omega)] at this
  simp only[World.cell?,hg]
  simpa using this
theorem refNamed_any (c:Df) (f:Fm) (L:List Od) (x:Od) (xt t:Tk) (ids:List Int) (vi:Value) (ks:List Nat) (w:World) (h:Dt w c f L x xt t ids vi) (hi:c.i≠0) (hk:Chn f.toks (x.at_+1) ks c.i) (hki:∀ k∈ks,k<c.i) (hks:ks.Pairwise (· < ·)) (hil:ids.length<=c.i) :
  Calls Tryz.prog 31 #[.pointer (some ⟨c.B,0,none⟩),.int .i64 (c.i:Int)] w fun r w'=>Ans r (bet t.id 0 65535=true/\ids.contains t.id=false/\nameIn f.toks ks t.name=false)/\Below w.heap.size w w':=by
 generalize hPd:(bet t.id 0 65535=true/\ids.contains t.id=false/\nameIn f.toks ks t.name=false)=P
 replace hPd:=Hid.mk hPd
 obtain⟨pc,cc,hT,hU,hC,hO⟩:=h.tk
 have b12:=h.ds.c12
 have hii:(c.i:Int)<f.toks.length:=by have:=h.il;omega
 have hll:=h.ll
 have hln:=h.ln
 have hxl:=h.xl
 have l1:=hT.load
 obtain⟨W1,s1,hA,hb1,hz1⟩:=ld_new w t pc cc
 have h1:=h.below hb1
 have a2:W1.cell? ⟨w.heap.size,2,none⟩=some (.int .i64 t.id):=hA.c2
 have di:((c.i:Int)==0)=false:=by simp;omega
 have di2:(c.i==0)=false:=by simp;omega
 have hwl:w.heap.size<W1.heap.size:=by omega
 replace l1:=Hid.mk l1
 replace s1:=Hid.mk s1
 replace h:=Hid.mk h
 replace h1:=Hid.mk h1
 replace hA:=Hid.mk hA
 replace hb1:=Hid.mk hb1
 replace hO:=Hid.mk hO
 clear hT hU hC
 by_cases hid:0<=t.id/\t.id<=65535
 ·have d1:decide (t.id<0)=false:=by simp;omega
  have d2:decide (t.id > 65535)=false:=by simp;omega
  have hP1:Hid (P↔(ids.contains t.id=false/\nameIn f.toks ks t.name=false)):=⟨by rw[<- hPd.out];unfold bet;simp[hid]⟩
  clear hid
  go_enter Tryz.func31,Tryz.ntmps31
  go_wp2_with (first
   | (guard_target =~ wpList _ _ _ (Oper.mk _ (Op.load 53 _) _ _ _ _::_) _ _;go_must (first|refine wpList_ld 53 _ rfl rfl _ _ rfl l1.out ?_);simp only[pts])
   | (guard_target =~ wpList _ _ _ (Oper.mk _ (Op.store 53 _ _) _ _ _ _::_) _ _;go_must (refine wpList_st 53 _ _ rfl rfl _ _ rfl rfl (s1.out _ rfl) ?_);simp only[pts]))
  clear d1 d2 a2 b12
  obtain⟨pi,ci,rfl,hci,hrow⟩:=ids_row h1.out.ir
  have e0:Hid (P↔(t.id∉ids.drop 0/\nameIn f.toks ks t.name=false)):=⟨by rw[hP1.out];simp⟩
  go_loopw [6] (fun q wr=>∃ j:Nat,j<=ids.length/\q = .int .i64 j/\Below W1.heap.size W1 wr/\Hid (P↔(t.id∉ids.drop j/\nameIn f.toks ks t.name=false))) (fun q _=>ids.length-(RowKit.intOf q).toNat)
  case atStart=>exact⟨0,Nat.zero_le _,rfl,Below.refl _ _,e0⟩
  case round =>
   obtain⟨j,hj,rfl,hB,hQ⟩:=hrel
   have h2:=h1.out.below hB
   have b14:=h2.ds.c14
   have a2:wr.cell? ⟨w.heap.size,2,none⟩=some (.int .i64 t.id):=(own_tk hA.out hwl hB).c2
   replace h2:=Hid.mk h2
   by_cases hlt:j<ids.length
   ·obtain⟨v,hv⟩:∃ v,ids[j]?=some v:=⟨ids[j],List.getElem?_eq_getElem hlt⟩
    obtain⟨gi,rfl,hgi,hcv⟩:=hrow j v hv
    replace hcv:=(hB.cell (p:=⟨gi,_,none⟩) hgi).trans hcv
    have hlti:(j:Int)<ids.length:=by omega
    have hQ:=hQ.out
    rw[drop_at hv,List.mem_cons] at hQ
    by_cases e:v=t.id
    ·have d:(v==t.id)=true:=by simp[e]
     have HX:Hid (¬ P):=⟨fun p=>(hQ.1 p).1 (.inl e.symm)⟩
     clear e hQ hrow
     go_wp2_with fail
     go_quiet (fail)
     go_wp2_with fail
     go_ret
     exact⟨Ans.no HX.out,tdr (hb1.out.trans (hB.mono hb1.out.size))⟩
    ·have d:(v==t.id)=false:=by simp[e]
     have HX:Hid (P↔(t.id∉ids.drop (j+1)/\nameIn f.toks ks t.name=false)):=⟨by rw[hQ];have:¬ t.id=v:=fun h=>e h.symm;simp[this]⟩
     clear e hQ hrow
     go_wp2_with fail
     go_quiet (fail)
     go_wp2_with fail
     go_roundw
     case rel=>exact⟨j+1,by omega,by go_num,tdr hB,HX⟩
     case measure=>simp[RowKit.intOf];omega
   ·obtain rfl:j=ids.length:=by omega
    have hX:Hid (P↔nameIn f.toks ks t.name=false):=⟨by rw[hQ.out,List.drop_length];simp⟩
    clear hrow hQ
    go_wp2_with fail
    have b13:=h2.out.ds.c13
    have x0:=h2.out.sc.c0
    have e1:((L.length+1:Nat):Int)-1=(L.length:Int):=by omega
    have e2:(L.length:Int)<((L.length+1:Nat):Int):=by omega
    go_quiet (fail)
    go_wp2_with fail
    clear b13 x0 b14 a2
    have hxi:x.at_+1<=c.i:=by
     cases hks0:ks with
     | nil=>rw[hks0] at hk;have:x.at_+1=c.i:=hk;omega
     | cons k r=>rw[hks0] at hk;have:x.at_+1=k:=hk.1;have:=hki k (by rw[hks0];simp);omega
    go_loopw [7] (fun q wq=>∃ (k:Nat) (ks2:List Nat),k<=c.i/\q = .int .i64 k/\Below W1.heap.size W1 wq/\Hid (Chn f.toks k ks2 c.i/\(∀ a∈ks2,a<c.i)/\ks2.Pairwise (· < ·)/\(P↔nameIn f.toks ks2 t.name=false))) (fun q _=>c.i-(RowKit.intOf q).toNat)
    case atStart=>exact⟨x.at_+1,ks,hxi,by go_num,tdr hB,⟨hk,hki,hks,hX.out⟩⟩
    case round =>
     obtain⟨k,ks2,hkc,rfl,hD,hR⟩:=hrel
     have h3:=h1.out.below hD
     have b12:=h3.ds.c12
     have hA1:=own_tk hA.out hwl hD
     have a1:wr.cell? ⟨w.heap.size,1,none⟩=some (.string t.name):=hA1.c1
     replace h3:=Hid.mk h3
     clear hA1
     cases ks2 with
     | nil =>
      obtain⟨r1,r2,r3,r4⟩:=hR.out
      obtain rfl:k=c.i:=r1
      have HX:Hid P:=⟨r4.2 (by rfl)⟩
      clear r2 r3 r4 hR
      go_wp2_with fail
      go_ret
      exact⟨Ans.yes HX.out,hb1.out.trans (hD.mono hb1.out.size)⟩
     | cons k' r =>
      obtain⟨⟨r0,u,n,hu,hun,r1⟩,r2,r3,r4⟩:=hR.out
      subst r0
      have hkl:k<c.i:=r2 k (List.mem_cons_self ..)
      have hkd:decide ((k:Int)<c.i)=true:=by simp;omega
      have hkd2:decide (k<c.i)=true:=by simp;omega
      obtain⟨qc,qd,hX3,_,_,hOu⟩:=h3.out.at hu
      have u1:=hX3.c1
      have u20:wr.cell? ⟨c.g,c.o+k*21+20,none⟩=some (.int .i64 n):=by rw[<- hun];exact hX3.c20
      have hkf:(k:Int)<f.toks.length:=by omega
      have hn1:k<n+1/\n+1<=c.i:=by
       rcases r with _|⟨b,r⟩
       ·have:n+1=c.i:=r1
        omega
       ·have e:n+1=b:=r1.1
        have:=(List.pairwise_cons.1 r3).1 b (List.mem_cons_self ..)
        have:=r2 b (by simp)
        omega
      have hr:Hid (Chn f.toks (n+1) r c.i/\(∀ a∈r,a<c.i)/\r.Pairwise (· < ·)):=⟨r1,fun a ha=>r2 a (List.mem_cons_of_mem _ ha),(List.pairwise_cons.1 r3).2⟩
      rw[nameIn_no] at r4
      clear hX3 hR r1 r2 r3
      by_cases e:u.name=t.name
      ·have d:(u.name.toList==t.name.toList)=true:=by rw[e];simp
       have HX:Hid (¬ P):=⟨fun p=>r4.1 p k (List.mem_cons_self ..) u hu e⟩
       clear r4 hr hun
       go_wp2_with fail
       go_quiet (fail)
       go_wp2_with fail
       go_ret
       exact⟨Ans.no HX.out,tdr (hb1.out.trans (hD.mono hb1.out.size))⟩
      ·have HX:Hid (P↔nameIn f.toks r t.name=false):=⟨by
        rw[r4,nameIn_no]
        constructor
        ·exact fun h a ha=>h a (List.mem_cons_of_mem _ ha)
        ·intro h a ha v hv
         rcases List.mem_cons.1 ha with rfl|ha
         ·rw[hu] at hv;cases hv;exact e
         ·exact h a ha v hv⟩
       have d:(u.name.toList==t.name.toList)=false:=by simp[<- ba_eq,e]
       clear r4 hun e
       go_wp2_with fail
       go_quiet (fail)
       go_wp2_with fail
       go_roundw
       case rel=>exact⟨n+1,r,hn1.2,by go_num,tdr hD,⟨hr.out.1,hr.out.2.1,hr.out.2.2,HX.out⟩⟩
       case measure=>simp[RowKit.intOf];omega
 ·have hP1:Hid (¬ P):=⟨fun p=>by rw[<- hPd.out] at p;exact hid (betT p.1)⟩
  go_enter Tryz.func31,Tryz.ntmps31
  go_wp2_with (first
   | (guard_target =~ wpList _ _ _ (Oper.mk _ (Op.load 53 _) _ _ _ _::_) _ _;go_must (first|refine wpList_ld 53 _ rfl rfl _ _ rfl l1.out ?_);simp only[pts])
   | (guard_target =~ wpList _ _ _ (Oper.mk _ (Op.store 53 _ _) _ _ _ _::_) _ _;go_must (refine wpList_st 53 _ _ rfl rfl _ _ rfl rfl (s1.out _ rfl) ?_);simp only[pts]))
  all_goals first
   | (exfalso;omega)
   | (go_ret;exact⟨Ans.no hP1.out,hb1.out⟩)
theorem refNamed_0 (c:Df) (f:Fm) (t:Tk) (vo vi:Value) (w:World) (h:D0 w c f t vo vi) (hi:c.i=0) :
  Calls Tryz.prog 31 #[.pointer (some ⟨c.B,0,none⟩),.int .i64 (c.i:Int)] w fun r w'=>Ans r (bet t.id 0 65535=true)/\Below w.heap.size w w':=by
 generalize hPd:(bet t.id 0 65535=true)=P
 have hP:Hid (P↔(0<=t.id/\t.id<=65535)):=⟨by rw[<- hPd];unfold bet;rw[decide_eq_true_eq]⟩
 clear hPd
 obtain⟨pc,cc,hT,hU,hC,hO⟩:=h.tk
 have b12:=h.ds.c12
 have hii:(c.i:Int)<f.toks.length:=by have:=h.il;omega
 have l1:=hT.load
 obtain⟨W1,s1,hA,hb1,hz1⟩:=ld_new w t pc cc
 have a2:W1.cell? ⟨w.heap.size,2,none⟩=some (.int .i64 t.id):=hA.c2
 have di:((c.i:Int)==0)=true:=by simp;omega
 have di2:(c.i==0)=true:=by simp;omega
 replace l1:=Hid.mk l1
 replace s1:=Hid.mk s1
 replace h:=Hid.mk h
 replace hb1:=Hid.mk hb1
 replace hO:=Hid.mk hO
 clear hT hU hC hA hi
 go_enter Tryz.func31,Tryz.ntmps31
 go_wp2_with (first
  | (guard_target =~ wpList _ _ _ (Oper.mk _ (Op.load 53 _) _ _ _ _::_) _ _;go_must (first|refine wpList_ld 53 _ rfl rfl _ _ rfl l1.out ?_);simp only[pts])
  | (guard_target =~ wpList _ _ _ (Oper.mk _ (Op.store 53 _ _) _ _ _ _::_) _ _;go_must (refine wpList_st 53 _ _ rfl rfl _ _ rfl rfl (s1.out _ rfl) ?_);simp only[pts]))
 all_goals
  go_ret
  refine⟨⟨_,rfl,?_⟩,hb1.out⟩
  refine Iff.trans ?_ hP.out.symm
  simp
  omega
theorem refMay_any (c:Df) (f:Fm) (L:List Od) (x:Od) (xt t:Tk) (ids:List Int) (vi:Value) (op:Int) (w:World) (h:Dt w c f L x xt t ids vi) :
  Calls Tryz.prog 32 #[.pointer (some ⟨c.B,0,none⟩),.int .i64 op] w fun r w'=>r = .returned (.bool (mayD xt.op x.stg op))/\Below w.heap.size w w':=by
 suffices hh:Calls Tryz.prog 32 #[.pointer (some ⟨c.B,0,none⟩),.int .i64 op] w fun r w'=>Ans r (mayD xt.op x.stg op=true)/\Below w.heap.size w w' from hh.mono fun r w' h=>⟨h.1.same,h.2⟩
 generalize hPd:(mayD xt.op x.stg op=true)=P
 replace hPd:=Hid.mk hPd
 obtain⟨pc,cc,hT,hO⟩:=h.xk
 have hS:=h.sc
 have b12:=h.ds.c12
 have b13:=h.ds.c13
 have hxl:(x.at_:Int)<f.toks.length:=by have:=h.xl;omega
 have hln:=h.ln
 have e1:((L.length+1:Nat):Int)-1=(L.length:Int):=by omega
 have e2:(L.length:Int)<((L.length+1:Nat):Int):=by omega
 have c0:=hT.c0
 have x0:=hS.c0
 have x1:=hS.c1
 have x2:=hS.c2
 have x3:=hS.c3
 have x4:=hS.c4
 obtain⟨p,p0,pB,pI,hNe,pc',pl,pk⟩:=clsT w
 have hol:=h.op.lt
 have f13:=fun θ=>(pc' c.B 13 h.ds.lt θ).trans b13
 have f0:=fun θ=>(pc' c.go (L.length*5) hol θ).trans x0
 have f1:=fun θ=>(pc' c.go (L.length*5+1) hol θ).trans x1
 have f2:=fun θ=>(pc' c.go (L.length*5+2) hol θ).trans x2
 have f3:=fun θ=>(pc' c.go (L.length*5+3) hol θ).trans x3
 have f4:=fun θ=>(pc' c.go (L.length*5+4) hol θ).trans x4
 replace h:=Hid.mk h
 clear hT hS pc' pl pk x0 x1 x2 x3 x4 b12 b13 c0
 go_enter Tryz.func32,Tryz.ntmps32
 go_wp2_with fail
 refine wp_region_lp p (by kernel_rfl) (by kernel_rfl) (fun _ _ d _ _ h=>by cases d<;>exact h) p0 fun W hp=>?_
 repeat (first|(guard_target =~ Lx _ _ _ _ (Oper.mk _ (Op.alloc 58) _ _ _ _::_) _ _;refine lx_act (by rfl) (by rfl) ?_;intro K hK;go_simp;refine hK _ _ ⟨⟨_,pI _ ((pB _ hp).trans ((bel1 W _).mono (pB _ hp).size))⟩,rfl⟩ ?_;clear hK K)|(guard_target =~ Lx _ _ _ _ (Oper.mk _ (Op.store 58 _ _) _ _ _ _::_) _ _;obtain⟨W2,s2,hY,hb2,hz2⟩:=od_new W x;refine lx_st (s2 _ rfl) ⟨⟨W2,pI _ ((pB _ hp).trans (hb2.mono (pB _ hp).size))⟩,rfl⟩ rfl rfl (by rfl) ?_;clear s2;simp only[pts])|(refine lx_one rfl ?_;(first|go_big_quiet_skip|(go_big_quiet_want;go_big_quiet_op;go_big_quiet_on));refine wpQuiet_nil ?_)|(refine lx_skip (by rfl) ?_;simp only[pts]))
 refine lx_done ?_
 have hb:Below w.heap.size w W2:=(pB _ hp).trans (hb2.mono (pB _ hp).size)
 have h2:=h.out.below hb
 obtain⟨pc,cc,hT,hO⟩:=h2.xk
 have b12:=h2.ds.c12
 have c0:=hT.c0
 have z0:W2.cell? ⟨W.heap.size,0,none⟩=some (.int .i64 (x.at_:Int)):=hY.c0
 have z1:W2.cell? ⟨W.heap.size,1,none⟩=some (.int .i64 x.stg):=hY.c1
 replace h2:=Hid.mk h2
 replace hb:=Hid.mk hb
 clear hT hY pB pI p0 f0 f1 f2 f3 f4 f13 hNe hp
 go_wp2_with fail
 go_quiet (fail)
 by_cases ho:xt.op=0
 ·have hP:Hid (P↔(op=2/\x.stg=0)\/(op=4/\x.stg<=1)\/op=6):=⟨by rw[<- hPd.out];unfold mayD;simp[ho]⟩
  have d0:(xt.op==0)=true:=by simp[ho]
  have d4:(xt.op==4)=false:=by simp[ho]
  have d2:(xt.op==2)=false:=by simp[ho]
  have d8:(xt.op==8)=false:=by simp[ho]
  have d10:(xt.op==10)=false:=by simp[ho]
  have d12:(xt.op==12)=false:=by simp[ho]
  clear ho
  go_wp2_with (go_at_call 58;refine(typeOp_any op _).mono ?_;rintro _ wq ⟨rfl,e⟩;subst e)
  all_goals
   go_ret
   refine⟨⟨_,rfl,?_⟩,tdr hb.out⟩
   refine Iff.trans ?_ hP.out.symm
   simp_all
   try omega
 by_cases ho:xt.op=4
 ·have hP:Hid (P↔(op=2/\x.stg=0)\/(op=4/\x.stg<=1)\/op=6):=⟨by rw[<- hPd.out];unfold mayD;simp[ho]⟩
  have d0:(xt.op==0)=false:=by simp[ho]
  have d4:(xt.op==4)=true:=by simp[ho]
  have d2:(xt.op==2)=false:=by simp[ho]
  have d8:(xt.op==8)=false:=by simp[ho]
  have d10:(xt.op==10)=false:=by simp[ho]
  have d12:(xt.op==12)=false:=by simp[ho]
  clear ho
  go_wp2_with (go_at_call 58;refine(typeOp_any op _).mono ?_;rintro _ wq ⟨rfl,e⟩;subst e)
  all_goals
   go_ret
   refine⟨⟨_,rfl,?_⟩,tdr hb.out⟩
   refine Iff.trans ?_ hP.out.symm
   simp_all
   try omega
 by_cases ho:xt.op=2
 ·have hP:Hid (P↔x.stg=0/\tyO op=true):=⟨by rw[<- hPd.out];unfold mayD;simp[ho]⟩
  have d0:(xt.op==0)=false:=by simp[ho]
  have d4:(xt.op==4)=false:=by simp[ho]
  have d2:(xt.op==2)=true:=by simp[ho]
  have d8:(xt.op==8)=false:=by simp[ho]
  have d10:(xt.op==10)=false:=by simp[ho]
  have d12:(xt.op==12)=false:=by simp[ho]
  clear ho
  go_wp2_with (go_at_call 58;refine(typeOp_any op _).mono ?_;rintro _ wq ⟨rfl,e⟩;subst e)
  all_goals
   go_ret
   refine⟨⟨_,rfl,?_⟩,tdr hb.out⟩
   refine Iff.trans ?_ hP.out.symm
   simp_all
   try omega
 by_cases ho:xt.op=8
 ·have hP:Hid (P↔tyO op=true):=⟨by rw[<- hPd.out];unfold mayD;simp[ho]⟩
  have d0:(xt.op==0)=false:=by simp[ho]
  have d4:(xt.op==4)=false:=by simp[ho]
  have d2:(xt.op==2)=false:=by simp[ho]
  have d8:(xt.op==8)=true:=by simp[ho]
  have d10:(xt.op==10)=false:=by simp[ho]
  have d12:(xt.op==12)=false:=by simp[ho]
  clear ho
  go_wp2_with (go_at_call 58;refine(typeOp_any op _).mono ?_;rintro _ wq ⟨rfl,e⟩;subst e)
  all_goals
   go_ret
   refine⟨⟨_,rfl,?_⟩,tdr hb.out⟩
   refine Iff.trans ?_ hP.out.symm
   simp_all
   try omega
 by_cases ho:xt.op=10
 ·have hP:Hid (P↔(x.stg=0/\op=14)\/(0<x.stg/\op=15)):=⟨by rw[<- hPd.out];unfold mayD;simp[ho]⟩
  have d0:(xt.op==0)=false:=by simp[ho]
  have d4:(xt.op==4)=false:=by simp[ho]
  have d2:(xt.op==2)=false:=by simp[ho]
  have d8:(xt.op==8)=false:=by simp[ho]
  have d10:(xt.op==10)=true:=by simp[ho]
  have d12:(xt.op==12)=false:=by simp[ho]
  clear ho
  go_wp2_with (go_at_call 58;refine(typeOp_any op _).mono ?_;rintro _ wq ⟨rfl,e⟩;subst e)
  all_goals
   go_ret
   refine⟨⟨_,rfl,?_⟩,tdr hb.out⟩
   refine Iff.trans ?_ hP.out.symm
   simp_all
   try omega
 by_cases ho:xt.op=12
 ·have hP:Hid (P↔(x.stg=0/\op=14)\/(0<x.stg/\op=15)):=⟨by rw[<- hPd.out];unfold mayD;simp[ho]⟩
  have d0:(xt.op==0)=false:=by simp[ho]
  have d4:(xt.op==4)=false:=by simp[ho]
  have d2:(xt.op==2)=false:=by simp[ho]
  have d8:(xt.op==8)=false:=by simp[ho]
  have d10:(xt.op==10)=false:=by simp[ho]
  have d12:(xt.op==12)=true:=by simp[ho]
  clear ho
  go_wp2_with (go_at_call 58;refine(typeOp_any op _).mono ?_;rintro _ wq ⟨rfl,e⟩;subst e)
  all_goals
   go_ret
   refine⟨⟨_,rfl,?_⟩,tdr hb.out⟩
   refine Iff.trans ?_ hP.out.symm
   simp_all
   try omega
 have hP:Hid (¬ P):=⟨by rw[<- hPd.out];unfold mayD;simp_all⟩
 have d0:(xt.op==0)=false:=by simp_all
 have d4:(xt.op==4)=false:=by simp_all
 have d2:(xt.op==2)=false:=by simp_all
 have d8:(xt.op==8)=false:=by simp_all
 have d10:(xt.op==10)=false:=by simp_all
 have d12:(xt.op==12)=false:=by simp_all
 go_wp2_with fail
 go_ret
 exact⟨Ans.no hP.out,tdr hb.out⟩
end Go.Proofs.YtjnafpefolgcoaaGreatDoor
