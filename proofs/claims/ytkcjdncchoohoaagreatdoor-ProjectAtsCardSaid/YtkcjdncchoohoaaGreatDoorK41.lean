import Derived.Test.YtkcjdncchoohoaaGreatDoorK40
namespace Go.Proofs.YtkcjdncchoohoaaGreatDoor
set_option maxRecDepth 1000000
set_option maxHeartbeats 16000000
open Go.ChangeShapes Go.WideShapes Go.ChangeAt Go.RowKit Go.Shelf Go.Maps
variable {f:Fm} {r:List Sc} {sc:Sc}
theorem refFielded_any (c:Df) (f:Fm) (L:List Od) (x:Od) (xt t u:Tk) (ids:List Int) (vi:Value) (w:World) (P:Prop) (Q:World->Prop) (h:Dt w c f L x xt t ids vi) (hu:f.toks[c.i+1]?=some u)
  (hP:Hid (P↔(xt.since<=t.since/\x.snc<=t.since/\t.since<=f.ver/\0<=t.pres/\t.pres<=2/\(t.pres=0->t.since=xt.since))/\((t.pres=2/\t.off=0/\t.siz=0/\0<t.cst.length)\/(t.pres≠2/\t.cst.length=0/\0<=t.siz/\0<=t.off/\(t.siz=0->t.off=0)/\t.off<=xt.blk/\t.siz<=xt.blk-t.off/\u.siz=t.siz/\(0<t.siz->x.en<=t.off)))))
  (hQ:Hid (∀ w',Dt w' c f L { x with snc:=t.since,en:=if t.pres≠2/\0<t.siz then t.off+t.siz else x.en } xt t ids vi->Q w')) :
  Calls Tryz.prog 50 #[.pointer (some ⟨c.B,0,none⟩),.int .i64 (c.i:Int),.pointer (some ⟨c.go,L.length*5,none⟩)] w fun r w'=>Lfd r P c w w' (Q w'):=by
 obtain⟨pc,cc,hT,hU,hC,hO⟩:=h.tk
 obtain⟨px,cx,hTx,hOx⟩:=h.xk
 have b12:=h.ds.c12
 have hii:(c.i:Int)<f.toks.length:=by have:=h.il;omega
 have hxl:(x.at_:Int)<f.toks.length:=by have:=h.xl;omega
 have hll:=h.ll
 have l1:=hT.load
 have hgo:=h.op.lt
 obtain⟨W1,s1,hA,hb1,hz1⟩:=ld_new w t pc cc
 have h1:=h.below hb1
 have hX1:=hTx.below (B:=w.heap.size) h.lg hb1
 obtain⟨p,p0,pB,pI,hNe,pc',pl,pk⟩:=clsT W1
 have f12:=fun θ=>(pc' c.B 12 h1.ds.lt θ).trans h1.ds.c12
 have f0:=fun θ=>(pc' c.go (L.length*5) h1.op.lt θ).trans h1.sc.c0
 have lu:=pl c.g _ xt px cx h1.lg hX1
 clear pc' pl pk hX1 hTx
 replace l1:=Hid.mk l1
 replace s1:=Hid.mk s1
 replace h:=Hid.mk h
 replace h1:=Hid.mk h1
 replace hA:=Hid.mk hA
 replace hb1:=Hid.mk hb1
 replace hO:=Hid.mk hO
 replace hOx:=Hid.mk hOx
 clear hT hU hC
 go_enter Tryz.func50,Tryz.ntmps50
 go_wp2_with (first
  | (guard_target =~ wpList _ _ _ (Oper.mk _ (Op.load 47 _) _ _ _ _::_) _ _;go_must (first|refine wpList_ld 47 _ rfl rfl _ _ rfl l1.out ?_);simp only[pts])
  | (guard_target =~ wpList _ _ _ (Oper.mk _ (Op.store 47 _ _) _ _ _ _::_) _ _;go_must (refine wpList_st 47 _ _ rfl rfl _ _ rfl rfl (s1.out _ rfl) ?_);simp only[pts]))
 refine wp_region_lp p (by kernel_rfl) (by kernel_rfl) (fun _ _ d _ _ h=>by cases d<;>exact h) p0 fun W hp=>?_
 repeat (first|(guard_target =~ Lx _ _ _ _ (Oper.mk _ (Op.load 47 _) _ _ _ _::_) _ _;(first|refine lx_ld lu rfl rfl ?_);simp only[pts])|(guard_target =~ Lx _ _ _ _ (Oper.mk _ (Op.alloc 47) _ _ _ _::_) _ _;refine lx_act (by rfl) (by rfl) ?_;intro K hK;go_simp;refine hK _ _ ⟨⟨_,pI _ ((pB _ hp).trans ((bel1 W _).mono (pB _ hp).size))⟩,rfl⟩ ?_;clear hK K)|(guard_target =~ Lx _ _ _ _ (Oper.mk _ (Op.store 47 _ _) _ _ _ _::_) _ _;obtain⟨W2,s2,hY,hb2,hz2⟩:=ld_new W xt px cx;refine lx_st (s2 _ rfl) ⟨⟨W2,pI _ ((pB _ hp).trans (hb2.mono (pB _ hp).size))⟩,rfl⟩ rfl rfl (by rfl) ?_;clear s2;simp only[pts])|(refine lx_one rfl ?_;(first|go_big_quiet_skip|(go_big_quiet_want;go_big_quiet_op;go_big_quiet_on));refine wpQuiet_nil ?_)|(refine lx_skip (by rfl) ?_;simp only[pts]))
 refine lx_done ?_
 have hbW:=pB _ hp
 have hb:Below w.heap.size w W2:=hb1.out.trans ((hbW.trans (hb2.mono hbW.size)).mono hb1.out.size)
 have h2:=h.out.below hb
 have hTT:TkC W2 w.heap.size 0 t pc cc:=hA.out.below (B:=W1.heap.size) (by omega) (hbW.trans (hb2.mono hbW.size))
 have gT:w.heap.size≠c.go:=by omega
 have gO:W.heap.size≠c.go:=by have:=hbW.size;omega
 have gTl:w.heap.size<W2.heap.size:=by have:=hbW.size;omega
 have gOl:W.heap.size<W2.heap.size:=by omega
 have t3:=hTT.c3
 have t4:=hTT.c4
 have t5:=hTT.c5
 have t8:=hTT.c8
 have t12:=hTT.c12
 have o5:=hY.c5
 have o14:=hY.c14
 replace h2:=Hid.mk h2
 replace hb:=Hid.mk hb
 replace hTT:=Hid.mk hTT
 replace hYY:Hid _:=⟨hY⟩
 clear pB pI p0 f0 f12 hNe hp lu hY hbW
 simp only[Nat.zero_add] at t3 t4 t5 t8 t12 o5 o14
 have v2:=h2.out.ds.fm.c2
 have x3:=h2.out.sc.c3
 by_cases k0:t.since<xt.since
 ·have d0_0:decide (t.since<xt.since)=true:=by simp;omega
  have HX:Hid (¬ P):=⟨fun p=>by have:=hP.out.1 p;omega⟩
  go_wp2_with fail
  go_quiet (fail)
  go_wp2_with fail
  go_ret
  exact Lfd.no HX.out (Kb.of_below (tdr hb.out))
 have d0_0:decide (t.since<xt.since)=false:=by simp;omega
 by_cases k1:t.since<x.snc
 ·have d1_0:decide (t.since<x.snc)=true:=by simp;omega
  have HX:Hid (¬ P):=⟨fun p=>by have:=hP.out.1 p;omega⟩
  go_wp2_with fail
  go_quiet (fail)
  go_wp2_with fail
  go_ret
  exact Lfd.no HX.out (Kb.of_below (tdr hb.out))
 have d1_0:decide (t.since<x.snc)=false:=by simp;omega
 by_cases k2:f.ver<t.since
 ·have d2_0:decide (t.since > f.ver)=true:=by simp;omega
  have HX:Hid (¬ P):=⟨fun p=>by have:=hP.out.1 p;omega⟩
  go_wp2_with fail
  go_quiet (fail)
  go_wp2_with fail
  go_ret
  exact Lfd.no HX.out (Kb.of_below (tdr hb.out))
 have d2_0:decide (t.since > f.ver)=false:=by simp;omega
 by_cases k3:t.pres<0
 ·have d3_0:decide (t.pres<0)=true:=by simp;omega
  have HX:Hid (¬ P):=⟨fun p=>by have:=hP.out.1 p;omega⟩
  go_wp2_with fail
  go_quiet (fail)
  go_wp2_with fail
  go_ret
  exact Lfd.no HX.out (Kb.of_below (tdr hb.out))
 have d3_0:decide (t.pres<0)=false:=by simp;omega
 by_cases k4:2<t.pres
 ·have d4_0:decide (t.pres > 2)=true:=by simp;omega
  have HX:Hid (¬ P):=⟨fun p=>by have:=hP.out.1 p;omega⟩
  go_wp2_with fail
  go_quiet (fail)
  go_wp2_with fail
  go_ret
  exact Lfd.no HX.out (Kb.of_below (tdr hb.out))
 have d4_0:decide (t.pres > 2)=false:=by simp;omega
 have hc:((t.pres==0)=true/\(t.since != xt.since)=true/\t.pres=0/\t.since≠xt.since)\/((t.pres==0)=true/\(t.since != xt.since)=false/\t.since=xt.since)\/((t.pres==0)=false/\t.pres≠0):=by
  by_cases e:t.pres=0
  ·by_cases e2:t.since=xt.since
   ·exact .inr (.inl ⟨by simp[e],by simp[e2],e2⟩)
   ·exact .inl ⟨by simp[e],by simp[e2],e,e2⟩
  ·exact .inr (.inr ⟨by simp[e],e⟩)
 rcases hc with ⟨c1,c2,c3,c4⟩|hc
 ·have HX:Hid (¬ P):=⟨fun p=>by have:=hP.out.1 p;omega⟩
  clear c3 c4
  go_wp2_with fail
  go_quiet (fail)
  go_wp2_with fail
  go_ret
  exact Lfd.no HX.out (Kb.of_below (tdr hb.out))
 have hc2:Hid (t.pres=0->t.since=xt.since):=⟨by rcases hc with ⟨_,_,e⟩|⟨_,e⟩<;>omega⟩
 have hP1:Hid (P↔((t.pres=2/\t.off=0/\t.siz=0/\0<t.cst.length)\/(t.pres≠2/\t.cst.length=0/\0<=t.siz/\0<=t.off/\(t.siz=0->t.off=0)/\t.off<=xt.blk/\t.siz<=xt.blk-t.off/\u.siz=t.siz/\(0<t.siz->x.en<=t.off)))):=⟨by
  rw[hP.out]
  have:=hc2.out
  constructor
  ·exact fun h=>h.2
  ·exact fun h=>⟨⟨by omega,by omega,by omega,by omega,by omega,this⟩,h⟩⟩
 clear hP hc2
 have nB:c.B≠c.go:=h.out.ap.Bo
 have ng:c.g≠c.go:=by have:=h.out.ap.g;have:=h.out.ap.go;omega
 obtain⟨pu,cu,hTu,_,_,hOu⟩:=h2.out.at hu
 have u4:=hTu.c4
 have x2:=h2.out.sc.c2
 have v12:=h2.out.ds.c12
 have z3:W2.frozen? ⟨c.go,L.length*5+3,none⟩=false:=h2.out.op.frz _
 have z2:W2.frozen? ⟨c.go,L.length*5+2,none⟩=false:=h2.out.op.frz _
 have hi1:(c.i:Int)+1<f.toks.length:=by have:=(List.getElem?_eq_some_iff.1 hu).1;omega
 have d9:decide ((c.i:Int)+1≥f.toks.length)=false:=by simp;omega
 have hblk:=hOx.out.blk
 have hoff:=hO.out.off
 have hsiz:=hO.out.siz
 unfold i64ok at hblk hoff hsiz
 clear hTu hOu hii hxl b12
 have KB:∀ (n:Nat) (v:Value),Kb [c.go] w ((W2.drewN n).setCell ⟨c.go,L.length*5+3,none⟩ v):=fun n v=>(Kb.of_below (tdr hb.out)).set (List.mem_singleton.2 rfl) _
 have KC:∀ (n m:Nat) (v:Value),Kb [c.go] w (((W2.drewN n).setCell ⟨c.go,L.length*5+3,none⟩ v).drewN m):=fun n m v=>⟨(KB n v).os,(KB n v).tape,(KB n v).output,(KB n v).size,(KB n v).block⟩
 have DB:∀ n:Nat,Dt ((W2.drewN n).setCell ⟨c.go,L.length*5+3,none⟩ (.int .i64 t.since)) c f L { x with snc:=t.since } xt t ids vi:=fun n=>(h2.out.below (tdr (Below.refl _ _))).wrote (x':={ x with snc:=t.since }) (by decide) rfl rfl
 have DC:∀ n m:Nat,Dt (((W2.drewN n).setCell ⟨c.go,L.length*5+3,none⟩ (.int .i64 t.since)).drewN m) c f L { x with snc:=t.since } xt t ids vi:=fun n m=>(DB n).below (tdr (Below.refl _ _))
 have hN:Hid (∀ n,t.cst.length=n->(P↔((t.pres=2/\t.off=0/\t.siz=0/\0<n)\/(t.pres≠2/\n=0/\0<=t.siz/\0<=t.off/\(t.siz=0->t.off=0)/\t.off<=xt.blk/\t.siz<=xt.blk-t.off/\u.siz=t.siz/\(0<t.siz->x.en<=t.off))))):=⟨fun n e=>e▸hP1.out⟩
 obtain⟨n,hn⟩:∃ n,t.cst.length=n:=⟨_,rfl⟩
 rw[hn] at t12
 have hP:=Hid.mk (hN.out n hn)
 replace DB:=Hid.mk DB
 replace DC:=Hid.mk DC
 replace KB:=Hid.mk KB
 replace KC:=Hid.mk KC
 clear hn hN hP1
 rcases hc with ⟨c1,c2,c3⟩|⟨c1,c2⟩
 all_goals
  try clear c3
  go_wp2_with fail
  go_quiet (fail)
  clear d0_0 d1_0 d2_0 d3_0 d4_0 c1 c2 k0 k1 k2 k3 k4
  by_cases e2:t.pres=2
  ·have m2:(t.pres==2)=true:=by simp[e2]
   by_cases e3:t.off=0
   ·have m3:(t.off==0)=true:=by simp[e3]
    by_cases e4:t.siz=0
    ·have m4:(t.siz==0)=true:=by simp[e4]
     have HX:Hid (P↔0<n):=⟨by rw[hP.out];omega⟩
     have HE:Hid (¬ (t.pres≠2/\0<t.siz)):=⟨by omega⟩
     clear e2 e3 e4 hP
     go_wp2_with fail
     go_ret
     refine⟨_,rfl,Iff.trans ?_ HX.out.symm,KB.out _ _,fun _=>hQ.out _ ?_⟩
     ·simp
     ·rw[if_neg HE.out]
      exact DB.out _
    ·have m4:(t.siz==0)=false:=by simp[e4]
     have HX:Hid (¬ P):=⟨by rw[hP.out];omega⟩
     clear e2 e3 e4 hP
     go_wp2_with fail
     go_ret
     exact Lfd.no HX.out (KB.out _ _)
   ·have m3:(t.off==0)=false:=by simp[e3]
    have HX:Hid (¬ P):=⟨by rw[hP.out];omega⟩
    clear e2 e3 hP
    go_wp2_with fail
    go_ret
    exact Lfd.no HX.out (KB.out _ _)
  have m2:(t.pres==2)=false:=by simp[e2]
  have HE2:Hid (t.pres≠2):=⟨e2⟩
  by_cases q0:n≠0
  ·have r0:((n:Int) != 0)=true:=by simp;omega
   have r0':(n != 0)=true:=by simp;omega
   have HX:Hid (¬ P):=⟨by rw[hP.out];omega⟩
   clear q0
   go_wp2_with fail
   go_ret
   exact Lfd.no HX.out (KB.out _ _)
  have r0:((n:Int) != 0)=false:=by simp;omega
  have r0':(n != 0)=false:=by simp;omega
  replace q0:Hid _:=⟨Decidable.not_not.1 q0⟩
  have hP3:Hid (P↔(0<=t.siz/\0<=t.off/\(t.siz=0->t.off=0)/\t.off<=xt.blk/\t.siz<=xt.blk-t.off/\u.siz=t.siz/\(0<t.siz->x.en<=t.off))):=⟨by rw[hP.out];have:=q0.out;omega⟩
  clear hP e2
  have hP:=hP3
  clear hP3
  by_cases q1:t.siz<0
  ·have r1_0:decide (t.siz<0)=true:=by simp<;>omega
   have HX:Hid (¬ P):=⟨by rw[hP.out];omega⟩
   go_wp2_with fail
   go_ret
   exact Lfd.no HX.out (KB.out _ _)
  have r1_0:decide (t.siz<0)=false:=by simp<;>omega
  by_cases q2:t.off<0
  ·have r2_0:decide (t.off<0)=true:=by simp<;>omega
   have HX:Hid (¬ P):=⟨by rw[hP.out];omega⟩
   go_wp2_with fail
   go_ret
   exact Lfd.no HX.out (KB.out _ _)
  have r2_0:decide (t.off<0)=false:=by simp<;>omega
  by_cases q3:t.siz=0/\t.off≠0
  ·have r3:(t.siz==0)=true:=by simp[q3.1]
   have r4:(t.off != 0)=true:=by simp[q3.2]
   have HX:Hid (¬ P):=⟨by rw[hP.out];omega⟩
   clear q3
   go_wp2_with fail
   go_ret
   exact Lfd.no HX.out (KB.out _ _)
  have r3:((t.siz==0)=true/\(t.off != 0)=false)\/(t.siz==0)=false:=by
   by_cases e:t.siz=0
   ·exact .inl ⟨by simp[e],by simp;omega⟩
   ·exact .inr (by simp[e])
  rcases r3 with ⟨r3,r4⟩|r3
  all_goals
   by_cases q4:xt.blk<t.off
   ·have r5:decide (t.off > xt.blk)=true:=by simp;omega
    have HX:Hid (¬ P):=⟨by rw[hP.out];omega⟩
    go_wp2_with fail
    go_ret
    exact Lfd.no HX.out (KB.out _ _)
   have r5:decide (t.off > xt.blk)=false:=by simp;omega
   have hw:IntKind.i64.wrap (xt.blk-t.off)=xt.blk-t.off:=by rw[IntKind.wrap_i64];omega
   by_cases q5:xt.blk-t.off<t.siz
   ·have r6:decide (t.siz > xt.blk-t.off)=true:=by simp;omega
    have HX:Hid (¬ P):=⟨by rw[hP.out];omega⟩
    go_wp2_with fail
    go_ret
    exact Lfd.no HX.out (KB.out _ _)
   have r6:decide (t.siz > xt.blk-t.off)=false:=by simp;omega
   have hw2:IntKind.i64.wrap (t.off+t.siz)=t.off+t.siz:=by rw[IntKind.wrap_i64];omega
   by_cases q6:u.siz=t.siz
   ·have r7:(u.siz != t.siz)=false:=by simp[q6]
    replace q6:=Hid.mk q6
    by_cases q7:0<t.siz
    ·have r8:decide (t.siz > 0)=true:=by simp;omega
     by_cases q8:t.off<x.en
     ·have r9:decide (t.off<x.en)=true:=by simp;omega
      have HX:Hid (¬ P):=⟨by rw[hP.out];omega⟩
      go_wp2_with fail
      go_quiet (fail)
      go_wp2_with fail
      go_quiet (fail)
      go_wp2_with fail
      go_ret
      exact Lfd.no HX.out (Kb.drewM (KC.out _ _ _) _)
     ·have r9:decide (t.off<x.en)=false:=by simp;omega
      have HX:Hid P:=⟨by rw[hP.out];have:=q6.out;omega⟩
      have HE:Hid (t.pres≠2/\0<t.siz):=⟨HE2.out,q7⟩
      go_wp2_with fail
      go_quiet (fail)
      go_wp2_with fail
      go_quiet (fail)
      go_wp2_with fail
      go_ret
      refine Lfd.yes HX.out ((KC.out _ _ _).set (List.mem_singleton.2 rfl) _) (hQ.out _ ?_)
      rw[if_pos HE.out]
      exact(DC.out _ _).wrote (j:=2) (by decide) rfl rfl
    ·have r8:decide (t.siz > 0)=false:=by simp;omega
     have HX:Hid P:=⟨by rw[hP.out];have:=q6.out;omega⟩
     have HE:Hid (¬ (t.pres≠2/\0<t.siz)):=⟨fun e=>q7 e.2⟩
     go_wp2_with fail
     go_quiet (fail)
     go_wp2_with fail
     go_ret
     refine Lfd.yes HX.out (KC.out _ _ _) (hQ.out _ ?_)
     rw[if_neg HE.out]
     exact DC.out _ _
   ·have r7:(u.siz != t.siz)=true:=by simp[q6]
    have HX:Hid (¬ P):=⟨by rw[hP.out];omega⟩
    clear q6
    go_wp2_with fail
    go_quiet (fail)
    go_wp2_with fail
    go_ret
    exact Lfd.no HX.out (KC.out _ _ _)
theorem od_ext {a b:Od} (h1:a.at_=b.at_) (h2:a.stg=b.stg) (h3:a.en=b.en) (h4:a.snc=b.snc) (h5:a.row=b.row):a=b:=by
 cases a;cases b
 simp only at h1 h2 h3 h4 h5
 subst h1 h2 h3 h4 h5
 rfl
theorem stg_b {l:List Tk} {n:Nat} (h:sc.kids.length<=n) (hn:n<=733007751850):0<=stgO l sc/\stgO l sc<=1000000000000:=by
 unfold stgO
 split
 ·split
  ·omega
  ·split<;>omega
 ·split
  ·split<;>omega
  ·omega
theorem all_at {i:Nat} {x:Od} (hA:∀ a∈sc::r,ScOk f.toks i a) (h:x.at_=sc.at_):∀ y∈r.reverse.map (odOf f.toks)++[x],y.at_<f.toks.length:=by
 intro y hy
 rcases List.mem_append.1 hy with hy|hy
 ·obtain⟨a,ha,rfl⟩:=List.mem_map.1 hy
  exact(List.getElem?_eq_some_iff.1 (hA a (List.mem_cons_of_mem _ (List.mem_reverse.1 ha))).tk).1
 ·rw[List.mem_singleton.1 hy,h]
  exact(List.getElem?_eq_some_iff.1 (hA sc (List.mem_cons_self ..)).tk).1
theorem takes_doc {c:Df} {t:Tk} {ids:List Int} {vi:Value} {w:World} (H:Inv f c.i ⟨sc::r,ids⟩) (hS:Srt (sc::r)) (ht:f.toks[c.i]?=some t) (he:edO t.op=false) (hkl:sc.kids.length<=c.i) (h:Dt w c f (r.reverse.map (odOf f.toks)) (odOf f.toks sc) sc.tk t ids vi) :
  Calls Tryz.prog 33 #[.pointer (some ⟨c.B,0,none⟩),.int .i64 (c.i:Int)] w fun rr w'=>∃ b,rr = .returned (.bool b)/\(b=true↔inOk f (sc::r) ids c.i sc t=true)/\Kb (c.go::c.B::vi.ownBlock.toList) w w'/\(b=true->∃ vi',Dt w' c f (r.reverse.map (odOf f.toks)) (odOf f.toks (metX sc c.i t)) sc.tk t (if ptO t.op then ids++[t.id] else ids) vi'):=by
 have hx:=H.all sc (List.mem_cons_self ..)
 have hmd:=may_doc (op:=t.op) hx he
 have hll:=h.ll
 have hil:=h.il
 have hids:ids.length<=c.i:=H.ids
 have hsb:=stg_b (l:=f.toks) hkl (by omega)
 by_cases hN:mayD sc.tk.op (odOf f.toks sc).stg t.op=true/\plainB t=true/\symbolB t.name=true/\(if bgO t.op then pairB f.toks c.i t else decide (t.pair=c.i))=true
 case neg =>
  refine(refTakes_no c f _ _ _ t ids vi w h hN).mono fun rr w' hh=>⟨false,hh.1,⟨(fun e=>by cases e),fun e=>?_⟩,Kb.of_below hh.2,fun e=>by cases e⟩
  exfalso
  obtain⟨h1,h2,h3,h4,h5,_⟩:=inOk_in e he
  refine hN ⟨hmd.trans h1,h2,h3,?_⟩
  cases hb:bgO t.op with
  | true=>rw[if_pos rfl];exact h4 hb
  | false=>rw[if_neg (by decide)];exact decide_eq_true (h5 hb)
 obtain⟨n1,n2,n3,n4⟩:=hN
 have hm:mayB f.toks sc t.op=true:=hmd.symm.trans n1
 rw[inOk_rul (o:=sc::r) (ids:=ids) he hm n2 n3 n4]
 have hty:=may_typ hm he hx.beg
 have hod:=od_met hx ht hm he
 have part:∀ {k:Int},t.op=k->(k=2\/k=4\/k=6)->(sc.tk.op=0\/sc.tk.op=4)/\ptO t.op=true/\tyO t.op=false:=fun e hk=>by
  have ht2:tyO t.op=false:=by unfold tyO;exact decide_eq_false (by omega)
  rcases hty with ⟨h1,h2,_⟩|⟨_,_,h2⟩|⟨_,h2⟩|⟨_,⟨_,h2⟩|⟨_,h2⟩⟩
  ·exact⟨h1,h2,ht2⟩
  ·rw[ht2] at h2;cases h2
  ·rw[ht2] at h2;cases h2
  ·omega
  ·omega
 by_cases k2:t.op=2
 ·obtain⟨hpo,hpt,hnt⟩:=part k2 (.inl rfl)
  obtain⟨u,hu⟩:∃ u,f.toks[c.i+1]?=some u:=by
   have hb:bgO t.op=true:=by rw[k2];rfl
   rw[hb,if_pos rfl] at n4
   obtain⟨n,v,hn,hlt,hll,_⟩:=pairB_get n4
   exact⟨f.toks[c.i+1]'(by omega),List.getElem?_eq_getElem (by omega)⟩
  have hrul:rulB f (sc::r) ids c.i sc t=(newB f.toks ids sc t&&fldR f c.i sc t):=by unfold rulB;rw[if_pos k2,fld_split]
  rw[hrul,hpt,if_pos rfl]
  have hm2:odOf f.toks (metX sc c.i t)={ odOf f.toks sc with snc:=t.since,en:=if t.pres≠2/\0<t.siz then t.off+t.siz else (odOf f.toks sc).en }:=by
   rw[hod]
   refine od_ext rfl ?_ ?_ ?_ ?_
   ·show (if t.op=4 then (1:Int) else if t.op=6 then 2 else if tyO t.op then stgO f.toks sc+1 else stgO f.toks sc)=stgO f.toks sc
    rw[if_neg (by omega),if_neg (by omega),hnt,if_neg (by decide)]
   ·show (if 0<t.siz/\((t.op=2/\t.pres≠2)\/sc.tk.op=8) then t.off+t.siz else sc.e0)=if t.pres≠2/\0<t.siz then t.off+t.siz else sc.e0
    have:(0<t.siz/\((t.op=2/\t.pres≠2)\/sc.tk.op=8))↔(t.pres≠2/\0<t.siz):=by omega
    simp only[this]
   ·show (if t.op=2 then t.since else sc.fld)=t.since
    rw[if_pos k2]
   ·show (if (t.op=4\/t.op=6)/\sc.tk.op≠4 then t.since else sc.row)=sc.row
    rw[if_neg (by omega)]
  rw[hm2]
  refine(refTakes_p 2 _ c f _ (odOf f.toks sc) _ _ sc.tk t ids vi w (newB f.toks ids sc t=true) (fldR f c.i sc t=true) (fun w'=>∃ vi',Dt w' c f (r.reverse.map (odOf f.toks)) { odOf f.toks sc with snc:=t.since,en:=if t.pres≠2/\0<t.siz then t.off+t.siz else (odOf f.toks sc).en } sc.tk t (ids++[t.id]) vi') h k2 (.inl ⟨rfl,rfl,rfl⟩) n1 n2 n3 n4 (by omega) (fun W hW=>named_doc hW rfl H hS)
   (fun W hW=>refFielded_any c f _ (odOf f.toks sc) sc.tk t u ids vi W _ _ hW hu ⟨fldR_iff hx.e0.1 hx.fld hx.blk.1 hu⟩ ⟨fun _ hd=>hd⟩) ⟨fun _ vi' hd=>⟨vi',hd⟩⟩).mono ?_
  rintro rr w' ⟨b,e,hb,hk,hq⟩
  exact⟨b,e,by rw[hb,Bool.and_eq_true],hk,hq⟩
 by_cases k4:t.op=4
 ·obtain⟨hpo,hpt,hnt⟩:=part k4 (by omega)
  have hrul:rulB f (sc::r) ids c.i sc t=(newB f.toks ids sc t&&grpR f (sc::r) sc t):=by unfold rulB;rw[if_neg k2,if_pos k4,grp_split]
  rw[hrul,hpt,if_pos rfl]
  by_cases hp4:sc.tk.op=4
  ·skip
   have hm2:odOf f.toks (metX sc c.i t)={ odOf f.toks sc with stg:=1 }:=by
    rw[hod]
    refine od_ext rfl ?_ ?_ ?_ ?_
    ·show (if t.op=4 then (1:Int) else if t.op=6 then 2 else if tyO t.op then stgO f.toks sc+1 else stgO f.toks sc)=1
     rw[if_pos k4]
    ·show (if 0<t.siz/\((t.op=2/\t.pres≠2)\/sc.tk.op=8) then t.off+t.siz else sc.e0)=sc.e0
     rw[if_neg (by omega)]
    ·show (if t.op=2 then t.since else sc.fld)=sc.fld
     rw[if_neg k2]
    ·show (if (t.op=4\/t.op=6)/\sc.tk.op≠4 then t.since else sc.row)=sc.row
     rw[if_neg (by omega)]
   rw[hm2]
   refine(refTakes_p 4 _ c f _ (odOf f.toks sc) _ { odOf f.toks sc with stg:=1 } sc.tk t ids vi w (newB f.toks ids sc t=true) (grpR f (sc::r) sc t=true) (fun w'=>∃ vi',Dt w' c f (r.reverse.map (odOf f.toks)) { odOf f.toks sc with stg:=1 } sc.tk t (ids++[t.id]) vi') h k4 (.inr (.inl ⟨rfl,rfl,rfl⟩)) n1 n2 n3 n4 (by omega) (fun W hW=>named_doc hW rfl H hS)
    (fun W hW=>refRowed_gg c f _ { odOf f.toks sc with stg:=1 } sc.tk t ids vi W _ _ hW hp4 k4 (all_at H.all rfl) ⟨by
     unfold grpR
     rw[Bool.and_eq_true,Bool.and_eq_true,rowB_iff hx.row,blkB_iff,cnt_sc (sc:=sc) H.all rfl]
     simp only[Bool.and_eq_true,decide_eq_true_eq]
     simp[hp4,and_assoc]⟩ ⟨fun _ hd=>hd⟩) ⟨fun _ vi' hd=>⟨vi',hd⟩⟩).mono ?_
   rintro rr w' ⟨b,e,hb,hk,hq⟩
   exact⟨b,e,by rw[hb,Bool.and_eq_true],hk,hq⟩
  ·skip
   have hm2:odOf f.toks (metX sc c.i t)={ ({ odOf f.toks sc with stg:=1 }:Od) with row:=t.since }:=by
    rw[hod]
    refine od_ext rfl ?_ ?_ ?_ ?_
    ·show (if t.op=4 then (1:Int) else if t.op=6 then 2 else if tyO t.op then stgO f.toks sc+1 else stgO f.toks sc)=1
     rw[if_pos k4]
    ·show (if 0<t.siz/\((t.op=2/\t.pres≠2)\/sc.tk.op=8) then t.off+t.siz else sc.e0)=sc.e0
     rw[if_neg (by omega)]
    ·show (if t.op=2 then t.since else sc.fld)=sc.fld
     rw[if_neg k2]
    ·show (if (t.op=4\/t.op=6)/\sc.tk.op≠4 then t.since else sc.row)=t.since
     rw[if_pos ⟨by omega,hp4⟩]
   rw[hm2]
   refine(refTakes_p 4 _ c f _ (odOf f.toks sc) _ { ({ odOf f.toks sc with stg:=1 }:Od) with row:=t.since } sc.tk t ids vi w (newB f.toks ids sc t=true) (grpR f (sc::r) sc t=true) (fun w'=>∃ vi',Dt w' c f (r.reverse.map (odOf f.toks)) { ({ odOf f.toks sc with stg:=1 }:Od) with row:=t.since } sc.tk t (ids++[t.id]) vi') h k4 (.inr (.inl ⟨rfl,rfl,rfl⟩)) n1 n2 n3 n4 (by omega) (fun W hW=>named_doc hW rfl H hS)
    (fun W hW=>refRowed_mg c f _ { odOf f.toks sc with stg:=1 } sc.tk t ids vi W _ _ hW hp4 k4 (all_at H.all rfl) ⟨by
     unfold grpR
     rw[Bool.and_eq_true,Bool.and_eq_true,rowB_iff hx.row,blkB_iff,cnt_sc (sc:=sc) H.all rfl]
     simp only[Bool.and_eq_true,decide_eq_true_eq]
     simp[hp4,and_assoc,odOf]⟩ ⟨fun _ hd=>hd⟩) ⟨fun _ vi' hd=>⟨vi',hd⟩⟩).mono ?_
   rintro rr w' ⟨b,e,hb,hk,hq⟩
   exact⟨b,e,by rw[hb,Bool.and_eq_true],hk,hq⟩
 by_cases k6:t.op=6
 ·obtain⟨hpo,hpt,hnt⟩:=part k6 (by omega)
  have hrul:rulB f (sc::r) ids c.i sc t=(newB f.toks ids sc t&&datR f sc t):=by unfold rulB;rw[if_neg k2,if_neg k4,if_pos k6,dat_split]
  rw[hrul,hpt,if_pos rfl]
  by_cases hp4:sc.tk.op=4
  ·skip
   have hm2:odOf f.toks (metX sc c.i t)={ odOf f.toks sc with stg:=2 }:=by
    rw[hod]
    refine od_ext rfl ?_ ?_ ?_ ?_
    ·show (if t.op=4 then (1:Int) else if t.op=6 then 2 else if tyO t.op then stgO f.toks sc+1 else stgO f.toks sc)=2
     rw[if_neg k4,if_pos k6]
    ·show (if 0<t.siz/\((t.op=2/\t.pres≠2)\/sc.tk.op=8) then t.off+t.siz else sc.e0)=sc.e0
     rw[if_neg (by omega)]
    ·show (if t.op=2 then t.since else sc.fld)=sc.fld
     rw[if_neg k2]
    ·show (if (t.op=4\/t.op=6)/\sc.tk.op≠4 then t.since else sc.row)=sc.row
     rw[if_neg (by omega)]
   rw[hm2]
   refine(refTakes_p 6 _ c f _ (odOf f.toks sc) _ { odOf f.toks sc with stg:=2 } sc.tk t ids vi w (newB f.toks ids sc t=true) (datR f sc t=true) (fun w'=>∃ vi',Dt w' c f (r.reverse.map (odOf f.toks)) { odOf f.toks sc with stg:=2 } sc.tk t (ids++[t.id]) vi') h k6 (.inr (.inr ⟨rfl,rfl,rfl⟩)) n1 n2 n3 n4 (by omega) (fun W hW=>named_doc hW rfl H hS)
    (fun W hW=>refRowed_gd c f _ { odOf f.toks sc with stg:=2 } sc.tk t ids vi W _ _ hW hp4 k6 ⟨by
     unfold datR
     rw[Bool.and_eq_true,rowB_iff hx.row]
     simp only[Bool.and_eq_true,decide_eq_true_eq]
     simp[hp4,and_assoc]⟩ ⟨fun _ hd=>hd⟩) ⟨fun _ vi' hd=>⟨vi',hd⟩⟩).mono ?_
   rintro rr w' ⟨b,e,hb,hk,hq⟩
   exact⟨b,e,by rw[hb,Bool.and_eq_true],hk,hq⟩
  ·skip
   have hm2:odOf f.toks (metX sc c.i t)={ ({ odOf f.toks sc with stg:=2 }:Od) with row:=t.since }:=by
    rw[hod]
    refine od_ext rfl ?_ ?_ ?_ ?_
    ·show (if t.op=4 then (1:Int) else if t.op=6 then 2 else if tyO t.op then stgO f.toks sc+1 else stgO f.toks sc)=2
     rw[if_neg k4,if_pos k6]
    ·show (if 0<t.siz/\((t.op=2/\t.pres≠2)\/sc.tk.op=8) then t.off+t.siz else sc.e0)=sc.e0
     rw[if_neg (by omega)]
    ·show (if t.op=2 then t.since else sc.fld)=sc.fld
     rw[if_neg k2]
    ·show (if (t.op=4\/t.op=6)/\sc.tk.op≠4 then t.since else sc.row)=t.since
     rw[if_pos ⟨by omega,hp4⟩]
   rw[hm2]
   refine(refTakes_p 6 _ c f _ (odOf f.toks sc) _ { ({ odOf f.toks sc with stg:=2 }:Od) with row:=t.since } sc.tk t ids vi w (newB f.toks ids sc t=true) (datR f sc t=true) (fun w'=>∃ vi',Dt w' c f (r.reverse.map (odOf f.toks)) { ({ odOf f.toks sc with stg:=2 }:Od) with row:=t.since } sc.tk t (ids++[t.id]) vi') h k6 (.inr (.inr ⟨rfl,rfl,rfl⟩)) n1 n2 n3 n4 (by omega) (fun W hW=>named_doc hW rfl H hS)
    (fun W hW=>refRowed_md c f _ { odOf f.toks sc with stg:=2 } sc.tk t ids vi W _ _ hW hp4 k6 ⟨by
     unfold datR
     rw[Bool.and_eq_true,rowB_iff hx.row]
     simp only[Bool.and_eq_true,decide_eq_true_eq]
     simp[hp4,and_assoc,odOf]⟩ ⟨fun _ hd=>hd⟩) ⟨fun _ vi' hd=>⟨vi',hd⟩⟩).mono ?_
   rintro rr w' ⟨b,e,hb,hk,hq⟩
   exact⟨b,e,by rw[hb,Bool.and_eq_true],hk,hq⟩
 have hnp:ptO t.op=false:=by unfold ptO;exact decide_eq_false (by omega)
 rw[hnp,if_neg (by decide)]
 have typ:tyO t.op=true->(sc.tk.op=2\/sc.tk.op=8\/sc.tk.op=10\/sc.tk.op=12)/\((sc.tk.op=10\/sc.tk.op=12)->t.op=14):=fun e=>by
  have e':=e
  unfold tyO at e'
  have e':=decT e'
  rcases hty with ⟨_,h2,_⟩|⟨h1,_⟩|⟨h1,_⟩|⟨h1,⟨_,h2⟩|⟨_,h2⟩⟩
  ·rw[hnp] at h2;cases h2
  ·exact⟨by omega,by omega⟩
  ·exact⟨by omega,by omega⟩
  ·exact⟨by omega,by omega⟩
  ·omega
 have hmt:tyO t.op=true->odOf f.toks (metX sc c.i t)={ ({ odOf f.toks sc with en:=if sc.tk.op=8/\0<t.siz then t.off+t.siz else (odOf f.toks sc).en }:Od) with stg:=(odOf f.toks sc).stg+1 }:=fun e=>by
  rw[hod]
  refine od_ext rfl ?_ ?_ ?_ ?_
  ·show (if t.op=4 then (1:Int) else if t.op=6 then 2 else if tyO t.op then stgO f.toks sc+1 else stgO f.toks sc)=stgO f.toks sc+1
   rw[if_neg k4,if_neg k6,if_pos e]
  ·show (if 0<t.siz/\((t.op=2/\t.pres≠2)\/sc.tk.op=8) then t.off+t.siz else sc.e0)=if sc.tk.op=8/\0<t.siz then t.off+t.siz else sc.e0
   have:(0<t.siz/\((t.op=2/\t.pres≠2)\/sc.tk.op=8))↔(sc.tk.op=8/\0<t.siz):=by omega
   simp only[this]
  ·show (if t.op=2 then t.since else sc.fld)=sc.fld
   rw[if_neg k2]
  ·show (if (t.op=4\/t.op=6)/\sc.tk.op≠4 then t.since else sc.row)=sc.row
   rw[if_neg (by omega)]
 by_cases k8:t.op=8
 ·have hy:tyO t.op=true:=by rw[k8];rfl
  have hrul:rulB f (sc::r) ids c.i sc t=cmpB (sc::r) sc t:=by unfold rulB;rw[if_neg k2,if_neg k4,if_neg k6,if_pos k8]
  rw[hrul,hmt hy]
  refine(refTakes_8 c f _ (odOf f.toks sc) { odOf f.toks sc with en:=if sc.tk.op=8/\0<t.siz then t.off+t.siz else (odOf f.toks sc).en } sc.tk t ids vi w (plcB sc t=true) (fun w'=>∃ vi',Dt w' c f (r.reverse.map (odOf f.toks)) { ({ odOf f.toks sc with en:=if sc.tk.op=8/\0<t.siz then t.off+t.siz else (odOf f.toks sc).en }:Od) with stg:=(odOf f.toks sc).stg+1 } sc.tk t ids vi') h k8 n1 n2 n3 n4 hsb rfl (fun W hW=>fitted_doc hW hx rfl (typ hy).1) (cntD f.toks 8 (r.reverse.map (odOf f.toks)++[{ odOf f.toks sc with en:=if sc.tk.op=8/\0<t.siz then t.off+t.siz else (odOf f.toks sc).en }])) (fun W hW=>refCount_any c f _ _ sc.tk t ids vi 8 W hW (all_at H.all rfl)) ⟨fun _ hd=>⟨vi,hd⟩⟩).mono ?_
  rintro rr w' ⟨b,e,hb,hk,hq⟩
  exact⟨b,e,by rw[hb,cnt_sc (sc:=sc) H.all rfl];unfold cmpB;rw[Bool.and_eq_true,decide_eq_true_eq];exact and_comm,kb_go hk,hq⟩
 by_cases k10:t.op=10
 ·have hy:tyO t.op=true:=by rw[k10];rfl
  have hrul:rulB f (sc::r) ids c.i sc t=plcB sc t:=by unfold rulB;rw[if_neg k2,if_neg k4,if_neg k6,if_neg k8,if_pos (.inl k10)]
  rw[hrul,hmt hy]
  refine(refTakes_10 c f _ (odOf f.toks sc) { odOf f.toks sc with en:=if sc.tk.op=8/\0<t.siz then t.off+t.siz else (odOf f.toks sc).en } sc.tk t ids vi w (plcB sc t=true) (fun w'=>∃ vi',Dt w' c f (r.reverse.map (odOf f.toks)) { ({ odOf f.toks sc with en:=if sc.tk.op=8/\0<t.siz then t.off+t.siz else (odOf f.toks sc).en }:Od) with stg:=(odOf f.toks sc).stg+1 } sc.tk t ids vi') h k10 n1 n2 n3 n4 hsb rfl (fun W hW=>fitted_doc hW hx rfl (typ hy).1) ⟨fun _ hd=>⟨vi,hd⟩⟩).mono ?_
  rintro rr w' ⟨b,e,hb,hk,hq⟩
  exact⟨b,e,by rw[hb];simp,kb_go hk,hq⟩
 by_cases k12:t.op=12
 ·have hy:tyO t.op=true:=by rw[k12];rfl
  have hrul:rulB f (sc::r) ids c.i sc t=plcB sc t:=by unfold rulB;rw[if_neg k2,if_neg k4,if_neg k6,if_neg k8,if_pos (.inr k12)]
  rw[hrul,hmt hy]
  refine(refTakes_12 c f _ (odOf f.toks sc) { odOf f.toks sc with en:=if sc.tk.op=8/\0<t.siz then t.off+t.siz else (odOf f.toks sc).en } sc.tk t ids vi w (plcB sc t=true) (fun w'=>∃ vi',Dt w' c f (r.reverse.map (odOf f.toks)) { ({ odOf f.toks sc with en:=if sc.tk.op=8/\0<t.siz then t.off+t.siz else (odOf f.toks sc).en }:Od) with stg:=(odOf f.toks sc).stg+1 } sc.tk t ids vi') h k12 n1 n2 n3 n4 hsb rfl (fun W hW=>fitted_doc hW hx rfl (typ hy).1) ⟨fun _ hd=>⟨vi,hd⟩⟩).mono ?_
  rintro rr w' ⟨b,e,hb,hk,hq⟩
  exact⟨b,e,by rw[hb];simp,kb_go hk,hq⟩
 by_cases k14:t.op=14
 ·have hy:tyO t.op=true:=by rw[k14];rfl
  have hrul:rulB f (sc::r) ids c.i sc t=encB sc t:=by unfold rulB;rw[if_neg k2,if_neg k4,if_neg k6,if_neg k8,if_neg (by omega),if_pos k14]
  rw[hrul,hmt hy]
  refine(refTakes_14 c f _ (odOf f.toks sc) { odOf f.toks sc with en:=if sc.tk.op=8/\0<t.siz then t.off+t.siz else (odOf f.toks sc).en } sc.tk t ids vi w (plcB sc t=true) (fun w'=>∃ vi',Dt w' c f (r.reverse.map (odOf f.toks)) { ({ odOf f.toks sc with en:=if sc.tk.op=8/\0<t.siz then t.off+t.siz else (odOf f.toks sc).en }:Od) with stg:=(odOf f.toks sc).stg+1 } sc.tk t ids vi') h k14 n1 n2 n3 n4 hsb rfl (fun W hW=>fitted_doc hW hx rfl (typ hy).1) ⟨fun _ hd=>⟨vi,hd⟩⟩).mono ?_
  rintro rr w' ⟨b,e,hb,hk,hq⟩
  exact⟨b,e,by rw[hb,enc_split,Bool.and_eq_true],kb_go hk,hq⟩
 have k15:t.op=15/\(sc.tk.op=10\/sc.tk.op=12)/\sc.kids≠[]:=by
  rcases hty with ⟨_,h2,_⟩|⟨_,_,h2⟩|⟨_,h2⟩|⟨h1,⟨_,h2⟩|⟨h3,h2⟩⟩
  ·rw[hnp] at h2;cases h2
  ·unfold tyO at h2;have:=decT h2;omega
  ·unfold tyO at h2;have:=decT h2;omega
  ·omega
  ·exact⟨h2,h1,h3⟩
 obtain⟨k15,hpo,hkn⟩:=k15
 obtain⟨hkr,hv⟩:=H.nest.2.1 hpo
 obtain⟨v,hv,_⟩:=hv hkn
 have hne:tyO t.op=false:=by rw[k15];rfl
 have hm2:odOf f.toks (metX sc c.i t)=odOf f.toks sc:=by
  rw[hod]
  refine od_ext rfl ?_ ?_ ?_ ?_
  ·show (if t.op=4 then (1:Int) else if t.op=6 then 2 else if tyO t.op then stgO f.toks sc+1 else stgO f.toks sc)=stgO f.toks sc
   rw[if_neg k4,if_neg k6,hne,if_neg (by decide)]
  ·show (if 0<t.siz/\((t.op=2/\t.pres≠2)\/sc.tk.op=8) then t.off+t.siz else sc.e0)=sc.e0
   rw[if_neg (by omega)]
  ·show (if t.op=2 then t.since else sc.fld)=sc.fld
   rw[if_neg k2]
  ·show (if (t.op=4\/t.op=6)/\sc.tk.op≠4 then t.since else sc.row)=sc.row
   rw[if_neg (by omega)]
 have hxi:sc.at_+2<=c.i:=by
  have hlt:=hx.lt
  have:sc.kids.length≠0:=fun e=>hkn (List.length_eq_zero_iff.1 e)
  rw[hkr,List.length_range'] at this
  omega
 have hcod:codP f.toks sc=v.prim:=by
  unfold codP
  rw[if_pos ⟨hpo,fun e=>hkn (List.length_eq_zero_iff.1 e)⟩,hv]
 have hrul:rulB f (sc::r) ids c.i sc t=choB f.toks sc t:=by unfold rulB;rw[if_neg k2,if_neg k4,if_neg k6,if_neg k8,if_neg (by omega),if_neg k14]
 have hno:=cho_no (l:=f.toks) (t:=t) hkr
 rw[hrul,hm2]
 have key:∀ C:Prop,(choB f.toks sc t=true↔((0<=t.since/\t.since<=65534)/\C/\∀ k,sc.at_+2<=k->k<c.i->∀ u,f.toks[k]?=some u->¬ (u.name=t.name\/u.val=t.val)))->(∀ W,Dt W c f (r.reverse.map (odOf f.toks)) (odOf f.toks sc) sc.tk t ids vi->Calls Tryz.prog 55 #[.pointer (some ⟨c.B,0,none⟩),.int .i64 (c.i:Int),.pointer (some ⟨c.go,(r.reverse.map (odOf f.toks)).length*5,none⟩)] W fun r w'=>Ans r (choB f.toks sc t=true)/\Below W.heap.size W w')->Calls Tryz.prog 33 #[.pointer (some ⟨c.B,0,none⟩),.int .i64 (c.i:Int)] w fun rr w'=>∃ b,rr = .returned (.bool b)/\(b=true↔choB f.toks sc t=true)/\Kb (c.go::c.B::vi.ownBlock.toList) w w'/\(b=true->∃ vi',Dt w' c f (r.reverse.map (odOf f.toks)) (odOf f.toks sc) sc.tk t ids vi'):=fun C _ cF=>by
  refine(refTakes_15 c f _ (odOf f.toks sc) sc.tk t ids vi w (choB f.toks sc t=true) h k15 n1 n2 n3 n4 cF).mono ?_
  rintro rr w' ⟨⟨b,e,hb⟩,hbl⟩
  exact⟨b,e,hb,Kb.of_below hbl,fun _=>⟨vi,h.below hbl⟩⟩
 rcases hpo with e10|e12
 ·have hC:choB f.toks sc t=true↔((0<=t.since/\t.since<=65534)/\fitsP v.prim t.val=true/\∀ k,sc.at_+2<=k->k<c.i->∀ u,f.toks[k]?=some u->¬ (u.name=t.name\/u.val=t.val)):=by
   rw[<- hno]
   unfold choB bet
   rw[if_neg (by omega),hcod]
   simp only[Bool.and_eq_true,decide_eq_true_eq,Bool.not_eq_true']
   constructor
   ·rintro⟨⟨⟨a,b⟩,c⟩,d⟩;exact⟨a,d,b,c⟩
   ·rintro⟨a,d,b,c⟩;exact⟨⟨⟨a,b⟩,c⟩,d⟩
  exact key _ hC fun W hW=>refChosen_10 c f _ (odOf f.toks sc) sc.tk t v ids vi W _ hW e10 hv hxi ⟨hC⟩
 ·have hC:choB f.toks sc t=true↔((0<=t.since/\t.since<=65534)/\t.val<8*sz v.prim/\∀ k,sc.at_+2<=k->k<c.i->∀ u,f.toks[k]?=some u->¬ (u.name=t.name\/u.val=t.val)):=by
   rw[<- hno]
   unfold choB bet
   rw[if_pos e12,hcod]
   simp only[Bool.and_eq_true,decide_eq_true_eq,Bool.not_eq_true']
   constructor
   ·rintro⟨⟨⟨a,b⟩,c⟩,d⟩;exact⟨a,d,b,c⟩
   ·rintro⟨a,d,b,c⟩;exact⟨⟨⟨a,b⟩,c⟩,d⟩
  exact key _ hC fun W hW=>refChosen_12 c f _ (odOf f.toks sc) sc.tk t v ids vi W _ hW e12 hv hxi ⟨hC⟩
end Go.Proofs.YtkcjdncchoohoaaGreatDoor
