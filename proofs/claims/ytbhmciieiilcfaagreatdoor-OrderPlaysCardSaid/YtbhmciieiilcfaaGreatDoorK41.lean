import Derived.Test.YtbhmciieiilcfaaGreatDoorK35
namespace Go.Proofs.YtbhmciieiilcfaaGreatDoor
set_option maxRecDepth 1000000
set_option maxHeartbeats 16000000
open Go.ChangeShapes Go.WideShapes Go.ChangeAt Go.RowKit Go.Shelf Go.Maps
variable {H n:Nat} {L:List Od} {W Wp w w' we:World} {c:Df} {f:Fm} {ids:List Int} {t xt:Tk} {ty:TypeId} {v v' vi:Value} {x:Od} {xs:List Value}
theorem refMay_any (c:Df) (f:Fm) (L:List Od) (x:Od) (xt t:Tk) (ids:List Int) (vi:Value) (op:Int) (w:World) (h:Dt w c f L x xt t ids vi) :
  Calls Tryz.prog 63 #[.pointer (some ⟨c.B,0,none⟩),.int .i64 op] w fun r w'=>r = .returned (.bool (mayD xt.op x.stg op))/\Below w.heap.size w w':=by
 suffices hh:Calls Tryz.prog 63 #[.pointer (some ⟨c.B,0,none⟩),.int .i64 op] w fun r w'=>Ans r (mayD xt.op x.stg op=true)/\Below w.heap.size w w' from hh.mono fun r w' h=>⟨h.1.same,h.2⟩
 generalize hPd:(mayD xt.op x.stg op=true)=P
 replace hPd:=Hid.mk hPd
 obtain⟨pc,cc,hT,hO⟩:=h.xk
 have hS:=h.sc
 have b12:=h.ds.c12
 have b13:=h.ds.c13
 have hxl:(x.at_:Int)<f.toks.length:=by have:=h.xl;omega
 have hln:=h.ln
 have e1:((L.length+1:Nat):Int)-1=(L.length:Int):=by omega
 have e2:(L.length:Int)<((L.length+1:Nat):Int):=by omega
 have c0:=hT.c0
 have x0:=hS.c0
 have x1:=hS.c1
 have x2:=hS.c2
 have x3:=hS.c3
 have x4:=hS.c4
 obtain⟨p,p0,pB,pI,hNe,pc',pl,pk⟩:=clsT w
 have hol:=h.op.lt
 have f13:=fun θ=>(pc' c.B 13 h.ds.lt θ).trans b13
 have f0:=fun θ=>(pc' c.go (L.length*5) hol θ).trans x0
 have f1:=fun θ=>(pc' c.go (L.length*5+1) hol θ).trans x1
 have f2:=fun θ=>(pc' c.go (L.length*5+2) hol θ).trans x2
 have f3:=fun θ=>(pc' c.go (L.length*5+3) hol θ).trans x3
 have f4:=fun θ=>(pc' c.go (L.length*5+4) hol θ).trans x4
 replace h:=Hid.mk h
 clear hT hS pc' pl pk x0 x1 x2 x3 x4 b12 b13 c0
 go_enter Tryz.func63,Tryz.ntmps63
 go_wp2_with fail
 refine wp_region_lp p (by kernel_rfl) (by kernel_rfl) (fun _ _ d _ _ h=>by cases d<;>exact h) p0 fun W hp=>?_
 repeat (first|(guard_target =~ Lx _ _ _ _ (Oper.mk _ (Op.alloc 94) _ _ _ _::_) _ _;refine lx_act (by rfl) (by rfl) ?_;intro K hK;go_simp;refine hK _ _ ⟨⟨_,pI _ ((pB _ hp).trans ((bel1 W _).mono (pB _ hp).size))⟩,rfl⟩ ?_;clear hK K)|(guard_target =~ Lx _ _ _ _ (Oper.mk _ (Op.store 94 _ _) _ _ _ _::_) _ _;obtain⟨W2,s2,hY,hb2,hz2⟩:=od_new W x;refine lx_st (s2 _ rfl) ⟨⟨W2,pI _ ((pB _ hp).trans (hb2.mono (pB _ hp).size))⟩,rfl⟩ rfl rfl (by rfl) ?_;clear s2;simp only[pts])|(refine lx_one rfl ?_;(first|go_big_quiet_skip|(go_big_quiet_want;go_big_quiet_op;go_big_quiet_on));refine wpQuiet_nil ?_)|(refine lx_skip (by rfl) ?_;simp only[pts]))
 refine lx_done ?_
 have hb:Below w.heap.size w W2:=(pB _ hp).trans (hb2.mono (pB _ hp).size)
 have h2:=h.out.below hb
 obtain⟨pc,cc,hT,hO⟩:=h2.xk
 have b12:=h2.ds.c12
 have c0:=hT.c0
 have z0:W2.cell? ⟨W.heap.size,0,none⟩=some (.int .i64 (x.at_:Int)):=hY.c0
 have z1:W2.cell? ⟨W.heap.size,1,none⟩=some (.int .i64 x.stg):=hY.c1
 replace h2:=Hid.mk h2
 replace hb:=Hid.mk hb
 clear hT hY pB pI p0 f0 f1 f2 f3 f4 f13 hNe hp
 go_wp2_with fail
 go_quiet (fail)
 by_cases ho:xt.op=0
 ·have hP:Hid (P↔(op=2/\x.stg=0)\/(op=4/\x.stg<=1)\/op=6):=⟨by rw[<- hPd.out];unfold mayD;simp[ho]⟩
  have d0:(xt.op==0)=true:=by simp[ho]
  have d4:(xt.op==4)=false:=by simp[ho]
  have d2:(xt.op==2)=false:=by simp[ho]
  have d8:(xt.op==8)=false:=by simp[ho]
  have d10:(xt.op==10)=false:=by simp[ho]
  have d12:(xt.op==12)=false:=by simp[ho]
  clear ho
  go_wp2_with (go_at_call 80;refine(typeOp_any op _).mono ?_;rintro _ wq ⟨rfl,e⟩;subst e)
  all_goals
   go_ret
   refine⟨⟨_,rfl,?_⟩,tdr hb.out⟩
   refine Iff.trans ?_ hP.out.symm
   simp_all
   try omega
 by_cases ho:xt.op=4
 ·have hP:Hid (P↔(op=2/\x.stg=0)\/(op=4/\x.stg<=1)\/op=6):=⟨by rw[<- hPd.out];unfold mayD;simp[ho]⟩
  have d0:(xt.op==0)=false:=by simp[ho]
  have d4:(xt.op==4)=true:=by simp[ho]
  have d2:(xt.op==2)=false:=by simp[ho]
  have d8:(xt.op==8)=false:=by simp[ho]
  have d10:(xt.op==10)=false:=by simp[ho]
  have d12:(xt.op==12)=false:=by simp[ho]
  clear ho
  go_wp2_with (go_at_call 80;refine(typeOp_any op _).mono ?_;rintro _ wq ⟨rfl,e⟩;subst e)
  all_goals
   go_ret
   refine⟨⟨_,rfl,?_⟩,tdr hb.out⟩
   refine Iff.trans ?_ hP.out.symm
   simp_all
   try omega
 by_cases ho:xt.op=2
 ·have hP:Hid (P↔x.stg=0/\tyO op=true):=⟨by rw[<- hPd.out];unfold mayD;simp[ho]⟩
  have d0:(xt.op==0)=false:=by simp[ho]
  have d4:(xt.op==4)=false:=by simp[ho]
  have d2:(xt.op==2)=true:=by simp[ho]
  have d8:(xt.op==8)=false:=by simp[ho]
  have d10:(xt.op==10)=false:=by simp[ho]
  have d12:(xt.op==12)=false:=by simp[ho]
  clear ho
  go_wp2_with (go_at_call 80;refine(typeOp_any op _).mono ?_;rintro _ wq ⟨rfl,e⟩;subst e)
  all_goals
   go_ret
   refine⟨⟨_,rfl,?_⟩,tdr hb.out⟩
   refine Iff.trans ?_ hP.out.symm
   simp_all
   try omega
 by_cases ho:xt.op=8
 ·have hP:Hid (P↔tyO op=true):=⟨by rw[<- hPd.out];unfold mayD;simp[ho]⟩
  have d0:(xt.op==0)=false:=by simp[ho]
  have d4:(xt.op==4)=false:=by simp[ho]
  have d2:(xt.op==2)=false:=by simp[ho]
  have d8:(xt.op==8)=true:=by simp[ho]
  have d10:(xt.op==10)=false:=by simp[ho]
  have d12:(xt.op==12)=false:=by simp[ho]
  clear ho
  go_wp2_with (go_at_call 80;refine(typeOp_any op _).mono ?_;rintro _ wq ⟨rfl,e⟩;subst e)
  all_goals
   go_ret
   refine⟨⟨_,rfl,?_⟩,tdr hb.out⟩
   refine Iff.trans ?_ hP.out.symm
   simp_all
   try omega
 by_cases ho:xt.op=10
 ·have hP:Hid (P↔(x.stg=0/\op=14)\/(0<x.stg/\op=15)):=⟨by rw[<- hPd.out];unfold mayD;simp[ho]⟩
  have d0:(xt.op==0)=false:=by simp[ho]
  have d4:(xt.op==4)=false:=by simp[ho]
  have d2:(xt.op==2)=false:=by simp[ho]
  have d8:(xt.op==8)=false:=by simp[ho]
  have d10:(xt.op==10)=true:=by simp[ho]
  have d12:(xt.op==12)=false:=by simp[ho]
  clear ho
  go_wp2_with (go_at_call 80;refine(typeOp_any op _).mono ?_;rintro _ wq ⟨rfl,e⟩;subst e)
  all_goals
   go_ret
   refine⟨⟨_,rfl,?_⟩,tdr hb.out⟩
   refine Iff.trans ?_ hP.out.symm
   simp_all
   try omega
 by_cases ho:xt.op=12
 ·have hP:Hid (P↔(x.stg=0/\op=14)\/(0<x.stg/\op=15)):=⟨by rw[<- hPd.out];unfold mayD;simp[ho]⟩
  have d0:(xt.op==0)=false:=by simp[ho]
  have d4:(xt.op==4)=false:=by simp[ho]
  have d2:(xt.op==2)=false:=by simp[ho]
  have d8:(xt.op==8)=false:=by simp[ho]
  have d10:(xt.op==10)=false:=by simp[ho]
  have d12:(xt.op==12)=true:=by simp[ho]
  clear ho
  go_wp2_with (go_at_call 80;refine(typeOp_any op _).mono ?_;rintro _ wq ⟨rfl,e⟩;subst e)
  all_goals
   go_ret
   refine⟨⟨_,rfl,?_⟩,tdr hb.out⟩
   refine Iff.trans ?_ hP.out.symm
   simp_all
   try omega
 have hP:Hid (¬ P):=⟨by rw[<- hPd.out];unfold mayD;simp_all⟩
 have d0:(xt.op==0)=false:=by simp_all
 have d4:(xt.op==4)=false:=by simp_all
 have d2:(xt.op==2)=false:=by simp_all
 have d8:(xt.op==8)=false:=by simp_all
 have d10:(xt.op==10)=false:=by simp_all
 have d12:(xt.op==12)=false:=by simp_all
 go_wp2_with fail
 go_ret
 exact⟨Ans.no hP.out,tdr hb.out⟩
theorem idC_length (l:List Int):(idC l).length=l.length*1:=by unfold idC;rw[List.length_map];omega
theorem idC_append (a b:List Int):idC (a++b)=idC a++idC b:=by unfold idC;rw[List.map_append]
theorem idC_one (l:List Int):∀ u∈idC l,u.oneCell'=true:=by
 intro u hu
 obtain⟨a,_,rfl⟩:=List.mem_map.1 hu
 rfl
theorem i_ap {base:Nat} {al bl:List Int} {ad:Addr} (cb:Nat) (own:W.ownsRow base 3 1 v al.length (idC al)) (hB:∀ (j:Nat) (u:Value),(idC bl)[j]?=some u->W.cell? (ad.add j)=some u) (hl:al.length+bl.length<=977343669134) (hb:base<=W.heap.size) :
  ∃ v' w',(∀ ty,(Builtin.append_ #[68,68] ty #[v,.slice (some ad) bl.length cb]).run Tryz.prog W = .ok v' w')/\(w'.ownsRow base 3 1 v' (al++bl).length (idC (al++bl))/\W.grownBy w' v.ownBlock/\(v'.ownBlock=v.ownBlock\/v'.ownBlock=some W.heap.size)):=by
 obtain⟨i0,hi,hz,hs,hby⟩:=infoOf 3 (.int .i64 0) 1 8 (by kernel_rfl)
 have hr:=fun ty=>run_append_own_at (P:=Tryz.prog) W base 68 ty 3 i0 _ 1 8 Tryz.underlying68 hi hz hs hby rfl (by decide) v al.length (idC al) own ad bl.length cb (idC bl) (idC_length bl) hB (idC_one bl) (by simp only[maxLen];omega) (by omega) hb
 obtain⟨v',w',h1,h2,h3,_,h4⟩:=hr 0
 refine⟨v',w',fun ty=>?_,by rw[List.length_append,idC_append];exact h2,h3,h4⟩
 have e:(Builtin.append_ #[68,68] ty #[v,.slice (some ad) bl.length cb])=(Builtin.append_ #[68,68] 0 #[v,.slice (some ad) bl.length cb]):=rfl
 rw[e]
 exact h1
theorem lit1 {gB:Nat} {x:Int} (h:W.heap[gB]?=some (.cells #[.int .i64 x] ty)):∀ (j:Nat) (u:Value),(idC [x])[j]?=some u->W.cell? ((⟨gB,0,none⟩:Addr).add j)=some u:=by
 intro j u hu
 have e:(⟨gB,0,none⟩:Addr).add j=⟨gB,0+j,none⟩:=by unfold Addr.add;split<;>simp_all
 rw[e,Nat.zero_add,cell_at h]
 unfold idC at hu
 simpa using hu
theorem own_low (h:w.ownsRow H ty 1 v n xs):∀ k,v.ownBlock=some k->H<=k:=by
 intro k hk
 rcases h.2 with ⟨h0,_⟩|⟨g,cap,cur,e,hb',_⟩
 ·rw[h0] at hk;cases hk
 ·rw[e] at hk
  have:g=k:=by simpa[Value.ownBlock] using hk
  omega
theorem own_slice {z:Nat} (h:w.ownsRow H ty z v n xs) (hn:0<n):∃ g cap,v = .slice (some ⟨g,0,none⟩) n cap:=by
 rcases h.2 with ⟨_,h0⟩|⟨g,cap,cur,e,_⟩
 ·omega
 ·exact⟨g,cap,e⟩
theorem ids_fin {k:Int} (h:Dt we c f L x xt t ids vi) (hW:Below we.heap.size we Wp) (q1:w'.ownsRow c.H 3 1 v' (ids.length+1) (idC (ids++[k]))) (q2:Wp.grownBy w' vi.ownBlock) (q3:v'.ownBlock=vi.ownBlock\/v'.ownBlock=some Wp.heap.size) :
  Dt (w'.setCell ⟨c.B,14,none⟩ v') c f L x xt t (ids++[k]) v'/\Kb (c.B::vi.ownBlock.toList) we (w'.setCell ⟨c.B,14,none⟩ v'):=by
 have hs:=hW.size
 have hBl:=h.ds.lt
 have hol:=h.op.lt
 have a:=h.ap
 have key:∀ j,j<we.heap.size->vi.ownBlock≠some j->w'.heap[j]?=we.heap[j]?:=fun j hj hn=>(q2.block j (by omega) (fun e=>hn e.symm)).trans (hW.block j hj)
 have low:∀ j,j<c.H->w'.heap[j]?=we.heap[j]?:=fun j hj=>key j (by have:=h.sz;omega) (fun e=>by have:=own_low h.ir j e;omega)
 have nB:v'.ownBlock≠some c.B:=fun e=>by
  rcases q3 with q|q
  ·exact a.iB (q▸e)
  ·rw[q] at e;have:Wp.heap.size=c.B:=by simpa using e
   omega
 have nO:v'.ownBlock≠some c.go:=fun e=>by
  rcases q3 with q|q
  ·exact a.io (q▸e)
  ·rw[q] at e;have:Wp.heap.size=c.go:=by simpa using e
   omega
 have kb:Kb (c.B::vi.ownBlock.toList) we (w'.setCell ⟨c.B,14,none⟩ v'):=by
  have kg:Kb (c.B::vi.ownBlock.toList) Wp w':=⟨q2.os,q2.tape,q2.output,q2.size,fun j hj he=>q2.block j hj fun e=>he (List.mem_cons_of_mem _ (by rw[<- e];simp))⟩
  exact((Kb.of_below hW).trans kg).set (List.mem_cons_self ..) _
 refine⟨⟨(h.ds.same (key _ hBl a.iB)).setI v',(h.op.same (key _ hol a.io)).same (set_oth a.Bo),?_,⟨h.tl.row.same fun j hj=>(set_oth (by have:=a.B;omega)).trans (low j hj),h.tl.len,h.tl.ok⟩,h.hx,h.ht,⟨a.g,a.B,a.go,a.Bo,nB,nO⟩,Nat.le_trans h.sz kb.size,h.ln⟩,kb⟩
 rw[show (ids++[k]).length=ids.length+1 by simp]
 refine⟨q1.1,?_⟩
 rcases q1.2 with h0|⟨g,cap,cur,e,hb',hg,r⟩
 ·exact .inl h0
 ·refine .inr ⟨g,cap,cur,e,hb',(set_oth fun e'=>nB ?_).trans hg,r⟩
  rw[e,e']
  rfl
structure Di (w:World) (c:Df) (f:Fm) (vo vi:Value) (ids:List Int):Prop where
 ds:DsH w c.B f (some ⟨c.g,c.o,none⟩) c.cp vo vi
 ir:w.ownsRow c.H 3 1 vi ids.length (idC ids)
 ap:Dap c vi
 sz:c.H<=w.heap.size
theorem Dt.di (h:Dt w c f L x xt t ids vi):Di w c f (.slice (some ⟨c.go,0,none⟩) (L.length+1) c.cap) vi ids:=⟨h.ds,h.ir,h.ap,h.sz⟩
theorem Di.kept {vo:Value} (h:Di w c f vo vi ids) (hb:Kb [c.go] w w'):Di w' c f vo vi ids:=by
 have a:=h.ap
 refine⟨h.ds.same (hb.block _ h.ds.lt (notin1 a.Bo)),⟨h.ir.1,?_⟩,a,Nat.le_trans h.sz hb.size⟩
 rcases h.ir.2 with h0|⟨g,cap,cur,e,hb',hg,r⟩
 ·exact .inl h0
 ·refine .inr ⟨g,cap,cur,e,hb',(hb.block g (Array.getElem?_eq_some_iff.1 hg).1 (notin1 fun e'=>?_)).trans hg,r⟩
  apply a.io
  rw[e,e']
  rfl
theorem ids_kb (hW:Below we.heap.size we Wp) (q2:Wp.grownBy w' vi.ownBlock):Kb (c.B::vi.ownBlock.toList) we (w'.setCell ⟨c.B,14,none⟩ v'):=by
 have kg:Kb (c.B::vi.ownBlock.toList) Wp w':=⟨q2.os,q2.tape,q2.output,q2.size,fun j hj he=>q2.block j hj fun e=>he (List.mem_cons_of_mem _ (by rw[<- e];simp))⟩
 exact((Kb.of_below hW).trans kg).set (List.mem_cons_self ..) _
theorem kb_go (h:Kb [c.go] w w'):Kb (c.go::c.B::vi.ownBlock.toList) w w':=h.mono fun _ hj=>by rw[List.mem_singleton.1 hj];exact List.mem_cons_self ..
theorem kb_tl (h:Kb (c.B::vi.ownBlock.toList) w w'):Kb (c.go::c.B::vi.ownBlock.toList) w w':=h.mono fun _ hj=>List.mem_cons_of_mem _ hj
end Go.Proofs.YtbhmciieiilcfaaGreatDoor
