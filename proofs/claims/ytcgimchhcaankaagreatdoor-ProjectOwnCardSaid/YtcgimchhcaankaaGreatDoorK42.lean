import Derived.Test.YtcgimchhcaankaaGreatDoorK37
namespace Go.Proofs.YtcgimchhcaankaaGreatDoor
set_option maxRecDepth 1000000
set_option maxHeartbeats 16000000
open Go.ChangeShapes Go.WideShapes Go.ChangeAt Go.RowKit Go.Shelf Go.Maps
theorem idC_length (l:List Int):(idC l).length=l.length*1:=by unfold idC;rw[List.length_map];omega
theorem idC_append (a b:List Int):idC (a++b)=idC a++idC b:=by unfold idC;rw[List.map_append]
theorem idC_one (l:List Int):∀ u∈idC l,u.oneCell'=true:=by
 intro u hu
 obtain⟨a,_,rfl⟩:=List.mem_map.1 hu
 rfl
theorem i_ap {W:World} {base:Nat} {v:Value} {al bl:List Int} {ad:Addr} (cb:Nat) (own:W.ownsRow base 3 1 v al.length (idC al)) (hB:∀ (j:Nat) (u:Value),(idC bl)[j]?=some u->W.cell? (ad.add j)=some u) (hl:al.length+bl.length<=977343669134) (hb:base<=W.heap.size) :
  ∃ v' w',(∀ ty,(Builtin.append_ #[41,41] ty #[v,.slice (some ad) bl.length cb]).run Tryz.prog W = .ok v' w')/\(w'.ownsRow base 3 1 v' (al++bl).length (idC (al++bl))/\W.grownBy w' v.ownBlock/\(v'.ownBlock=v.ownBlock\/v'.ownBlock=some W.heap.size)):=by
 obtain⟨i0,hi,hz,hs,hby⟩:=infoOf 3 (.int .i64 0) 1 8 (by kernel_rfl)
 have hr:=fun ty=>run_append_own_at (P:=Tryz.prog) W base 41 ty 3 i0 _ 1 8 Tryz.underlying41 hi hz hs hby rfl (by decide) v al.length (idC al) own ad bl.length cb (idC bl) (idC_length bl) hB (idC_one bl) (by simp only[maxLen];omega) (by omega) hb
 obtain⟨v',w',h1,h2,h3,_,h4⟩:=hr 0
 refine⟨v',w',fun ty=>?_,by rw[List.length_append,idC_append];exact h2,h3,h4⟩
 have e:(Builtin.append_ #[41,41] ty #[v,.slice (some ad) bl.length cb])=(Builtin.append_ #[41,41] 0 #[v,.slice (some ad) bl.length cb]):=rfl
 rw[e]
 exact h1
theorem lit1 {W:World} {gB:Nat} {x:Int} {ty:TypeId} (h:W.heap[gB]?=some (.cells #[.int .i64 x] ty)):∀ (j:Nat) (u:Value),(idC [x])[j]?=some u->W.cell? ((⟨gB,0,none⟩:Addr).add j)=some u:=by
 intro j u hu
 have e:(⟨gB,0,none⟩:Addr).add j=⟨gB,0+j,none⟩:=by unfold Addr.add;split<;>simp_all
 rw[e,Nat.zero_add,cell_at h]
 unfold idC at hu
 simpa using hu
theorem own_low {w:World} {H n:Nat} {ty:TypeId} {v:Value} {xs:List Value} (h:w.ownsRow H ty 1 v n xs):∀ k,v.ownBlock=some k->H<=k:=by
 intro k hk
 rcases h.2 with ⟨h0,_⟩|⟨g,cap,cur,e,hb',_⟩
 ·rw[h0] at hk;cases hk
 ·rw[e] at hk
  have:g=k:=by simpa[Value.ownBlock] using hk
  omega
theorem own_slice {w:World} {H n z:Nat} {ty:TypeId} {v:Value} {xs:List Value} (h:w.ownsRow H ty z v n xs) (hn:0<n):∃ g cap,v = .slice (some ⟨g,0,none⟩) n cap:=by
 rcases h.2 with ⟨_,h0⟩|⟨g,cap,cur,e,_⟩
 ·omega
 ·exact⟨g,cap,e⟩
theorem ids_fin {we Wp w':World} {c:Df} {f:Fm} {L:List Od} {x:Od} {xt t:Tk} {ids:List Int} {vi v':Value} {k:Int} (h:Dt we c f L x xt t ids vi) (hW:Below we.heap.size we Wp) (q1:w'.ownsRow c.H 3 1 v' (ids.length+1) (idC (ids++[k]))) (q2:Wp.grownBy w' vi.ownBlock) (q3:v'.ownBlock=vi.ownBlock\/v'.ownBlock=some Wp.heap.size) :
  Dt (w'.setCell ⟨c.B,14,none⟩ v') c f L x xt t (ids++[k]) v'/\Kb (c.B::vi.ownBlock.toList) we (w'.setCell ⟨c.B,14,none⟩ v'):=by
 have hs:=hW.size
 have hBl:=h.ds.lt
 have hol:=h.op.lt
 have a:=h.ap
 have key:∀ j,j<we.heap.size->vi.ownBlock≠some j->w'.heap[j]?=we.heap[j]?:=fun j hj hn=>(q2.block j (by omega) (fun e=>hn e.symm)).trans (hW.block j hj)
 have low:∀ j,j<c.H->w'.heap[j]?=we.heap[j]?:=fun j hj=>key j (by have:=h.sz;omega) (fun e=>by have:=own_low h.ir j e;omega)
 have nB:v'.ownBlock≠some c.B:=fun e=>by
  rcases q3 with q|q
  ·exact a.iB (q▸e)
  ·rw[q] at e;have:Wp.heap.size=c.B:=by simpa using e
   omega
 have nO:v'.ownBlock≠some c.go:=fun e=>by
  rcases q3 with q|q
  ·exact a.io (q▸e)
  ·rw[q] at e;have:Wp.heap.size=c.go:=by simpa using e
   omega
 have kb:Kb (c.B::vi.ownBlock.toList) we (w'.setCell ⟨c.B,14,none⟩ v'):=by
  have kg:Kb (c.B::vi.ownBlock.toList) Wp w':=⟨q2.os,q2.tape,q2.output,q2.size,fun j hj he=>q2.block j hj fun e=>he (List.mem_cons_of_mem _ (by rw[<- e];simp))⟩
  exact((Kb.of_below hW).trans kg).set (List.mem_cons_self ..) _
 refine⟨⟨(h.ds.same (key _ hBl a.iB)).setI v',(h.op.same (key _ hol a.io)).same (set_oth a.Bo),?_,⟨h.tl.row.same fun j hj=>(set_oth (by have:=a.B;omega)).trans (low j hj),h.tl.len,h.tl.ok⟩,h.hx,h.ht,⟨a.g,a.B,a.go,a.Bo,nB,nO⟩,Nat.le_trans h.sz kb.size,h.ln⟩,kb⟩
 rw[show (ids++[k]).length=ids.length+1 by simp]
 refine⟨q1.1,?_⟩
 rcases q1.2 with h0|⟨g,cap,cur,e,hb',hg,r⟩
 ·exact .inl h0
 ·refine .inr ⟨g,cap,cur,e,hb',(set_oth fun e'=>nB ?_).trans hg,r⟩
  rw[e,e']
  rfl
structure Di (w:World) (c:Df) (f:Fm) (vo vi:Value) (ids:List Int):Prop where
 ds:DsH w c.B f (some ⟨c.g,c.o,none⟩) c.cp vo vi
 ir:w.ownsRow c.H 3 1 vi ids.length (idC ids)
 ap:Dap c vi
 sz:c.H<=w.heap.size
theorem Dt.di {w:World} {c:Df} {f:Fm} {L:List Od} {x:Od} {xt t:Tk} {ids:List Int} {vi:Value} (h:Dt w c f L x xt t ids vi):Di w c f (.slice (some ⟨c.go,0,none⟩) (L.length+1) c.cap) vi ids:=⟨h.ds,h.ir,h.ap,h.sz⟩
theorem Di.kept {w w':World} {c:Df} {f:Fm} {vo vi:Value} {ids:List Int} (h:Di w c f vo vi ids) (hb:Kb [c.go] w w'):Di w' c f vo vi ids:=by
 have a:=h.ap
 refine⟨h.ds.same (hb.block _ h.ds.lt (notin1 a.Bo)),⟨h.ir.1,?_⟩,a,Nat.le_trans h.sz hb.size⟩
 rcases h.ir.2 with h0|⟨g,cap,cur,e,hb',hg,r⟩
 ·exact .inl h0
 ·refine .inr ⟨g,cap,cur,e,hb',(hb.block g (Array.getElem?_eq_some_iff.1 hg).1 (notin1 fun e'=>?_)).trans hg,r⟩
  apply a.io
  rw[e,e']
  rfl
theorem ids_kb {we Wp w':World} {c:Df} {vi v':Value} (hW:Below we.heap.size we Wp) (q2:Wp.grownBy w' vi.ownBlock):Kb (c.B::vi.ownBlock.toList) we (w'.setCell ⟨c.B,14,none⟩ v'):=by
 have kg:Kb (c.B::vi.ownBlock.toList) Wp w':=⟨q2.os,q2.tape,q2.output,q2.size,fun j hj he=>q2.block j hj fun e=>he (List.mem_cons_of_mem _ (by rw[<- e];simp))⟩
 exact((Kb.of_below hW).trans kg).set (List.mem_cons_self ..) _
theorem kb_go {c:Df} {vi:Value} {w w':World} (h:Kb [c.go] w w'):Kb (c.go::c.B::vi.ownBlock.toList) w w':=h.mono fun _ hj=>by rw[List.mem_singleton.1 hj];exact List.mem_cons_self ..
theorem kb_tl {c:Df} {vi:Value} {w w':World} (h:Kb (c.B::vi.ownBlock.toList) w w'):Kb (c.go::c.B::vi.ownBlock.toList) w w':=h.mono fun _ hj=>List.mem_cons_of_mem _ hj
theorem URow.two {w W:World} {p:Option Addr} {l:List Int} (h:URow w p w.heap.size l) (hb:Below w.heap.size w W):URow W p W.heap.size l:=(h.below hb).mono hb.size
abbrev bareT (t:Tk):Tk:=⟨t.op,t.name,0,0,0,0,0,0,0,0,0,0,[],0,0,0,sp0,sp0,t.pair⟩
def mskK (t:Tk) (pc:Option Addr) (cc:Nat) (K:Int) (m:Tk) (pm:Option Addr) (cm:Nat):Prop:=(K=0/\⟨t.op,t.name,t.id,0,0,t.since,0,0,0,0,0,0,[],0,t.blk,t.full,sp0,sp0,t.pair⟩=m/\none=pm/\0=cm)\/(K=4/\⟨t.op,t.name,t.id,0,t.siz,t.since,0,0,0,0,0,0,[],0,t.blk,t.full,t.a,t.b,t.pair⟩=m/\none=pm/\0=cm)\/(K=2/\⟨t.op,t.name,t.id,t.off,t.siz,t.since,0,0,t.pres,0,0,0,t.cst,0,0,0,sp0,sp0,t.pair⟩=m/\pc=pm/\cc=cm)\/(K=6/\⟨t.op,t.name,t.id,0,t.siz,t.since,t.prim,0,0,0,0,0,[],0,0,0,t.a,sp0,t.pair⟩=m/\none=pm/\0=cm)\/(K=8/\⟨t.op,t.name,0,t.off,t.siz,0,0,0,0,0,0,0,[],0,0,0,sp0,sp0,t.pair⟩=m/\none=pm/\0=cm)\/(K=10/\⟨t.op,t.name,0,t.off,t.siz,0,0,0,t.pres,0,0,0,[],0,0,0,sp0,sp0,t.pair⟩=m/\none=pm/\0=cm)\/(K=12/\⟨t.op,t.name,0,t.off,t.siz,0,0,0,t.pres,0,0,0,[],0,0,0,sp0,sp0,t.pair⟩=m/\none=pm/\0=cm)\/(K=14/\⟨t.op,t.name,0,t.off,t.siz,0,t.prim,t.len,t.pres,t.nul,t.lo,t.hi,t.cst,0,0,0,sp0,sp0,t.pair⟩=m/\pc=pm/\cc=cm)\/(K=15/\⟨t.op,t.name,0,0,0,t.since,0,0,0,0,0,0,[],t.val,0,0,sp0,sp0,t.pair⟩=m/\none=pm/\0=cm)\/(K=99/\⟨t.op,t.name,0,0,0,0,0,0,0,0,0,0,[],0,0,0,sp0,sp0,t.pair⟩=m/\none=pm/\0=cm)
theorem plain_k (K:Int) (t m:Tk) (pc pm:Option Addr) (cc cm:Nat) (w:World) (hu:URow w pc w.heap.size t.cst) (hU:∀ W,Below w.heap.size w W->URow W pm W.heap.size m.cst) (hs:m.cst.length*8<=140737488355328) (d:∀ j∈[0,2,4,6,8,10,12,14,(15:Int)],(t.op==j)=(K==j)) (hK:mskK t pc cc K m pm cm) :
  Calls Tryz.prog 28 #[tkV t pc cc] w fun r w'=>Ans r (m=t)/\Below w.heap.size w w':=by
 have d0:=d 0 (by decide)
 have d4:=d 4 (by decide)
 have d2:=d 2 (by decide)
 have d6:=d 6 (by decide)
 have d8:=d 8 (by decide)
 have d10:=d 10 (by decide)
 have d12:=d 12 (by decide)
 have d14:=d 14 (by decide)
 have d15:=d 15 (by decide)
 have e8:(t.op != 8) = !(K==8):=by rw[<- d8];rfl
 have hA:=tk_of (heap_al w (tkO t pc cc))
 have HB:Below w.heap.size w (w.alloc (tkO t pc cc)):=bel1 _ _
 have HS:w.heap.size<(w.alloc (tkO t pc cc)).heap.size:=by simp
 clear d
 generalize hW:w.alloc (tkO t pc cc)=W at hA HB HS
 have cX:∀ (A:Obj),TkC (W.alloc A) w.heap.size 0 t pc cc:=fun A=>hA.below HS (bel1 _ _)
 have s1:=fun z hz=>st_new W z hz (bareT t) none 0
 have s2:=fun z hz=>st_new W z hz t pc cc
 have lt:=fun A=>(cX A).load
 have lx:=(tk_of (heap_al W (tkO m pm cm))).load
 have lw:=hA.load
 have cS:=refSameTk_any m t pm pc cm cc (W.alloc (tkO m pm cm)) (hU _ (HB.trans ((bel1 W _).mono HB.size))) (hu.two (HB.trans ((bel1 W _).mono HB.size))) hs
 have HF:Hid (Below w.heap.size w (W.alloc (tkO m pm cm))/\w.heap.size<=(W.alloc (tkO m pm cm)).heap.size):=⟨HB.trans ((bel1 W _).mono HB.size),Nat.le_trans HB.size (al_le _ _)⟩
 have c0:=hA.c0
 have c1:=hA.c1
 have c20:=hA.c20
 have r0:=fun A=>(cX A).c0
 have r2:=fun A=>(cX A).c2
 have r3:=fun A=>(cX A).c3
 have r4:=fun A=>(cX A).c4
 have r5:=fun A=>(cX A).c5
 have r6:=fun A=>(cX A).c6
 have r7:=fun A=>(cX A).c7
 have r8:=fun A=>(cX A).c8
 have r9:=fun A=>(cX A).c9
 have r10:=fun A=>(cX A).c10
 have r11:=fun A=>(cX A).c11
 have r12:=fun A=>(cX A).c12
 have r13:=fun A=>(cX A).c13
 have r14:=fun A=>(cX A).c14
 have r15:=fun A=>(cX A).c15
 have r16:=fun A=>(cX A).c16
 have r17:=fun A=>(cX A).c17
 have r18:=fun A=>(cX A).c18
 have r19:=fun A=>(cX A).c19
 clear cX hA hU hs hu HS
 simp only[tkO,tkC] at hW
 replace HB:=Hid.mk HB
 unfold mskK at hK
 rcases hK with ⟨rfl,rfl,rfl,rfl⟩|⟨rfl,rfl,rfl,rfl⟩|⟨rfl,rfl,rfl,rfl⟩|⟨rfl,rfl,rfl,rfl⟩|⟨rfl,rfl,rfl,rfl⟩|⟨rfl,rfl,rfl,rfl⟩|⟨rfl,rfl,rfl,rfl⟩|⟨rfl,rfl,rfl,rfl⟩|⟨rfl,rfl,rfl,rfl⟩|⟨rfl,rfl,rfl,rfl⟩
 all_goals
  simp only[Int.reduceBEq,Bool.not_true,Bool.not_false] at d0 d2 d4 d6 d8 d10 d12 d14 d15 e8
  simp only[tkO,tkC,bareT,List.length_nil] at s1 s2 lt lx cS HF lw
  replace s2:=Hid.mk s2
  replace cS:=Hid.mk cS
  replace s1:=Hid.mk s1
  replace lt:=Hid.mk lt
  replace lx:=Hid.mk lx
  replace lw:=Hid.mk lw
  go_enter Tryz.func28,Tryz.ntmps28
  go_wp2_with (first
   | (guard_target =~ wpList _ _ _ (Oper.mk _ (Op.load 40 _) _ _ _ _::_) _ _;go_must (first|refine wpList_ld 40 _ rfl rfl _ _ rfl lx.out ?_|refine wpList_ld 40 _ rfl rfl _ _ rfl (lt.out _) ?_|refine wpList_ld 40 _ rfl rfl _ _ rfl lw.out ?_);simp only[pts])
   | (guard_target =~ wpList _ _ _ (Oper.mk _ (Op.store 40 _ _) _ _ _ _::_) _ _;go_must (first|refine wpList_st 40 _ _ rfl rfl _ _ rfl rfl (s1.out _ rfl) ?_|refine wpList_st 40 _ _ rfl rfl _ _ rfl rfl (s2.out _ rfl) ?_);simp only[pts]))
  refine cS.out.mono ?_
  rintro _ w1 ⟨⟨b,rfl,hb⟩,hb1⟩
  replace hb:=Hid.mk hb
  clear cS s1 s2 lt lx lw
  go_wp2_with fail
  go_ret
  exact⟨⟨b,rfl,hb.out⟩,HF.out.1.trans (hb1.mono HF.out.2)⟩
theorem refPlain_any (t:Tk) (pc:Option Addr) (cc:Nat) (w:World) (hu:URow w pc w.heap.size t.cst) (hs:t.cst.length*8<=140737488355328) :
  Calls Tryz.prog 28 #[tkV t pc cc] w fun r w'=>r = .returned (.bool (plainB t))/\Below w.heap.size w w':=by
 suffices hh:Calls Tryz.prog 28 #[tkV t pc cc] w fun r w'=>Ans r (maskD t=t)/\Below w.heap.size w w' from hh.mono fun r w' h=>⟨h.1.said (maskD_iff t),h.2⟩
 obtain⟨K,pm,cm,h1,h2⟩:∃ K pm cm,(∀ j∈[0,2,4,6,8,10,12,14,(15:Int)],(t.op==j)=(K==j))/\mskK t pc cc K (maskD t) pm cm:=by
  unfold mskK maskD
  by_cases h0:t.op=0
  ·exact⟨0,none,0,fun j _=>by rw[h0],by simp[h0]⟩
  by_cases h4:t.op=4
  ·exact⟨4,none,0,fun j _=>by rw[h4],by simp[h4]⟩
  by_cases h2:t.op=2
  ·exact⟨2,pc,cc,fun j _=>by rw[h2],by simp[h2]⟩
  by_cases h6:t.op=6
  ·exact⟨6,none,0,fun j _=>by rw[h6],by simp[h6]⟩
  by_cases h8:t.op=8
  ·exact⟨8,none,0,fun j _=>by rw[h8],by simp[h8]⟩
  by_cases h10:t.op=10
  ·exact⟨10,none,0,fun j _=>by rw[h10],by simp[h10]⟩
  by_cases h12:t.op=12
  ·exact⟨12,none,0,fun j _=>by rw[h12],by simp[h12]⟩
  by_cases h14:t.op=14
  ·exact⟨14,pc,cc,fun j _=>by rw[h14],by simp[h14]⟩
  by_cases h15:t.op=15
  ·exact⟨15,none,0,fun j _=>by rw[h15],by simp[h15]⟩
  exact⟨99,none,0,fun j hj=>by simp at hj;rcases hj with rfl|rfl|rfl|rfl|rfl|rfl|rfl|rfl|rfl<;>simp[*],by simp[*]⟩
 have h3:(maskD t).cst=[]/\pm=none\/(maskD t).cst=t.cst/\pm=pc:=by
  unfold mskK at h2
  rcases h2 with ⟨-,e,e2,-⟩|⟨-,e,e2,-⟩|⟨-,e,e2,-⟩|⟨-,e,e2,-⟩|⟨-,e,e2,-⟩|⟨-,e,e2,-⟩|⟨-,e,e2,-⟩|⟨-,e,e2,-⟩|⟨-,e,e2,-⟩|⟨-,e,e2,-⟩<;>rw[<- e,<- e2]<;>simp
 refine plain_k K t (maskD t) pc pm cc cm w hu (fun W hW=>?_) ?_ h1 h2
 ·rcases h3 with ⟨e,rfl⟩|⟨e,rfl⟩<;>rw[e]
  ·exact URow.nil _ _ _
  ·exact hu.two hW
 ·rcases h3 with ⟨e,-⟩|⟨e,-⟩<;>rw[e]
  ·exact Nat.zero_le _
  ·exact hs
theorem refPaired_any (c:Df) (f:Fm) (t:Tk) (vo vi:Value) (w:World) (h:D0 w c f t vo vi) :
  Calls Tryz.prog 29 #[.pointer (some ⟨c.B,0,none⟩),.int .i64 (c.i:Int)] w fun r w'=>r = .returned (.bool (if bgO t.op then pairB f.toks c.i t else decide (t.pair=c.i)))/\Below w.heap.size w w':=by
 obtain⟨pc,cc,hT,hU,hC,hO⟩:=h.tk
 have b12:=h.ds.c12
 have hil:(c.i:Int)<f.toks.length:=by have:=h.il;omega
 have hll:=h.ll
 have l1:=hT.load
 obtain⟨W1,s1,hA,hb1,hz1⟩:=ld_new w t pc cc
 have h1:=h.below hb1
 have b12':=h1.ds.c12
 have a0:W1.cell? ⟨w.heap.size,0,none⟩=some (.int .i64 t.op):=hA.c0
 have a1:W1.cell? ⟨w.heap.size,1,none⟩=some (.string t.name):=hA.c1
 have a20:W1.cell? ⟨w.heap.size,20,none⟩=some (.int .i64 t.pair):=hA.c20
 have cB:=refBegins_any t.op W1 hO.op
 replace l1:=Hid.mk l1
 replace s1:=Hid.mk s1
 replace h:=Hid.mk h
 replace h1:=Hid.mk h1
 replace hA:=Hid.mk hA
 replace hb1:=Hid.mk hb1
 replace hO:=Hid.mk hO
 clear hT hU hC
 cases kb:bgO t.op with
 | false =>
  rw[kb] at cB
  rw[if_neg (by decide)]
  clear kb
  go_enter Tryz.func29,Tryz.ntmps29
  go_wp2_with (first
   | (go_at_call 18;refine cB.mono ?_;rintro _ wq ⟨rfl,e⟩;obtain rfl:W1=wq:=e.symm)
   | (guard_target =~ wpList _ _ _ (Oper.mk _ (Op.load 40 _) _ _ _ _::_) _ _;go_must (first|refine wpList_ld 40 _ rfl rfl _ _ rfl l1.out ?_);simp only[pts])
   | (guard_target =~ wpList _ _ _ (Oper.mk _ (Op.store 40 _ _) _ _ _ _::_) _ _;go_must (refine wpList_st 40 _ _ rfl rfl _ _ rfl rfl (s1.out _ rfl) ?_);simp only[pts]))
  go_ret
  exact⟨rb (by rw[Bool.eq_iff_iff];simp),hb1.out⟩
 | true =>
  rw[kb] at cB
  rw[if_pos rfl]
  suffices hh:Calls Tryz.prog 29 #[.pointer (some ⟨c.B,0,none⟩),.int .i64 (c.i:Int)] w fun r w'=>Ans r (pairB f.toks c.i t=true)/\Below w.heap.size w w' from hh.mono fun r w' h=>⟨h.1.same,h.2⟩
  have hw:=bgO_i64 kb
  replace kb:=Hid.mk kb
  by_cases hp:(c.i:Int)<t.pair/\t.pair<f.toks.length
  ·have d1:decide (t.pair<=(c.i:Int))=false:=by simp;omega
   have d2:decide (t.pair≥(f.toks.length:Int))=false:=by simp;omega
   obtain⟨n,hn⟩:∃ n:Nat,t.pair=n:=⟨t.pair.toNat,by omega⟩
   obtain⟨u,hu⟩:∃ u,f.toks[n]?=some u:=⟨f.toks[n]'(by omega),List.getElem?_eq_getElem (by omega)⟩
   obtain⟨qc,qd,hX,_,_,_⟩:=h1.out.at hu
   have l2:=hX.load
   have hP:Hid (pairB f.toks c.i t=true↔u.op=t.op+1/\u.name.toList=t.name.toList/\u.pair=c.i):=⟨by
    unfold pairB
    rw[hn,Int.toNat_natCast,hu]
    have:(c.i:Int)<n/\(n:Int)<f.toks.length:=by omega
    simp[this,<- ba_eq,and_assoc]⟩
   have hni:(n:Int)<f.toks.length:=by omega
   rw[hn] at a20 d1 d2
   have d3:decide (n<=c.i)=false:=by simp;omega
   have d4:decide (f.toks.length<=n)=false:=by simp;omega
   replace hn:=Hid.mk hn
   clear l2 hp
   replace hX:=Hid.mk hX
   go_enter Tryz.func29,Tryz.ntmps29
   go_wp2_with (first
    | (go_at_call 18;refine cB.mono ?_;rintro _ wq ⟨rfl,e⟩;obtain rfl:W1=wq:=e.symm)
    | (guard_target =~ wpList _ _ _ (Oper.mk _ (Op.load 40 _) _ _ _ _::_) _ _;go_must (first|refine wpList_ld 40 _ rfl rfl _ _ rfl l1.out ?_);simp only[pts])
    | (guard_target =~ wpList _ _ _ (Oper.mk _ (Op.store 40 _ _) _ _ _ _::_) _ _;go_must (first|refine wpList_st 40 _ _ rfl rfl _ _ rfl rfl (s1.out _ rfl) ?_);simp only[pts]))
   go_quiet (fail)
   have e12:(W1.drewN nq).cell? ⟨c.B,12,none⟩=some (.slice (some ⟨c.g,c.o,none⟩) f.toks.length c.cp):=b12'
   have e20:(W1.drewN nq).cell? ⟨w.heap.size,20,none⟩=some (.int .i64 n):=a20
   obtain⟨p,p0,pB,pI,hNe,pc',pl,pk⟩:=clsT (W1.drewN nq)
   have hBl:c.B<(W1.drewN nq).heap.size:=h1.out.ds.lt
   have hgl:c.g<(W1.drewN nq).heap.size:=h1.out.lg
   have hwl:w.heap.size<(W1.drewN nq).heap.size:=by show _<W1.heap.size;omega
   have f12:=fun θ=>(pc' c.B 12 hBl θ).trans e12
   have f20:=fun θ=>(pc' w.heap.size 20 hwl θ).trans e20
   have lu:=pl c.g _ u qc qd hgl (hX.out.same rfl)
   have HW:Hid (∀ W,p W->Below W1.heap.size W1 W/\TkC W w.heap.size 0 t pc cc):=⟨fun W hW=>⟨(tdr (Below.refl _ _)).trans (pB W hW),hA.out.below (B:=W1.heap.size) (by omega) ((tdr (Below.refl _ _)).trans (pB W hW))⟩⟩
   clear pc' pl pk
   go_wp2_with fail
   refine wp_region_lp p (by kernel_rfl) (by kernel_rfl) (fun _ _ d _ _ h=>by cases d<;>exact h) p0 fun W hp=>?_
   repeat (first|(guard_target =~ Lx _ _ _ _ (Oper.mk _ (Op.load 40 _) _ _ _ _::_) _ _;(first|refine lx_ld lu rfl rfl ?_);simp only[pts])|(guard_target =~ Lx _ _ _ _ (Oper.mk _ (Op.alloc 40) _ _ _ _::_) _ _;refine lx_act (by rfl) (by rfl) ?_;intro K hK;go_simp;refine hK _ _ ⟨⟨_,pI _ ((pB _ hp).trans ((bel1 W _).mono (pB _ hp).size))⟩,rfl⟩ ?_;clear hK K)|(guard_target =~ Lx _ _ _ _ (Oper.mk _ (Op.store 40 _ _) _ _ _ _::_) _ _;obtain⟨W2,s2,hY,hb2,hz2⟩:=ld_new W u qc qd;refine lx_st (s2 _ rfl) ⟨⟨W2,pI _ ((pB _ hp).trans (hb2.mono (pB _ hp).size))⟩,rfl⟩ rfl rfl (by rfl) ?_;clear s2;simp only[pts])|(refine lx_one rfl ?_;(first|go_big_quiet_skip|(go_big_quiet_want;go_big_quiet_op;go_big_quiet_on));refine wpQuiet_nil ?_)|(refine lx_skip (by rfl) ?_;simp only[pts]))
   refine lx_done ?_
   obtain⟨hbW,hTW⟩:=HW.out W hp
   have hA2:=own_tk hTW (Nat.lt_of_lt_of_le (by omega) hbW.size) hb2
   have y0:W2.cell? ⟨W.heap.size,0,none⟩=some (.int .i64 u.op):=hY.c0
   have y1:W2.cell? ⟨W.heap.size,1,none⟩=some (.string u.name):=hY.c1
   have y20:W2.cell? ⟨W.heap.size,20,none⟩=some (.int .i64 u.pair):=hY.c20
   have z0:W2.cell? ⟨w.heap.size,0,none⟩=some (.int .i64 t.op):=hA2.c0
   have z1:W2.cell? ⟨w.heap.size,1,none⟩=some (.string t.name):=hA2.c1
   replace hbW:=Hid.mk hbW
   clear hA2 hY hTW HW lu f12 f20 pI pB
   go_wp2_with fail
   all_goals
    go_ret
    refine⟨⟨_,rfl,?_⟩,hb1.out.trans ((hbW.out.trans (hb2.mono hbW.out.size)).mono hb1.out.size)⟩
    rw[hP.out]
    simp_all
  ·have hP:Hid (¬ pairB f.toks c.i t=true):=⟨fun e=>hp (by unfold pairB at e;rw[Bool.and_eq_true] at e;exact decT e.1)⟩
   by_cases hp1:t.pair<=c.i
   ·have d1:decide (t.pair<=(c.i:Int))=true:=by simp;omega
    clear hp hp1
    go_enter Tryz.func29,Tryz.ntmps29
    go_wp2_with (first
     | (go_at_call 18;refine cB.mono ?_;rintro _ wq ⟨rfl,e⟩;obtain rfl:W1=wq:=e.symm)
     | (guard_target =~ wpList _ _ _ (Oper.mk _ (Op.load 40 _) _ _ _ _::_) _ _;go_must (first|refine wpList_ld 40 _ rfl rfl _ _ rfl l1.out ?_);simp only[pts])
     | (guard_target =~ wpList _ _ _ (Oper.mk _ (Op.store 40 _ _) _ _ _ _::_) _ _;go_must (refine wpList_st 40 _ _ rfl rfl _ _ rfl rfl (s1.out _ rfl) ?_);simp only[pts]))
    go_quiet (fail)
    go_wp2_with fail
    go_ret
    exact⟨Ans.no hP.out,tdr hb1.out⟩
   ·have d1:decide (t.pair<=(c.i:Int))=false:=by simp;omega
    have d2:decide (t.pair≥(f.toks.length:Int))=true:=by simp;omega
    clear hp hp1
    go_enter Tryz.func29,Tryz.ntmps29
    go_wp2_with (first
     | (go_at_call 18;refine cB.mono ?_;rintro _ wq ⟨rfl,e⟩;obtain rfl:W1=wq:=e.symm)
     | (guard_target =~ wpList _ _ _ (Oper.mk _ (Op.load 40 _) _ _ _ _::_) _ _;go_must (first|refine wpList_ld 40 _ rfl rfl _ _ rfl l1.out ?_);simp only[pts])
     | (guard_target =~ wpList _ _ _ (Oper.mk _ (Op.store 40 _ _) _ _ _ _::_) _ _;go_must (refine wpList_st 40 _ _ rfl rfl _ _ rfl rfl (s1.out _ rfl) ?_);simp only[pts]))
    go_quiet (fail)
    go_wp2_with fail
    go_ret
    exact⟨Ans.no hP.out,tdr hb1.out⟩
end Go.Proofs.YtcgimchhcaankaaGreatDoor
