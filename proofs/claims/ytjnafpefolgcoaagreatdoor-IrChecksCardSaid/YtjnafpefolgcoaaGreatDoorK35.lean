import Derived.Test.YtjnafpefolgcoaaGreatDoorK30
namespace Go.Proofs.YtjnafpefolgcoaaGreatDoor
set_option maxRecDepth 1000000
set_option maxHeartbeats 16000000
open Go.ChangeShapes Go.WideShapes Go.ChangeAt Go.RowKit Go.Shelf Go.Maps
theorem idC_length (l:List Int):(idC l).length=l.length*1:=by unfold idC;rw[List.length_map];omega
theorem idC_append (a b:List Int):idC (a++b)=idC a++idC b:=by unfold idC;rw[List.map_append]
theorem idC_one (l:List Int):∀ u∈idC l,u.oneCell'=true:=by
 intro u hu
 obtain⟨a,_,rfl⟩:=List.mem_map.1 hu
 rfl
theorem i_ap {W:World} {base:Nat} {v:Value} {al bl:List Int} {ad:Addr} (cb:Nat) (own:W.ownsRow base 3 1 v al.length (idC al)) (hB:∀ (j:Nat) (u:Value),(idC bl)[j]?=some u->W.cell? (ad.add j)=some u) (hl:al.length+bl.length<=977343669134) (hb:base<=W.heap.size) :
  ∃ v' w',(∀ ty,(Builtin.append_ #[45,45] ty #[v,.slice (some ad) bl.length cb]).run Tryz.prog W = .ok v' w')/\(w'.ownsRow base 3 1 v' (al++bl).length (idC (al++bl))/\W.grownBy w' v.ownBlock/\(v'.ownBlock=v.ownBlock\/v'.ownBlock=some W.heap.size)):=by
 obtain⟨i0,hi,hz,hs,hby⟩:=infoOf 3 (.int .i64 0) 1 8 (by kernel_rfl)
 have hr:=fun ty=>run_append_own_at (P:=Tryz.prog) W base 45 ty 3 i0 _ 1 8 Tryz.underlying45 hi hz hs hby rfl (by decide) v al.length (idC al) own ad bl.length cb (idC bl) (idC_length bl) hB (idC_one bl) (by simp only[maxLen];omega) (by omega) hb
 obtain⟨v',w',h1,h2,h3,_,h4⟩:=hr 0
 refine⟨v',w',fun ty=>?_,by rw[List.length_append,idC_append];exact h2,h3,h4⟩
 have e:(Builtin.append_ #[45,45] ty #[v,.slice (some ad) bl.length cb])=(Builtin.append_ #[45,45] 0 #[v,.slice (some ad) bl.length cb]):=rfl
 rw[e]
 exact h1
theorem lit1 {W:World} {gB:Nat} {x:Int} {ty:TypeId} (h:W.heap[gB]?=some (.cells #[.int .i64 x] ty)):∀ (j:Nat) (u:Value),(idC [x])[j]?=some u->W.cell? ((⟨gB,0,none⟩:Addr).add j)=some u:=by
 intro j u hu
 have e:(⟨gB,0,none⟩:Addr).add j=⟨gB,0+j,none⟩:=by unfold Addr.add;split<;>simp_all
 rw[e,Nat.zero_add,cell_at h]
 unfold idC at hu
 simpa using hu
theorem own_low {w:World} {H n:Nat} {ty:TypeId} {v:Value} {xs:List Value} (h:w.ownsRow H ty 1 v n xs):∀ k,v.ownBlock=some k->H<=k:=by
 intro k hk
 rcases h.2 with ⟨h0,_⟩|⟨g,cap,cur,e,hb',_⟩
 ·rw[h0] at hk;cases hk
 ·rw[e] at hk
  have:g=k:=by simpa[Value.ownBlock] using hk
  omega
theorem own_slice {w:World} {H n z:Nat} {ty:TypeId} {v:Value} {xs:List Value} (h:w.ownsRow H ty z v n xs) (hn:0<n):∃ g cap,v = .slice (some ⟨g,0,none⟩) n cap:=by
 rcases h.2 with ⟨_,h0⟩|⟨g,cap,cur,e,_⟩
 ·omega
 ·exact⟨g,cap,e⟩
theorem ids_fin {we Wp w':World} {c:Df} {f:Fm} {L:List Od} {x:Od} {xt t:Tk} {ids:List Int} {vi v':Value} {k:Int} (h:Dt we c f L x xt t ids vi) (hW:Below we.heap.size we Wp) (q1:w'.ownsRow c.H 3 1 v' (ids.length+1) (idC (ids++[k]))) (q2:Wp.grownBy w' vi.ownBlock) (q3:v'.ownBlock=vi.ownBlock\/v'.ownBlock=some Wp.heap.size) :
  Dt (w'.setCell ⟨c.B,14,none⟩ v') c f L x xt t (ids++[k]) v'/\Kb (c.B::vi.ownBlock.toList) we (w'.setCell ⟨c.B,14,none⟩ v'):=by
 have hs:=hW.size
 have hBl:=h.ds.lt
 have hol:=h.op.lt
 have a:=h.ap
 have key:∀ j,j<we.heap.size->vi.ownBlock≠some j->w'.heap[j]?=we.heap[j]?:=fun j hj hn=>(q2.block j (by omega) (fun e=>hn e.symm)).trans (hW.block j hj)
 have low:∀ j,j<c.H->w'.heap[j]?=we.heap[j]?:=fun j hj=>key j (by have:=h.sz;omega) (fun e=>by have:=own_low h.ir j e;omega)
 have nB:v'.ownBlock≠some c.B:=fun e=>by
  rcases q3 with q|q
  ·exact a.iB (q▸e)
  ·rw[q] at e;have:Wp.heap.size=c.B:=by simpa using e
   omega
 have nO:v'.ownBlock≠some c.go:=fun e=>by
  rcases q3 with q|q
  ·exact a.io (q▸e)
  ·rw[q] at e;have:Wp.heap.size=c.go:=by simpa using e
   omega
 have kb:Kb (c.B::vi.ownBlock.toList) we (w'.setCell ⟨c.B,14,none⟩ v'):=by
  have kg:Kb (c.B::vi.ownBlock.toList) Wp w':=⟨q2.os,q2.tape,q2.output,q2.size,fun j hj he=>q2.block j hj fun e=>he (List.mem_cons_of_mem _ (by rw[<- e];simp))⟩
  exact((Kb.of_below hW).trans kg).set (List.mem_cons_self ..) _
 refine⟨⟨(h.ds.same (key _ hBl a.iB)).setI v',(h.op.same (key _ hol a.io)).same (set_oth a.Bo),?_,⟨h.tl.row.same fun j hj=>(set_oth (by have:=a.B;omega)).trans (low j hj),h.tl.len,h.tl.ok⟩,h.hx,h.ht,⟨a.g,a.B,a.go,a.Bo,nB,nO⟩,Nat.le_trans h.sz kb.size,h.ln⟩,kb⟩
 rw[show (ids++[k]).length=ids.length+1 by simp]
 refine⟨q1.1,?_⟩
 rcases q1.2 with h0|⟨g,cap,cur,e,hb',hg,r⟩
 ·exact .inl h0
 ·refine .inr ⟨g,cap,cur,e,hb',(set_oth fun e'=>nB ?_).trans hg,r⟩
  rw[e,e']
  rfl
structure Di (w:World) (c:Df) (f:Fm) (vo vi:Value) (ids:List Int):Prop where
 ds:DsH w c.B f (some ⟨c.g,c.o,none⟩) c.cp vo vi
 ir:w.ownsRow c.H 3 1 vi ids.length (idC ids)
 ap:Dap c vi
 sz:c.H<=w.heap.size
theorem Dt.di {w:World} {c:Df} {f:Fm} {L:List Od} {x:Od} {xt t:Tk} {ids:List Int} {vi:Value} (h:Dt w c f L x xt t ids vi):Di w c f (.slice (some ⟨c.go,0,none⟩) (L.length+1) c.cap) vi ids:=⟨h.ds,h.ir,h.ap,h.sz⟩
theorem Di.kept {w w':World} {c:Df} {f:Fm} {vo vi:Value} {ids:List Int} (h:Di w c f vo vi ids) (hb:Kb [c.go] w w'):Di w' c f vo vi ids:=by
 have a:=h.ap
 refine⟨h.ds.same (hb.block _ h.ds.lt (notin1 a.Bo)),⟨h.ir.1,?_⟩,a,Nat.le_trans h.sz hb.size⟩
 rcases h.ir.2 with h0|⟨g,cap,cur,e,hb',hg,r⟩
 ·exact .inl h0
 ·refine .inr ⟨g,cap,cur,e,hb',(hb.block g (Array.getElem?_eq_some_iff.1 hg).1 (notin1 fun e'=>?_)).trans hg,r⟩
  apply a.io
  rw[e,e']
  rfl
theorem ids_kb {we Wp w':World} {c:Df} {vi v':Value} (hW:Below we.heap.size we Wp) (q2:Wp.grownBy w' vi.ownBlock):Kb (c.B::vi.ownBlock.toList) we (w'.setCell ⟨c.B,14,none⟩ v'):=by
 have kg:Kb (c.B::vi.ownBlock.toList) Wp w':=⟨q2.os,q2.tape,q2.output,q2.size,fun j hj he=>q2.block j hj fun e=>he (List.mem_cons_of_mem _ (by rw[<- e];simp))⟩
 exact((Kb.of_below hW).trans kg).set (List.mem_cons_self ..) _
theorem kb_go {c:Df} {vi:Value} {w w':World} (h:Kb [c.go] w w'):Kb (c.go::c.B::vi.ownBlock.toList) w w':=h.mono fun _ hj=>by rw[List.mem_singleton.1 hj];exact List.mem_cons_self ..
theorem kb_tl {c:Df} {vi:Value} {w w':World} (h:Kb (c.B::vi.ownBlock.toList) w w'):Kb (c.go::c.B::vi.ownBlock.toList) w w':=h.mono fun _ hj=>List.mem_cons_of_mem _ hj
theorem URow.two {w W:World} {p:Option Addr} {l:List Int} (h:URow w p w.heap.size l) (hb:Below w.heap.size w W):URow W p W.heap.size l:=(h.below hb).mono hb.size
abbrev bareT (t:Tk):Tk:=⟨t.op,t.name,0,0,0,0,0,0,0,0,0,0,[],0,0,0,sp0,sp0,t.pair⟩
def mskK (t:Tk) (pc:Option Addr) (cc:Nat) (K:Int) (m:Tk) (pm:Option Addr) (cm:Nat):Prop:=(K=0/\⟨t.op,t.name,t.id,0,0,t.since,0,0,0,0,0,0,[],0,t.blk,t.full,sp0,sp0,t.pair⟩=m/\none=pm/\0=cm)\/(K=4/\⟨t.op,t.name,t.id,0,t.siz,t.since,0,0,0,0,0,0,[],0,t.blk,t.full,t.a,t.b,t.pair⟩=m/\none=pm/\0=cm)\/(K=2/\⟨t.op,t.name,t.id,t.off,t.siz,t.since,0,0,t.pres,0,0,0,t.cst,0,0,0,sp0,sp0,t.pair⟩=m/\pc=pm/\cc=cm)\/(K=6/\⟨t.op,t.name,t.id,0,t.siz,t.since,t.prim,0,0,0,0,0,[],0,0,0,t.a,sp0,t.pair⟩=m/\none=pm/\0=cm)\/(K=8/\⟨t.op,t.name,0,t.off,t.siz,0,0,0,0,0,0,0,[],0,0,0,sp0,sp0,t.pair⟩=m/\none=pm/\0=cm)\/(K=10/\⟨t.op,t.name,0,t.off,t.siz,0,0,0,t.pres,0,0,0,[],0,0,0,sp0,sp0,t.pair⟩=m/\none=pm/\0=cm)\/(K=12/\⟨t.op,t.name,0,t.off,t.siz,0,0,0,t.pres,0,0,0,[],0,0,0,sp0,sp0,t.pair⟩=m/\none=pm/\0=cm)\/(K=14/\⟨t.op,t.name,0,t.off,t.siz,0,t.prim,t.len,t.pres,t.nul,t.lo,t.hi,t.cst,0,0,0,sp0,sp0,t.pair⟩=m/\pc=pm/\cc=cm)\/(K=15/\⟨t.op,t.name,0,0,0,t.since,0,0,0,0,0,0,[],t.val,0,0,sp0,sp0,t.pair⟩=m/\none=pm/\0=cm)\/(K=99/\⟨t.op,t.name,0,0,0,0,0,0,0,0,0,0,[],0,0,0,sp0,sp0,t.pair⟩=m/\none=pm/\0=cm)
theorem plain_k (K:Int) (t m:Tk) (pc pm:Option Addr) (cc cm:Nat) (w:World) (hu:URow w pc w.heap.size t.cst) (hU:∀ W,Below w.heap.size w W->URow W pm W.heap.size m.cst) (hs:m.cst.length*8<=140737488355328) (d:∀ j∈[0,2,4,6,8,10,12,14,(15:Int)],(t.op==j)=(K==j)) (hK:mskK t pc cc K m pm cm) :
  Calls Tryz.prog 28 #[tkV t pc cc] w fun r w'=>Ans r (m=t)/\Below w.heap.size w w':=by
 have d0:=d 0 (by decide)
 have d4:=d 4 (by decide)
 have d2:=d 2 (by decide)
 have d6:=d 6 (by decide)
 have d8:=d 8 (by decide)
 have d10:=d 10 (by decide)
 have d12:=d 12 (by decide)
 have d14:=d 14 (by decide)
 have d15:=d 15 (by decide)
 have e8:(t.op != 8) = !(K==8):=by rw[<- d8];rfl
 have hA:=tk_of (heap_al w (tkO t pc cc))
 have HB:Below w.heap.size w (w.alloc (tkO t pc cc)):=bel1 _ _
 have HS:w.heap.size<(w.alloc (tkO t pc cc)).heap.size:=by simp
 clear d
 generalize hW:w.alloc (tkO t pc cc)=W at hA HB HS
 have cX:∀ (A:Obj),TkC (W.alloc A) w.heap.size 0 t pc cc:=fun A=>hA.below HS (bel1 _ _)
 have s1:=fun z hz=>st_new W z hz (bareT t) none 0
 have s2:=fun z hz=>st_new W z hz t pc cc
 have lt:=fun A=>(cX A).load
 have lx:=(tk_of (heap_al W (tkO m pm cm))).load
 have lw:=hA.load
 have cS:=refSameTk_any m t pm pc cm cc (W.alloc (tkO m pm cm)) (hU _ (HB.trans ((bel1 W _).mono HB.size))) (hu.two (HB.trans ((bel1 W _).mono HB.size))) hs
 have HF:Hid (Below w.heap.size w (W.alloc (tkO m pm cm))/\w.heap.size<=(W.alloc (tkO m pm cm)).heap.size):=⟨HB.trans ((bel1 W _).mono HB.size),Nat.le_trans HB.size (al_le _ _)⟩
 have c0:=hA.c0
 have c1:=hA.c1
 have c20:=hA.c20
 have r0:=fun A=>(cX A).c0
 have r2:=fun A=>(cX A).c2
 have r3:=fun A=>(cX A).c3
 have r4:=fun A=>(cX A).c4
 have r5:=fun A=>(cX A).c5
 have r6:=fun A=>(cX A).c6
 have r7:=fun A=>(cX A).c7
 have r8:=fun A=>(cX A).c8
 have r9:=fun A=>(cX A).c9
 have r10:=fun A=>(cX A).c10
 have r11:=fun A=>(cX A).c11
 have r12:=fun A=>(cX A).c12
 have r13:=fun A=>(cX A).c13
 have r14:=fun A=>(cX A).c14
 have r15:=fun A=>(cX A).c15
 have r16:=fun A=>(cX A).c16
 have r17:=fun A=>(cX A).c17
 have r18:=fun A=>(cX A).c18
 have r19:=fun A=>(cX A).c19
 clear cX hA hU hs hu HS
 simp only[tkO,tkC] at hW
 replace HB:=Hid.mk HB
 unfold mskK at hK
 rcases hK with ⟨rfl,rfl,rfl,rfl⟩|⟨rfl,rfl,rfl,rfl⟩|⟨rfl,rfl,rfl,rfl⟩|⟨rfl,rfl,rfl,rfl⟩|⟨rfl,rfl,rfl,rfl⟩|⟨rfl,rfl,rfl,rfl⟩|⟨rfl,rfl,rfl,rfl⟩|⟨rfl,rfl,rfl,rfl⟩|⟨rfl,rfl,rfl,rfl⟩|⟨rfl,rfl,rfl,rfl⟩
 all_goals
  simp only[Int.reduceBEq,Bool.not_true,Bool.not_false] at d0 d2 d4 d6 d8 d10 d12 d14 d15 e8
  simp only[tkO,tkC,bareT,List.length_nil] at s1 s2 lt lx cS HF lw
  replace s2:=Hid.mk s2
  replace cS:=Hid.mk cS
  replace s1:=Hid.mk s1
  replace lt:=Hid.mk lt
  replace lx:=Hid.mk lx
  replace lw:=Hid.mk lw
  go_enter Tryz.func28,Tryz.ntmps28
  go_wp2_with (first
   | (guard_target =~ wpList _ _ _ (Oper.mk _ (Op.load 53 _) _ _ _ _::_) _ _;go_must (first|refine wpList_ld 53 _ rfl rfl _ _ rfl lx.out ?_|refine wpList_ld 53 _ rfl rfl _ _ rfl (lt.out _) ?_|refine wpList_ld 53 _ rfl rfl _ _ rfl lw.out ?_);simp only[pts])
   | (guard_target =~ wpList _ _ _ (Oper.mk _ (Op.store 53 _ _) _ _ _ _::_) _ _;go_must (first|refine wpList_st 53 _ _ rfl rfl _ _ rfl rfl (s1.out _ rfl) ?_|refine wpList_st 53 _ _ rfl rfl _ _ rfl rfl (s2.out _ rfl) ?_);simp only[pts]))
  refine cS.out.mono ?_
  rintro _ w1 ⟨⟨b,rfl,hb⟩,hb1⟩
  replace hb:=Hid.mk hb
  clear cS s1 s2 lt lx lw
  go_wp2_with fail
  go_ret
  exact⟨⟨b,rfl,hb.out⟩,HF.out.1.trans (hb1.mono HF.out.2)⟩
theorem refPlain_any (t:Tk) (pc:Option Addr) (cc:Nat) (w:World) (hu:URow w pc w.heap.size t.cst) (hs:t.cst.length*8<=140737488355328) :
  Calls Tryz.prog 28 #[tkV t pc cc] w fun r w'=>r = .returned (.bool (plainB t))/\Below w.heap.size w w':=by
 suffices hh:Calls Tryz.prog 28 #[tkV t pc cc] w fun r w'=>Ans r (maskD t=t)/\Below w.heap.size w w' from hh.mono fun r w' h=>⟨h.1.said (maskD_iff t),h.2⟩
 obtain⟨K,pm,cm,h1,h2⟩:∃ K pm cm,(∀ j∈[0,2,4,6,8,10,12,14,(15:Int)],(t.op==j)=(K==j))/\mskK t pc cc K (maskD t) pm cm:=by
  unfold mskK maskD
  by_cases h0:t.op=0
  ·exact⟨0,none,0,fun j _=>by rw[h0],by simp[h0]⟩
  by_cases h4:t.op=4
  ·exact⟨4,none,0,fun j _=>by rw[h4],by simp[h4]⟩
  by_cases h2:t.op=2
  ·exact⟨2,pc,cc,fun j _=>by rw[h2],by simp[h2]⟩
  by_cases h6:t.op=6
  ·exact⟨6,none,0,fun j _=>by rw[h6],by simp[h6]⟩
  by_cases h8:t.op=8
  ·exact⟨8,none,0,fun j _=>by rw[h8],by simp[h8]⟩
  by_cases h10:t.op=10
  ·exact⟨10,none,0,fun j _=>by rw[h10],by simp[h10]⟩
  by_cases h12:t.op=12
  ·exact⟨12,none,0,fun j _=>by rw[h12],by simp[h12]⟩
  by_cases h14:t.op=14
  ·exact⟨14,pc,cc,fun j _=>by rw[h14],by simp[h14]⟩
  by_cases h15:t.op=15
  ·exact⟨15,none,0,fun j _=>by rw[h15],by simp[h15]⟩
  exact⟨99,none,0,fun j hj=>by simp at hj;rcases hj with rfl|rfl|rfl|rfl|rfl|rfl|rfl|rfl|rfl<;>simp[*],by simp[*]⟩
 have h3:(maskD t).cst=[]/\pm=none\/(maskD t).cst=t.cst/\pm=pc:=by
  unfold mskK at h2
  rcases h2 with ⟨-,e,e2,-⟩|⟨-,e,e2,-⟩|⟨-,e,e2,-⟩|⟨-,e,e2,-⟩|⟨-,e,e2,-⟩|⟨-,e,e2,-⟩|⟨-,e,e2,-⟩|⟨-,e,e2,-⟩|⟨-,e,e2,-⟩|⟨-,e,e2,-⟩<;>rw[<- e,<- e2]<;>simp
 refine plain_k K t (maskD t) pc pm cc cm w hu (fun W hW=>?_) ?_ h1 h2
 ·rcases h3 with ⟨e,rfl⟩|⟨e,rfl⟩<;>rw[e]
  ·exact URow.nil _ _ _
  ·exact hu.two hW
 ·rcases h3 with ⟨e,-⟩|⟨e,-⟩<;>rw[e]
  ·exact Nat.zero_le _
  ·exact hs
theorem refPaired_any (c:Df) (f:Fm) (t:Tk) (vo vi:Value) (w:World) (h:D0 w c f t vo vi) :
  Calls Tryz.prog 29 #[.pointer (some ⟨c.B,0,none⟩),.int .i64 (c.i:Int)] w fun r w'=>r = .returned (.bool (if bgO t.op then pairB f.toks c.i t else decide (t.pair=c.i)))/\Below w.heap.size w w':=by
 obtain⟨pc,cc,hT,hU,hC,hO⟩:=h.tk
 have b12:=h.ds.c12
 have hil:(c.i:Int)<f.toks.length:=by have:=h.il;omega
 have hll:=h.ll
 have l1:=hT.load
 obtain⟨W1,s1,hA,hb1,hz1⟩:=ld_new w t pc cc
 have h1:=h.below hb1
 have b12':=h1.ds.c12
 have a0:W1.cell? ⟨w.heap.size,0,none⟩=some (.int .i64 t.op):=hA.c0
 have a1:W1.cell? ⟨w.heap.size,1,none⟩=some (.string t.name):=hA.c1
 have a20:W1.cell? ⟨w.heap.size,20,none⟩=some (.int .i64 t.pair):=hA.c20
 have cB:=refBegins_any t.op W1 hO.op
 replace l1:=Hid.mk l1
 replace s1:=Hid.mk s1
 replace h:=Hid.mk h
 replace h1:=Hid.mk h1
 replace hA:=Hid.mk hA
 replace hb1:=Hid.mk hb1
 replace hO:=Hid.mk hO
 clear hT hU hC
 cases kb:bgO t.op with
 | false =>
  rw[kb] at cB
  rw[if_neg (by decide)]
  clear kb
  go_enter Tryz.func29,Tryz.ntmps29
  go_wp2_with (first
   | (go_at_call 17;refine cB.mono ?_;rintro _ wq ⟨rfl,e⟩;obtain rfl:W1=wq:=e.symm)
   | (guard_target =~ wpList _ _ _ (Oper.mk _ (Op.load 53 _) _ _ _ _::_) _ _;go_must (first|refine wpList_ld 53 _ rfl rfl _ _ rfl l1.out ?_);simp only[pts])
   | (guard_target =~ wpList _ _ _ (Oper.mk _ (Op.store 53 _ _) _ _ _ _::_) _ _;go_must (refine wpList_st 53 _ _ rfl rfl _ _ rfl rfl (s1.out _ rfl) ?_);simp only[pts]))
  go_ret
  exact⟨rb (by rw[Bool.eq_iff_iff];simp),hb1.out⟩
 | true =>
  rw[kb] at cB
  rw[if_pos rfl]
  suffices hh:Calls Tryz.prog 29 #[.pointer (some ⟨c.B,0,none⟩),.int .i64 (c.i:Int)] w fun r w'=>Ans r (pairB f.toks c.i t=true)/\Below w.heap.size w w' from hh.mono fun r w' h=>⟨h.1.same,h.2⟩
  have hw:=bgO_i64 kb
  replace kb:=Hid.mk kb
  by_cases hp:(c.i:Int)<t.pair/\t.pair<f.toks.length
  ·have d1:decide (t.pair<=(c.i:Int))=false:=by simp;omega
   have d2:decide (t.pair≥(f.toks.length:Int))=false:=by simp;omega
   obtain⟨n,hn⟩:∃ n:Nat,t.pair=n:=⟨t.pair.toNat,by omega⟩
   obtain⟨u,hu⟩:∃ u,f.toks[n]?=some u:=⟨f.toks[n]'(by omega),List.getElem?_eq_getElem (by omega)⟩
   obtain⟨qc,qd,hX,_,_,_⟩:=h1.out.at hu
   have l2:=hX.load
   have hP:Hid (pairB f.toks c.i t=true↔u.op=t.op+1/\u.name.toList=t.name.toList/\u.pair=c.i):=⟨by
    unfold pairB
    rw[hn,Int.toNat_natCast,hu]
    have:(c.i:Int)<n/\(n:Int)<f.toks.length:=by omega
    simp[this,<- ba_eq,and_assoc]⟩
   have hni:(n:Int)<f.toks.length:=by omega
   rw[hn] at a20 d1 d2
   have d3:decide (n<=c.i)=false:=by simp;omega
   have d4:decide (f.toks.length<=n)=false:=by simp;omega
   replace hn:=Hid.mk hn
   clear l2 hp
   replace hX:=Hid.mk hX
   go_enter Tryz.func29,Tryz.ntmps29
   go_wp2_with (first
    | (go_at_call 17;refine cB.mono ?_;rintro _ wq ⟨rfl,e⟩;obtain rfl:W1=wq:=e.symm)
    | (guard_target =~ wpList _ _ _ (Oper.mk _ (Op.load 53 _) _ _ _ _::_) _ _;go_must (first|refine wpList_ld 53 _ rfl rfl _ _ rfl l1.out ?_);simp only[pts])
    | (guard_target =~ wpList _ _ _ (Oper.mk _ (Op.store 53 _ _) _ _ _ _::_) _ _;go_must (first|refine wpList_st 53 _ _ rfl rfl _ _ rfl rfl (s1.out _ rfl) ?_);simp only[pts]))
   go_quiet (fail)
   have e12:(W1.drewN nq).cell? ⟨c.B,12,none⟩=some (.slice (some ⟨c.g,c.o,none⟩) f.toks.length c.cp):=b12'
   have e20:(W1.drewN nq).cell? ⟨w.heap.size,20,none⟩=some (.int .i64 n):=a20
   obtain⟨p,p0,pB,pI,hNe,pc',pl,pk⟩:=clsT (W1.drewN nq)
   have hBl:c.B<(W1.drewN nq).heap.size:=h1.out.ds.lt
   have hgl:c.g<(W1.drewN nq).heap.size:=h1.out.lg
   have hwl:w.heap.size<(W1.drewN nq).heap.size:=by show _<W1.heap.size;omega
   have f12:=fun θ=>(pc' c.B 12 hBl θ).trans e12
   have f20:=fun θ=>(pc' w.heap.size 20 hwl θ).trans e20
   have lu:=pl c.g _ u qc qd hgl (hX.out.same rfl)
   have HW:Hid (∀ W,p W->Below W1.heap.size W1 W/\TkC W w.heap.size 0 t pc cc):=⟨fun W hW=>⟨(tdr (Below.refl _ _)).trans (pB W hW),hA.out.below (B:=W1.heap.size) (by omega) ((tdr (Below.refl _ _)).trans (pB W hW))⟩⟩
   clear pc' pl pk
   go_wp2_with fail
   refine wp_region_lp p (by kernel_rfl) (by kernel_rfl) (fun _ _ d _ _ h=>by cases d<;>exact h) p0 fun W hp=>?_
   repeat (first|(guard_target =~ Lx _ _ _ _ (Oper.mk _ (Op.load 53 _) _ _ _ _::_) _ _;(first|refine lx_ld lu rfl rfl ?_);simp only[pts])|(guard_target =~ Lx _ _ _ _ (Oper.mk _ (Op.alloc 53) _ _ _ _::_) _ _;refine lx_act (by rfl) (by rfl) ?_;intro K hK;go_simp;refine hK _ _ ⟨⟨_,pI _ ((pB _ hp).trans ((bel1 W _).mono (pB _ hp).size))⟩,rfl⟩ ?_;clear hK K)|(guard_target =~ Lx _ _ _ _ (Oper.mk _ (Op.store 53 _ _) _ _ _ _::_) _ _;obtain⟨W2,s2,hY,hb2,hz2⟩:=ld_new W u qc qd;refine lx_st (s2 _ rfl) ⟨⟨W2,pI _ ((pB _ hp).trans (hb2.mono (pB _ hp).size))⟩,rfl⟩ rfl rfl (by rfl) ?_;clear s2;simp only[pts])|(refine lx_one rfl ?_;(first|go_big_quiet_skip|(go_big_quiet_want;go_big_quiet_op;go_big_quiet_on));refine wpQuiet_nil ?_)|(refine lx_skip (by rfl) ?_;simp only[pts]))
   refine lx_done ?_
   obtain⟨hbW,hTW⟩:=HW.out W hp
   have hA2:=own_tk hTW (Nat.lt_of_lt_of_le (by omega) hbW.size) hb2
   have y0:W2.cell? ⟨W.heap.size,0,none⟩=some (.int .i64 u.op):=hY.c0
   have y1:W2.cell? ⟨W.heap.size,1,none⟩=some (.string u.name):=hY.c1
   have y20:W2.cell? ⟨W.heap.size,20,none⟩=some (.int .i64 u.pair):=hY.c20
   have z0:W2.cell? ⟨w.heap.size,0,none⟩=some (.int .i64 t.op):=hA2.c0
   have z1:W2.cell? ⟨w.heap.size,1,none⟩=some (.string t.name):=hA2.c1
   replace hbW:=Hid.mk hbW
   clear hA2 hY hTW HW lu f12 f20 pI pB
   go_wp2_with fail
   all_goals
    go_ret
    refine⟨⟨_,rfl,?_⟩,hb1.out.trans ((hbW.out.trans (hb2.mono hbW.out.size)).mono hb1.out.size)⟩
    rw[hP.out]
    simp_all
  ·have hP:Hid (¬ pairB f.toks c.i t=true):=⟨fun e=>hp (by unfold pairB at e;rw[Bool.and_eq_true] at e;exact decT e.1)⟩
   by_cases hp1:t.pair<=c.i
   ·have d1:decide (t.pair<=(c.i:Int))=true:=by simp;omega
    clear hp hp1
    go_enter Tryz.func29,Tryz.ntmps29
    go_wp2_with (first
     | (go_at_call 17;refine cB.mono ?_;rintro _ wq ⟨rfl,e⟩;obtain rfl:W1=wq:=e.symm)
     | (guard_target =~ wpList _ _ _ (Oper.mk _ (Op.load 53 _) _ _ _ _::_) _ _;go_must (first|refine wpList_ld 53 _ rfl rfl _ _ rfl l1.out ?_);simp only[pts])
     | (guard_target =~ wpList _ _ _ (Oper.mk _ (Op.store 53 _ _) _ _ _ _::_) _ _;go_must (refine wpList_st 53 _ _ rfl rfl _ _ rfl rfl (s1.out _ rfl) ?_);simp only[pts]))
    go_quiet (fail)
    go_wp2_with fail
    go_ret
    exact⟨Ans.no hP.out,tdr hb1.out⟩
   ·have d1:decide (t.pair<=(c.i:Int))=false:=by simp;omega
    have d2:decide (t.pair≥(f.toks.length:Int))=true:=by simp;omega
    clear hp hp1
    go_enter Tryz.func29,Tryz.ntmps29
    go_wp2_with (first
     | (go_at_call 17;refine cB.mono ?_;rintro _ wq ⟨rfl,e⟩;obtain rfl:W1=wq:=e.symm)
     | (guard_target =~ wpList _ _ _ (Oper.mk _ (Op.load 53 _) _ _ _ _::_) _ _;go_must (first|refine wpList_ld 53 _ rfl rfl _ _ rfl l1.out ?_);simp only[pts])
     | (guard_target =~ wpList _ _ _ (Oper.mk _ (Op.store 53 _ _) _ _ _ _::_) _ _;go_must (refine wpList_st 53 _ _ rfl rfl _ _ rfl rfl (s1.out _ rfl) ?_);simp only[pts]))
    go_quiet (fail)
    go_wp2_with fail
    go_ret
    exact⟨Ans.no hP.out,tdr hb1.out⟩
theorem rdigit (c:Nat) (w:World):Calls Tryz.prog 95 #[.int .u8 (c:Int)] w fun e w'=>e = .returned (.bool (ndig c))/\w'=w:=by
 unfold ndig
 by_cases h:48<=c
 ·go_enter Tryz.func95,Tryz.ntmps95
  go_wp2
  go_ret
  exact⟨nret (by simp[h];omega),rfl⟩
 ·have d:decide (48<=(c:Int))=false:=by simp;omega
  go_enter Tryz.func95,Tryz.ntmps95
  go_wp2
  go_ret
  exact⟨nret (by simp;omega),rfl⟩
theorem rletter (c:Nat) (w:World):Calls Tryz.prog 94 #[.int .u8 (c:Int)] w fun e w'=>e = .returned (.bool (nlet c))/\w'=w:=by
 have:(c<65)\/(65<=c/\c<=90)\/(90<c/\c<97)\/(97<=c/\c<=122)\/122<c:=by omega
 rcases this with h|h|h|h|h
 ·have d1:decide (65<=(c:Int))=false:=by simp;omega
  have d3:decide (97<=(c:Int))=false:=by simp;omega
  have g:nlet c=false:=by unfold nlet;simp;omega
  rw[g]
  go_enter Tryz.func94,Tryz.ntmps94
  go_wp2
  go_ret
  exact⟨rfl,rfl⟩
 ·have d1:decide (65<=(c:Int))=true:=by simp;omega
  have d2:decide ((c:Int)<=90)=true:=by simp;omega
  have d3:decide (97<=(c:Int))=false:=by simp;omega
  have g:nlet c=true:=by unfold nlet;simp;omega
  rw[g]
  go_enter Tryz.func94,Tryz.ntmps94
  go_wp2
  go_ret
  exact⟨rfl,rfl⟩
 ·have d1:decide (65<=(c:Int))=true:=by simp;omega
  have d2:decide ((c:Int)<=90)=false:=by simp;omega
  have d3:decide (97<=(c:Int))=false:=by simp;omega
  have g:nlet c=false:=by unfold nlet;simp;omega
  rw[g]
  go_enter Tryz.func94,Tryz.ntmps94
  go_wp2
  go_ret
  exact⟨rfl,rfl⟩
 ·have d3:decide (97<=(c:Int))=true:=by simp;omega
  have d4:decide ((c:Int)<=122)=true:=by simp;omega
  have g:nlet c=true:=by unfold nlet;simp;omega
  rw[g]
  go_enter Tryz.func94,Tryz.ntmps94
  go_wp2
  go_ret
  exact⟨rfl,rfl⟩
 ·have d1:decide (65<=(c:Int))=true:=by simp;omega
  have d2:decide ((c:Int)<=90)=false:=by simp;omega
  have d3:decide (97<=(c:Int))=true:=by simp;omega
  have d4:decide ((c:Int)<=122)=false:=by simp;omega
  have g:nlet c=false:=by unfold nlet;simp;omega
  rw[g]
  go_enter Tryz.func94,Tryz.ntmps94
  go_wp2
  go_ret
  exact⟨rfl,rfl⟩
def inSet (S:ByteArray) (c k:Nat):Bool:=(List.range k).any fun j=>decide (ch S j=c)
theorem inSet_succ (S:ByteArray) (c k:Nat):inSet S c (k+1)=(inSet S c k||decide (ch S k=c)):=by
 unfold inSet
 rw[List.range_succ,List.any_append]
 simp
def madeC (F M:ByteArray) (i c:Nat):Bool:=(nlet c||(decide (0<i)&&ndig c))||inSet (if i=0 then F else M) c (if i=0 then F else M).size
def madeB (s F M:ByteArray):Bool:=decide (0<s.size/\∀ i,i<s.size->madeC F M i (ch s i)=true)
theorem rb3 {a b:World} (h:Below a.heap.size a b) (n:Nat):Below a.heap.size a (b.drewN n):=⟨h.os,h.tape,h.output,h.size,h.block⟩
theorem rmade (s F M:ByteArray) (hs:s.size<=9223372036854775806) (hF:F.size<=100) (hM:M.size<=100) (w:World):Calls Tryz.prog 57 #[.string s,.string F,.string M] w fun e w'=>e = .returned (.bool (madeB s F M))/\Below w.heap.size w w':=by
 go_enter Tryz.func57,Tryz.ntmps57
 go_wp2_with fail
 go_loopw [7] (fun v wr=>∃ i:Nat,i<=s.size/\v = .int .i64 (i:Int)/\(∀ j,j<i->madeC F M j (ch s j)=true)/\Below w.heap.size w wr) (fun v _=>s.size-(intOf v).toNat)
 case atStart=>exact⟨0,Nat.zero_le _,rfl,fun j hj=>absurd hj (Nat.not_lt_zero j),Below.refl _ _⟩
 case round =>
  obtain⟨i,hi,rfl,hall,HB⟩:=hrel
  by_cases hlt:i<s.size
  ·have d1:decide ((i:Int)<(s.size:Int))=true:=by simp;omega
   have ix:∀ w:World,(Instr.index 9 (.string s) (.int .i64 (i:Int))).run Tryz.prog w = .ok (.int .u8 (ch s i:Int)) w:=fun w=>nidx (w:=w) s i hlt .i64
   by_cases hi0:i=0
   ·subst hi0
    obtain⟨c,hc⟩:∃ c,Go.RowKit.Hid (c=ch s 0):=⟨_,rfl⟩
    have ix:∀ w:World,(Instr.index 9 (.string s) (.int .i64 0)).run Tryz.prog w = .ok (.int .u8 (c:Int)) w:=fun w=>by rw[hc.out];exact nidx (w:=w) s 0 hlt .i64
    have d1:decide (0<(s.size:Int))=true:=by simp;omega
    obtain⟨b0,hb0⟩:∃ b0,nlet c=b0:=⟨_,rfl⟩
    have hX:Go.RowKit.Hid (madeC F M 0 c=(b0||inSet F c F.size)):=by show _=_;unfold madeC;simp[hb0]
    go_upto_region 7 with fail
    go_cut [8,9] (fun s8 s9 wx=>s8 = .string F/\s9 = .bool b0/\wx=wr)
    case first =>
     cases hl:nlet c<;>rw[hl] at hb0
     all_goals
      have hb1:Go.RowKit.Hid (_=b0):=hb0
      clear hb0
      go_wp2_with (first|(go_at_call 94;refine(rletter _ _).mono ?_;rintro e w1 ⟨rfl,hw1⟩;subst w1)|(go_at_call 95;refine(rdigit _ _).mono ?_;rintro e w1 ⟨rfl,hw1⟩;subst w1))
      go_meet
      case rel=>exact⟨rfl,by rw[<- hb1.out]<;>rfl,rfl⟩
    case rest =>
    obtain⟨rfl,rfl,rfl⟩:=hcut
    rename World=>wr
    go_wp2_with fail
    go_loopw [9,10] (fun ok v w2=>∃ k:Nat,k<=F.size/\v = .int .i64 (k:Int)/\ok = .bool (b0||inSet F c k)/\Below w.heap.size w w2) (fun _ v _=>F.size-(intOf v).toNat)
    case atStart=>exact⟨0,Nat.zero_le _,rfl,by simp[inSet],HB⟩
    case round =>
     obtain⟨k,hk,rfl,rfl,HB⟩:=hrel
     by_cases hkl:k<F.size
     ·have d2:decide ((k:Int)<(F.size:Int))=true:=by simp;omega
      have ix2:∀ w:World,(Instr.index 9 (.string F) (.int .i64 (k:Int))).run Tryz.prog w = .ok (.int .u8 (ch F k:Int)) w:=fun w=>nidx (w:=w) F k hkl .i64
      have hsu:=inSet_succ F c k
      by_cases hcc:ch F k=c
      ·have ec:((ch F k:Int)==(c:Int))=true:=by simp;omega
       have hv:Go.RowKit.Hid ((b0||inSet F c (k+1))=true):=by show _=_;rw[hsu,decide_eq_true hcc,Bool.or_true,Bool.or_true]
       clear hcc hsu
       go_wp2_with fail
       go_quiet (fail)
       go_wp2_with fail
       go_round
       case rel=>exact⟨k+1,by omega,by go_num,by rw[hv.out],rb3 HB _⟩
       case measure=>simp[intOf];omega
      ·have ec:((ch F k:Int)==(c:Int))=false:=by simp;omega
       have hv:Go.RowKit.Hid ((b0||inSet F c (k+1))=(b0||inSet F c k)):=by show _=_;rw[hsu,decide_eq_false hcc,Bool.or_false]
       clear hcc hsu
       go_wp2_with fail
       go_quiet (fail)
       go_wp2_with fail
       go_round
       case rel=>exact⟨k+1,by omega,by go_num,by rw[hv.out],rb3 HB _⟩
       case measure=>simp[intOf];omega
     ·obtain rfl:k=F.size:=by omega
      have d2:decide ((F.size:Int)<(F.size:Int))=false:=by simp
      have hX:=hX.out
      generalize (b0||inSet F c F.size)=bb at hX ⊢
      cases bb
      ·have g:madeB s F M=false:=by
        unfold madeB
        simp only[decide_eq_false_iff_not]
        rintro⟨-,h⟩
        have:=h 0 hlt
        rw[<- hc.out,hX] at this
        cases this
       clear hX
       go_wp2_with fail
       go_ret
       first|exact⟨rfl,HB⟩|exact⟨nret g.symm,HB⟩
      ·have hX:Go.RowKit.Hid (_=true):=hX
       go_wp2_with fail
       go_round
       case rel=>exact⟨1,by omega,by go_num,fun j hj=>by
        by_cases h:j=0
        ·rw[h,<- hc.out];exact hX.out
        ·exact hall j (by omega),HB⟩
       case measure=>simp[intOf];omega
   ·have e0:((i:Int)==0)=false:=by simp[hi0]
    have p0:0<i:=by omega
    obtain⟨c,hc⟩:∃ c,Go.RowKit.Hid (c=ch s i):=⟨_,rfl⟩
    rw[<- hc.out] at ix
    obtain⟨b0,hb0⟩:∃ b0,(nlet c||ndig c)=b0:=⟨_,rfl⟩
    have hX:Go.RowKit.Hid (madeC F M i c=(b0||inSet M c M.size)):=by show _=_;unfold madeC;rw[if_neg hi0,<- hb0,decide_eq_true (show 0<i by omega),Bool.true_and]
    clear hi0
    go_upto_region 7 with fail
    go_cut [8,9] (fun s8 s9 wx=>s8 = .string M/\s9 = .bool b0/\wx=wr)
    case first =>
     cases hl:nlet c<;>cases hd:ndig c<;>rw[hl,hd] at hb0
     all_goals
      have hb1:Go.RowKit.Hid (_=b0):=hb0
      clear hb0
      go_wp2_with (first|(go_at_call 94;refine(rletter _ _).mono ?_;rintro e w1 ⟨rfl,hw1⟩;subst w1)|(go_at_call 95;refine(rdigit _ _).mono ?_;rintro e w1 ⟨rfl,hw1⟩;subst w1))
      go_meet
      case rel=>exact⟨rfl,by rw[<- hb1.out]<;>rfl,rfl⟩
    case rest =>
    obtain⟨rfl,rfl,rfl⟩:=hcut
    rename World=>wr
    go_wp2_with fail
    go_loopw [9,10] (fun ok v w2=>∃ k:Nat,k<=M.size/\v = .int .i64 (k:Int)/\ok = .bool (b0||inSet M c k)/\Below w.heap.size w w2) (fun _ v _=>M.size-(intOf v).toNat)
    case atStart=>exact⟨0,Nat.zero_le _,rfl,by simp[inSet],HB⟩
    case round =>
     obtain⟨k,hk,rfl,rfl,HB⟩:=hrel
     by_cases hkl:k<M.size
     ·have d2:decide ((k:Int)<(M.size:Int))=true:=by simp;omega
      have ix2:∀ w:World,(Instr.index 9 (.string M) (.int .i64 (k:Int))).run Tryz.prog w = .ok (.int .u8 (ch M k:Int)) w:=fun w=>nidx (w:=w) M k hkl .i64
      have hsu:=inSet_succ M c k
      by_cases hcc:ch M k=c
      ·have ec:((ch M k:Int)==(c:Int))=true:=by simp;omega
       have hv:Go.RowKit.Hid ((b0||inSet M c (k+1))=true):=by show _=_;rw[hsu,decide_eq_true hcc,Bool.or_true,Bool.or_true]
       clear hcc hsu
       go_wp2_with fail
       go_quiet (fail)
       go_wp2_with fail
       go_round
       case rel=>exact⟨k+1,by omega,by go_num,by rw[hv.out],rb3 HB _⟩
       case measure=>simp[intOf];omega
      ·have ec:((ch M k:Int)==(c:Int))=false:=by simp;omega
       have hv:Go.RowKit.Hid ((b0||inSet M c (k+1))=(b0||inSet M c k)):=by show _=_;rw[hsu,decide_eq_false hcc,Bool.or_false]
       clear hcc hsu
       go_wp2_with fail
       go_quiet (fail)
       go_wp2_with fail
       go_round
       case rel=>exact⟨k+1,by omega,by go_num,by rw[hv.out],rb3 HB _⟩
       case measure=>simp[intOf];omega
     ·obtain rfl:k=M.size:=by omega
      have d2:decide ((M.size:Int)<(M.size:Int))=false:=by simp
      have hX:=hX.out
      generalize (b0||inSet M c M.size)=bb at hX ⊢
      cases bb
      ·have g:madeB s F M=false:=by
        unfold madeB
        simp only[decide_eq_false_iff_not]
        rintro⟨-,h⟩
        have:=h i hlt
        rw[<- hc.out,hX] at this
        cases this
       clear hX
       go_wp2_with fail
       go_ret
       first|exact⟨rfl,HB⟩|exact⟨nret g.symm,HB⟩
      ·have hX:Go.RowKit.Hid (_=true):=hX
       go_wp2_with fail
       go_round
       case rel=>exact⟨i+1,by omega,by go_num,fun j hj=>by
        by_cases h:j=i
        ·rw[h,<- hc.out];exact hX.out
        ·exact hall j (by omega),HB⟩
       case measure=>simp[intOf];omega
  ·obtain rfl:i=s.size:=by omega
   have g:madeB s F M = !(s.toList==[]):=by
    rw[nempty]
    unfold madeB
    by_cases h0:s.size=0
    ·simp[h0]
    ·simp only[h0,decide_false,Bool.not_false,decide_eq_true_eq]
     exact⟨by omega,hall⟩
   clear hall
   have d2:decide ((s.size:Int)<(s.size:Int))=false:=by simp
   have g:Go.RowKit.Hid (madeB s F M = !(s.toList==[])):=g
   go_wp2_with fail
   go_ret
   exact⟨nret (by rw[g.out];cases s.toList<;>rfl),HB⟩
abbrev yF:ByteArray:=⟨#[95]⟩
theorem inSet_yF (c:Nat):inSet yF c yF.size=decide (95=c):=by
 show (decide (95=c)||false)=_
 rw[Bool.or_false]
theorem madeC_y (i c:Nat):madeC yF yF i c=(nsym c && !(decide (i=0)&&ndig c && !nlet c && !decide (c=95))):=by
 unfold madeC nsym
 simp only[ite_self]
 rw[inSet_yF]
 by_cases hi:i=0
 ·rw[hi]
  simp only[eq_comm (a:=c)]
  cases nlet c<;>cases ndig c<;>cases decide (95=c)<;>simp
 ·rw[decide_eq_true (show 0<i by omega),decide_eq_false hi]
  simp only[eq_comm (a:=c)]
  cases nlet c<;>cases ndig c<;>cases decide (95=c)<;>rfl
theorem dig_not (c:Nat) (h:ndig c=true):nlet c=false/\decide (c=95)=false:=by
 unfold ndig at h
 simp only[Bool.and_eq_true,decide_eq_true_eq] at h
 unfold nlet
 constructor
 ·simp;omega
 ·simp;omega
theorem madeB_y (s:ByteArray):(decide (s.size<=64)&&madeB s yF yF)=symbolB s:=by
 unfold madeB symbolB
 rw[<- Bool.decide_and]
 apply decide_eq_decide.2
 constructor
 ·rintro⟨h1,h2,h3⟩
  refine⟨h2,h1,?_,fun i hi=>?_⟩
  ·have:=h3 0 h2
   rw[madeC_y] at this
   cases hd:ndig (ch s 0)
   ·rfl
   ·obtain⟨a,b⟩:=dig_not _ hd
    rw[hd,a,b] at this
    simp at this
  ·have:=h3 i hi
   rw[madeC_y,Bool.and_eq_true] at this
   exact this.1
 ·rintro⟨h1,h2,h3,h4⟩
  refine⟨h2,h1,fun i hi=>?_⟩
  rw[madeC_y,h4 i hi]
  by_cases h0:i=0
  ·rw[h0,h3];simp
  ·simp[h0]
theorem rSymbol (s:ByteArray) (hs:s.size<=9223372036854775806) (w:World):Calls Tryz.prog 30 #[.string s] w fun e w'=>e = .returned (.bool (symbolB s))/\Below w.heap.size w w':=by
 have hm:=fun w=>rmade s yF yF hs (by decide) (by decide) w
 have hy:=madeB_y s
 by_cases h:s.size<=64
 ·have d:decide ((s.size:Int)<=64)=true:=by simp;omega
  rw[decide_eq_true h,Bool.true_and] at hy
  rw[hy] at hm
  clear hy
  go_enter Tryz.func30,Tryz.ntmps30
  go_wp2_with (go_at_call 57;refine(hm _).mono ?_;rintro e w1 ⟨rfl,hb⟩)
  go_ret
  exact⟨rfl,hb⟩
 ·have d:decide ((s.size:Int)<=64)=false:=by simp;omega
  rw[decide_eq_false h,Bool.false_and] at hy
  rw[<- hy]
  clear hy hm h
  go_enter Tryz.func30,Tryz.ntmps30
  go_wp2
  go_ret
  exact⟨rfl,Below.refl _ _⟩
end Go.Proofs.YtjnafpefolgcoaaGreatDoor
