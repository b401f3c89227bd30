import Derived.Test.YtjlbcdnkglaheaaGreatDoorK09
namespace Go.Proofs.YtjlbcdnkglaheaaGreatDoor
set_option maxRecDepth 1000000
set_option maxHeartbeats 16000000
open Go.ChangeShapes Go.WideShapes Go.ChangeAt Go.RowKit Go.Shelf Go.Maps
structure MaF (l:List Tk) (w:World) (a go cap lo hi:Nat) (zs:List (Nat×Lv)) (ent:Int):Prop where
 s:SM w a go cap zs.length zs ent
 p:∀ y∈zs,PtA l w lo hi y.1 y.2.p
 al:a<lo\/hi<=a
 gl:hi<=go
 ok:MsOk l ⟨tops zs zs.length,ent⟩
 rl:∀ y∈zs,(rowZ l y.2.p).length<=733007751850
theorem xstep_v2 {P:Program} {w:World} {ops:Array Oper} {o:Oper} {a:Act} {K:Act->World->Prop} {Q:Exit->Act->World->Prop} {E:Prop} (hgd:o.guard=none) (f:FuncId) (v0 x y:Operand) (tx:Array TypeId)
  (ho:o.op = .call { callee:=.value v0,args:=#[x,y],argTypes:=tx }) (hv0:a.eval v0 = .func (.func f) #[] #[]) (hen:∀ ag w,(callFunc f ag).run P w = .ok (.enter f ag) w) (xv yv:Value) (hx:a.eval x=xv) (hy:a.eval y=yv) (Post:Value->World->Prop)
  (hc:Calls P f #[xv,yv] w fun e w'=>∃ v,e = .returned v/\Post v w') (h:∀ v w',Post v w'->K (a.put o.dst v) w'):if Region.wanted o (yielded ops a.tmps)=true then Oper.wp P o a w K Q else E:=by
 have hw:Region.wanted o (yielded ops a.tmps)=true:=by simp[Region.wanted,hgd]
 rw[if_pos hw]
 unfold Oper.wp execOp
 simp only[ho,resolve,invoke,Sem.run_bind,hv0,List.map_toArray,List.map_cons,List.map_nil,hx,hy]
 simp[Deferred.ofValue,hen,Oper.upon_enter]
 refine hc.mono ?_
 rintro e w' ⟨v,rfl,hp⟩
 exact h v w' hp
theorem hmfO:∀ (fn:Fn) (first cap:Array Value) (w:World),(Instr.makeFunc fn first cap).run Tryz.prog w = .ok (.func fn first cap) w:=fun _ _ _ _=>rfl
theorem ent_field:∀ ag w,(callFunc 69 ag).run Tryz.prog w = .ok (.enter 69 ag) w:=enters_of Tryz.func69 (by kernel_rfl) rfl
theorem ent_group:∀ ag w,(callFunc 70 ag).run Tryz.prog w = .ok (.enter 70 ag) w:=enters_of Tryz.func70 (by kernel_rfl) rfl
theorem ent_next:∀ ag w,(callFunc 71 ag).run Tryz.prog w = .ok (.enter 71 ag) w:=enters_of Tryz.func71 (by kernel_rfl) rfl
theorem ent_data:∀ ag w,(callFunc 72 ag).run Tryz.prog w = .ok (.enter 72 ag) w:=enters_of Tryz.func72 (by kernel_rfl) rfl
def w3 (w:World) (a:Nat) (c:Cl):World:=((w.alloc (.cells #[.pointer (some ⟨a,0,none⟩)] 55)).alloc (caO c)).alloc (.cells #[.int .i64 0] 35)
theorem w3_b (w:World) (a:Nat) (c:Cl):Below w.heap.size w (w3 w a c):=((bb2 w _ _).alloc (by rw[sz2];omega) _)
theorem w3_s (w:World) (a:Nat) (c:Cl):(w3 w a c).heap.size=w.heap.size+3:=by unfold w3;rw[World.size_alloc,sz2]
theorem w3_1 (w:World) (a:Nat) (c:Cl):(w3 w a c).heap[w.heap.size]?=some (.cells #[.pointer (some ⟨a,0,none⟩)] 55):=(((bel1 _ _).block w.heap.size (by rw[sz2];omega)).trans ((bel1 _ _).block w.heap.size (by rw[World.size_alloc];omega))).trans (heap_al _ _)
theorem w3_2 (w:World) (a:Nat) (c:Cl):(w3 w a c).heap[w.heap.size+1]?=some (caO c):=((bel1 _ _).block (w.heap.size+1) (by rw[sz2];omega)).trans (hp2 _ _ _)
theorem w3_3 (w:World) (a:Nat) (c:Cl):(w3 w a c).heap[w.heap.size+2]?=some (.cells #[.int .i64 0] 35):=by
 have:=heap_al ((w.alloc (.cells #[.pointer (some ⟨a,0,none⟩)] 55)).alloc (caO c)) (.cells #[.int .i64 0] 35)
 rwa [sz2] at this
theorem resE (tmps:Array Value) (b:Addr) (x:Int) (h:tmps[4]?.getD undef = .pointer (some b)) (W:World) (hT:W.cell? b=some (.int .i64 x)):(results Tryz.f27 tmps).run Tryz.prog W = .ok (.int .i64 x) W:=by
 simp[results,Tryz.results27,go_sem,h,hT]
theorem step_no (a:Nat) (c:Cl) (w:World) (hk:c.k<0\/4<=c.k) :
  Calls Tryz.prog 27 #[.pointer (some ⟨a,0,none⟩),caV c] w fun r w'=>r = .returned (.int .i64 140)/\Below w.heap.size w w':=by
 have hmf:=hmfO
 have cT:=takers_any (w3 w a c)
 have hB:=w3_b w a c
 have hs:=w3_s w a c
 have h2:=w3_2 w a c
 have h3:=w3_3 w a c
 generalize hW:w3 w a c=W at cT hB hs h2 h3
 unfold w3 at hW
 simp only[caO] at hW
 replace hB:=Hid.mk hB
 have K:Hid (∀ W',Below W.heap.size W W'->W'.cell? ⟨w.heap.size+1,0,none⟩=some (.int .i64 c.k)/\W'.cell? ⟨w.heap.size+2,0,none⟩=some (.int .i64 0)/\W'.frozen? ⟨w.heap.size+2,0,none⟩=false/\Below w.heap.size w W'):=⟨fun W' hb=>⟨(hb.cell (p:=⟨w.heap.size+1,0,none⟩) (by show w.heap.size+1<_;omega)).trans (cell_at h2 0),(hb.cell (p:=⟨w.heap.size+2,0,none⟩) (by show w.heap.size+2<_;omega)).trans (cell_at h3 0),(by have e:=(hb.block (w.heap.size+2) (by omega)).trans h3;simp[World.frozen?,e]),hB.out.trans (hb.mono hB.out.size)⟩⟩
 clear hs h2 h3
 by_cases h0:c.k<0
 ·have b1:decide (c.k<0)=true:=decide_eq_true h0
  clear hk h0
  go_enter_defers Tryz.func27,Tryz.ntmps27
  go_wp2_with (go_at_call 45;refine cT.mono ?_;rintro _ w1 ⟨rfl,hb1⟩;obtain⟨k1,k2,k3,hBw⟩:=K.out _ (hb1.trans ((bel1 w1 (.cells #[.func (.func 69) #[] #[],.func (.func 70) #[] #[],.func (.func 71) #[] #[],.func (.func 72) #[] #[]] 117)).mono hb1.size));replace hb1:=Hid.mk hb1;replace hBw:=Hid.mk hBw)
  exact⟨_,resE _ ⟨w.heap.size+1+1,0,none⟩ 140 rfl _ (World.cell?_setCell_same' _ _ _ (by rw[k2];rfl)),rfl,hBw.out.setCell (p:=⟨w.heap.size+1+1,0,none⟩) (by show w.heap.size<=w.heap.size+1+1;omega) _⟩
 ·have b1:decide (c.k<0)=false:=decide_eq_false h0
  have h4:4<=c.k:=by omega
  have b2:decide (c.k≥4)=true:=decide_eq_true h4
  have b3:decide (4<=c.k)=true:=decide_eq_true h4
  clear hk h0 h4
  go_enter_defers Tryz.func27,Tryz.ntmps27
  go_wp2_with (go_at_call 45;refine cT.mono ?_;rintro _ w1 ⟨rfl,hb1⟩;obtain⟨k1,k2,k3,hBw⟩:=K.out _ (hb1.trans ((bel1 w1 (.cells #[.func (.func 69) #[] #[],.func (.func 70) #[] #[],.func (.func 71) #[] #[],.func (.func 72) #[] #[]] 117)).mono hb1.size));replace hb1:=Hid.mk hb1;replace hBw:=Hid.mk hBw)
  exact⟨_,resE _ ⟨w.heap.size+1+1,0,none⟩ 140 rfl _ (World.cell?_setCell_same' _ _ _ (by rw[k2];rfl)),rfl,hBw.out.setCell (p:=⟨w.heap.size+1+1,0,none⟩) (by show w.heap.size<=w.heap.size+1+1;omega) _⟩
def OkP (l:List Tk) (a go lo hi:Nat) (s:Ms) (W w':World):Prop:=∃ go' cap' zs',SM w' a go' cap' zs'.length zs' s.ent/\(∀ y∈zs',PtA l w' lo hi y.1 y.2.p)/\tops zs' zs'.length=s.op/\(go'=go\/W.heap.size<=go')/\Kb [a,go] W w'
def ErP (a go cap n:Nat) (zs:List (Nat×Lv)) (ent:Int) (y:Nat×Lv) (W w':World):Prop:=∃ zs1 y1,SM w' a go cap (n+1) zs1 ent/\zs1[n]?=some y1/\zs1.set n y=zs/\Kb [a,go] W w'
structure Bx (W:World) (B a:Nat) (c:Cl):Prop where
 em:W.cell? ⟨B,0,none⟩=some (.pointer (some ⟨a,0,none⟩))
 ek:W.cell? ⟨B+1,0,none⟩=some (.int .i64 c.k)
 en:W.cell? ⟨B+1,1,none⟩=some (.string c.nm)
 es:W.cell? ⟨B+1,2,none⟩=some c.ws
 ec:W.cell? ⟨B+1,3,none⟩=some (.int .i64 c.cnt)
 et:W.cell? ⟨B+1,4,none⟩=some (.string c.tx)
 ee:W.heap[B+2]?=some (.cells #[.int .i64 0] 35)
theorem bx_of (w:World) (a:Nat) (c:Cl) {W:World} (h:∀ k,w.heap.size<=k->k<w.heap.size+3->W.heap[k]?=(w3 w a c).heap[k]?):Bx W w.heap.size a c:=by
 have e1:=(h w.heap.size (by omega) (by omega)).trans (w3_1 w a c)
 have e2:=(h (w.heap.size+1) (by omega) (by omega)).trans (w3_2 w a c)
 have e3:=(h (w.heap.size+2) (by omega) (by omega)).trans (w3_3 w a c)
 exact⟨cell_at e1 0,cell_at e2 0,cell_at e2 1,cell_at e2 2,cell_at e2 3,cell_at e2 4,e3⟩
theorem step_gen (l:List Tk) (a go cap lo hi:Nat) (zs:List (Nat×Lv)) (ent:Int) (c:Cl) (w:World) (h:MaF l w a go cap lo hi zs ent) (kk:Nat) (F:FuncId) (hk:c.k=(kk:Int)) (hk1:1<=kk) (hk4:kk<4) (hF:([.func (.func 69) #[] #[],.func (.func 70) #[] #[],.func (.func 71) #[] #[],.func (.func 72) #[] #[]]:List Value)[kk]?=some (.func (.func F) #[] #[]))
  (hen:∀ ag w,(callFunc F ag).run Tryz.prog w = .ok (.enter F ag) w) (er:Int) (s':Ms)
  (hT:∀ W n y,TM l W a go cap n lo hi zs ent y->(∀ z∈zs,PtA l W lo hi z.1 z.2.p)->leaveR l (tops zs zs.length)=tops zs (n+1)->Calls Tryz.prog F #[.pointer (some ⟨a,0,none⟩),caV c] W fun r w'=>r = .returned (.int .i64 er)/\(er≠0->ErP a go cap n zs ent y W w')/\(er=0->OkP l a go lo hi s' W w')) :
  Calls Tryz.prog 27 #[.pointer (some ⟨a,0,none⟩),caV c] w fun r w'=>r = .returned (.int .i64 er)/\(er≠0->SM w' a go cap zs.length zs ent/\Kb [a,go] w w')/\(er=0->OkP l a go lo hi s' w w'):=by
 obtain⟨ck,nm,ws,cnt,tx⟩:=c
 have hk:ck=(kk:Int):=hk
 subst hk
 have hmf:=hmfO
 have cT:=takers_any (w3 w a ⟨(kk:Int),nm,ws,cnt,tx⟩)
 have hB:=w3_b w a ⟨(kk:Int),nm,ws,cnt,tx⟩
 have hs:=w3_s w a ⟨(kk:Int),nm,ws,cnt,tx⟩
 have hal:=h.s.lt.1
 have hgol:=h.s.lt.2
 have BX:Hid (∀ W',Kb [a] (w3 w a ⟨(kk:Int),nm,ws,cnt,tx⟩) W'->Bx W' w.heap.size a ⟨(kk:Int),nm,ws,cnt,tx⟩):=⟨fun W' hb=>bx_of w a ⟨(kk:Int),nm,ws,cnt,tx⟩ fun k h1 h2=>hb.block k (by omega) (by simp;omega)⟩
 have hS3:=h.s.below hB
 generalize hW:w3 w a ⟨(kk:Int),nm,ws,cnt,tx⟩=W at cT hB hs BX hS3
 unfold w3 at hW
 simp only[caO] at hW
 have b1:decide ((kk:Int)<0)=false:=by simp
 have b2:decide ((kk:Int)≥4)=false:=by simp;omega
 have b3:decide (4<=(kk:Int))=false:=by simp;omega
 have b4:((kk:Int) != 0)=true:=by simp;omega
 have b5:((kk:Int)==0)=false:=by simp;omega
 have b6:(kk:Int)<4:=by omega
 have SS:Hid (∀ W',Below W.heap.size W W'->SM W' a go cap zs.length zs ent/\RwA l W' a zs/\Kb [a] W W'):=⟨fun W' hb=>⟨hS3.below hb,fun y hy=>⟨((h.p y hy).rw.below hB).below hb,fun e=>by
  obtain⟨d,hd⟩:=h.p y hy
  cases d with
  | zero=>exact hd.elim
  | succ d=>have:=hd.1;have:=h.al;omega⟩,Kb.of_below hb⟩⟩
 clear hS3
 replace hs:=Hid.mk hs
 replace hF:=Hid.mk hF
 replace hT:=Hid.mk hT
 replace hen:=Hid.mk hen
 replace h:=Hid.mk h
 replace hB:=Hid.mk hB
 replace hk1:=Hid.mk hk1
 replace hk4:=Hid.mk hk4
 have cL:=fun W' (hb:Below W.heap.size W W')=>leave_any l a go cap zs.length zs ent W' (SS.out W' hb).1 (SS.out W' hb).2.1
 replace cL:=Hid.mk cL
 go_enter_defers Tryz.func27,Tryz.ntmps27
 go_wp2_with (first
  | (go_at_call 45;refine cT.mono ?_;rintro _ w1 ⟨rfl,hb1⟩;have hb2:=hb1.trans ((bel1 w1 (.cells #[.func (.func 69) #[] #[],.func (.func 70) #[] #[],.func (.func 71) #[] #[],.func (.func 72) #[] #[]] 117)).mono hb1.size);obtain⟨hS1,-,hK1⟩:=SS.out _ hb2;obtain⟨k0,k1,-,-,-,-,-⟩:=BX.out _ hK1;have a0:=hS1.c0;clear hS1 hK1;have hb3:=hb2.trans ((bel1 (w1.alloc (.cells #[.func (.func 69) #[] #[],.func (.func 70) #[] #[],.func (.func 71) #[] #[],.func (.func 72) #[] #[]] 117)) (.cells #[.slice (some ⟨go,0,none⟩) zs.length cap] 98)).mono hb2.size);obtain⟨-,-,hK3⟩:=SS.out _ hb3;obtain⟨j0,j1,-,-,-,-,-⟩:=BX.out _ hK3;clear hK3;replace hb1:=Hid.mk hb1;replace hb2:=Hid.mk hb2;replace hb3:=Hid.mk hb3)
  | (go_at_call 46;refine(cL.out _ hb3.out).mono ?_;rintro _ w4 ⟨rfl,k',hS4,hK4,hL4,hle4⟩;obtain⟨n,rfl⟩:∃ n,k'=n+1:=⟨k'-1,by have:=hS4.k1;omega⟩;obtain⟨i0,i1,-,-,-,-,-⟩:=BX.out _ ((SS.out _ hb3.out).2.2.trans hK4);have hL4':Hid _:=⟨hL4⟩;have hle4':Hid _:=⟨hle4⟩;clear hL4 hle4;obtain⟨y,hy⟩:∃ y,zs[n]?=some y:=⟨zs[n]'(by have:=hS4.kl;omega),List.getElem?_eq_getElem (by have:=hS4.kl;omega)⟩;have hy':Hid _:=⟨hy⟩;have cTp:=otop_any a go n cap w4 hS4.c0 (by have:=hS4.kl;have:=hS4.zl;omega);have hS4':Hid _:=⟨hS4⟩;have hK4':Hid _:=⟨hK4⟩;clear hS4 hK4 hy)
  | (go_at_call 47;refine cTp.mono ?_;rintro _ w5 ⟨rfl,hb5⟩;have hS5:=hS4'.out.below hb5;obtain⟨s0,s1,s2,s3⟩:=hS5.cs hy'.out;clear hS5;replace hb5:=Hid.mk hb5))
 clear k0 k1 j0 j1 i0 i1 a0 s0 s1 s2 s3 cTp cT
 have hK5:Kb [a] W (w5.alloc (lvO y.1 y.2)):=(((SS.out _ hb3.out).2.2.trans hK4'.out).trans (Kb.of_below hb5.out)).trans (Kb.of_below (bel1 _ _))
 have hKw:Kb [a] w (w5.alloc (lvO y.1 y.2)):=(Kb.of_below hB.out).trans hK5
 have hS9:SM (w5.alloc (lvO y.1 y.2)) a go cap (n+1) zs ent:=(hS4'.out.below hb5.out).below (bel1 _ _)
 have hT9:TM l (w5.alloc (lvO y.1 y.2)) a go cap n lo hi zs ent y:=⟨hS9,hy'.out,(h.out.p y (List.mem_of_getElem? hy'.out)).same (fun k h1 h2=>hKw.block k (by have:=h.out.gl;omega) (by have:=h.out.al;simp;omega)),h.out.al,h.out.gl⟩
 have hP9:∀ z∈zs,PtA l (w5.alloc (lvO y.1 y.2)) lo hi z.1 z.2.p:=fun z hz=>(h.out.p z hz).same (fun k h1 h2=>hKw.block k (by have:=h.out.gl;omega) (by have:=h.out.al;simp;omega))
 obtain⟨m0,m1,m2,m3,m4,m5,m6⟩:=BX.out _ hK5
 have gsz:w.heap.size+3<=w1.heap.size:=by have:=hb1.out.size;have:=hs.out;omega
 have hb4:=(hK4'.out.trans (Kb.of_below hb5.out)).trans (Kb.of_below (bel1 w5 (lvO y.1 y.2)))
 have gK:=(hb4.block w1.heap.size (by rw[sz2];omega) (by simp;omega)).trans (((bel1 _ _).block w1.heap.size (by rw[World.size_alloc];omega)).trans (heap_al _ _))
 have gO:=(hb4.block (w1.heap.size+1) (by rw[sz2];omega) (by simp;omega)).trans (hp2 _ _ _)
 have gT:=heap_al w5 (lvO y.1 y.2)
 have gs5:w1.heap.size+2<=w5.heap.size:=by
  have h1:=hK4'.out.size
  rw[sz2] at h1
  have h2:=hb5.out.size
  omega
 generalize hF9:w5.alloc (lvO y.1 y.2)=wF at hb4 gK gO gT hK5 hKw hS9 hT9 hP9 m0 m1 m2 m3 m4 m5 m6 ⊢
 have kK:wF.cell? ⟨w1.heap.size,kk,none⟩=some (.func (.func F) #[] #[]):=(cell_at gK kk).trans (by simpa using hF.out)
 simp only at m1 m2 m3 m4 m5
 have CALL:Hid (∀ W',W'=wF\/W'=wF.drew->Calls Tryz.prog F #[.pointer (some ⟨a,0,none⟩),caV ⟨(kk:Int),nm,ws,cnt,tx⟩] W' fun e w'=>∃ v,e = .returned v/\(v = .int .i64 er/\w'.cell? ⟨w.heap.size+1+1,0,none⟩=some (.int .i64 0)/\w'.frozen? ⟨w.heap.size+1+1,0,none⟩=false/\Hid (Kb [a,go] wF w'/\(er≠0->ErP a go cap n zs ent y wF w')/\(er=0->OkP l a go lo hi s' wF w')))):=by
  refine⟨fun W' hW'=>?_⟩
  have hbW:Below wF.heap.size wF W':=by
   rcases hW' with rfl|rfl
   ·exact Below.refl _ _
   ·exact drw (Below.refl _ _)
  have hsW:W'.heap.size=wF.heap.size:=by rcases hW' with rfl|rfl<;>rfl
  refine(hT.out W' n y (hT9.below hbW) (fun z hz=>(hP9 z hz).same fun k _ hk=>hbW.block k (by have:=hT9.gl;have:=hT9.s.lt.2;omega)) hL4'.out).mono ?_
  rintro _ w' ⟨rfl,q1,q2⟩
  have hK6:Kb [a,go] W' w':=by
   by_cases her:er=0
   ·obtain⟨_,_,_,_,_,_,_,hk⟩:=q2 her
    exact hk
   ·obtain⟨_,_,_,_,_,hk⟩:=q1 her
    exact hk
  have hK7:Kb [a,go] wF w':=(Kb.of_below hbW).trans hK6
  have hl6:=(Array.getElem?_eq_some_iff.1 m6).1
  have e6:=(hK7.block (w.heap.size+2) hl6 (by simp;omega)).trans m6
  refine⟨_,rfl,rfl,cell_at e6 0,by simp[World.frozen?,e6],⟨hK7,fun her=>?_,fun her=>?_⟩⟩
  ·obtain⟨zs1,y1,p1,p2,p3,_⟩:=q1 her
   exact⟨zs1,y1,p1,p2,p3,hK7⟩
  ·obtain⟨go',cap',zs',p1,p2,p3,p4,_⟩:=q2 her
   exact⟨go',cap',zs',p1,p2,p3,by rw[<- hsW];exact p4,hK7⟩
 have FIN:Hid (∀ (w':World) (tmps:Array Value),w'.cell? ⟨w.heap.size+1+1,0,none⟩=some (.int .i64 0)->Kb [a,go] wF w'->(er≠0->ErP a go cap n zs ent y wF w')->(er=0->OkP l a go lo hi s' wF w')->tmps[4]?.getD undef = .pointer (some ⟨w.heap.size+1+1,0,none⟩) ->
   Leaves Tryz.prog Tryz.f27 tmps (fun r w'=>r = .returned (.int .i64 er)/\(er≠0->SM w' a go cap zs.length zs ent/\Kb [a,go] w w')/\(er=0->OkP l a go lo hi s' w w')) [{ target:=Target.fn (Fn.func 48) #[.pointer (some ⟨w.heap.size+1+1,0,none⟩),.pointer (some ⟨w5.heap.size,0,none⟩),.pointer (some ⟨w.heap.size,0,none⟩),.pointer (some ⟨w1.heap.size+1,0,none⟩)],args:=#[] }] .returning (w'.setCell ⟨w.heap.size+1+1,0,none⟩ (.int .i64 er))):=by
  refine⟨fun w' tmps hc hK q1 q2 h4=>?_⟩
  have hcE:=World.cell?_setCell_same w' ⟨w.heap.size+1+1,0,none⟩ (.int .i64 er) hc
  have hlF:=hKw.size
  have hlE:=(Array.getElem?_eq_some_iff.1 m6).1
  have hKK:Kb [a,go] w (w'.setCell ⟨w.heap.size+1+1,0,none⟩ (.int .i64 er)):=((hKw.mono (by simp)).trans hK).setNew (by omega) _
  refine leaves_cons (f:=48) (args:=#[.pointer (some ⟨w.heap.size+1+1,0,none⟩),.pointer (some ⟨w5.heap.size,0,none⟩),.pointer (some ⟨w.heap.size,0,none⟩),.pointer (some ⟨w1.heap.size+1,0,none⟩)]) (by simp) (by simp[go_sem]) ?_
  by_cases her:er=0
  ·subst her
   refine(stepD_ok (w.heap.size+1+1) w5.heap.size w.heap.size (w1.heap.size+1) _ _ hcE).mono ?_
   rintro e u' w2 ⟨rfl,rfl,rfl⟩
   refine⟨_,resE _ ⟨w.heap.size+1+1,0,none⟩ 0 h4 _ hcE,rfl,fun h=>absurd rfl h,fun _=>?_⟩
   obtain⟨go',cap',zs',p1,p2,p3,p4,_⟩:=q2 rfl
   have hhi:=h.out.gl
   exact⟨go',cap',zs',p1.same (set_oth (by omega)) (set_oth (by omega)),fun z hz=>(p2 z hz).same fun k _ hk=>set_oth (by omega),p3,by omega,hKK⟩
  ·obtain⟨zs1,y1,p1,p2,p3,_⟩:=q1 her
   have o1:∀ k v,wF.cell? ⟨k,0,none⟩=some v->k<wF.heap.size->k≠a->k≠go->k≠w.heap.size+1+1->(w'.setCell ⟨w.heap.size+1+1,0,none⟩ (.int .i64 er)).cell? ⟨k,0,none⟩=some v:=fun k v hv hk h1 h2 h3=>(cell_blk (set_oth (Ne.symm h3))).trans ((hK.cell hk (by simp;exact⟨h1,h2⟩)).trans hv)
   have hlT:=(Array.getElem?_eq_some_iff.1 gT).1
   have hlO:=(Array.getElem?_eq_some_iff.1 gO).1
   refine(stepD_err (w.heap.size+1+1) w5.heap.size w.heap.size (w1.heap.size+1) a go cap n zs.length zs1 ent er y y1 _ _ hcE her (p1.same (set_oth (by omega)) (set_oth (by omega))) p2 (o1 _ _ m0 (by omega) (by omega) (by omega) (by omega)) ((set_oth (by omega)).trans ((hK.block _ hlT (by simp;omega)).trans gT)) (o1 _ _ (cell_at gO 0) hlO (by omega) (by omega) (by omega)) (by omega) (by omega)).mono ?_
   rintro e u' w2 ⟨rfl,rfl,r1,r2,r3⟩
   rw[p3] at r2
   have hcE2:=(r3.cell (g:=w.heap.size+1+1) (o:=0) (by have:=hK.size;simp[World.setCell];omega) (by simp;omega)).trans hcE
   exact⟨_,resE _ ⟨w.heap.size+1+1,0,none⟩ er h4 _ hcE2,rfl,fun _=>⟨⟨r1,r2,Nat.le_refl _,by have:=h.out.s.k1;exact this,h.out.s.ne,h.out.s.zl⟩,hKK.trans r3⟩,fun h=>absurd h her⟩
 clear BX SS cL hb2 hb3 gK gO gT hb4 hT hS4' hS9 hT9 hP9 hK4' h hk m6 hF hW
 rename_i KK hKK
 refine Code.wp_mono (Q:=Exit.then KK (fun _ _ _=>False)) ?_ ?_
 ·intro e b u hh
  cases e<;>first|exact hh|exact hh.elim
 go_region_law ((refine xstep_v2 rfl F _ _ _ #[55,44] (by rfl) (by rfl) hen.out (.pointer (some ⟨a,0,none⟩)) (caV ⟨(kk:Int),nm,ws,cnt,tx⟩) (by rfl) (by rfl) _ (CALL.out _ (by first|exact .inl rfl|exact .inr rfl)) ?_;rintro _ w8 ⟨rfl,hc8,hf8,HX⟩))
 all_goals
  show KK _ _
  refine hKK _ _ ?_
  clear hKK
  go_wp2_with fail
  exact FIN.out w8 _ hc8 HX.out.1 HX.out.2.1 HX.out.2.2 rfl
theorem SM.len {W:World} {a go cap k k':Nat} {zs:List (Nat×Lv)} {ent:Int} (h:SM W a go cap k zs ent) (e:k=k'):SM W a go cap k' zs ent:=by subst e;exact h
theorem step_zer (l:List Tk) (a go cap lo hi:Nat) (zs:List (Nat×Lv)) (ent:Int) (c:Cl) (w:World) (h:MaF l w a go cap lo hi zs ent) (hk:c.k=0) (er:Int) (s':Ms)
  (hT:∀ W n y,TM l W a go cap n lo hi zs ent y->(∀ z∈zs,PtA l W lo hi z.1 z.2.p)->zs.length=n+1->Calls Tryz.prog 69 #[.pointer (some ⟨a,0,none⟩),caV c] W fun r w'=>r = .returned (.int .i64 er)/\(er≠0->ErP a go cap n zs ent y W w')/\(er=0->OkP l a go lo hi s' W w')) :
  Calls Tryz.prog 27 #[.pointer (some ⟨a,0,none⟩),caV c] w fun r w'=>r = .returned (.int .i64 er)/\(er≠0->SM w' a go cap zs.length zs ent/\Kb [a,go] w w')/\(er=0->OkP l a go lo hi s' w w'):=by
 obtain⟨ck,nm,ws,cnt,tx⟩:=c
 have hk:ck=0:=hk
 subst hk
 have hmf:=hmfO
 have cT:=takers_any (w3 w a ⟨0,nm,ws,cnt,tx⟩)
 have hB:=w3_b w a ⟨0,nm,ws,cnt,tx⟩
 have hs:=w3_s w a ⟨0,nm,ws,cnt,tx⟩
 have hal:=h.s.lt.1
 have hgol:=h.s.lt.2
 have BX:Hid (∀ W',Kb [a] (w3 w a ⟨0,nm,ws,cnt,tx⟩) W'->Bx W' w.heap.size a ⟨0,nm,ws,cnt,tx⟩):=⟨fun W' hb=>bx_of w a ⟨0,nm,ws,cnt,tx⟩ fun k h1 h2=>hb.block k (by omega) (by simp;omega)⟩
 have hS3:=h.s.below hB
 generalize hW:w3 w a ⟨0,nm,ws,cnt,tx⟩=W at cT hB hs BX hS3
 unfold w3 at hW
 simp only[caO] at hW
 obtain⟨n,hn⟩:∃ n,zs.length=n+1:=⟨zs.length-1,by have:=h.s.k1;omega⟩
 obtain⟨y,hy⟩:∃ y,zs[n]?=some y:=⟨zs[n]'(by omega),List.getElem?_eq_getElem (by omega)⟩
 have hnl:n<1000000000000:=by have:=h.s.zl;omega
 have hn':Hid _:=⟨hn⟩
 have hy':Hid _:=⟨hy⟩
 clear hn hy
 have SS:Hid (∀ W',Below W.heap.size W W'->SM W' a go cap zs.length zs ent/\RwA l W' a zs/\Kb [a] W W'):=⟨fun W' hb=>⟨hS3.below hb,fun y hy=>⟨((h.p y hy).rw.below hB).below hb,fun e=>by
  obtain⟨d,hd⟩:=h.p y hy
  cases d with
  | zero=>exact hd.elim
  | succ d=>have:=hd.1;have:=h.al;omega⟩,Kb.of_below hb⟩⟩
 clear hS3
 replace hs:=Hid.mk hs
 replace hT:=Hid.mk hT
 replace h:=Hid.mk h
 replace hB:=Hid.mk hB
 go_enter_defers Tryz.func27,Tryz.ntmps27
 go_wp2_with (first
  | (go_at_call 45;refine cT.mono ?_;rintro _ w1 ⟨rfl,hb1⟩;have hb2:=hb1.trans ((bel1 w1 (.cells #[.func (.func 69) #[] #[],.func (.func 70) #[] #[],.func (.func 71) #[] #[],.func (.func 72) #[] #[]] 117)).mono hb1.size);obtain⟨hS1,-,hK1⟩:=SS.out _ hb2;obtain⟨k0,k1,-,-,-,-,-⟩:=BX.out _ hK1;have a0:=hS1.c0;clear hS1 hK1;have hb3:=hb2.trans ((bel1 (w1.alloc (.cells #[.func (.func 69) #[] #[],.func (.func 70) #[] #[],.func (.func 71) #[] #[],.func (.func 72) #[] #[]] 117)) (.cells #[.slice (some ⟨go,0,none⟩) zs.length cap] 98)).mono hb2.size);obtain⟨hS3,-,hK3⟩:=SS.out _ hb3;have hS3':=(Hid.mk (hS3.len hn'.out));clear hS3;have cTp:=otop_any a go n cap _ hS3'.out.c0 hnl;obtain⟨j0,j1,-,-,-,-,-⟩:=BX.out _ hK3;clear hK3;replace hb1:=Hid.mk hb1;replace hb2:=Hid.mk hb2;replace hb3:=Hid.mk hb3)
  | (go_at_call 47;refine cTp.mono ?_;rintro _ w5 ⟨rfl,hb5⟩;have hS5:=hS3'.out.below hb5;obtain⟨s0,s1,s2,s3⟩:=hS5.cs hy'.out;clear hS5;replace hb5:=Hid.mk hb5))
 clear k0 k1 j0 j1 a0 s0 s1 s2 s3 cTp cT
 have hK5:Kb [a] W (w5.alloc (lvO y.1 y.2)):=((SS.out _ hb3.out).2.2.trans (Kb.of_below hb5.out)).trans (Kb.of_below (bel1 _ _))
 have hKw:Kb [a] w (w5.alloc (lvO y.1 y.2)):=(Kb.of_below hB.out).trans hK5
 have hS9:SM (w5.alloc (lvO y.1 y.2)) a go cap (n+1) zs ent:=(hS3'.out.below hb5.out).below (bel1 _ _)
 have hT9:TM l (w5.alloc (lvO y.1 y.2)) a go cap n lo hi zs ent y:=⟨hS9,hy'.out,(h.out.p y (List.mem_of_getElem? hy'.out)).same (fun k h1 h2=>hKw.block k (by have:=h.out.gl;omega) (by have:=h.out.al;simp;omega)),h.out.al,h.out.gl⟩
 have hP9:∀ z∈zs,PtA l (w5.alloc (lvO y.1 y.2)) lo hi z.1 z.2.p:=fun z hz=>(h.out.p z hz).same (fun k h1 h2=>hKw.block k (by have:=h.out.gl;omega) (by have:=h.out.al;simp;omega))
 obtain⟨m0,m1,m2,m3,m4,m5,m6⟩:=BX.out _ hK5
 have gsz:w.heap.size+3<=w1.heap.size:=by have:=hb1.out.size;have:=hs.out;omega
 have hb4:Kb [a] _ _:=(Kb.of_below hb5.out).trans (Kb.of_below (bel1 w5 (lvO y.1 y.2)))
 have gK:=(hb4.block w1.heap.size (by rw[sz2];omega) (by simp;omega)).trans (((bel1 _ _).block w1.heap.size (by rw[World.size_alloc];omega)).trans (heap_al _ _))
 have gO:=(hb4.block (w1.heap.size+1) (by rw[sz2];omega) (by simp;omega)).trans (hp2 _ _ _)
 have gT:=heap_al w5 (lvO y.1 y.2)
 have gs5:w1.heap.size+2<=w5.heap.size:=by
  have h2:=hb5.out.size
  rw[sz2] at h2
  omega
 generalize hF9:w5.alloc (lvO y.1 y.2)=wF at hb4 gK gO gT hK5 hKw hS9 hT9 hP9 m0 m1 m2 m3 m4 m5 m6 ⊢
 have kK:wF.cell? ⟨w1.heap.size,0,none⟩=some (.func (.func 69) #[] #[]):=cell_at gK 0
 simp only at m1 m2 m3 m4 m5
 have CALL:Hid (∀ W',W'=wF\/W'=wF.drew->Calls Tryz.prog 69 #[.pointer (some ⟨a,0,none⟩),caV ⟨0,nm,ws,cnt,tx⟩] W' fun e w'=>∃ v,e = .returned v/\(v = .int .i64 er/\w'.cell? ⟨w.heap.size+1+1,0,none⟩=some (.int .i64 0)/\w'.frozen? ⟨w.heap.size+1+1,0,none⟩=false/\Hid (Kb [a,go] wF w'/\(er≠0->ErP a go cap n zs ent y wF w')/\(er=0->OkP l a go lo hi s' wF w')))):=by
  refine⟨fun W' hW'=>?_⟩
  have hbW:Below wF.heap.size wF W':=by
   rcases hW' with rfl|rfl
   ·exact Below.refl _ _
   ·exact drw (Below.refl _ _)
  have hsW:W'.heap.size=wF.heap.size:=by rcases hW' with rfl|rfl<;>rfl
  refine(hT.out W' n y (hT9.below hbW) (fun z hz=>(hP9 z hz).same fun k _ hk=>hbW.block k (by have:=hT9.gl;have:=hT9.s.lt.2;omega)) hn'.out).mono ?_
  rintro _ w' ⟨rfl,q1,q2⟩
  have hK6:Kb [a,go] W' w':=by
   by_cases her:er=0
   ·obtain⟨_,_,_,_,_,_,_,hk⟩:=q2 her
    exact hk
   ·obtain⟨_,_,_,_,_,hk⟩:=q1 her
    exact hk
  have hK7:Kb [a,go] wF w':=(Kb.of_below hbW).trans hK6
  have hl6:=(Array.getElem?_eq_some_iff.1 m6).1
  have e6:=(hK7.block (w.heap.size+2) hl6 (by simp;omega)).trans m6
  refine⟨_,rfl,rfl,cell_at e6 0,by simp[World.frozen?,e6],⟨hK7,fun her=>?_,fun her=>?_⟩⟩
  ·obtain⟨zs1,y1,p1,p2,p3,_⟩:=q1 her
   exact⟨zs1,y1,p1,p2,p3,hK7⟩
  ·obtain⟨go',cap',zs',p1,p2,p3,p4,_⟩:=q2 her
   exact⟨go',cap',zs',p1,p2,p3,by rw[<- hsW];exact p4,hK7⟩
 have FIN:Hid (∀ (w':World) (tmps:Array Value),w'.cell? ⟨w.heap.size+1+1,0,none⟩=some (.int .i64 0)->Kb [a,go] wF w'->(er≠0->ErP a go cap n zs ent y wF w')->(er=0->OkP l a go lo hi s' wF w')->tmps[4]?.getD undef = .pointer (some ⟨w.heap.size+1+1,0,none⟩) ->
   Leaves Tryz.prog Tryz.f27 tmps (fun r w'=>r = .returned (.int .i64 er)/\(er≠0->SM w' a go cap zs.length zs ent/\Kb [a,go] w w')/\(er=0->OkP l a go lo hi s' w w')) [{ target:=Target.fn (Fn.func 48) #[.pointer (some ⟨w.heap.size+1+1,0,none⟩),.pointer (some ⟨w5.heap.size,0,none⟩),.pointer (some ⟨w.heap.size,0,none⟩),.pointer (some ⟨w1.heap.size+1,0,none⟩)],args:=#[] }] .returning (w'.setCell ⟨w.heap.size+1+1,0,none⟩ (.int .i64 er))):=by
  refine⟨fun w' tmps hc hK q1 q2 h4=>?_⟩
  have hcE:=World.cell?_setCell_same w' ⟨w.heap.size+1+1,0,none⟩ (.int .i64 er) hc
  have hlF:=hKw.size
  have hlE:=(Array.getElem?_eq_some_iff.1 m6).1
  have hKK:Kb [a,go] w (w'.setCell ⟨w.heap.size+1+1,0,none⟩ (.int .i64 er)):=((hKw.mono (by simp)).trans hK).setNew (by omega) _
  refine leaves_cons (f:=48) (args:=#[.pointer (some ⟨w.heap.size+1+1,0,none⟩),.pointer (some ⟨w5.heap.size,0,none⟩),.pointer (some ⟨w.heap.size,0,none⟩),.pointer (some ⟨w1.heap.size+1,0,none⟩)]) (by simp) (by simp[go_sem]) ?_
  by_cases her:er=0
  ·subst her
   refine(stepD_ok (w.heap.size+1+1) w5.heap.size w.heap.size (w1.heap.size+1) _ _ hcE).mono ?_
   rintro e u' w2 ⟨rfl,rfl,rfl⟩
   refine⟨_,resE _ ⟨w.heap.size+1+1,0,none⟩ 0 h4 _ hcE,rfl,fun h=>absurd rfl h,fun _=>?_⟩
   obtain⟨go',cap',zs',p1,p2,p3,p4,_⟩:=q2 rfl
   have hhi:=h.out.gl
   exact⟨go',cap',zs',p1.same (set_oth (by omega)) (set_oth (by omega)),fun z hz=>(p2 z hz).same fun k _ hk=>set_oth (by omega),p3,by omega,hKK⟩
  ·obtain⟨zs1,y1,p1,p2,p3,_⟩:=q1 her
   have o1:∀ k v,wF.cell? ⟨k,0,none⟩=some v->k<wF.heap.size->k≠a->k≠go->k≠w.heap.size+1+1->(w'.setCell ⟨w.heap.size+1+1,0,none⟩ (.int .i64 er)).cell? ⟨k,0,none⟩=some v:=fun k v hv hk h1 h2 h3=>(cell_blk (set_oth (Ne.symm h3))).trans ((hK.cell hk (by simp;exact⟨h1,h2⟩)).trans hv)
   have hlT:=(Array.getElem?_eq_some_iff.1 gT).1
   have hlO:=(Array.getElem?_eq_some_iff.1 gO).1
   refine(stepD_err (w.heap.size+1+1) w5.heap.size w.heap.size (w1.heap.size+1) a go cap n zs.length zs1 ent er y y1 _ _ hcE her (p1.same (set_oth (by omega)) (set_oth (by omega))) p2 (o1 _ _ m0 (by omega) (by omega) (by omega) (by omega)) ((set_oth (by omega)).trans ((hK.block _ hlT (by simp;omega)).trans gT)) (o1 _ _ (cell_at gO 0) hlO (by omega) (by omega) (by omega)) (by omega) (by omega)).mono ?_
   rintro e u' w2 ⟨rfl,rfl,r1,r2,r3⟩
   rw[p3] at r2
   have hcE2:=(r3.cell (g:=w.heap.size+1+1) (o:=0) (by have:=hK.size;simp[World.setCell];omega) (by simp;omega)).trans hcE
   exact⟨_,resE _ ⟨w.heap.size+1+1,0,none⟩ er h4 _ hcE2,rfl,fun _=>⟨⟨r1,r2,Nat.le_refl _,by have:=h.out.s.k1;exact this,h.out.s.ne,h.out.s.zl⟩,hKK.trans r3⟩,fun h=>absurd h her⟩
 clear BX SS hb2 hb3 gK gO gT hb4 hT hS3' hS9 hT9 hP9 h hk m6 hW
 rename_i KK hKK
 refine Code.wp_mono (Q:=Exit.then KK (fun _ _ _=>False)) ?_ ?_
 ·intro e b u hh
  cases e<;>first|exact hh|exact hh.elim
 go_region_law ((refine xstep_v2 rfl 69 _ _ _ #[55,44] (by rfl) (by rfl) ent_field (.pointer (some ⟨a,0,none⟩)) (caV ⟨0,nm,ws,cnt,tx⟩) (by rfl) (by rfl) _ (CALL.out _ (by first|exact .inl rfl|exact .inr rfl)) ?_;rintro _ w8 ⟨rfl,hc8,hf8,HX⟩))
 all_goals
  show KK _ _
  refine hKK _ _ ?_
  clear hKK
  go_wp2_with fail
  exact FIN.out w8 _ hc8 HX.out.1 HX.out.2.1 HX.out.2.2 rfl
end Go.Proofs.YtjlbcdnkglaheaaGreatDoor
