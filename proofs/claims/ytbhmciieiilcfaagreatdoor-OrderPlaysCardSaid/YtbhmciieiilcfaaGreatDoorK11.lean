import Derived.Test.YtbhmciieiilcfaaGreatDoorK10
namespace Go.Proofs.YtbhmciieiilcfaaGreatDoor
set_option maxRecDepth 1000000
set_option maxHeartbeats 16000000
open Go.ChangeShapes Go.WideShapes Go.ChangeAt Go.RowKit Go.Shelf Go.Maps
variable {W w':World} {a cap go hi j k lo n:Nat} {ent ent':Int} {l:List Tk} {x':Lv} {y:Nat×Lv} {zs:List (Nat×Lv)}
structure MaF (l:List Tk) (w:World) (a go cap lo hi:Nat) (zs:List (Nat×Lv)) (ent:Int):Prop where
 s:SM w a go cap zs.length zs ent
 p:∀ y∈zs,PtA l w lo hi y.1 y.2.p
 al:a<lo\/hi<=a
 gl:hi<=go
 ok:MsOk l ⟨tops zs zs.length,ent⟩
 rl:∀ y∈zs,(rowZ l y.2.p).length<=733007751850
theorem xstep_v2 {P:Program} {w:World} {ops:Array Oper} {o:Oper} {a:Act} {K:Act->World->Prop} {Q:Exit->Act->World->Prop} {E:Prop} (hgd:o.guard=none) (f:FuncId) (v0 x y:Operand) (tx:Array TypeId)
  (ho:o.op = .call { callee:=.value v0,args:=#[x,y],argTypes:=tx }) (hv0:a.eval v0 = .func (.func f) #[] #[]) (hen:∀ ag w,(callFunc f ag).run P w = .ok (.enter f ag) w) (xv yv:Value) (hx:a.eval x=xv) (hy:a.eval y=yv) (Post:Value->World->Prop)
  (hc:Calls P f #[xv,yv] w fun e w'=>∃ v,e = .returned v/\Post v w') (h:∀ v w',Post v w'->K (a.put o.dst v) w'):if Region.wanted o (yielded ops a.tmps)=true then Oper.wp P o a w K Q else E:=by
 have hw:Region.wanted o (yielded ops a.tmps)=true:=by simp[Region.wanted,hgd]
 rw[if_pos hw]
 unfold Oper.wp execOp
 simp only[ho,resolve,invoke,Sem.run_bind,hv0,List.map_toArray,List.map_cons,List.map_nil,hx,hy]
 simp[Deferred.ofValue,hen,Oper.upon_enter]
 refine hc.mono ?_
 rintro e w' ⟨v,rfl,hp⟩
 exact h v w' hp
theorem hmfO:∀ (fn:Fn) (first cap:Array Value) (w:World),(Instr.makeFunc fn first cap).run Tryz.prog w = .ok (.func fn first cap) w:=fun _ _ _ _=>rfl
theorem ent_field:∀ ag w,(callFunc 44 ag).run Tryz.prog w = .ok (.enter 44 ag) w:=enters_of Tryz.func44 (by kernel_rfl) rfl
theorem ent_group:∀ ag w,(callFunc 45 ag).run Tryz.prog w = .ok (.enter 45 ag) w:=enters_of Tryz.func45 (by kernel_rfl) rfl
theorem ent_next:∀ ag w,(callFunc 46 ag).run Tryz.prog w = .ok (.enter 46 ag) w:=enters_of Tryz.func46 (by kernel_rfl) rfl
theorem ent_data:∀ ag w,(callFunc 47 ag).run Tryz.prog w = .ok (.enter 47 ag) w:=enters_of Tryz.func47 (by kernel_rfl) rfl
def w3 (w:World) (a:Nat) (c:Cl):World:=((w.alloc (.cells #[.pointer (some ⟨a,0,none⟩)] 38)).alloc (caO c)).alloc (.cells #[.int .i64 0] 35)
theorem w3_b (w:World) (a:Nat) (c:Cl):Below w.heap.size w (w3 w a c):=((bb2 w _ _).alloc (by rw[sz2];omega) _)
theorem w3_s (w:World) (a:Nat) (c:Cl):(w3 w a c).heap.size=w.heap.size+3:=by unfold w3;rw[World.size_alloc,sz2]
theorem w3_1 (w:World) (a:Nat) (c:Cl):(w3 w a c).heap[w.heap.size]?=some (.cells #[.pointer (some ⟨a,0,none⟩)] 38):=(((bel1 _ _).block w.heap.size (by rw[sz2];omega)).trans ((bel1 _ _).block w.heap.size (by rw[World.size_alloc];omega))).trans (heap_al _ _)
theorem w3_2 (w:World) (a:Nat) (c:Cl):(w3 w a c).heap[w.heap.size+1]?=some (caO c):=((bel1 _ _).block (w.heap.size+1) (by rw[sz2];omega)).trans (hp2 _ _ _)
theorem w3_3 (w:World) (a:Nat) (c:Cl):(w3 w a c).heap[w.heap.size+2]?=some (.cells #[.int .i64 0] 35):=by
 have:=heap_al ((w.alloc (.cells #[.pointer (some ⟨a,0,none⟩)] 38)).alloc (caO c)) (.cells #[.int .i64 0] 35)
 rwa [sz2] at this
theorem resE (tmps:Array Value) (b:Addr) (x:Int) (h:tmps[4]?.getD undef = .pointer (some b)) (W:World) (hT:W.cell? b=some (.int .i64 x)):(results Tryz.f9 tmps).run Tryz.prog W = .ok (.int .i64 x) W:=by
 simp[results,Tryz.results9,go_sem,h,hT]
theorem step_no (a:Nat) (c:Cl) (w:World) (hk:c.k<0\/4<=c.k) :
  Calls Tryz.prog 9 #[.pointer (some ⟨a,0,none⟩),caV c] w fun r w'=>r = .returned (.int .i64 140)/\Below w.heap.size w w':=by
 have hmf:=hmfO
 have cT:=takers_any (w3 w a c)
 have hB:=w3_b w a c
 have hs:=w3_s w a c
 have h2:=w3_2 w a c
 have h3:=w3_3 w a c
 generalize hW:w3 w a c=W at cT hB hs h2 h3
 unfold w3 at hW
 simp only[caO] at hW
 replace hB:=Hid.mk hB
 have K:Hid (∀ W',Below W.heap.size W W'->W'.cell? ⟨w.heap.size+1,0,none⟩=some (.int .i64 c.k)/\W'.cell? ⟨w.heap.size+2,0,none⟩=some (.int .i64 0)/\W'.frozen? ⟨w.heap.size+2,0,none⟩=false/\Below w.heap.size w W'):=⟨fun W' hb=>⟨(hb.cell (p:=⟨w.heap.size+1,0,none⟩) (by show w.heap.size+1<_;omega)).trans (cell_at h2 0),(hb.cell (p:=⟨w.heap.size+2,0,none⟩) (by show w.heap.size+2<_;omega)).trans (cell_at h3 0),(by have e:=(hb.block (w.heap.size+2) (by omega)).trans h3;simp[World.frozen?,e]),hB.out.trans (hb.mono hB.out.size)⟩⟩
 clear hs h2 h3
 by_cases h0:c.k<0
 ·have b1:decide (c.k<0)=true:=decide_eq_true h0
  clear hk h0
  go_enter_defers Tryz.func9,Tryz.ntmps9
  go_wp2_with (go_at_call 22;refine cT.mono ?_;rintro _ w1 ⟨rfl,hb1⟩;obtain⟨k1,k2,k3,hBw⟩:=K.out _ (hb1.trans ((bel1 w1 (.cells #[.func (.func 44) #[] #[],.func (.func 45) #[] #[],.func (.func 46) #[] #[],.func (.func 47) #[] #[]] 73)).mono hb1.size));replace hb1:=Hid.mk hb1;replace hBw:=Hid.mk hBw)
  exact⟨_,resE _ ⟨w.heap.size+1+1,0,none⟩ 140 rfl _ (World.cell?_setCell_same' _ _ _ (by rw[k2];rfl)),rfl,hBw.out.setCell (p:=⟨w.heap.size+1+1,0,none⟩) (by show w.heap.size<=w.heap.size+1+1;omega) _⟩
 ·have b1:decide (c.k<0)=false:=decide_eq_false h0
  have h4:4<=c.k:=by omega
  have b2:decide (c.k≥4)=true:=decide_eq_true h4
  have b3:decide (4<=c.k)=true:=decide_eq_true h4
  clear hk h0 h4
  go_enter_defers Tryz.func9,Tryz.ntmps9
  go_wp2_with (go_at_call 22;refine cT.mono ?_;rintro _ w1 ⟨rfl,hb1⟩;obtain⟨k1,k2,k3,hBw⟩:=K.out _ (hb1.trans ((bel1 w1 (.cells #[.func (.func 44) #[] #[],.func (.func 45) #[] #[],.func (.func 46) #[] #[],.func (.func 47) #[] #[]] 73)).mono hb1.size));replace hb1:=Hid.mk hb1;replace hBw:=Hid.mk hBw)
  exact⟨_,resE _ ⟨w.heap.size+1+1,0,none⟩ 140 rfl _ (World.cell?_setCell_same' _ _ _ (by rw[k2];rfl)),rfl,hBw.out.setCell (p:=⟨w.heap.size+1+1,0,none⟩) (by show w.heap.size<=w.heap.size+1+1;omega) _⟩
def OkP (l:List Tk) (a go lo hi:Nat) (s:Ms) (W w':World):Prop:=∃ go' cap' zs',SM w' a go' cap' zs'.length zs' s.ent/\(∀ y∈zs',PtA l w' lo hi y.1 y.2.p)/\tops zs' zs'.length=s.op/\(go'=go\/W.heap.size<=go')/\Kb [a,go] W w'
def ErP (a go cap n:Nat) (zs:List (Nat×Lv)) (ent:Int) (y:Nat×Lv) (W w':World):Prop:=∃ zs1 y1,SM w' a go cap (n+1) zs1 ent/\zs1[n]?=some y1/\zs1.set n y=zs/\Kb [a,go] W w'
structure Bx (W:World) (B a:Nat) (c:Cl):Prop where
 em:W.cell? ⟨B,0,none⟩=some (.pointer (some ⟨a,0,none⟩))
 ek:W.cell? ⟨B+1,0,none⟩=some (.int .i64 c.k)
 en:W.cell? ⟨B+1,1,none⟩=some (.string c.nm)
 es:W.cell? ⟨B+1,2,none⟩=some c.ws
 ec:W.cell? ⟨B+1,3,none⟩=some (.int .i64 c.cnt)
 et:W.cell? ⟨B+1,4,none⟩=some (.string c.tx)
 ee:W.heap[B+2]?=some (.cells #[.int .i64 0] 35)
theorem bx_of (w:World) (a:Nat) (c:Cl) (h:∀ k,w.heap.size<=k->k<w.heap.size+3->W.heap[k]?=(w3 w a c).heap[k]?):Bx W w.heap.size a c:=by
 have e1:=(h w.heap.size (by omega) (by omega)).trans (w3_1 w a c)
 have e2:=(h (w.heap.size+1) (by omega) (by omega)).trans (w3_2 w a c)
 have e3:=(h (w.heap.size+2) (by omega) (by omega)).trans (w3_3 w a c)
 exact⟨cell_at e1 0,cell_at e2 0,cell_at e2 1,cell_at e2 2,cell_at e2 3,cell_at e2 4,e3⟩
theorem step_gen (l:List Tk) (a go cap lo hi:Nat) (zs:List (Nat×Lv)) (ent:Int) (c:Cl) (w:World) (h:MaF l w a go cap lo hi zs ent) (kk:Nat) (F:FuncId) (hk:c.k=(kk:Int)) (hk1:1<=kk) (hk4:kk<4) (hF:([.func (.func 44) #[] #[],.func (.func 45) #[] #[],.func (.func 46) #[] #[],.func (.func 47) #[] #[]]:List Value)[kk]?=some (.func (.func F) #[] #[]))
  (hen:∀ ag w,(callFunc F ag).run Tryz.prog w = .ok (.enter F ag) w) (er:Int) (s':Ms)
  (hT:∀ W n y,TM l W a go cap n lo hi zs ent y->(∀ z∈zs,PtA l W lo hi z.1 z.2.p)->leaveR l (tops zs zs.length)=tops zs (n+1)->Calls Tryz.prog F #[.pointer (some ⟨a,0,none⟩),caV c] W fun r w'=>r = .returned (.int .i64 er)/\(er≠0->ErP a go cap n zs ent y W w')/\(er=0->OkP l a go lo hi s' W w')) :
  Calls Tryz.prog 9 #[.pointer (some ⟨a,0,none⟩),caV c] w fun r w'=>r = .returned (.int .i64 er)/\(er≠0->SM w' a go cap zs.length zs ent/\Kb [a,go] w w')/\(er=0->OkP l a go lo hi s' w w'):=by
 obtain⟨ck,nm,ws,cnt,tx⟩:=c
 have hk:ck=(kk:Int):=hk
 subst hk
 have hmf:=hmfO
 have cT:=takers_any (w3 w a ⟨(kk:Int),nm,ws,cnt,tx⟩)
 have hB:=w3_b w a ⟨(kk:Int),nm,ws,cnt,tx⟩
 have hs:=w3_s w a ⟨(kk:Int),nm,ws,cnt,tx⟩
 have hal:=h.s.lt.1
 have hgol:=h.s.lt.2
 have BX:Hid (∀ W',Kb [a] (w3 w a ⟨(kk:Int),nm,ws,cnt,tx⟩) W'->Bx W' w.heap.size a ⟨(kk:Int),nm,ws,cnt,tx⟩):=⟨fun W' hb=>bx_of w a ⟨(kk:Int),nm,ws,cnt,tx⟩ fun k h1 h2=>hb.block k (by omega) (by simp;omega)⟩
 have hS3:=h.s.below hB
 generalize hW:w3 w a ⟨(kk:Int),nm,ws,cnt,tx⟩=W at cT hB hs BX hS3
 unfold w3 at hW
 simp only[caO] at hW
 have b1:decide ((kk:Int)<0)=false:=by simp
 have b2:decide ((kk:Int)≥4)=false:=by simp;omega
 have b3:decide (4<=(kk:Int))=false:=by simp;omega
 have b4:((kk:Int) != 0)=true:=by simp;omega
 have b5:((kk:Int)==0)=false:=by simp;omega
 have b6:(kk:Int)<4:=by omega
 have SS:Hid (∀ W',Below W.heap.size W W'->SM W' a go cap zs.length zs ent/\RwA l W' a zs/\Kb [a] W W'):=⟨fun W' hb=>⟨hS3.below hb,fun y hy=>⟨((h.p y hy).rw.below hB).below hb,fun e=>by
  obtain⟨d,hd⟩:=h.p y hy
  cases d with
  | zero=>exact hd.elim
  | succ d=>have:=hd.1;have:=h.al;omega⟩,Kb.of_below hb⟩⟩
 clear hS3
 replace hs:=Hid.mk hs
 replace hF:=Hid.mk hF
 replace hT:=Hid.mk hT
 replace hen:=Hid.mk hen
 replace h:=Hid.mk h
 replace hB:=Hid.mk hB
 replace hk1:=Hid.mk hk1
 replace hk4:=Hid.mk hk4
 have cL:=fun W' (hb:Below W.heap.size W W')=>leave_any l a go cap zs.length zs ent W' (SS.out W' hb).1 (SS.out W' hb).2.1
 replace cL:=Hid.mk cL
 go_enter_defers Tryz.func9,Tryz.ntmps9
 go_wp2_with (first
  | (go_at_call 22;refine cT.mono ?_;rintro _ w1 ⟨rfl,hb1⟩;have hb2:=hb1.trans ((bel1 w1 (.cells #[.func (.func 44) #[] #[],.func (.func 45) #[] #[],.func (.func 46) #[] #[],.func (.func 47) #[] #[]] 73)).mono hb1.size);obtain⟨hS1,-,hK1⟩:=SS.out _ hb2;obtain⟨k0,k1,-,-,-,-,-⟩:=BX.out _ hK1;have a0:=hS1.c0;clear hS1 hK1;have hb3:=hb2.trans ((bel1 (w1.alloc (.cells #[.func (.func 44) #[] #[],.func (.func 45) #[] #[],.func (.func 46) #[] #[],.func (.func 47) #[] #[]] 73)) (.cells #[.slice (some ⟨go,0,none⟩) zs.length cap] 56)).mono hb2.size);obtain⟨-,-,hK3⟩:=SS.out _ hb3;obtain⟨j0,j1,-,-,-,-,-⟩:=BX.out _ hK3;clear hK3;replace hb1:=Hid.mk hb1;replace hb2:=Hid.mk hb2;replace hb3:=Hid.mk hb3)
  | (go_at_call 23;refine(cL.out _ hb3.out).mono ?_;rintro _ w4 ⟨rfl,k',hS4,hK4,hL4,hle4⟩;obtain⟨n,rfl⟩:∃ n,k'=n+1:=⟨k'-1,by have:=hS4.k1;omega⟩;obtain⟨i0,i1,-,-,-,-,-⟩:=BX.out _ ((SS.out _ hb3.out).2.2.trans hK4);have hL4':Hid _:=⟨hL4⟩;have hle4':Hid _:=⟨hle4⟩;clear hL4 hle4;obtain⟨y,hy⟩:∃ y,zs[n]?=some y:=⟨zs[n]'(by have:=hS4.kl;omega),List.getElem?_eq_getElem (by have:=hS4.kl;omega)⟩;have hy':Hid _:=⟨hy⟩;have cTp:=otop_any a go n cap w4 hS4.c0 (by have:=hS4.kl;have:=hS4.zl;omega);have hS4':Hid _:=⟨hS4⟩;have hK4':Hid _:=⟨hK4⟩;clear hS4 hK4 hy)
  | (go_at_call 24;refine cTp.mono ?_;rintro _ w5 ⟨rfl,hb5⟩;have hS5:=hS4'.out.below hb5;obtain⟨s0,s1,s2,s3⟩:=hS5.cs hy'.out;clear hS5;replace hb5:=Hid.mk hb5))
 clear k0 k1 j0 j1 i0 i1 a0 s0 s1 s2 s3 cTp cT
 have hK5:Kb [a] W (w5.alloc (lvO y.1 y.2)):=(((SS.out _ hb3.out).2.2.trans hK4'.out).trans (Kb.of_below hb5.out)).trans (Kb.of_below (bel1 _ _))
 have hKw:Kb [a] w (w5.alloc (lvO y.1 y.2)):=(Kb.of_below hB.out).trans hK5
 have hS9:SM (w5.alloc (lvO y.1 y.2)) a go cap (n+1) zs ent:=(hS4'.out.below hb5.out).below (bel1 _ _)
 have hT9:TM l (w5.alloc (lvO y.1 y.2)) a go cap n lo hi zs ent y:=⟨hS9,hy'.out,(h.out.p y (List.mem_of_getElem? hy'.out)).same (fun k h1 h2=>hKw.block k (by have:=h.out.gl;omega) (by have:=h.out.al;simp;omega)),h.out.al,h.out.gl⟩
 have hP9:∀ z∈zs,PtA l (w5.alloc (lvO y.1 y.2)) lo hi z.1 z.2.p:=fun z hz=>(h.out.p z hz).same (fun k h1 h2=>hKw.block k (by have:=h.out.gl;omega) (by have:=h.out.al;simp;omega))
 obtain⟨m0,m1,m2,m3,m4,m5,m6⟩:=BX.out _ hK5
 have gsz:w.heap.size+3<=w1.heap.size:=by have:=hb1.out.size;have:=hs.out;omega
 have hb4:=(hK4'.out.trans (Kb.of_below hb5.out)).trans (Kb.of_below (bel1 w5 (lvO y.1 y.2)))
 have gK:=(hb4.block w1.heap.size (by rw[sz2];omega) (by simp;omega)).trans (((bel1 _ _).block w1.heap.size (by rw[World.size_alloc];omega)).trans (heap_al _ _))
 have gO:=(hb4.block (w1.heap.size+1) (by rw[sz2];omega) (by simp;omega)).trans (hp2 _ _ _)
 have gT:=heap_al w5 (lvO y.1 y.2)
 have gs5:w1.heap.size+2<=w5.heap.size:=by
  have h1:=hK4'.out.size
  rw[sz2] at h1
  have h2:=hb5.out.size
  omega
 generalize hF9:w5.alloc (lvO y.1 y.2)=wF at hb4 gK gO gT hK5 hKw hS9 hT9 hP9 m0 m1 m2 m3 m4 m5 m6 ⊢
 have kK:wF.cell? ⟨w1.heap.size,kk,none⟩=some (.func (.func F) #[] #[]):=(cell_at gK kk).trans (by simpa using hF.out)
 simp only at m1 m2 m3 m4 m5
 have CALL:Hid (∀ W',W'=wF\/W'=wF.drew->Calls Tryz.prog F #[.pointer (some ⟨a,0,none⟩),caV ⟨(kk:Int),nm,ws,cnt,tx⟩] W' fun e w'=>∃ v,e = .returned v/\(v = .int .i64 er/\w'.cell? ⟨w.heap.size+1+1,0,none⟩=some (.int .i64 0)/\w'.frozen? ⟨w.heap.size+1+1,0,none⟩=false/\Hid (Kb [a,go] wF w'/\(er≠0->ErP a go cap n zs ent y wF w')/\(er=0->OkP l a go lo hi s' wF w')))):=by
  refine⟨fun W' hW'=>?_⟩
  have hbW:Below wF.heap.size wF W':=by
   rcases hW' with rfl|rfl
   ·exact Below.refl _ _
   ·exact drw (Below.refl _ _)
  have hsW:W'.heap.size=wF.heap.size:=by rcases hW' with rfl|rfl<;>rfl
  refine(hT.out W' n y (hT9.below hbW) (fun z hz=>(hP9 z hz).same fun k _ hk=>hbW.block k (by have:=hT9.gl;have:=hT9.s.lt.2;omega)) hL4'.out).mono ?_
  rintro _ w' ⟨rfl,q1,q2⟩
  have hK6:Kb [a,go] W' w':=by
   by_cases her:er=0
   ·obtain⟨_,_,_,_,_,_,_,hk⟩:=q2 her
    exact hk
   ·obtain⟨_,_,_,_,_,hk⟩:=q1 her
    exact hk
  have hK7:Kb [a,go] wF w':=(Kb.of_below hbW).trans hK6
  have hl6:=(Array.getElem?_eq_some_iff.1 m6).1
  have e6:=(hK7.block (w.heap.size+2) hl6 (by simp;omega)).trans m6
  refine⟨_,rfl,rfl,cell_at e6 0,by simp[World.frozen?,e6],⟨hK7,fun her=>?_,fun her=>?_⟩⟩
  ·obtain⟨zs1,y1,p1,p2,p3,_⟩:=q1 her
   exact⟨zs1,y1,p1,p2,p3,hK7⟩
  ·obtain⟨go',cap',zs',p1,p2,p3,p4,_⟩:=q2 her
   exact⟨go',cap',zs',p1,p2,p3,by rw[<- hsW];exact p4,hK7⟩
 have FIN:Hid (∀ (w':World) (tmps:Array Value),w'.cell? ⟨w.heap.size+1+1,0,none⟩=some (.int .i64 0)->Kb [a,go] wF w'->(er≠0->ErP a go cap n zs ent y wF w')->(er=0->OkP l a go lo hi s' wF w')->tmps[4]?.getD undef = .pointer (some ⟨w.heap.size+1+1,0,none⟩) ->
   Leaves Tryz.prog Tryz.f9 tmps (fun r w'=>r = .returned (.int .i64 er)/\(er≠0->SM w' a go cap zs.length zs ent/\Kb [a,go] w w')/\(er=0->OkP l a go lo hi s' w w')) [{ target:=Target.fn (Fn.func 25) #[.pointer (some ⟨w.heap.size+1+1,0,none⟩),.pointer (some ⟨w5.heap.size,0,none⟩),.pointer (some ⟨w.heap.size,0,none⟩),.pointer (some ⟨w1.heap.size+1,0,none⟩)],args:=#[] }] .returning (w'.setCell ⟨w.heap.size+1+1,0,none⟩ (.int .i64 er))):=by
  refine⟨fun w' tmps hc hK q1 q2 h4=>?_⟩
  have hcE:=World.cell?_setCell_same w' ⟨w.heap.size+1+1,0,none⟩ (.int .i64 er) hc
  have hlF:=hKw.size
  have hlE:=(Array.getElem?_eq_some_iff.1 m6).1
  have hKK:Kb [a,go] w (w'.setCell ⟨w.heap.size+1+1,0,none⟩ (.int .i64 er)):=((hKw.mono (by simp)).trans hK).setNew (by omega) _
  refine leaves_cons (f:=25) (args:=#[.pointer (some ⟨w.heap.size+1+1,0,none⟩),.pointer (some ⟨w5.heap.size,0,none⟩),.pointer (some ⟨w.heap.size,0,none⟩),.pointer (some ⟨w1.heap.size+1,0,none⟩)]) (by simp) (by simp[go_sem]) ?_
  by_cases her:er=0
  ·subst her
   refine(stepD_ok (w.heap.size+1+1) w5.heap.size w.heap.size (w1.heap.size+1) _ _ hcE).mono ?_
   rintro e u' w2 ⟨rfl,rfl,rfl⟩
   refine⟨_,resE _ ⟨w.heap.size+1+1,0,none⟩ 0 h4 _ hcE,rfl,fun h=>absurd rfl h,fun _=>?_⟩
   obtain⟨go',cap',zs',p1,p2,p3,p4,_⟩:=q2 rfl
   have hhi:=h.out.gl
   exact⟨go',cap',zs',p1.same (set_oth (by omega)) (set_oth (by omega)),fun z hz=>(p2 z hz).same fun k _ hk=>set_oth (by omega),p3,by omega,hKK⟩
  ·obtain⟨zs1,y1,p1,p2,p3,_⟩:=q1 her
   have o1:∀ k v,wF.cell? ⟨k,0,none⟩=some v->k<wF.heap.size->k≠a->k≠go->k≠w.heap.size+1+1->(w'.setCell ⟨w.heap.size+1+1,0,none⟩ (.int .i64 er)).cell? ⟨k,0,none⟩=some v:=fun k v hv hk h1 h2 h3=>(cell_blk (set_oth (Ne.symm h3))).trans ((hK.cell hk (by simp;exact⟨h1,h2⟩)).trans hv)
   have hlT:=(Array.getElem?_eq_some_iff.1 gT).1
   have hlO:=(Array.getElem?_eq_some_iff.1 gO).1
   refine(stepD_err (w.heap.size+1+1) w5.heap.size w.heap.size (w1.heap.size+1) a go cap n zs.length zs1 ent er y y1 _ _ hcE her (p1.same (set_oth (by omega)) (set_oth (by omega))) p2 (o1 _ _ m0 (by omega) (by omega) (by omega) (by omega)) ((set_oth (by omega)).trans ((hK.block _ hlT (by simp;omega)).trans gT)) (o1 _ _ (cell_at gO 0) hlO (by omega) (by omega) (by omega)) (by omega) (by omega)).mono ?_
   rintro e u' w2 ⟨rfl,rfl,r1,r2,r3⟩
   rw[p3] at r2
   have hcE2:=(r3.cell (g:=w.heap.size+1+1) (o:=0) (by have:=hK.size;simp[World.setCell];omega) (by simp;omega)).trans hcE
   exact⟨_,resE _ ⟨w.heap.size+1+1,0,none⟩ er h4 _ hcE2,rfl,fun _=>⟨⟨r1,r2,Nat.le_refl _,by have:=h.out.s.k1;exact this,h.out.s.ne,h.out.s.zl⟩,hKK.trans r3⟩,fun h=>absurd h her⟩
 clear BX SS cL hb2 hb3 gK gO gT hb4 hT hS4' hS9 hT9 hP9 hK4' h hk m6 hF hW
 rename_i KK hKK
 refine Code.wp_mono (Q:=Exit.then KK (fun _ _ _=>False)) ?_ ?_
 ·intro e b u hh
  cases e<;>first|exact hh|exact hh.elim
 go_region_law ((refine xstep_v2 rfl F _ _ _ #[38,45] (by rfl) (by rfl) hen.out (.pointer (some ⟨a,0,none⟩)) (caV ⟨(kk:Int),nm,ws,cnt,tx⟩) (by rfl) (by rfl) _ (CALL.out _ (by first|exact .inl rfl|exact .inr rfl)) ?_;rintro _ w8 ⟨rfl,hc8,hf8,HX⟩))
 all_goals
  show KK _ _
  refine hKK _ _ ?_
  clear hKK
  go_wp2_with fail
  exact FIN.out w8 _ hc8 HX.out.1 HX.out.2.1 HX.out.2.2 rfl
theorem SM.len {k':Nat} (h:SM W a go cap k zs ent) (e:k=k'):SM W a go cap k' zs ent:=by subst e;exact h
theorem step_zer (l:List Tk) (a go cap lo hi:Nat) (zs:List (Nat×Lv)) (ent:Int) (c:Cl) (w:World) (h:MaF l w a go cap lo hi zs ent) (hk:c.k=0) (er:Int) (s':Ms)
  (hT:∀ W n y,TM l W a go cap n lo hi zs ent y->(∀ z∈zs,PtA l W lo hi z.1 z.2.p)->zs.length=n+1->Calls Tryz.prog 44 #[.pointer (some ⟨a,0,none⟩),caV c] W fun r w'=>r = .returned (.int .i64 er)/\(er≠0->ErP a go cap n zs ent y W w')/\(er=0->OkP l a go lo hi s' W w')) :
  Calls Tryz.prog 9 #[.pointer (some ⟨a,0,none⟩),caV c] w fun r w'=>r = .returned (.int .i64 er)/\(er≠0->SM w' a go cap zs.length zs ent/\Kb [a,go] w w')/\(er=0->OkP l a go lo hi s' w w'):=by
 obtain⟨ck,nm,ws,cnt,tx⟩:=c
 have hk:ck=0:=hk
 subst hk
 have hmf:=hmfO
 have cT:=takers_any (w3 w a ⟨0,nm,ws,cnt,tx⟩)
 have hB:=w3_b w a ⟨0,nm,ws,cnt,tx⟩
 have hs:=w3_s w a ⟨0,nm,ws,cnt,tx⟩
 have hal:=h.s.lt.1
 have hgol:=h.s.lt.2
 have BX:Hid (∀ W',Kb [a] (w3 w a ⟨0,nm,ws,cnt,tx⟩) W'->Bx W' w.heap.size a ⟨0,nm,ws,cnt,tx⟩):=⟨fun W' hb=>bx_of w a ⟨0,nm,ws,cnt,tx⟩ fun k h1 h2=>hb.block k (by omega) (by simp;omega)⟩
 have hS3:=h.s.below hB
 generalize hW:w3 w a ⟨0,nm,ws,cnt,tx⟩=W at cT hB hs BX hS3
 unfold w3 at hW
 simp only[caO] at hW
 obtain⟨n,hn⟩:∃ n,zs.length=n+1:=⟨zs.length-1,by have:=h.s.k1;omega⟩
 obtain⟨y,hy⟩:∃ y,zs[n]?=some y:=⟨zs[n]'(by omega),List.getElem?_eq_getElem (by omega)⟩
 have hnl:n<1000000000000:=by have:=h.s.zl;omega
 have hn':Hid _:=⟨hn⟩
 have hy':Hid _:=⟨hy⟩
 clear hn hy
 have SS:Hid (∀ W',Below W.heap.size W W'->SM W' a go cap zs.length zs ent/\RwA l W' a zs/\Kb [a] W W'):=⟨fun W' hb=>⟨hS3.below hb,fun y hy=>⟨((h.p y hy).rw.below hB).below hb,fun e=>by
  obtain⟨d,hd⟩:=h.p y hy
  cases d with
  | zero=>exact hd.elim
  | succ d=>have:=hd.1;have:=h.al;omega⟩,Kb.of_below hb⟩⟩
 clear hS3
 replace hs:=Hid.mk hs
 replace hT:=Hid.mk hT
 replace h:=Hid.mk h
 replace hB:=Hid.mk hB
 go_enter_defers Tryz.func9,Tryz.ntmps9
 go_wp2_with (first
  | (go_at_call 22;refine cT.mono ?_;rintro _ w1 ⟨rfl,hb1⟩;have hb2:=hb1.trans ((bel1 w1 (.cells #[.func (.func 44) #[] #[],.func (.func 45) #[] #[],.func (.func 46) #[] #[],.func (.func 47) #[] #[]] 73)).mono hb1.size);obtain⟨hS1,-,hK1⟩:=SS.out _ hb2;obtain⟨k0,k1,-,-,-,-,-⟩:=BX.out _ hK1;have a0:=hS1.c0;clear hS1 hK1;have hb3:=hb2.trans ((bel1 (w1.alloc (.cells #[.func (.func 44) #[] #[],.func (.func 45) #[] #[],.func (.func 46) #[] #[],.func (.func 47) #[] #[]] 73)) (.cells #[.slice (some ⟨go,0,none⟩) zs.length cap] 56)).mono hb2.size);obtain⟨hS3,-,hK3⟩:=SS.out _ hb3;have hS3':=(Hid.mk (hS3.len hn'.out));clear hS3;have cTp:=otop_any a go n cap _ hS3'.out.c0 hnl;obtain⟨j0,j1,-,-,-,-,-⟩:=BX.out _ hK3;clear hK3;replace hb1:=Hid.mk hb1;replace hb2:=Hid.mk hb2;replace hb3:=Hid.mk hb3)
  | (go_at_call 24;refine cTp.mono ?_;rintro _ w5 ⟨rfl,hb5⟩;have hS5:=hS3'.out.below hb5;obtain⟨s0,s1,s2,s3⟩:=hS5.cs hy'.out;clear hS5;replace hb5:=Hid.mk hb5))
 clear k0 k1 j0 j1 a0 s0 s1 s2 s3 cTp cT
 have hK5:Kb [a] W (w5.alloc (lvO y.1 y.2)):=((SS.out _ hb3.out).2.2.trans (Kb.of_below hb5.out)).trans (Kb.of_below (bel1 _ _))
 have hKw:Kb [a] w (w5.alloc (lvO y.1 y.2)):=(Kb.of_below hB.out).trans hK5
 have hS9:SM (w5.alloc (lvO y.1 y.2)) a go cap (n+1) zs ent:=(hS3'.out.below hb5.out).below (bel1 _ _)
 have hT9:TM l (w5.alloc (lvO y.1 y.2)) a go cap n lo hi zs ent y:=⟨hS9,hy'.out,(h.out.p y (List.mem_of_getElem? hy'.out)).same (fun k h1 h2=>hKw.block k (by have:=h.out.gl;omega) (by have:=h.out.al;simp;omega)),h.out.al,h.out.gl⟩
 have hP9:∀ z∈zs,PtA l (w5.alloc (lvO y.1 y.2)) lo hi z.1 z.2.p:=fun z hz=>(h.out.p z hz).same (fun k h1 h2=>hKw.block k (by have:=h.out.gl;omega) (by have:=h.out.al;simp;omega))
 obtain⟨m0,m1,m2,m3,m4,m5,m6⟩:=BX.out _ hK5
 have gsz:w.heap.size+3<=w1.heap.size:=by have:=hb1.out.size;have:=hs.out;omega
 have hb4:Kb [a] _ _:=(Kb.of_below hb5.out).trans (Kb.of_below (bel1 w5 (lvO y.1 y.2)))
 have gK:=(hb4.block w1.heap.size (by rw[sz2];omega) (by simp;omega)).trans (((bel1 _ _).block w1.heap.size (by rw[World.size_alloc];omega)).trans (heap_al _ _))
 have gO:=(hb4.block (w1.heap.size+1) (by rw[sz2];omega) (by simp;omega)).trans (hp2 _ _ _)
 have gT:=heap_al w5 (lvO y.1 y.2)
 have gs5:w1.heap.size+2<=w5.heap.size:=by
  have h2:=hb5.out.size
  rw[sz2] at h2
  omega
 generalize hF9:w5.alloc (lvO y.1 y.2)=wF at hb4 gK gO gT hK5 hKw hS9 hT9 hP9 m0 m1 m2 m3 m4 m5 m6 ⊢
 have kK:wF.cell? ⟨w1.heap.size,0,none⟩=some (.func (.func 44) #[] #[]):=cell_at gK 0
 simp only at m1 m2 m3 m4 m5
 have CALL:Hid (∀ W',W'=wF\/W'=wF.drew->Calls Tryz.prog 44 #[.pointer (some ⟨a,0,none⟩),caV ⟨0,nm,ws,cnt,tx⟩] W' fun e w'=>∃ v,e = .returned v/\(v = .int .i64 er/\w'.cell? ⟨w.heap.size+1+1,0,none⟩=some (.int .i64 0)/\w'.frozen? ⟨w.heap.size+1+1,0,none⟩=false/\Hid (Kb [a,go] wF w'/\(er≠0->ErP a go cap n zs ent y wF w')/\(er=0->OkP l a go lo hi s' wF w')))):=by
  refine⟨fun W' hW'=>?_⟩
  have hbW:Below wF.heap.size wF W':=by
   rcases hW' with rfl|rfl
   ·exact Below.refl _ _
   ·exact drw (Below.refl _ _)
  have hsW:W'.heap.size=wF.heap.size:=by rcases hW' with rfl|rfl<;>rfl
  refine(hT.out W' n y (hT9.below hbW) (fun z hz=>(hP9 z hz).same fun k _ hk=>hbW.block k (by have:=hT9.gl;have:=hT9.s.lt.2;omega)) hn'.out).mono ?_
  rintro _ w' ⟨rfl,q1,q2⟩
  have hK6:Kb [a,go] W' w':=by
   by_cases her:er=0
   ·obtain⟨_,_,_,_,_,_,_,hk⟩:=q2 her
    exact hk
   ·obtain⟨_,_,_,_,_,hk⟩:=q1 her
    exact hk
  have hK7:Kb [a,go] wF w':=(Kb.of_below hbW).trans hK6
  have hl6:=(Array.getElem?_eq_some_iff.1 m6).1
  have e6:=(hK7.block (w.heap.size+2) hl6 (by simp;omega)).trans m6
  refine⟨_,rfl,rfl,cell_at e6 0,by simp[World.frozen?,e6],⟨hK7,fun her=>?_,fun her=>?_⟩⟩
  ·obtain⟨zs1,y1,p1,p2,p3,_⟩:=q1 her
   exact⟨zs1,y1,p1,p2,p3,hK7⟩
  ·obtain⟨go',cap',zs',p1,p2,p3,p4,_⟩:=q2 her
   exact⟨go',cap',zs',p1,p2,p3,by rw[<- hsW];exact p4,hK7⟩
 have FIN:Hid (∀ (w':World) (tmps:Array Value),w'.cell? ⟨w.heap.size+1+1,0,none⟩=some (.int .i64 0)->Kb [a,go] wF w'->(er≠0->ErP a go cap n zs ent y wF w')->(er=0->OkP l a go lo hi s' wF w')->tmps[4]?.getD undef = .pointer (some ⟨w.heap.size+1+1,0,none⟩) ->
   Leaves Tryz.prog Tryz.f9 tmps (fun r w'=>r = .returned (.int .i64 er)/\(er≠0->SM w' a go cap zs.length zs ent/\Kb [a,go] w w')/\(er=0->OkP l a go lo hi s' w w')) [{ target:=Target.fn (Fn.func 25) #[.pointer (some ⟨w.heap.size+1+1,0,none⟩),.pointer (some ⟨w5.heap.size,0,none⟩),.pointer (some ⟨w.heap.size,0,none⟩),.pointer (some ⟨w1.heap.size+1,0,none⟩)],args:=#[] }] .returning (w'.setCell ⟨w.heap.size+1+1,0,none⟩ (.int .i64 er))):=by
  refine⟨fun w' tmps hc hK q1 q2 h4=>?_⟩
  have hcE:=World.cell?_setCell_same w' ⟨w.heap.size+1+1,0,none⟩ (.int .i64 er) hc
  have hlF:=hKw.size
  have hlE:=(Array.getElem?_eq_some_iff.1 m6).1
  have hKK:Kb [a,go] w (w'.setCell ⟨w.heap.size+1+1,0,none⟩ (.int .i64 er)):=((hKw.mono (by simp)).trans hK).setNew (by omega) _
  refine leaves_cons (f:=25) (args:=#[.pointer (some ⟨w.heap.size+1+1,0,none⟩),.pointer (some ⟨w5.heap.size,0,none⟩),.pointer (some ⟨w.heap.size,0,none⟩),.pointer (some ⟨w1.heap.size+1,0,none⟩)]) (by simp) (by simp[go_sem]) ?_
  by_cases her:er=0
  ·subst her
   refine(stepD_ok (w.heap.size+1+1) w5.heap.size w.heap.size (w1.heap.size+1) _ _ hcE).mono ?_
   rintro e u' w2 ⟨rfl,rfl,rfl⟩
   refine⟨_,resE _ ⟨w.heap.size+1+1,0,none⟩ 0 h4 _ hcE,rfl,fun h=>absurd rfl h,fun _=>?_⟩
   obtain⟨go',cap',zs',p1,p2,p3,p4,_⟩:=q2 rfl
   have hhi:=h.out.gl
   exact⟨go',cap',zs',p1.same (set_oth (by omega)) (set_oth (by omega)),fun z hz=>(p2 z hz).same fun k _ hk=>set_oth (by omega),p3,by omega,hKK⟩
  ·obtain⟨zs1,y1,p1,p2,p3,_⟩:=q1 her
   have o1:∀ k v,wF.cell? ⟨k,0,none⟩=some v->k<wF.heap.size->k≠a->k≠go->k≠w.heap.size+1+1->(w'.setCell ⟨w.heap.size+1+1,0,none⟩ (.int .i64 er)).cell? ⟨k,0,none⟩=some v:=fun k v hv hk h1 h2 h3=>(cell_blk (set_oth (Ne.symm h3))).trans ((hK.cell hk (by simp;exact⟨h1,h2⟩)).trans hv)
   have hlT:=(Array.getElem?_eq_some_iff.1 gT).1
   have hlO:=(Array.getElem?_eq_some_iff.1 gO).1
   refine(stepD_err (w.heap.size+1+1) w5.heap.size w.heap.size (w1.heap.size+1) a go cap n zs.length zs1 ent er y y1 _ _ hcE her (p1.same (set_oth (by omega)) (set_oth (by omega))) p2 (o1 _ _ m0 (by omega) (by omega) (by omega) (by omega)) ((set_oth (by omega)).trans ((hK.block _ hlT (by simp;omega)).trans gT)) (o1 _ _ (cell_at gO 0) hlO (by omega) (by omega) (by omega)) (by omega) (by omega)).mono ?_
   rintro e u' w2 ⟨rfl,rfl,r1,r2,r3⟩
   rw[p3] at r2
   have hcE2:=(r3.cell (g:=w.heap.size+1+1) (o:=0) (by have:=hK.size;simp[World.setCell];omega) (by simp;omega)).trans hcE
   exact⟨_,resE _ ⟨w.heap.size+1+1,0,none⟩ er h4 _ hcE2,rfl,fun _=>⟨⟨r1,r2,Nat.le_refl _,by have:=h.out.s.k1;exact this,h.out.s.ne,h.out.s.zl⟩,hKK.trans r3⟩,fun h=>absurd h her⟩
 clear BX SS hb2 hb3 gK gO gT hb4 hT hS3' hS9 hT9 hP9 h hk m6 hW
 rename_i KK hKK
 refine Code.wp_mono (Q:=Exit.then KK (fun _ _ _=>False)) ?_ ?_
 ·intro e b u hh
  cases e<;>first|exact hh|exact hh.elim
 go_region_law ((refine xstep_v2 rfl 44 _ _ _ #[38,45] (by rfl) (by rfl) ent_field (.pointer (some ⟨a,0,none⟩)) (caV ⟨0,nm,ws,cnt,tx⟩) (by rfl) (by rfl) _ (CALL.out _ (by first|exact .inl rfl|exact .inr rfl)) ?_;rintro _ w8 ⟨rfl,hc8,hf8,HX⟩))
 all_goals
  show KK _ _
  refine hKK _ _ ?_
  clear hKK
  go_wp2_with fail
  exact FIN.out w8 _ hc8 HX.out.1 HX.out.2.1 HX.out.2.2 rfl
theorem Op4.cut (h:Op4 W go cap zs) (hk:k<=zs.length):Op4 W go cap (zs.take k):=by
 obtain⟨cur,h1,h2,h3,h4,h5⟩:=h
 have hl:(zs.take k).length=k:=by rw[List.length_take];omega
 refine⟨cur,h1,by omega,h3,h4,?_⟩
 rw[hl,<- lvCs_take,<- h5,List.take_take,Nat.min_eq_left (by omega)]
theorem SM.cut (h:SM W a go cap k zs ent):SM W a go cap (zs.take k).length (zs.take k) ent:=by
 have hl:(zs.take k).length=k:=by rw[List.length_take];have:=h.kl;omega
 refine⟨by rw[hl];exact h.c,h.o.cut h.kl,Nat.le_refl _,by rw[hl];exact h.k1,h.ne,by have:=h.zl;have:=h.kl;omega⟩
theorem tops_cut (zs:List (Nat×Lv)) (k:Nat):tops (zs.take k) (zs.take k).length=tops zs k:=by
 unfold tops
 rw[List.take_length]
theorem tops_set {y':Nat×Lv} (h:zs[n]?=some y):tops (zs.set n y') (n+1)=y'.2::tops zs n:=by
 have hl:=(List.getElem?_eq_some_iff.1 h).1
 rw[tops_succ (y:=y') (by rw[List.getElem?_set_self hl])]
 congr 1
 unfold tops
 rw[List.take_set_of_le (Nat.le_refl _)]
theorem set_same {α:Type} {l:List α} {x:α} (h:l[n]?=some x):l.set n x=l:=by
 obtain⟨hl,e⟩:=List.getElem?_eq_some_iff.1 h
 rw[<- e,List.set_getElem_self]
theorem okp_of (hT:TM l W a go cap n lo hi zs ent y) (hP:∀ z∈zs,PtA l W lo hi z.1 z.2.p) (hx:x'.p=y.2.p) (hS:SM w' a go cap (n+1) (zs.set n (y.1,x')) ent') (hK:Kb [a,go] W w'):OkP l a go lo hi ⟨x'::tops zs n,ent'⟩ W w':=by
 refine⟨go,cap,_,hS.cut,fun z hz=>?_,(tops_cut _ _).trans (tops_set hT.ey),.inl rfl,hK⟩
 have hb:∀ k,lo<=k->k<hi->w'.heap[k]?=W.heap[k]?:=fun k h1 h2=>hK.block k (by have:=hT.gl;have:=hT.s.lt.2;omega) (by have:=hT.gl;have:=hT.al;simp;omega)
 rcases List.mem_or_eq_of_mem_set (List.mem_of_mem_take hz) with h|rfl
 ·exact(hP z h).same hb
 ·have:=hT.p.same hb
  rw[<- hx] at this
  exact this
theorem okp_push {x:Lv} {g' go' cap':Nat} (hT:TM l W a go cap n lo hi zs ent y) (hP:∀ z∈zs,PtA l W lo hi z.1 z.2.p) (hx:x'.p=y.2.p) (hS:SM w' a go' cap' (n+2) ((zs.set n (y.1,x')).take (n+1)++[(g',x)]) ent') (hg:PtA l w' lo hi g' x.p) (ho:go'=go\/W.heap.size<=go') (hK:Kb [a,go] W w'):OkP l a go lo hi ⟨x::x'::tops zs n,ent'⟩ W w':=by
 have hl:=(List.getElem?_eq_some_iff.1 hT.ey).1
 have hl1:((zs.set n (y.1,x')).take (n+1)).length=n+1:=by rw[List.length_take,List.length_set];omega
 have hl2:((zs.set n (y.1,x')).take (n+1)++[(g',x)]).length=n+2:=by rw[List.length_append,hl1];rfl
 refine⟨go',cap',_,hS.len hl2.symm,fun z hz=>?_,?_,ho,hK⟩
 ·have hb:∀ k,lo<=k->k<hi->w'.heap[k]?=W.heap[k]?:=fun k h1 h2=>hK.block k (by have:=hT.gl;have:=hT.s.lt.2;omega) (by have:=hT.gl;have:=hT.al;simp;omega)
  rcases List.mem_append.1 hz with hz|hz
  ·rcases List.mem_or_eq_of_mem_set (List.mem_of_mem_take hz) with h|rfl
   ·exact(hP z h).same hb
   ·have:=hT.p.same hb
    rw[<- hx] at this
    exact this
  ·cases List.mem_singleton.1 hz
   exact hg
 ·rw[hl2,tops_succ (y:=(g',x)) (by rw[List.getElem?_append_right (by omega),hl1];simp)]
  congr 1
  rw[<- tops_set (y':=(y.1,x')) hT.ey]
  unfold tops
  rw[List.take_append_of_le_length (by omega),List.take_take,Nat.min_self]
theorem erp_of (hT:TM l W a go cap n lo hi zs ent y) (hS:SM w' a go cap (n+1) (zs.set n (y.1,x')) ent) (hK:Kb [a,go] W w'):ErP a go cap n zs ent y W w':=by
 have hl:=(List.getElem?_eq_some_iff.1 hT.ey).1
 exact⟨_,(y.1,x'),hS,by rw[List.getElem?_set_self hl],by rw[List.set_set];exact set_same hT.ey,hK⟩
theorem erp_same (hT:TM l W a go cap n lo hi zs ent y) (hb:Below W.heap.size W w'):ErP a go cap n zs ent y W w':=⟨zs,y,hT.s.below hb,hT.ey,set_same hT.ey,Kb.of_below hb⟩
theorem stepZ_err (l:List Tk) (s:Ms) (k cnt:Int) (nm:ByteArray):(stepZ l s k cnt nm).1≠0->(stepZ l s k cnt nm).2=s:=by
 unfold stepZ
 split
 ·exact fun _=>rfl
 ·split
  ·exact fun _=>rfl
  ·split
   ·exact fun _=>rfl
   ·split
    ·split
     ·exact fun _=>rfl
     ·exact fun h=>absurd rfl h
    ·split
     ·exact fun _=>rfl
     ·split
      ·exact fun h=>absurd rfl h
      ·split
       ·exact fun _=>rfl
       ·split
        ·exact fun _=>rfl
        ·exact fun h=>absurd rfl h
theorem step_any (l:List Tk) (a go cap lo hi:Nat) (zs:List (Nat×Lv)) (ent:Int) (c:Cl) (w:World) (h:MaF l w a go cap lo hi zs ent) (hco:i64ok c.cnt) (hnm:c.nm.size<=maxLen) (hzl:zs.length+1<=1000000) :
  Calls Tryz.prog 9 #[.pointer (some ⟨a,0,none⟩),caV c] w fun r w'=>r = .returned (.int .i64 (stepZ l ⟨tops zs zs.length,ent⟩ c.k c.cnt c.nm).1)/\OkP l a go lo hi (stepZ l ⟨tops zs zs.length,ent⟩ c.k c.cnt c.nm).2 w w':=by
 have hsame:∀ w',SM w' a go cap zs.length zs ent->Kb [a,go] w w'->OkP l a go lo hi ⟨tops zs zs.length,ent⟩ w w':=fun w' hS hK=>⟨go,cap,zs,hS,fun z hz=>(h.p z hz).same fun k h1 h2=>hK.block k (by have:=h.gl;have:=h.s.lt.2;omega) (by have:=h.gl;have:=h.al;simp;omega),rfl,.inl rfl,hK⟩
 have hlv:∀ {n:Nat} {y:Nat×Lv},zs[n]?=some y->LvOk l y.2:=fun {n y} hy=>h.ok.all _ (by show y.2∈tops zs zs.length;unfold tops;rw[List.take_length];exact List.mem_map.2 ⟨y,List.mem_reverse.2 (List.mem_of_getElem? hy),rfl⟩)
 obtain⟨S,hS⟩:∃ S,stepZ l ⟨tops zs zs.length,ent⟩ c.k c.cnt c.nm=S:=⟨_,rfl⟩
 have hSe:S.1≠0->S.2=⟨tops zs zs.length,ent⟩:=by rw[<- hS];exact stepZ_err l _ _ _ _
 rw[hS]
 have hfin:∀ {F:FuncId} {W:World},(S.1≠0->S.2=⟨tops zs zs.length,ent⟩)->(Calls Tryz.prog F #[.pointer (some ⟨a,0,none⟩),caV c] W fun r w'=>r = .returned (.int .i64 S.1)/\(S.1≠0->SM w' a go cap zs.length zs ent/\Kb [a,go] w w')/\(S.1=0->OkP l a go lo hi S.2 w w'))->Calls Tryz.prog F #[.pointer (some ⟨a,0,none⟩),caV c] W fun r w'=>r = .returned (.int .i64 S.1)/\OkP l a go lo hi S.2 w w':=by
  intro F W hq hc
  refine hc.mono ?_
  rintro r w' ⟨rfl,h1,h2⟩
  refine⟨rfl,?_⟩
  by_cases h0:S.1=0
  ·exact h2 h0
  ·rw[hq h0]
   exact hsame w' (h1 h0).1 (h1 h0).2
 by_cases hk:c.k<0\/4<=c.k
 ·unfold stepZ at hS
  rw[if_pos hk] at hS
  subst hS
  refine(step_no a c w hk).mono ?_
  rintro r w' ⟨rfl,hb⟩
  exact⟨rfl,hsame w' (h.s.below hb) (Kb.of_below hb)⟩
 ·unfold stepZ at hS
  rw[if_neg hk] at hS
  by_cases h0:c.k=0
  ·rw[if_pos h0] at hS
   obtain⟨n,hn⟩:∃ n,zs.length=n+1:=⟨zs.length-1,by have:=h.s.k1;omega⟩
   obtain⟨y,hy⟩:∃ y,zs[n]?=some y:=⟨zs[n]'(by omega),List.getElem?_eq_getElem (by omega)⟩
   have ht:tops zs zs.length=y.2::tops zs n:=by rw[hn];exact tops_succ hy
   simp only[ht,if_pos h0] at hS
   refine hfin (fun _=>by rw[<- hS,ht]) (step_zer l a go cap lo hi zs ent c w h h0 S.1 S.2 fun W n' y' hT hP hn'=>?_)
   obtain rfl:n'=n:=by omega
   obtain rfl:y'=y:=by have:=hT.ey;rw[hy] at this;exact(Option.some.inj this).symm
   refine(field_any l a go cap n' lo hi zs ent y' c W hT hnm).mono ?_
   rintro r w' ⟨rfl,hb⟩
   subst hS
   refine⟨rfl,fun _=>erp_same hT hb,fun _=>?_⟩
   have:=okp_of (x':=y'.2) hT hP rfl (by rw[set_same hT.ey];exact hT.s.below hb) (Kb.of_below hb)
   exact this
  ·rw[if_neg h0] at hS
   obtain⟨kk,hkk⟩:∃ kk:Nat,c.k=(kk:Int):=⟨c.k.toNat,by omega⟩
   have hk1:1<=kk:=by omega
   have hk4:kk<4:=by omega
   have hrl:=fun {n:Nat} {y:Nat×Lv} (hy:zs[n]?=some y)=>h.rl y (List.mem_of_getElem? hy)
   have hq:S.1≠0->S.2=⟨tops zs zs.length,ent⟩:=hSe
   have hent:0<=ent/\ent<=65536:=⟨h.ok.e0,h.ok.e1⟩
   obtain rfl|rfl|rfl:kk=1\/kk=2\/kk=3:=by omega
   ·refine hfin hq (step_gen l a go cap lo hi zs ent c w h 1 45 hkk hk1 hk4 rfl ent_group S.1 S.2 fun W n y hT hP hL=>?_)
    have e1:c.k=1:=hkk
    rw[hL,tops_succ hT.ey] at hS
    have ho:=hlv hT.ey
    have hll:=hrl hT.ey
    have n2:¬ c.k=2:=by omega
    have n3:¬ c.k=3:=by omega
    simp only[if_neg h0,if_neg n2,if_neg n3] at hS
    cases hm:memZ l y.2 c.k c.nm with
    | none =>
     rw[hm] at hS
     refine(group_none l a go cap n lo hi zs ent y c W hT ho hll hm).mono ?_
     rintro r w' ⟨rfl,hb⟩
     subst hS
     exact⟨rfl,fun _=>erp_same hT hb,fun e=>by simp at e⟩
    | some q =>
     rw[hm] at hS
     simp only at hS
     by_cases hc:c.cnt<0\/gmax (bpAt l q)<c.cnt
     ·rw[if_pos hc] at hS
      refine(group_count l a go cap n lo hi zs ent y c W hT ho hll q hm hc hco).mono ?_
      rintro r w' ⟨rfl,hs,hk⟩
      subst hS
      exact⟨rfl,fun _=>erp_of hT hs (hk.mono (by simp)),fun e=>by simp at e⟩
     ·rw[if_neg hc] at hS
      by_cases hx:65536-ent<c.cnt
      ·rw[if_pos hx] at hS
       refine(group_many l a go cap n lo hi zs ent y c W hT ho hll q hm hc hx hent hco).mono ?_
       rintro r w' ⟨rfl,hs,hk⟩
       subst hS
       exact⟨rfl,fun _=>erp_of hT hs (hk.mono (by simp)),fun e=>by simp at e⟩
      ·rw[if_neg hx] at hS
       by_cases hp:0<c.cnt
       ·rw[if_pos hp] at hS
        refine(group_push l a go cap n lo hi zs ent y c W hT ho hll q hm hc hx hent hco hp (by have:=(List.getElem?_eq_some_iff.1 hT.ey).1;omega)).mono ?_
        rintro r w' ⟨rfl,g',go',cap',hs,hg,ho',hk⟩
        subst hS
        exact⟨rfl,fun e=>absurd rfl e,fun _=>okp_push (x:=⟨q,c.cnt,false,0⟩) hT hP rfl hs hg ho' hk⟩
       ·rw[if_neg hp] at hS
        refine(group_zero l a go cap n lo hi zs ent y c W hT ho hll q hm hc hx hent hco hp).mono ?_
        rintro r w' ⟨rfl,hs,hk⟩
        subst hS
        exact⟨rfl,fun e=>absurd rfl e,fun _=>okp_of (x':=⟨y.2.p,y.2.left,y.2.begun,y.2.come+1⟩) hT hP rfl hs hk⟩
   ·refine hfin hq (step_gen l a go cap lo hi zs ent c w h 2 46 hkk hk1 hk4 rfl ent_next S.1 S.2 fun W n y hT hP hL=>?_)
    have e2:c.k=2:=hkk
    rw[hL,tops_succ hT.ey] at hS
    simp only[if_neg h0,if_pos e2] at hS
    refine(next_any l a go cap n lo hi zs ent y c W hT (hlv hT.ey)).mono ?_
    rintro r w' ⟨h1,h2⟩
    by_cases hc:y.2.left=0\/(y.2.begun=true/\wholeB l y.2=false)
    ·rw[if_pos hc] at hS
     obtain⟨rfl,hb⟩:=h1 hc
     subst hS
     exact⟨rfl,fun _=>erp_same hT hb,fun e=>by simp at e⟩
    ·rw[if_neg hc] at hS
     obtain⟨rfl,hs,hk⟩:=h2 hc
     subst hS
     exact⟨rfl,fun e=>absurd rfl e,fun _=>okp_of (x':=⟨y.2.p,y.2.left-1,true,0⟩) hT hP rfl hs (hk.mono (by simp))⟩
   ·refine hfin hq (step_gen l a go cap lo hi zs ent c w h 3 47 hkk hk1 hk4 rfl ent_data S.1 S.2 fun W n y hT hP hL=>?_)
    have e3:c.k=3:=hkk
    have n2:¬ c.k=2:=by omega
    rw[hL,tops_succ hT.ey] at hS
    simp only[if_neg h0,if_neg n2,if_pos e3] at hS
    refine(data_any l a go cap n lo hi zs ent y c W hT (hlv hT.ey) (hrl hT.ey)).mono ?_
    rintro r w' ⟨h1,h2⟩
    cases hm:memZ l y.2 c.k c.nm with
    | none =>
     rw[hm] at hS
     obtain⟨rfl,hb⟩:=h1 hm
     subst hS
     exact⟨rfl,fun _=>erp_same hT hb,fun e=>by simp at e⟩
    | some q =>
     rw[hm] at hS
     obtain⟨rfl,hs,hk⟩:=h2 (by rw[hm];exact fun e=>nomatch e)
     subst hS
     exact⟨rfl,fun e=>absurd rfl e,fun _=>okp_of (x':=⟨y.2.p,y.2.left,y.2.begun,y.2.come+1⟩) hT hP rfl hs (hk.mono (by simp))⟩
theorem done_all (l:List Tk) (zs:List (Nat×Lv)) (ent:Int):doneB l ⟨tops zs zs.length,ent⟩=zs.all fun y=>overB l y.2:=by
 unfold doneB tops
 rw[List.take_length]
 show (zs.reverse.map Prod.snd).all (overB l)=_
 rw[List.all_map,List.all_reverse]
 rfl
theorem all_take {α:Type} {p:α->Bool} {l:List α} {x:α} (h:l[j]?=some x) (hj:(l.take j).all p=true):(l.take (j+1)).all p=p x:=by
 rw[List.take_add_one,h,List.all_append,hj]
 simp
theorem all_cut {α:Type} {p:α->Bool} {l:List α} {x:α} (h:l[j]?=some x) (hp:p x=false):l.all p=false:=by
 rw[List.all_eq_false]
 exact⟨x,List.mem_of_getElem? h,by rw[hp];decide⟩
theorem Done_any (l:List Tk) (a go cap lo hi:Nat) (zs:List (Nat×Lv)) (ent:Int) (w:World) (h:MaF l w a go cap lo hi zs ent) :
  Calls Tryz.prog 17 #[.pointer (some ⟨a,0,none⟩)] w fun r w'=>r = .returned (.bool (doneB l ⟨tops zs zs.length,ent⟩))/\Below w.heap.size w w':=by
 rw[done_all]
 have a0:=h.s.c0
 have hzl:=h.s.zl
 have KK:Hid (∀ W,Below w.heap.size w W->SM W a go cap zs.length zs ent/\∀ y∈zs,RwC W y.1 (rowZ l y.2.p).length):=⟨fun W hb=>⟨h.s.below hb,fun y hy=>(h.p y hy).rw.below hb⟩⟩
 clear h
 generalize hrv:(zs.all fun y=>overB l y.2)=rv
 go_enter Tryz.func17,Tryz.ntmps17
 go_wp2_with fail
 go_loopw [11] (fun n wr=>∃ j:Nat,j<=zs.length/\n = .int .i64 (j:Int)/\Hid (Below w.heap.size w wr/\((zs.take j).all fun y=>overB l y.2)=true)) (fun n _=>zs.length-(RowKit.intOf n).toNat)
 case atStart=>exact⟨0,Nat.zero_le _,by go_num,⟨Below.refl _ _,rfl⟩⟩
 case round =>
  obtain⟨j,hj,rfl,hI⟩:=hrel
  obtain⟨hb,ha⟩:=hI.out
  clear hI
  by_cases hlt:j<zs.length
  ·obtain⟨y,hy⟩:∃ y,zs[j]?=some y:=⟨zs[j],List.getElem?_eq_getElem hlt⟩
   have hlti:(j:Int)<zs.length:=by omega
   obtain⟨hS,hR⟩:=KK.out wr hb
   obtain⟨s0,s1,s2,s3⟩:=hS.cs hy
   have hb1:=bel1 wr (lvO y.1 y.2)
   have cO:=isOver_any l y.1 y.2 _ ((hR y (List.mem_of_getElem? hy)).below hb1)
   have hB:Hid (Below w.heap.size w (wr.alloc (lvO y.1 y.2))):=⟨hb.trans (hb1.mono hb.size)⟩
   have hy':Hid _:=⟨hy⟩
   have ha':Hid _:=⟨ha⟩
   have hb':Hid _:=⟨hb⟩
   clear hS hR hb1 hy ha hb KK
   cases hv:overB l y.2 with
   | false =>
    rw[hv] at cO
    have hr:rv=false:=by rw[<- hrv];exact all_cut hy'.out hv
    subst hr
    clear hv hrv
    go_wp2_with (go_at_call 43;refine cO.mono ?_;rintro _ w1 ⟨rfl,hb1⟩;replace hb1:=Hid.mk hb1)
    go_ret
    exact⟨rfl,hB.out.trans (hb1.out.mono hB.out.size)⟩
   | true =>
    rw[hv] at cO
    have ht:Hid (((zs.take (j+1)).all fun y=>overB l y.2)=true):=⟨(all_take hy'.out ha'.out).trans hv⟩
    clear hv hrv
    go_wp2_with (go_at_call 43;refine cO.mono ?_;rintro _ w1 ⟨rfl,hb1⟩;replace hb1:=Hid.mk hb1)
    go_roundw
    case rel=>exact⟨j+1,by omega,by go_num,⟨hB.out.trans (hb1.out.mono hB.out.size),ht.out⟩⟩
    case measure=>simp[RowKit.intOf];omega
  ·obtain rfl:j=zs.length:=by omega
   rw[List.take_length,hrv] at ha
   subst ha
   have hb':Hid _:=⟨hb⟩
   clear hb KK hrv
   have b1:decide ((zs.length:Int)<zs.length)=false:=by simp
   go_wp2_with fail
   go_ret
   exact⟨rfl,hb'.out⟩
theorem Inside_any (l:List Tk) (a go cap lo hi:Nat) (zs:List (Nat×Lv)) (ent:Int) (w:World) (h:MaF l w a go cap lo hi zs ent) :
  Calls Tryz.prog 20 #[.pointer (some ⟨a,0,none⟩)] w fun r w'=>r = .returned (.int .i64 (insZ ⟨tops zs zs.length,ent⟩:Int))/\Below w.heap.size w w':=by
 have a0:=h.s.c0
 have hzl:=h.s.zl
 obtain⟨n,hn⟩:∃ n,zs.length=n+1:=⟨zs.length-1,by have:=h.s.k1;omega⟩
 obtain⟨y,hy⟩:∃ y,zs[n]?=some y:=⟨zs[n]'(by omega),List.getElem?_eq_getElem (by omega)⟩
 obtain⟨s0,s1,s2,s3⟩:=h.s.cs hy
 obtain⟨_,_,_,_,e1,_⟩:=(h.p y (List.mem_of_getElem? hy)).row
 have q2:w.cell? ⟨y.1,2,none⟩=some (.int .i64 (y.2.p:Int)):=cell_at e1 2
 have ht:tops zs zs.length=y.2::tops zs n:=by rw[hn];exact tops_succ hy
 have hbot:=h.ok.bot
 simp only[ht] at hbot
 unfold insZ
 simp only[ht]
 have i1:((n+1:Nat):Int)-1=(n:Int):=by omega
 have i2:(n:Int)<((n+1:Nat):Int):=by omega
 rw[hn] at a0
 cases hbg:y.2.begun with
 | true =>
  rw[hbg] at s2
  rw[if_pos rfl]
  clear hbot ht e1 h hy hbg
  go_enter Tryz.func20,Tryz.ntmps20
  go_wp2_with fail
  go_ret
  exact⟨rfl,Below.refl _ _⟩
 | false =>
  rw[hbg] at s2
  have hne:=hbot _ _ rfl hbg
  obtain⟨m,rfl⟩:∃ m,n=m+1:=by
   cases n with
   | zero=>exact absurd rfl hne
   | succ m=>exact⟨m,rfl⟩
  obtain⟨z,hz⟩:∃ z,zs[m]?=some z:=⟨zs[m]'(by omega),List.getElem?_eq_getElem (by omega)⟩
  obtain⟨z0,z1,z2,z3⟩:=h.s.cs hz
  obtain⟨_,_,_,_,e2,_⟩:=(h.p z (List.mem_of_getElem? hz)).row
  have p2:w.cell? ⟨z.1,2,none⟩=some (.int .i64 (z.2.p:Int)):=cell_at e2 2
  rw[if_neg (by decide),tops_succ hz]
  have i3:((m+1:Nat):Int)-1=(m:Int):=by omega
  have i4:(m:Int)<((m+1+1:Nat):Int):=by omega
  clear hbot ht e1 e2 h hy hz hbg hne
  go_enter Tryz.func20,Tryz.ntmps20
  go_wp2_with fail
  go_ret
  exact⟨rfl,Below.refl _ _⟩
def lfN (zs:List (Nat×Lv)):List Nat:=(zs.drop 1).map fun y=>y.2.left.toNat
theorem Left_any (l:List Tk) (a go cap lo hi:Nat) (zs:List (Nat×Lv)) (ent:Int) (w:World) (h:MaF l w a go cap lo hi zs ent) :
  Calls Tryz.prog 19 #[.pointer (some ⟨a,0,none⟩)] w fun r w'=>∃ v,r = .returned v/\NRow w' w.heap.size v (lfN zs)/\Below w.heap.size w w':=by
 have a0:=h.s.c0
 have hzl:=h.s.zl
 have hlv:∀ {n:Nat} {y:Nat×Lv},zs[n]?=some y->LvOk l y.2:=fun {n y} hy=>h.ok.all _ (by show y.2∈tops zs zs.length;unfold tops;rw[List.take_length];exact List.mem_map.2 ⟨y,List.mem_reverse.2 (List.mem_of_getElem? hy),rfl⟩)
 have hcl:zs.length<=cap:=by obtain⟨cur,_,h2,_⟩:=h.s.o;exact h2
 obtain⟨n,hn⟩:∃ n,zs.length=n+1:=⟨zs.length-1,by have:=h.s.k1;omega⟩
 have KK:Hid (∀ W,Below w.heap.size w W->SM W a go cap zs.length zs ent):=⟨fun W hb=>h.s.below hb⟩
 clear h
 rw[hn] at a0
 have i1:(1:Int)<=((n+1:Nat):Int):=by omega
 have i2:((n+1:Nat):Int)<=cap:=by omega
 have i3:((n+1:Nat):Int)-1=(n:Int):=by omega
 have i4:((n+1:Nat):Int).toNat=n+1:=by omega
 by_cases hc1:cap=1
 ·subst hc1
  obtain rfl:n=0:=by omega
  have hlf:lfN zs=[]:=by
   unfold lfN
   rw[List.drop_eq_nil_of_le (by omega)]
   rfl
  rw[hlf]
  clear KK i1 i2 i3 i4 hlf
  go_enter Tryz.func19,Tryz.ntmps19
  go_wp2_with fail
  go_loopw [13,3] (fun q v wr=>wr=w/\q = .int .i64 0/\v = .slice none 0 0) (fun _ _ _=>0)
  case atStart=>exact⟨rfl,rfl,rfl⟩
  case round =>
   obtain⟨rfl,rfl,rfl⟩:=hrel
   go_wp2_with fail
   go_ret
   exact⟨_,rfl,NRow.nil _ _,Below.refl _ _⟩
 ·go_enter Tryz.func19,Tryz.ntmps19
  go_wp2_with fail
  go_loopw [13,3] (fun q v wr=>∃ j:Nat,j<=n/\q = .int .i64 (j:Int)/\Hid (Below w.heap.size w wr/\NRow wr w.heap.size v ((lfN zs).take j))) (fun q _ _=>n-(RowKit.intOf q).toNat)
  case atStart=>exact⟨0,Nat.zero_le _,by go_num,⟨Below.refl _ _,NRow.nil _ _⟩⟩
  case round =>
   obtain⟨j,hj,rfl,hI⟩:=hrel
   obtain⟨hb,hN⟩:=hI.out
   clear hI
   have hll:(lfN zs).length=n:=by unfold lfN;rw[List.length_map,List.length_drop];omega
   by_cases hlt:j<n
   ·obtain⟨y,hy⟩:∃ y,zs[j+1]?=some y:=⟨zs[j+1]'(by omega),List.getElem?_eq_getElem (by omega)⟩
    have hlti:(j:Int)<n:=by omega
    have hS:=KK.out wr hb
    obtain⟨s0,s1,s2,s3⟩:=hS.cs hy
    have hy0:=(hlv hy).l0
    obtain⟨m,hm⟩:∃ m:Nat,y.2.left=(m:Int):=⟨y.2.left.toNat,by omega⟩
    have o0:(j+1)*4=4+j*4:=by omega
    simp only[o0,hm] at s0 s1 s2 s3
    have htk:Hid ((lfN zs).take (j+1)=(lfN zs).take j++[m]):=⟨by
     have:(lfN zs)[j]?=some m:=by
      unfold lfN
      rw[List.getElem?_map,List.getElem?_drop,Nat.add_comm,hy]
      simp[hm]
     rw[List.take_add_one,this]
     rfl⟩
    have hb1:=bel1 wr (.cells #[.pointer (some ⟨y.1,0,none⟩),.int .i64 (m:Int),.bool y.2.begun,.int .i64 (y.2.come:Int)] 65)
    have hB:Hid (Below w.heap.size w (wr.alloc (.cells #[.pointer (some ⟨y.1,0,none⟩),.int .i64 (m:Int),.bool y.2.begun,.int .i64 (y.2.come:Int)] 65))):=⟨hb.trans (hb1.mono hb.size)⟩
    have hap0:=n_ap m (hN.below hb1) (by rw[List.length_take];omega) (Nat.le_trans hb.size hb1.size)
    rw[World.size_alloc] at hap0
    have hap:Hid _:=⟨hap0⟩
    clear hS hb1 hy hb KK hN hm hy0 hap0
    go_wp2_with (at_builtin;go_must (refine(ap_step (by rfl) _ _ _ _ (by rfl) _ _ (by rfl) (by rfl) _ hap.out ?_));rintro v' w' ⟨q1,q2⟩;replace q1:=Hid.mk q1;replace q2:=Hid.mk q2)
    go_roundw
    case rel=>exact⟨j+1,by omega,by go_num,⟨hB.out.trans q2.out,by rw[htk.out];exact q1.out⟩⟩
    case measure=>simp[RowKit.intOf];omega
   ·obtain rfl:j=n:=by omega
    rw[List.take_of_length_le (by omega)] at hN
    have b1:decide ((j:Int)<j)=false:=by simp
    have hN':Hid _:=⟨hN⟩
    have hb':Hid _:=⟨hb⟩
    clear hb hN KK
    go_wp2_with fail
    go_ret
    exact⟨_,rfl,hN'.out,hb'.out⟩
end Go.Proofs.YtbhmciieiilcfaaGreatDoor
