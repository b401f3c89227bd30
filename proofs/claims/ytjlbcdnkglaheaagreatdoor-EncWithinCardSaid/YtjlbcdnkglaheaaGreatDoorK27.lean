import Derived.Test.YtjlbcdnkglaheaaGreatDoorK26
namespace Go.Proofs.YtjlbcdnkglaheaaGreatDoor
set_option maxRecDepth 1000000
set_option maxHeartbeats 16000000
open Go.ChangeShapes Go.WideShapes Go.ChangeAt Go.RowKit Go.Shelf Go.Maps
theorem addrK (g o k:Nat):(⟨g,o,none⟩:Addr).add k=⟨g,o+k,none⟩:=by unfold Addr.add;split<;>simp_all
theorem froz_of {W:World} {b i:Nat} {cs:Array Value} {ty:TypeId} (h:W.heap[b]?=some (.cells cs ty)):W.frozen? ⟨b,i,none⟩=false:=by simp[World.frozen?,h]
theorem ly_bx {P:Program} {Q:Exit->Act->World->Prop} {ops:Array Oper} {C:World->Prop} {r:List Oper} {a:Act} {w:World} {d:Option Tmp} {ty:TypeId} {ps:String} {af:Array Edge} {gd:Option (Nat×Bool)} {t:TypeId} {x:Operand} {y v:Value} {w':World} (hr:(Instr.box t y).run P w = .ok v w') (hC:C w') (hx:a.eval x=y) (hw:Region.wanted ⟨d,.box t x,ty,ps,af,gd⟩ (yielded ops a.tmps)=true) (h:Ly P ops Q C r (a.put d v) w'):Ly P ops Q C (⟨d,.box t x,ty,ps,af,gd⟩::r) a w :=
 ly_act hw rfl fun K hK=>by
  unfold Oper.wp execOp
  simp only[hx,hr,Sem.run_bind,Result.andThen_ok]
  exact hK _ _ C (fun _ h=>h) hC h
theorem lv_cp {W:World} {go cap:Nat} {zs:List (Nat×Lv)} (h:Op4 W go cap zs) (hl:zs.length<=1000000) (h1:0<zs.length) :
  ∃ v' w',(∀ ty,(Builtin.append_ #[98,98] ty #[.slice none 0 0,.slice (some ⟨go,0,none⟩) zs.length cap]).run Tryz.prog W = .ok v' w')/\(∃ go' cap',v' = .slice (some ⟨go',0,none⟩) zs.length cap'/\Hid (Op4 w' go' cap' zs/\W.heap.size<=go'/\Below W.heap.size W w')):=by
 have hO:W.ownsRow W.heap.size 115 4 (.slice none 0 0) ([]:List (Nat×Lv)).length (lvCs []):=⟨rfl,.inl ⟨rfl,rfl⟩⟩
 have hN:∀ (j:Nat) (u:Value),(lvCs zs)[j]?=some u->W.cell? ((⟨go,0,none⟩:Addr).add j)=some u:=by
  intro j u hu
  obtain⟨cur,h1,h2,h3,h4,h5⟩:=h
  have e:(⟨go,0,none⟩:Addr).add j=⟨go,0+j,none⟩:=by unfold Addr.add;split<;>simp_all
  rw[e,Nat.zero_add,cell_at h1,<- Array.getElem?_toList]
  rw[<- h5,List.getElem?_take] at hu
  split at hu
  ·exact hu
  ·cases hu
 obtain⟨v',w',q1,q2,q3,q4⟩:=l_ap cap hO hN (by simp;omega) (Nat.le_refl _)
 rw[List.nil_append] at q2
 obtain⟨go',cap',rfl,q6,q7⟩:=own_lv q2 h1
 exact⟨_,w',q1,go',cap',rfl,⟨q6,q7,⟨q3.os,q3.tape,q3.output,q3.size,fun k hk=>q3.block k hk (fun e=>by simp[Value.ownBlock] at e)⟩⟩⟩
theorem infoStk:(Tryz.prog.info? 100).map (·.size)=some 1:=by kernel_rfl
theorem copied_any {w:World} {a go cap:Nat} {zs:List (Nat×Lv)} {ent:Int} (h:SM w a go cap zs.length zs ent) :
  Calls Tryz.prog 40 #[.pointer (some ⟨a,0,none⟩)] w fun r w'=>∃ v,r = .returned v/\∃ go' cap',v = .agg #[.slice (some ⟨go',0,none⟩) zs.length cap']/\Hid (Op4 w' go' cap' zs/\w.heap.size+1<=go'/\Below w.heap.size w w'):=by
 have hb:=bel1 w (.cells #[.slice none 0 0] 100)
 have hs:=h.below hb
 have a0:=hs.c0
 have hap:Hid _:=⟨lv_cp hs.o hs.zl hs.k1⟩
 have hx:Hid ((w.alloc (.cells #[.slice none 0 0] 100)).heap[w.heap.size]?=some (.cells #[.slice none 0 0] 100)):=⟨heap_al _ _⟩
 have hz:(w.alloc (.cells #[.slice none 0 0] 100)).heap.size=w.heap.size+1:=World.size_alloc _ _
 clear h hs
 go_enter Tryz.func40,Tryz.ntmps40
 go_wp2_with (at_builtin;go_must (refine(ap_step (by rfl) _ _ _ _ (by rfl) _ _ (by rfl) (by rfl) _ hap.out ?_));rintro v' w' ⟨go',cap',rfl,hq⟩;have x0:w'.heap[w.heap.size]?=_:=(hq.out.2.2.block _ (by omega)).trans hx.out;have x1:=cell_at x0 0;have x2:w'.frozen? ⟨w.heap.size,0,none⟩=false:=froz_of x0;replace x0:=Hid.mk x0)
 obtain⟨q1,q2,q3⟩:=hq.out
 rw[hz] at q2
 have hy:(w'.setCell ⟨w.heap.size,0,none⟩ (.slice (some ⟨go',0,none⟩) zs.length cap')).heap[w.heap.size]?=some (.cells #[.slice (some ⟨go',0,none⟩) zs.length cap'] 100):=by
  show (w'.heap.modify w.heap.size _)[w.heap.size]?=_
  rw[Array.getElem?_modify,if_pos rfl,x0.out]
  rfl
 refine bodyPost_ret (results_cell_row rfl _ _ w.heap.size 100 _ (0,0) _ rfl hy Tryz.underlying100 rfl infoStk) rfl ⟨_,rfl,go',cap',rfl,⟨q1.same (set_oth (by omega)),q2,(hb.trans (q3.mono hb.size)).setCell (p:=⟨w.heap.size,0,none⟩) (Nat.le_refl _) _⟩⟩
theorem box_mk (w:World) (p:Option Addr) (n:Nat×Nat) (e:Int):(Instr.box 103 (.agg #[.slice p n.1 n.2,.int .i64 e])).run Tryz.prog w = .ok (.pointer (some ⟨w.heap.size,0,none⟩)) (w.alloc (.cells #[.slice p n.1 n.2,.int .i64 e] 103)):=by
 simp only[Instr.box,newVar,newRow,run_newObj_alloc,Sem.run_bind,Sem.run_pure,Result.andThen_ok]
 rfl
theorem ent_copied:∀ ag w,(callFunc 40 ag).run Tryz.prog w = .ok (.enter 40 ag) w:=enters_of Tryz.func40 (by kernel_rfl) rfl
theorem Copy_mk {f:Fm} {lo hi a:Nat} {s:Ms} {U:Nat->Prop} {w:World} (h:Mk f lo hi w a s U):Calls Tryz.prog 20 #[.pointer (some ⟨a,0,none⟩)] w fun r w'=>∃ a' U',r = .returned (.pointer (some ⟨a',0,none⟩))/\Mk f lo hi w' a' s U'/\(∀ k,U' k->w.heap.size<=k)/\Below w.heap.size w w':=by
 obtain⟨go,cap,zs,h1,h2,h3⟩:=h.m
 have hhi:=h.hi_lt
 have hin:=h.i
 have hal:=h1.s.lt.1
 obtain⟨p,p0,pB,pI,pN,c1⟩:∃ p:World->Prop,p w.drew/\(∀ W,p W->Below w.heap.size w W)/\(∀ W,Below w.heap.size w W->p W)/\Nonempty (CW p)/\(∀ θ:CW p,θ.w.cell? ⟨a,1,none⟩=some (.int .i64 s.ent)) :=
  ⟨Below w.heap.size w,(Below.refl _ _).drew,fun _ h=>h,fun _ h=>h,⟨⟨w,Below.refl _ _⟩⟩,fun θ=>(θ.h.cell (p:=⟨a,1,none⟩) hal).trans h1.s.c1⟩
 have CP:=copied_any (h1.s.below (pB _ p0))
 have FIN:Hid (∀ w1 go' cap',Op4 w1 go' cap' zs->w.drew.heap.size+1<=go'->Below w.heap.size w w1->∃ a' U',(.returned (.pointer (some ⟨w1.heap.size,0,none⟩)):Ending) = .returned (.pointer (some ⟨a',0,none⟩))/\Mk f lo hi (w1.alloc (.cells #[.slice (some ⟨go',0,none⟩) zs.length cap',.int .i64 s.ent] 103)) a' s U'/\(∀ k,U' k->w.heap.size<=k)/\Below w.heap.size w (w1.alloc (.cells #[.slice (some ⟨go',0,none⟩) zs.length cap',.int .i64 s.ent] 103))):=⟨fun w1 go' cap' q1 q2 q3=>by
  have e1:=q3.size
  have e2:=q1.lt
  have hsd:w.drew.heap.size=w.heap.size:=rfl
  rw[hsd] at q2
  have hb:=q3.trans ((bel1 w1 (.cells #[.slice (some ⟨go',0,none⟩) zs.length cap',.int .i64 s.ent] 103)).mono q3.size)
  refine⟨w1.heap.size,fun k=>k=w1.heap.size\/k=go',rfl,⟨⟨go',cap',zs,⟨⟨heap_al _ _,q1.same ((bel1 _ _).block _ e2),Nat.le_refl _,h1.s.k1,by omega,h1.s.zl⟩,fun y hy=>(h1.p y hy).same fun k _ k2=>hb.block k (by omega),.inr (by omega),by omega,h1.ok,h1.rl⟩,h2,.inr rfl⟩,hin,.inl rfl,fun k hk=>?_,fun k hk=>?_⟩,fun k hk=>?_,hb⟩
  ·rw[World.size_alloc]
   rcases hk with rfl|rfl<;>omega
  ·rcases hk with rfl|rfl<;>omega
  ·rcases hk with rfl|rfl<;>omega⟩
 clear h h1 h2 h3 hhi hin
 go_enter Tryz.func20,Tryz.ntmps20
 go_wp2_with fail
 refine wp_region_lz (fun V=>∃ θ:CW p,V=θ.w) [0,1,2,4,5,6,7,3,8,9,10] (by kernel_rfl) (by kernel_rfl) (fun _ _ d _ _ h=>by cases d<;>exact h) ⟨⟨_,p0⟩,rfl⟩ ?_
 repeat (refine ly_one rfl ?_;(first|go_big_quiet_skip|(go_big_quiet_want;go_big_quiet_op;go_big_quiet_on));refine wpQuiet_nil ?_)
 refine ly_call1 ent_copied CP rfl (by rfl) (fun v w1 hR=>?_)
 obtain⟨go',cap',rfl,hq⟩:=hR
 have hb1:Below w.heap.size w w1:=(pB _ p0).trans (hq.out.2.2.mono (pB _ p0).size)
 have p1:p w1:=pI _ hb1
 refine⟨fun V=>∃ θ:CW p,V=θ.w,fun _ h=>h,⟨⟨_,p1⟩,rfl⟩,?_⟩
 simp only[pts]
 have F:=FIN.out w1 go' cap' hq.out.1 hq.out.2.1 hb1
 replace F:=Hid.mk F
 have p2:p (w1.alloc (.cells #[.slice (some ⟨go',0,none⟩) zs.length cap',.int .i64 s.ent] 103)):=pI _ (hb1.trans ((bel1 _ _).mono hb1.size))
 repeat (refine ly_one rfl ?_;(first|go_big_quiet_skip|(go_big_quiet_want;go_big_quiet_op;go_big_quiet_on));refine wpQuiet_nil ?_)
 refine ly_bx (v:=.pointer (some ⟨w1.heap.size,0,none⟩)) (w':=w1.alloc (.cells #[.slice (some ⟨go',0,none⟩) zs.length cap',.int .i64 s.ent] 103)) ?_ ⟨⟨_,p2⟩,rfl⟩ rfl (by rfl) ?_
 ·exact box_mk w1 _ (zs.length,cap') _
 simp only[pts]
 repeat (refine ly_one rfl ?_;(first|go_big_quiet_skip|(go_big_quiet_want;go_big_quiet_op;go_big_quiet_on));refine wpQuiet_nil ?_)
 refine ly_done ?_
 go_wp2_with fail
 go_ret
 exact F.out
theorem ld_mid {W:World} {b:Nat} {cs:Array Value} {ty:TypeId} (h:W.heap[b]?=some (.cells cs ty)) (o:Nat) (T:TypeId) (xs:List Value) (d:TypeDesc) (hx:∀ (j:Nat) u,xs[j]?=some u->cs[o+j]?=some u) (hu:Tryz.prog.underlying T=some d) (hd:d.isRow=true) (hi:(Tryz.prog.info? T).map (·.size)=some xs.length) :
  (Instr.loadAt T (.pointer (some ⟨b,o,none⟩))).run Tryz.prog W = .ok (.agg xs.toArray) W :=
 run_loadAt_mid W b o T xs d (fun j u hj=>by rw[cell_at h];exact hx j u hj) hu hd hi
structure Pn where
 a:Int
 b:Int
 c:Int
 d:Int
def hdCs (f:Fm):List Value:=[.int .i64 f.hsz,.int .i64 f.hb.p,.int .i64 f.hb.o,.int .i64 f.ht.p,.int .i64 f.ht.o,.int .i64 f.hs.p,.int .i64 f.hs.o,.int .i64 f.hv.p,.int .i64 f.hv.o]
def plCs (f:Fm) (n:Pn) (a:Option Nat) (m:Option Nat):List Value:=[.int .i64 f.ord,.int .i64 f.hsz,.int .i64 f.hb.p,.int .i64 f.hb.o,.int .i64 f.ht.p,.int .i64 f.ht.o,.int .i64 f.hs.p,.int .i64 f.hs.o,.int .i64 f.hv.p,.int .i64 f.hv.o,.int .u64 n.a,.int .u64 n.b,.int .u64 n.c,.int .u64 n.d,ptrO a,.map m]
abbrev eplO (f:Fm) (n:Pn) (a:Option Nat) (m:Option Nat):Obj:=.cells (plCs f n a m).toArray 58
theorem infoHdE:(Tryz.prog.info? 27).map (·.size)=some 9:=by kernel_rfl
theorem infoPlE:(Tryz.prog.info? 58).map (·.size)=some 16:=by kernel_rfl
theorem infoNuE:(Tryz.prog.info? 54).map (·.size)=some 4:=by kernel_rfl
def hd0:Fm:=⟨0,0,0,0,⟨0,0⟩,⟨0,0⟩,⟨0,0⟩,⟨0,0⟩,[]⟩
def pn0:Pn:=⟨0,0,0,0⟩
def numZ (f:Fm) (t:Tk):Pn:=⟨IntKind.u64.wrap t.blk,IntKind.u64.wrap t.id,IntKind.u64.wrap f.sch,IntKind.u64.wrap f.ver⟩
theorem hd_ldE {W:World} {b:Nat} {f:Fm} {pp:Option Addr} {cp:Nat} (h:W.heap[b]?=some (fmO f pp cp)):(Instr.loadAt 27 (.pointer (some ⟨b,3,none⟩))).run Tryz.prog W = .ok (.agg (hdCs f).toArray) W :=
 ld_mid h 3 27 (hdCs f) _ (fun j u hj=>by
  have h9:j<9:=(List.getElem?_eq_some_iff.1 hj).1
  have h9:j=0\/j=1\/j=2\/j=3\/j=4\/j=5\/j=6\/j=7\/j=8:=by omega
  rcases h9 with rfl|rfl|rfl|rfl|rfl|rfl|rfl|rfl|rfl<;>exact hj) Tryz.underlying27 rfl infoHdE
theorem bd_plan (f:Fm) (m:Nat) (w:World):(Instr.build 58 #[(0,.int .i64 f.ord),(1,.agg (hdCs f).toArray),(4,.map (some m))]).run Tryz.prog w = .ok (.agg (plCs f pn0 none (some m)).toArray) w:=by kernel_rfl
theorem plCs_one (f:Fm) (n:Pn) (a m:Option Nat):∀ u∈plCs f n a m,u.oneCell'=true:=by
 intro u hu
 simp only[plCs,List.mem_cons,List.not_mem_nil,or_false] at hu
 rcases hu with rfl|rfl|rfl|rfl|rfl|rfl|rfl|rfl|rfl|rfl|rfl|rfl|rfl|rfl|rfl|rfl<;>first|rfl|(cases a<;>rfl)
theorem pl_new (w:World) (z:Array Value) (hz:z.size=16) (f:Fm) (n:Pn) (a m:Option Nat):(Instr.storeAt 58 (.pointer (some ⟨w.heap.size,0,none⟩)) (.agg (plCs f n a m).toArray)).run Tryz.prog (w.alloc (.cells z 58)) = .ok () (w.alloc (eplO f n a m)) :=
 run_storeAt_new w 58 z (plCs f n a m).toArray infoPlE hz (all_oneCell_toArray (plCs_one f n a m))
theorem mkmP:∀ W:World,(Instr.makeMap 56 none).run Tryz.prog W = .ok (.map (some W.heap.size)) (W.alloc (.map #[] 0)):=fun _=>rfl
abbrev plZ:Obj:=.cells #[.int .i64 0,.int .i64 0,.int .i64 0,.int .i64 0,.int .i64 0,.int .i64 0,.int .i64 0,.int .i64 0,.int .i64 0,.int .i64 0,.int .u64 0,.int .u64 0,.int .u64 0,.int .u64 0,.pointer none,.map none] 58
structure Gw (f:Fm) (pp:Option Addr) (cp:Nat) (n:Pn) (w:World) (a:Option Nat) (W:World):Prop where
 f0:W.heap[w.heap.size]?=some (fmO f pp cp)
 r1:W.heap[w.heap.size+1]?=some plZ
 p4:W.heap[w.heap.size+4]?=some (eplO f n a (some (w.heap.size+3)))
 be:Below w.heap.size w W
 sz:w.heap.size+5<=W.heap.size
theorem Gw.keep {f:Fm} {pp:Option Addr} {cp:Nat} {n:Pn} {w:World} {a:Option Nat} {W W':World} (h:Gw f pp cp n w a W) (hb:Below W.heap.size W W'):Gw f pp cp n w a W':=by
 have:=h.sz
 exact⟨(hb.block _ (by omega)).trans h.f0,(hb.block _ (by omega)).trans h.r1,(hb.block _ (by omega)).trans h.p4,h.be.trans (hb.mono h.be.size),Nat.le_trans h.sz hb.size⟩
structure Gm (f:Fm) (w:World) (a lo hi:Nat) (U:Nat->Prop) (k:Nat) (W:World):Prop where
 mc:Mk f lo hi W a newZ U
 lo':w.heap.size+5<=lo
 ul:∀ x,U x->w.heap.size+5<=x
 m0:∃ (j:Nat) (hs:Value->Option Nat),j<=k/\QHas W 3 (w.heap.size+3) j hs/\∀ (i:Nat) (t:Tk),i<k->f.toks[i]?=some t->(t.op=0\/t.op=4)->∃ g,hs (.int .i64 (i:Int))=some g/\BlkC f.toks W (w.heap.size+5) W.heap.size g i t
theorem Gm.keep {f:Fm} {w:World} {a lo hi:Nat} {U:Nat->Prop} {k:Nat} {W W':World} (h:Gm f w a lo hi U k W) (hs:w.heap.size+5<=W.heap.size) (hb:Below W.heap.size W W'):Gm f w a lo hi U k W':=by
 obtain⟨j,q,h1,h2,h3⟩:=h.m0
 refine⟨h.mc.below hb,h.lo',h.ul,j,q,h1,h2.same (hb.block _ (by omega)),fun i t e1 e2 e3=>?_⟩
 obtain⟨g,e4,e5⟩:=h3 i t e1 e2 e3
 exact⟨g,e4,(e5.same fun x _ hx=>hb.block x hx).mono (Nat.le_refl _) hb.size⟩
theorem Gm.skip {f:Fm} {w:World} {a lo hi:Nat} {U:Nat->Prop} {k:Nat} {W:World} (h:Gm f w a lo hi U k W) {t:Tk} (ht:f.toks[k]?=some t) (ho:¬ (t.op=0\/t.op=4)):Gm f w a lo hi U (k+1) W:=by
 obtain⟨j,q,h1,h2,h3⟩:=h.m0
 refine⟨h.mc,h.lo',h.ul,j,q,by omega,h2,fun i u e1 e2 e3=>?_⟩
 by_cases e:i=k
 ·subst e
  rw[ht] at e2
  cases e2
  exact absurd e3 ho
 ·exact h3 i u (by omega) e2 e3
theorem keyI (i:Nat) (hi:i<=733007751850):keyOf Tryz.prog 3 (.int .i64 (i:Int))=some (.int .i64 (i:Int)):=keyOf_int_mk Tryz.underlying3 (WalkArith.wf_i64 ⟨by omega,by omega⟩)
theorem Gm.put {f:Fm} {pp:Option Addr} {cp:Nat} {n:Pn} {w:World} {a lo hi:Nat} {U:Nat->Prop} {k:Nat} {W:World} (hG:Gw f pp cp n w (some a) W) (h:Gm f w a lo hi U k W) (hk:k<=733007751850) {t:Tk} (ht:f.toks[k]?=some t) {g:Nat} (hp:BlkC f.toks W (w.heap.size+5) W.heap.size g k t) :
  ∃ W',(Instr.mapUpdate 56 (.map (some (w.heap.size+3))) (.int .i64 (k:Int)) (.pointer (some ⟨g,0,none⟩))).run Tryz.prog W = .ok () W'/\Gw f pp cp n w (some a) W'/\Gm f w a lo hi U (k+1) W':=by
 have hs:=hG.sz
 obtain⟨j,q,h1,h2,h3⟩:=h.m0
 obtain⟨W',r1,r2,r3⟩:=h2.put lawI Tryz.underlying56 (by simp only[maxLen];omega) (keyI k hk) g
 have hbk:∀ x,x<W.heap.size->x≠w.heap.size+3->W'.heap[x]?=W.heap[x]?:=fun x hx hne=>r3.block x hx (fun e=>hne (Option.some.inj e))
 have hsz:=r3.size
 have keep:∀ {g' i':Nat} {u:Tk},BlkC f.toks W (w.heap.size+5) W.heap.size g' i' u->BlkC f.toks W' (w.heap.size+5) W'.heap.size g' i' u:=fun hh=>(hh.same fun x hx1 hx2=>hbk x hx2 (by omega)).mono (Nat.le_refl _) hsz
 refine⟨W',r1,⟨(hbk _ (by omega) (by omega)).trans hG.f0,(hbk _ (by omega) (by omega)).trans hG.r1,(hbk _ (by omega) (by omega)).trans hG.p4,⟨r3.os.trans hG.be.os,r3.tape.trans hG.be.tape,r3.output.trans hG.be.output,Nat.le_trans hG.be.size hsz,fun x hx=>(hbk x (by omega) (by omega)).trans (hG.be.block x hx)⟩,by omega⟩,?_,h.lo',h.ul,j+1,_,by omega,r2,fun i u e1 e2 e3=>?_⟩
 ·have hh:=h.mc.hi_lt
  exact h.mc.same hsz (fun x hx=>hbk x (h.mc.lt x hx) (by have:=h.ul x hx;omega)) (fun x hx1 hx2=>hbk x (by omega) (by have:=h.lo';omega))
 ·by_cases e:i=k
  ·subst e
   rw[ht] at e2
   cases e2
   exact⟨g,by simp,keep hp⟩
  ·obtain⟨g',e4,e5⟩:=h3 i u (by omega) e2 e3
   refine⟨g',?_,keep e5⟩
   have:¬ ((i:Int)=(k:Int)):=by omega
   simp[this,e4]
theorem nonempty_toks {f:Fm} (hz:chkZ f=none):∃ t,f.toks[0]?=some t/\t.op=0:=first_msg hz
theorem st_nums {W:World} {b:Nat} {cs:Array Value} {ty:TypeId} (h:W.heap[b]?=some (.cells cs ty)) (hcs:cs.size=16) (x1 x2 x3 x4:Int):(Instr.storeAt 54 (.pointer (some ⟨b,10,none⟩)) (.agg #[.int .u64 x1,.int .u64 x2,.int .u64 x3,.int .u64 x4])).run Tryz.prog W = .ok () (W.setCells b 10 [.int .u64 x1,.int .u64 x2,.int .u64 x3,.int .u64 x4]) :=
 run_storeAt_mid W b 10 54 #[.int .u64 x1,.int .u64 x2,.int .u64 x3,.int .u64 x4] (fun j hj=>by
  have hj:j<4:=hj
  have hl:10+j<cs.size:=by omega
  exact⟨by rw[cell_at h,Array.getElem?_eq_getElem hl];rfl,efrz h⟩) infoNuE (by simp[Value.oneCell'])
theorem FmC.of {W:World} {b:Nat} {f:Fm} {pp:Option Addr} {cp:Nat} (h:W.heap[b]?=some (fmO f pp cp)):FmC W b 0 f pp cp:=⟨cell_at h 0,cell_at h 1,cell_at h 2,cell_at h 3,cell_at h 4,cell_at h 5,cell_at h 6,cell_at h 7,cell_at h 8,cell_at h 9,cell_at h 10,cell_at h 11,cell_at h 12⟩
theorem ent_blk:∀ ag w,(callFunc 32 ag).run Tryz.prog w = .ok (.enter 32 ag) w:=enters_of Tryz.func32 (by kernel_rfl) rfl
theorem pl_st {W:World} {b:Nat} {old:Array Value} (hb:W.heap[b]?=some (.cells old 58)) (ho:old.size=16) (f:Fm) (n:Pn) (a m:Option Nat):(Instr.storeAt 58 (.pointer (some ⟨b,0,none⟩)) (.agg (plCs f n a m).toArray)).run Tryz.prog W = .ok () (W.setRow b (plCs f n a m).toArray):=by
 simp only[Instr.storeAt,Instr.sureAddr,Sem.run_bind,Sem.run_pure,Result.andThen]
 exact run_storeVar_row _ _ _ _ _ _ hb infoPlE (by rw[ho];rfl) (all_oneCell_toArray (plCs_one f n a m))
theorem pl_ld {W:World} {b:Nat} {f:Fm} {n:Pn} {a m:Option Nat} (h:W.heap[b]?=some (eplO f n a m)):(Instr.loadAt 58 (.pointer (some ⟨b,0,none⟩))).run Tryz.prog W = .ok (.agg (plCs f n a m).toArray) W:=by
 simp only[Instr.loadAt,Instr.sureAddr,Sem.run_bind,Sem.run_pure,Result.andThen]
 exact run_loadVar_row _ _ _ _ _ _ _ h Tryz.underlying58 rfl infoPlE
theorem planOf_any (f:Fm) (hz:chkZ f=none) (pp:Option Addr) (cp:Nat) (hcp:f.toks.length<=cp) (w:World) (hc:ChkC w f pp cp) (tl:TkL w pp w.heap.size f.toks) :
  Calls Tryz.prog 15 #[fmV f pp cp] w fun r w'=>∃ n a m lo hi U,r = .returned (.agg (plCs f n (some a) (some m)).toArray)/\PlanC f.toks w' w.heap.size w'.heap.size m f.toks.length/\Mk f lo hi w' a newZ U/\(∀ k,U k->w.heap.size<=k)/\w.heap.size<=lo/\Below w.heap.size w w'/\∃ t,f.toks[0]?=some t/\n=numZ f t:=by
 obtain⟨t,ht,ht0⟩:=nonempty_toks hz
 obtain⟨g,o,pc,cc,rfl,hg,hT,_,_,hO⟩:=tl.at ht
 have h0l:(0:Int)<(f.toks.length:Int):=by have:=(List.getElem?_eq_some_iff.1 ht).1;omega
 obtain⟨W1,hW1⟩:∃ W1,W1=(w.alloc (fmO f (some ⟨g,o,none⟩) cp)).alloc plZ:=⟨_,rfl⟩
 have e1:(w.alloc (fmO f (some ⟨g,o,none⟩) cp)).heap.size=w.heap.size+1:=World.size_alloc _ _
 have s1:W1.heap.size=w.heap.size+2:=by rw[hW1,World.size_alloc,e1]
 have b1:Below w.heap.size w W1:=by rw[hW1];exact(nbel _ _).trans ((nbel _ _).mono (by omega))
 have f1:W1.heap[w.heap.size]?=some (fmO f (some ⟨g,o,none⟩) cp):=by rw[hW1];exact((nbel _ _).block _ (by omega)).trans (thnK _ _)
 have z1:W1.heap[w.heap.size+1]?=some plZ:=by rw[hW1,<- e1];exact thnK _ _
 have lT:Hid _:=⟨(hT.below hg b1).load⟩
 have sT:Hid _:=⟨fun z hz=>st_new W1 z hz t pc cc⟩
 obtain⟨W2,hW2⟩:∃ W2,W2=W1.alloc (tkO t pc cc):=⟨_,rfl⟩
 have s2:W2.heap.size=w.heap.size+3:=by rw[hW2,World.size_alloc,s1]
 have c1:W1.cell? ⟨w.heap.size,12,none⟩=some (.slice (some ⟨g,o,none⟩) f.toks.length cp):=cell_at f1 12
 simp only[Nat.zero_mul,Nat.add_zero] at lT
 rw[<- hW2] at sT
 replace hW2:=Hid.mk hW2
 replace s1:=Hid.mk s1
 replace s2:=Hid.mk s2
 replace e1:=Hid.mk e1
 have G1:Hid _:=⟨And.intro b1 (And.intro f1 z1)⟩
 have k2:=tk_of (thnK W1 (tkO t pc cc))
 have k14:=k2.c14
 have k2i:=k2.c2
 simp only[Nat.zero_add] at k14 k2i
 rw[<- hW2.out] at k14 k2i
 rw[s1.out] at k14 k2i
 have f2:W2.heap[w.heap.size]?=some (fmO f (some ⟨g,o,none⟩) cp):=by rw[hW2.out];exact((nbel W1 _).block _ (by have:=s1.out;omega)).trans f1
 have mk2:(Instr.makeMap 56 none).run Tryz.prog W2 = .ok (.map (some (w.heap.size+3))) (W2.alloc (.map #[] 0)):=by rw[mkmP W2,s2.out]
 obtain⟨W3,hW3⟩:∃ W3,W3=W2.alloc (.map #[] 0):=⟨_,rfl⟩
 have s3:W3.heap.size=w.heap.size+4:=by rw[hW3,World.size_alloc,s2.out]
 rw[<- hW3] at mk2
 have ld2:Hid _:=⟨hd_ldE f2⟩
 have d0:=cell_at f2 0
 have bdP:Hid _:=⟨bd_plan f (w.heap.size+3) W3⟩
 obtain⟨W4,hW4⟩:∃ W4,W4=W3.alloc (eplO f pn0 none (some (w.heap.size+3))):=⟨_,rfl⟩
 have st4:Hid _:=⟨fun z hz=>pl_new W3 z hz f pn0 none (some (w.heap.size+3))⟩
 rw[<- hW4] at st4
 replace hW3:=Hid.mk hW3
 replace hW4:=Hid.mk hW4
 replace s3:=Hid.mk s3
 replace f2:=Hid.mk f2
 clear hT hO b1 f1 z1 k2
 go_enter Tryz.func15,Tryz.ntmps15
 go_upto_region 1 with fail
 rw[<- hW1]
 clear hW1
 go_upto_region 2 with (first
  | (guard_target =~ wpList _ _ _ (Oper.mk _ (Op.load 78 _) _ _ _ _::_) _ _;go_must (refine wpList_ld 78 _ rfl rfl _ _ rfl lT.out ?_);simp only[pts])
  | (guard_target =~ wpList _ _ _ (Oper.mk _ (Op.store 78 _ _) _ _ _ _::_) _ _;go_must (refine wpList_st 78 _ _ rfl rfl _ _ rfl rfl (sT.out _ rfl) ?_);simp only[pts]))
 rw[s1.out]
 clear lT sT c1
 go_upto_region 3 with (first
  | (guard_target =~ wpList _ _ _ (Oper.mk _ (Op.load 27 _) _ _ _ _::_) _ _;go_must (refine wpList_ld 27 _ rfl rfl _ _ rfl ld2.out ?_);simp only[pts])
  | (guard_target =~ wpList _ _ _ (Oper.mk _ (Op.build 58 _) _ _ _ _::_) _ _;go_must (refine wpList_bd 58 _ rfl rfl _ _ (by simp only[List.map_toArray,List.map_cons,List.map_nil];rfl) bdP.out ?_);simp only[pts])
  | (guard_target =~ wpList _ _ _ (Oper.mk _ (Op.store 58 _ _) _ _ _ _::_) _ _;go_must (refine wpList_st 58 _ _ rfl rfl _ _ rfl rfl (st4.out _ rfl) ?_);simp only[pts]))
 rw[s3.out]
 clear ld2 bdP st4 d0 mk2
 have hz4:W4.heap.size=w.heap.size+5:=by rw[hW4.out,World.size_alloc,s3.out]
 have b24:Below W2.heap.size W2 W4:=by rw[hW4.out,hW3.out];exact(nbel _ _).trans ((nbel _ _).mono (by rw[World.size_alloc];omega))
 have p4:W4.heap[w.heap.size+4]?=some (eplO f pn0 none (some (w.heap.size+3))):=by rw[hW4.out,<- s3.out];exact thnK _ _
 have f4:W4.heap[w.heap.size]?=some (fmO f (some ⟨g,o,none⟩) cp):=(b24.block _ (by have:=s2.out;omega)).trans f2.out
 have x14:W4.cell? ⟨w.heap.size+2,14,none⟩=some (.int .i64 t.blk):=(b24.cell (p:=⟨w.heap.size+2,14,none⟩) (by show w.heap.size+2<_;have:=s2.out;omega)).trans k14
 have x2:W4.cell? ⟨w.heap.size+2,2,none⟩=some (.int .i64 t.id):=(b24.cell (p:=⟨w.heap.size+2,2,none⟩) (by show w.heap.size+2<_;have:=s2.out;omega)).trans k2i
 have y1:=cell_at f4 1
 have y2:=cell_at f4 2
 obtain⟨n,hn⟩:∃ n:Pn,n=⟨IntKind.u64.wrap t.blk,IntKind.u64.wrap t.id,IntKind.u64.wrap f.sch,IntKind.u64.wrap f.ver⟩:=⟨_,rfl⟩
 have hnN:Hid (∃ t,f.toks[0]?=some t/\n=numZ f t):=⟨⟨t,ht,hn⟩⟩
 have sN:=st_nums p4 rfl (IntKind.u64.wrap t.blk) (IntKind.u64.wrap t.id) (IntKind.u64.wrap f.sch) (IntKind.u64.wrap f.ver)
 obtain⟨W5,hW5⟩:∃ W5,W5=W4.setCells (w.heap.size+4) 10 [.int .u64 (IntKind.u64.wrap t.blk),.int .u64 (IntKind.u64.wrap t.id),.int .u64 (IntKind.u64.wrap f.sch),.int .u64 (IntKind.u64.wrap f.ver)]:=⟨_,rfl⟩
 rw[<- hW5] at sN
 have o5:∀ k,k≠w.heap.size+4->W5.heap[k]?=W4.heap[k]?:=fun k hk=>by
  rw[hW5]
  exact(eset_off hk).trans ((eset_off hk).trans ((eset_off hk).trans (eset_off hk)))
 have p5:W5.heap[w.heap.size+4]?=some (eplO f n none (some (w.heap.size+3))):=by
  rw[hW5,hn]
  exact(eset_at (eset_at (eset_at (eset_at p4 _) _) _) _).trans rfl
 have z5:W5.heap.size=w.heap.size+5:=by rw[hW5];exact(by simp[World.setCells]:_=W4.heap.size).trans hz4
 have b5:Below w.heap.size w W5:=by
  rw[hW5]
  exact((((((G1.out.1.trans ((hW2.out▸nbel W1 _).mono (by have:=s1.out;omega))).trans (b24.mono (by have:=s2.out;omega))).setCell (p:=⟨w.heap.size+4,10,none⟩) (by show _<=w.heap.size+4;omega) _).setCell (p:=⟨w.heap.size+4,11,none⟩) (by show _<=w.heap.size+4;omega) _).setCell (p:=⟨w.heap.size+4,12,none⟩) (by show _<=w.heap.size+4;omega) _).setCell (p:=⟨w.heap.size+4,13,none⟩) (by show _<=w.heap.size+4;omega) _)
 have f5:W5.heap[w.heap.size]?=some (fmO f (some ⟨g,o,none⟩) cp):=(o5 _ (by omega)).trans f4
 have r5:W5.heap[w.heap.size+1]?=some plZ:=(o5 _ (by omega)).trans ((b24.block _ (by have:=s2.out;omega)).trans ((by rw[hW2.out];exact(nbel W1 _).block _ (by have:=s1.out;omega):W2.heap[w.heap.size+1]?=W1.heap[w.heap.size+1]?).trans G1.out.2.2))
 have m5:QHas W5 3 (w.heap.size+3) 0 (fun _=>none):=by
  have h:=QHas.made W2 3
  rw[s2.out] at h
  refine h.same ((o5 _ (by omega)).trans ?_)
  rw[hW4.out,hW3.out]
  exact(nbel _ _).block _ (by rw[World.size_alloc,s2.out];omega)
 have G5:Hid (Gw f (some ⟨g,o,none⟩) cp n w none W5):=⟨⟨f5,r5,p5,b5,by omega⟩⟩
 have cN:=New_mk f (some ⟨g,o,none⟩) cp W5 (fun W hb=>hc W (b5.trans (hb.mono b5.size))) ((tl.below b5).mono b5.size) hz
 have lF:Hid _:=⟨(FmC.of f5).load⟩
 replace sN:=Hid.mk sN
 replace z5:=Hid.mk z5
 replace m5:=Hid.mk m5
 have TL:Hid (∀ W,Below w.heap.size w W->TkL W (some ⟨g,o,none⟩) w.heap.size f.toks):=⟨fun W h=>tl.below h⟩
 have hll:=tl.len
 clear k14 k2i f2 hz4 b24 p4 f4 hn hW5 hW4 hW3 hW2 s3 s2 s1 e1 G1 o5 p5 b5 f5 r5
 go_upto_region 4 with (first
  | (guard_target =~ wpList _ _ _ (Oper.mk _ (Op.store 54 _ _) _ _ _ _::_) _ _;go_must (refine wpList_st 54 _ _ rfl rfl _ _ rfl rfl sN.out ?_);simp only[pts]))
 clear sN x14 x2 y1 y2
 go_upto_region 5 with (first
  | (guard_target =~ wpList _ _ _ (Oper.mk _ (Op.load 30 _) _ _ _ _::_) _ _;go_must (refine wpList_ld 30 _ rfl rfl _ _ rfl lF.out ?_);simp only[pts])
  | (go_at_call 31;refine cN.mono ?_;clear cN;rintro _ W6 ⟨a,lo,hi,U,rfl,hm,hu,hlo,hb6⟩;have G6:=G5.out.keep hb6;have x14:W6.cell? ⟨w.heap.size+4,14,none⟩=some (.pointer none):=cell_at G6.p4 14;have z14:W6.frozen? ⟨w.heap.size+4,14,none⟩=false:=efrz G6.p4;replace G6:=Hid.mk G6;replace hm:=Hid.mk hm;replace hu:=Hid.mk hu;replace hlo:=Hid.mk hlo;have m6:Hid _:=⟨m5.out.same (hb6.block _ (by have:=z5.out;omega))⟩;clear hb6))
 obtain⟨W7,hW7⟩:∃ W7,W7=W6.setCell ⟨w.heap.size+4,14,none⟩ (.pointer (some ⟨a,0,none⟩)):=⟨_,rfl⟩
 rw[<- hW7]
 have o7:∀ k,k≠w.heap.size+4->W7.heap[k]?=W6.heap[k]?:=fun k hk=>by rw[hW7];exact eset_off hk
 have z7:W7.heap.size=W6.heap.size:=by rw[hW7];simp
 have hz5:=z5.out
 have hs6:=G6.out.sz
 have G7:Hid (Gw f (some ⟨g,o,none⟩) cp n w (some a) W7):=⟨⟨(o7 _ (by omega)).trans G6.out.f0,(o7 _ (by omega)).trans G6.out.r1,by rw[hW7];exact(eset_at G6.out.p4 _).trans rfl,by rw[hW7];exact G6.out.be.setCell (p:=⟨w.heap.size+4,14,none⟩) (by show _<=w.heap.size+4;omega) _,by omega⟩⟩
 have M7:Hid (Gm f w a lo hi U 0 W7):=⟨⟨hm.out.same (by omega) (fun k hk=>o7 k (by have:=hu.out k hk;omega)) (fun k h1 h2=>o7 k (by have:=hlo.out;omega)),by have:=hlo.out;omega,fun k hk=>by have:=hu.out k hk;omega,0,fun _=>none,Nat.le_refl _,m6.out.same (o7 _ (by omega)),fun i t h=>by omega⟩⟩
 have c12:W7.cell? ⟨w.heap.size,12,none⟩=some (.slice (some ⟨g,o,none⟩) f.toks.length cp):=cell_at G7.out.f0 12
 clear hW7 o7 z7 hz5 hs6 G6 hm hu hlo m6 x14 z14 G5 m5 z5 lF
 go_wp2_with fail
 clear c12
 go_loopw [40] (fun q wr=>∃ (k:Nat),q = .int .i64 (k:Int)/\k<=f.toks.length/\Hid (Gw f (some ⟨g,o,none⟩) cp n w (some a) wr/\Gm f w a lo hi U k wr)) (fun q _=>f.toks.length-(RowKit.intOf q).toNat)
 case atStart=>exact⟨0,by go_num,Nat.zero_le _,⟨G7.out,M7.out⟩⟩
 case round =>
  clear G7 M7
  obtain⟨k,rfl,hk,hI⟩:=hrel
  by_cases hlt:k<f.toks.length
  ·have hltI:(k:Int)<(f.toks.length:Int):=by omega
   obtain⟨u,hu⟩:∃ u,f.toks[k]?=some u:=⟨f.toks[k],List.getElem?_eq_getElem hlt⟩
   obtain⟨_,_,pu,cu,e,_,hTu,_,_,hOu⟩:=(TL.out wr hI.out.1.be).at hu
   cases e
   have lU:Hid _:=⟨hTu.load⟩
   have sU:Hid _:=⟨fun z hz=>st_new wr z hz u pu cu⟩
   have hq:=tk_of (thnK wr (tkO u pu cu))
   have q0:=hq.c0
   have hbq:=nbel wr (tkO u pu cu)
   have hG:=hI.out.1.keep hbq
   have hM:=hI.out.2.keep hI.out.1.sz hbq
   by_cases ho:u.op=0\/u.op=4
   ·have GT:Hid (f.toks[k]?=some u):=⟨hu⟩
    have cB:Hid (∀ W,Gw f (some ⟨g,o,none⟩) cp n w (some a) W->Calls Tryz.prog 32 #[.slice (some ⟨g,o,none⟩) f.toks.length cp,.int .i64 (k:Int)] W fun e w'=>∃ v,e = .returned v/\∃ g',v = .pointer (some ⟨g',0,none⟩)/\BlkC f.toks w' W.heap.size w'.heap.size g' k u/\Below W.heap.size W w'):=⟨fun W hW=>by
     obtain⟨nn,ks,hP⟩:=pb_of hz hu (by rcases ho with h|h;exact .inl h;exact .inr (.inl h))
     refine(blockAt_any f hz k nn u ks hP _ cp hcp W ((TL.out W hW.be).mono hW.be.size)).mono ?_
     rintro e w' ⟨g',rfl,q1,q2⟩
     exact⟨_,rfl,g',rfl,q1,q2⟩⟩
    have G8:Hid _:=⟨hG⟩
    have M8:Hid _:=⟨hM⟩
    have bb:(u.op==0||u.op==4)=true:=by rcases ho with h|h<;>simp[h]
    have b0:∃ b1 b2,(u.op==0)=b1/\(u.op==4)=b2/\(b1||b2)=true:=⟨_,_,rfl,rfl,bb⟩
    obtain⟨b1,b2,e1,e2,e3⟩:=b0
    clear hTu hq hu hOu hG hM hI ho bb hbq
    have go:∀ b1 b2:Bool,(u.op==0)=b1->(u.op==4)=b2->(b1||b2)=true->True:=fun _ _ _ _ _=>trivial
    clear go
    cases b1
    ·cases b2
     ·cases e3
     ·clear e3
      go_upto_region 9 with (first
       | (guard_target =~ wpList _ _ _ (Oper.mk _ (Op.load 78 _) _ _ _ _::_) _ _;go_must (refine wpList_ld 78 _ rfl rfl _ _ rfl lU.out ?_);simp only[pts])
       | (guard_target =~ wpList _ _ _ (Oper.mk _ (Op.store 78 _ _) _ _ _ _::_) _ _;go_must (refine wpList_st 78 _ _ rfl rfl _ _ rfl rfl (sU.out _ rfl) ?_);simp only[pts]))
      clear q0 lU sU e1 e2
      obtain⟨p0,pb,pN,x15,y12⟩:∃ p:World->Prop,(∀ W,p W↔Gw f (some ⟨g,o,none⟩) cp n w (some a) W/\Gm f w a lo hi U k W)/\Nonempty (CW p)/\(∀ θ:CW p,θ.w.cell? ⟨w.heap.size+4,15,none⟩=some (.map (some (w.heap.size+3))))/\(∀ θ:CW p,θ.w.cell? ⟨w.heap.size,12,none⟩=some (.slice (some ⟨g,o,none⟩) f.toks.length cp)) :=
       ⟨fun W=>Gw f (some ⟨g,o,none⟩) cp n w (some a) W/\Gm f w a lo hi U k W,fun _=>Iff.rfl,⟨⟨_,G8.out,M8.out⟩⟩,fun θ=>cell_at θ.h.1.p4 15,fun θ=>cell_at θ.h.1.f0 12⟩
      replace pb:=Hid.mk pb
      have hd:Hid (Gw f (some ⟨g,o,none⟩) cp n w (some a) (wr.alloc (tkO u pu cu)).drew/\Gm f w a lo hi U k (wr.alloc (tkO u pu cu)).drew):=⟨G8.out.keep (Below.refl _ _).drew,M8.out.keep G8.out.sz (Below.refl _ _).drew⟩
      refine wp_region_lw 7 (fun V=>∃ θ:CW p0,V=θ.w) (by kernel_rfl) (by kernel_rfl) (fun _ _ d _ _ h=>by cases d<;>exact h) ⟨⟨_,(pb.out _).2 hd.out⟩,rfl⟩ ?_
      generalize (wr.alloc (tkO u pu cu)).drew=V at hd ⊢
      clear G8 M8
      repeat (first|(guard_target =~ Lw _ _ _ _ (Oper.mk _ (Op.call _) _ _ _ _::_) _ _;fail)|(guard_target =~ Lw _ _ _ _ (Oper.mk _ (Op.mapUpdate _ _ _ _) _ _ _ _::_) _ _;fail)|(refine lw_one rfl ?_;(first|go_big_quiet_skip|(go_big_quiet_want;go_big_quiet_op;go_big_quiet_on));refine wpQuiet_nil ?_))
      refine lw_call2 ent_blk (cB.out V hd.out.1) rfl rfl (by rfl) ?_
      rintro _ V2 ⟨g',rfl,hp,b2⟩
      have G9:=hd.out.1.keep b2
      have M9:=hd.out.2.keep hd.out.1.sz b2
      refine⟨⟨⟨_,(pb.out _).2 ⟨G9,M9⟩⟩,rfl⟩,?_⟩
      simp only[pts]
      obtain⟨V3,r1,r2,r3⟩:=M9.put G9 (by omega) GT.out (hp.mono hd.out.1.sz (Nat.le_refl _))
      refine lw_mu r1 rfl rfl rfl (by rfl) ?_
      simp only[pts]
      replace r2:=Hid.mk r2
      replace r3:=Hid.mk r3
      clear r1 hp b2 hd G9 M9 cB pb x15 y12 pN GT
      go_wp2_with fail
      go_roundw
      case rel=>exact⟨k+1,by go_num,by omega,⟨r2.out,r3.out⟩⟩
      case measure=>simp[RowKit.intOf];omega
    ·clear e3
     go_upto_region 9 with (first
      | (guard_target =~ wpList _ _ _ (Oper.mk _ (Op.load 78 _) _ _ _ _::_) _ _;go_must (refine wpList_ld 78 _ rfl rfl _ _ rfl lU.out ?_);simp only[pts])
      | (guard_target =~ wpList _ _ _ (Oper.mk _ (Op.store 78 _ _) _ _ _ _::_) _ _;go_must (refine wpList_st 78 _ _ rfl rfl _ _ rfl rfl (sU.out _ rfl) ?_);simp only[pts]))
     clear q0 lU sU e1 e2
     obtain⟨p0,pb,pN,x15,y12⟩:∃ p:World->Prop,(∀ W,p W↔Gw f (some ⟨g,o,none⟩) cp n w (some a) W/\Gm f w a lo hi U k W)/\Nonempty (CW p)/\(∀ θ:CW p,θ.w.cell? ⟨w.heap.size+4,15,none⟩=some (.map (some (w.heap.size+3))))/\(∀ θ:CW p,θ.w.cell? ⟨w.heap.size,12,none⟩=some (.slice (some ⟨g,o,none⟩) f.toks.length cp)) :=
      ⟨fun W=>Gw f (some ⟨g,o,none⟩) cp n w (some a) W/\Gm f w a lo hi U k W,fun _=>Iff.rfl,⟨⟨_,G8.out,M8.out⟩⟩,fun θ=>cell_at θ.h.1.p4 15,fun θ=>cell_at θ.h.1.f0 12⟩
     replace pb:=Hid.mk pb
     have hd:Hid (Gw f (some ⟨g,o,none⟩) cp n w (some a) (wr.alloc (tkO u pu cu)).drew/\Gm f w a lo hi U k (wr.alloc (tkO u pu cu)).drew):=⟨G8.out.keep (Below.refl _ _).drew,M8.out.keep G8.out.sz (Below.refl _ _).drew⟩
     refine wp_region_lw 7 (fun V=>∃ θ:CW p0,V=θ.w) (by kernel_rfl) (by kernel_rfl) (fun _ _ d _ _ h=>by cases d<;>exact h) ⟨⟨_,(pb.out _).2 hd.out⟩,rfl⟩ ?_
     generalize (wr.alloc (tkO u pu cu)).drew=V at hd ⊢
     clear G8 M8
     repeat (first|(guard_target =~ Lw _ _ _ _ (Oper.mk _ (Op.call _) _ _ _ _::_) _ _;fail)|(guard_target =~ Lw _ _ _ _ (Oper.mk _ (Op.mapUpdate _ _ _ _) _ _ _ _::_) _ _;fail)|(refine lw_one rfl ?_;(first|go_big_quiet_skip|(go_big_quiet_want;go_big_quiet_op;go_big_quiet_on));refine wpQuiet_nil ?_))
     refine lw_call2 ent_blk (cB.out V hd.out.1) rfl rfl (by rfl) ?_
     rintro _ V2 ⟨g',rfl,hp,b2⟩
     have G9:=hd.out.1.keep b2
     have M9:=hd.out.2.keep hd.out.1.sz b2
     refine⟨⟨⟨_,(pb.out _).2 ⟨G9,M9⟩⟩,rfl⟩,?_⟩
     simp only[pts]
     obtain⟨V3,r1,r2,r3⟩:=M9.put G9 (by omega) GT.out (hp.mono hd.out.1.sz (Nat.le_refl _))
     refine lw_mu r1 rfl rfl rfl (by rfl) ?_
     simp only[pts]
     replace r2:=Hid.mk r2
     replace r3:=Hid.mk r3
     clear r1 hp b2 hd G9 M9 cB pb x15 y12 pN GT
     go_wp2_with fail
     go_roundw
     case rel=>exact⟨k+1,by go_num,by omega,⟨r2.out,r3.out⟩⟩
     case measure=>simp[RowKit.intOf];omega
   ·have bb1:(u.op==0)=false:=by simp;exact fun h=>ho (.inl h)
    have bb2:(u.op==4)=false:=by simp;exact fun h=>ho (.inr h)
    have G8:Hid _:=⟨hG⟩
    have M8:Hid _:=⟨hM.skip hu ho⟩
    clear hTu hq hu hOu hG hM hI ho hbq
    go_wp2_with (first
     | (guard_target =~ wpList _ _ _ (Oper.mk _ (Op.load 78 _) _ _ _ _::_) _ _;go_must (refine wpList_ld 78 _ rfl rfl _ _ rfl lU.out ?_);simp only[pts])
     | (guard_target =~ wpList _ _ _ (Oper.mk _ (Op.store 78 _ _) _ _ _ _::_) _ _;go_must (refine wpList_st 78 _ _ rfl rfl _ _ rfl rfl (sU.out _ rfl) ?_);simp only[pts]))
    go_roundw
    case rel=>exact⟨k+1,by go_num,by omega,⟨G8.out,M8.out⟩⟩
    case measure=>simp[RowKit.intOf];omega
  ·obtain rfl:k=f.toks.length:=by omega
   have hltI:decide ((f.toks.length:Int)<(f.toks.length:Int))=false:=by simp
   have lP:Hid _:=⟨pl_ld hI.out.1.p4⟩
   have sP:Hid _:=⟨pl_st hI.out.1.r1 rfl f n (some a) (some (w.heap.size+3))⟩
   clear TL
   go_wp2_with (first
    | (guard_target =~ wpList _ _ _ (Oper.mk _ (Op.load 58 _) _ _ _ _::_) _ _;go_must (refine wpList_ld 58 _ rfl rfl _ _ rfl lP.out ?_);simp only[pts])
    | (guard_target =~ wpList _ _ _ (Oper.mk _ (Op.store 58 _ _) _ _ _ _::_) _ _;go_must (refine wpList_st 58 _ _ rfl rfl _ _ rfl rfl sP.out ?_);simp only[pts]))
   have hG:=hI.out.1
   have hM:=hI.out.2
   have hsz:=hG.sz
   have hset:(wr.setRow (w.heap.size+1) (plCs f n (some a) (some (w.heap.size+3))).toArray).heap[w.heap.size+1]?=some (.cells (plCs f n (some a) (some (w.heap.size+3))).toArray 58):=setRow_heap _ _ _ _ _ _ hG.r1
   have hoff:∀ x,x≠w.heap.size+1->(wr.setRow (w.heap.size+1) (plCs f n (some a) (some (w.heap.size+3))).toArray).heap[x]?=wr.heap[x]?:=fun x hx=>setRow_other _ _ _ _ hx
   have hss:(wr.setRow (w.heap.size+1) (plCs f n (some a) (some (w.heap.size+3))).toArray).heap.size=wr.heap.size:=size_setRow _ _ _
   obtain⟨j,q,h1,h2,h3⟩:=hM.m0
   have hh:=hM.mc.hi_lt
   have hlo:=hM.lo'
   refine bodyPost_ret (results_cell_row rfl _ _ (w.heap.size+1) 58 _ (0,0) _ rfl hset Tryz.underlying58 rfl infoPlE) rfl ⟨n,a,w.heap.size+3,lo,hi,U,rfl,⟨by omega,by omega,j,q,h1,h2.same (hoff _ (by omega)),fun i t e1 e2 e3=>?_⟩,hM.mc.same (by omega) (fun x hx=>hoff x (by have:=hM.ul x hx;omega)) (fun x hx1 hx2=>hoff x (by omega)),fun x hx=>by have:=hM.ul x hx;omega,by omega,?_,hnN.out⟩
   ·obtain⟨g',e4,e5⟩:=h3 i t e1 e2 e3
    exact⟨g',e4,(e5.same fun x hx1 hx2=>hoff x (by omega)).mono (by omega) (by omega)⟩
   ·exact⟨hG.be.os,hG.be.tape,hG.be.output,by rw[hss];exact hG.be.size,fun x hx=>(hoff x (by omega)).trans (hG.be.block x hx)⟩
end Go.Proofs.YtjlbcdnkglaheaaGreatDoor
