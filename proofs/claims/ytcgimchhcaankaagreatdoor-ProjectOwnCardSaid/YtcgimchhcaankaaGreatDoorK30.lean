import Derived.Test.YtcgimchhcaankaaGreatDoorK29
namespace Go.Proofs.YtcgimchhcaankaaGreatDoor
set_option maxRecDepth 1000000
set_option maxHeartbeats 16000000
open Go.ChangeShapes Go.WideShapes Go.ChangeAt Go.RowKit Go.Shelf Go.Maps
abbrev mTk (m:Nat):List Value:=[.int .i64 0,.string ⟨#[]⟩,.int .i64 (-(m:Int)),.int .i64 0,.int .i64 0,.int .i64 0,.int .i64 0,.int .i64 0,.int .i64 0,.int .u64 0,.int .u64 0,.int .u64 0,.slice none 0 0,.int .u64 0,.int .i64 0,.int .i64 0,.int .i64 0,.int .i64 0,.int .i64 0,.int .i64 0,.int .i64 0]
theorem mTk_one (m:Nat):(mTk m).toArray.all (·.oneCell')=true:=by simp[Value.oneCell']
theorem infoTk1:(Tryz.prog.info? 40).map (·.size)=some 21:=by kernel_rfl
def S2 (p:Option Addr) (E1:Nat) (vL:Value) (W:World) (g:Nat):Prop:=p=some ⟨g,0,none⟩\/(E1<=g/\g<W.heap.size/\vL.ownBlock≠some g)
structure M2 (w:World) (a:Fm) (pa:Option Addr) (ca B E m:Nat) (ks:List Ktp) (pC:Option Addr) (cC E1 i:Nat) (vL:Value) (ls:List Value) (W:World):Prop where
 fb:W.heap[w.heap.size]?=some (fmO a pa ca)
 rb:W.heap[w.heap.size+1]?=some zMk
 xb:W.heap[w.heap.size+1+1]?=some (.cells #[.slice pa a.toks.length ca,.slice none 0 0,.slice pC ks.length cC,vL,.int .i64 (m:Int)] 50)
 co:W.ownsRow (w.heap.size+3) 38 1 (.slice pC ks.length cC) ks.length (ks.map slC)
 cE:∀ g,(Value.slice pC ks.length cC).ownBlock=some g->g<E1
 lo:W.ownsRow E1 38 1 vL i ls
 e1:w.heap.size+3<=E1/\E1<=W.heap.size
 tk:∃ xs,W.ownsRow B 40 21 (.slice pa ks.length ca) ks.length xs/\∀ j,j<i->xs[j*21+2]?=some (.int .i64 (-(m:Int)))
 rest:∀ j x,ks[j]?=some x->i<=j->W.ownsRow B 37 1 (slC x) x.t.cst.length (List.replicate x.t.cst.length (.int .u64 ((1000*m+j:Nat):Int)))
 done:∀ j x,ks[j]?=some x->j<i->∃ p' c',ls[j]?=some (.slice p' (x.t.cst.length+1) c')/\Wd W (S2 x.p E1 vL W) x.p x.t.cst.length ((1000*m+j:Nat):Int)/\Wd W (S2 x.p E1 vL W) p' (x.t.cst.length+1) ((1000*m+j:Nat):Int)
 fr:Fr B E w W
section
variable {w:World} {a:Fm} {pa:Option Addr} {ca B E m:Nat} {ks:List Ktp} {pC:Option Addr} {cC E1 i:Nat} {vL:Value} {ls:List Value} {W:World}
theorem M2.start (_:M0 w a pa ca B E m ks) {ks':List Ktp} (h:M1 w a pa ca B E m ks ks.length 0 ks' (.slice pC ks.length cC) W):M2 w a pa ca B E m ks pC cC W.heap.size 0 (.slice none 0 0) [] W:=by
 have hlt:=h.lt
 refine⟨h.fb,h.rb,h.xb,?_,fun g hg=>(h.co.lt g hg).2,World.ownsRow_nil _ _ _ 1,⟨hlt,Nat.le_refl _⟩,⟨kpC ks',?_,fun j hj=>absurd hj (Nat.not_lt_zero _)⟩,fun j x hx _=>?_,fun j x _ hj=>absurd hj (Nat.not_lt_zero _),h.fr⟩
 ·have:=h.co
  rwa [List.take_length] at this
 ·have:=h.kt.row
  rw[h.mr.len] at this
  exact this
 ·obtain⟨y,hy,y1,y2,y3⟩:=h.mr.shp j x hx
  have ho:=h.kt.own y (List.mem_of_getElem? hy)
  have hjl:=(List.getElem?_eq_some_iff.1 hx).1
  have e:J.uC y.t.cst=List.replicate x.t.cst.length (.int .u64 ((1000*m+j:Nat):Int)):=by
   refine List.ext_getElem? fun q=>?_
   simp only[J.uC,List.getElem?_map,List.getElem?_replicate]
   cases hq:y.t.cst[q]? with
   | none =>
    have:=List.getElem?_eq_none_iff.1 hq
    rw[if_neg (by omega)]
    rfl
   | some b =>
    have hql:=(List.getElem?_eq_some_iff.1 hq).1
    rw[if_pos (by omega),h.mr.wrd j y hy q b hq (.inl hjl)]
    rfl
  rw[e,y1,y2,y3] at ho
  exact ho
theorem S2.step {p:Option Addr} {g:Nat} {vL':Value} {W':World} (h:S2 p E1 vL W g) (hs:W.heap.size<=W'.heap.size) (hv:∀ k,vL'.ownBlock=some k->vL.ownBlock=some k\/W.heap.size<=k):S2 p E1 vL' W' g:=by
 rcases h with h|⟨h1,h2,h3⟩
 ·exact .inl h
 ·refine .inr ⟨h1,by omega,fun e=>?_⟩
  rcases hv g e with e2|e2
  ·exact h3 e2
  ·omega
theorem M0.dis (c:M0 w a pa ca B E m ks) {j j':Nat} {x y:Ktp} (hx:ks[j]?=some x) (hy:ks[j']?=some y) (hne:j≠j') {g o g' o':Nat} (e1:x.p=some ⟨g,o,none⟩) (e2:y.p=some ⟨g',o',none⟩):g≠g':=by
 have hp:=c.kt.dis
 rw[List.pairwise_iff_getElem] at hp
 have hl:=(List.getElem?_eq_some_iff.1 hx)
 have hl':=(List.getElem?_eq_some_iff.1 hy)
 rcases Nat.lt_or_gt_of_ne hne with hlt|hlt
 ·exact hp j j' hl.1 hl'.1 hlt g o g' o' (by rw[hl.2];exact e1) (by rw[hl'.2];exact e2)
 ·exact(hp j' j hl'.1 hl.1 hlt g' o' g o (by rw[hl'.2];exact e2) (by rw[hl.2];exact e1)).symm
theorem own_slic {W:World} {b e z n:Nat} {v:Value} {xs:List Value} (h:W.ownsRow b e z v n xs) (hn:0<n):∃ g c,v = .slice (some ⟨g,0,none⟩) n c:=by
 rcases h.2 with ⟨_,e0⟩|⟨g,cap,cur,e,-⟩
 ·omega
 ·exact⟨_,_,e⟩
theorem M2.step (h:M2 w a pa ca B E m ks pC cC E1 i vL ls W) (c:M0 w a pa ca B E m ks) {x:Ktp} (hx:ks[i]?=some x):∃ gC ga p' c' wA pl cl wB,pC=some ⟨gC,0,none⟩/\pa=some ⟨ga,0,none⟩/\W.cell? ⟨gC,i,none⟩=some (.slice x.p x.t.cst.length x.c) /\
  (∀ ty,(Builtin.append_ #[38,38] ty #[.slice x.p x.t.cst.length x.c,.slice (some ⟨W.heap.size,0,none⟩) 1 1]).run Tryz.prog (W.alloc (.cells #[.int .u64 ((1000*m+i:Nat):Int)] 37)) = .ok (.slice p' (x.t.cst.length+1) c') wA)/\wA.cell? ⟨w.heap.size+1+1,3,none⟩=some vL /\
  (∀ ty,(Builtin.append_ #[48,48] ty #[vL,.slice (some ⟨wA.heap.size,0,none⟩) 1 1]).run Tryz.prog (wA.alloc (.cells #[.slice p' (x.t.cst.length+1) c'] 38)) = .ok (.slice pl (i+1) cl) wB)/\wB.cell? ⟨w.heap.size+1+1,3,none⟩=some vL/\wB.frozen? ⟨w.heap.size+1+1,3,none⟩=false /\
  (wB.setCell ⟨w.heap.size+1+1,3,none⟩ (.slice pl (i+1) cl)).cell? ⟨w.heap.size,12,none⟩=some (.slice pa a.toks.length ca) /\
  (Instr.storeAt 40 (.pointer (some ⟨ga,i*21,none⟩)) (.agg (mTk m).toArray)).run Tryz.prog (wB.setCell ⟨w.heap.size+1+1,3,none⟩ (.slice pl (i+1) cl)) = .ok () ((wB.setCell ⟨w.heap.size+1+1,3,none⟩ (.slice pl (i+1) cl)).setCells ga (i*21) (mTk m)) /\
  M2 w a pa ca B E m ks pC cC E1 (i+1) (.slice pl (i+1) cl) (ls++[.slice p' (x.t.cst.length+1) c']) ((wB.setCell ⟨w.heap.size+1+1,3,none⟩ (.slice pl (i+1) cl)).setCells ga (i*21) (mTk m)):=by
 have hil:=(List.getElem?_eq_some_iff.1 hx).1
 have hm:=List.mem_of_getElem? hx
 have hln:=c.ln
 have hcs:=c.cs x hm
 have hcE:=c.eW
 have hbW:=c.bW
 obtain⟨e1a,e1b⟩:=h.e1
 obtain⟨xs,t1,t2⟩:=h.tk
 obtain⟨gC,cC',eC⟩:=own_slic h.co (by omega)
 obtain⟨ga,ca',ea⟩:=own_slic t1 (by omega)
 injection eC with eC _ _
 injection ea with ea _ _
 subst eC ea
 have hgaE:=c.pE ga 0 rfl
 obtain⟨vA,wA,a1,⟨a2,a3,a4,a5⟩,a6⟩:=ap_genQ (W:=W) Tryz.underlying38 J.infoUK rfl (by decide) (h.rest i x hx (Nat.le_refl _)) [.int .u64 ((1000*m+i:Nat):Int)] rfl (by simp[Value.oneCell']) (by omega) (by omega) (by have:=h.fr.bl.size;omega)
 obtain⟨gA,cA,rfl⟩:=own_slic a2 (by omega)
 have hxg:∀ j,(slC x).ownBlock=some j->x.p=some ⟨j,0,none⟩:=fun j hj=>own_ptr (h.rest i x hx (Nat.le_refl _)) hj
 have hxE:∀ j,(slC x).ownBlock=some j->j<E:=fun j hj=>c.wE x hm j 0 (hxg j hj)
 have hxB:∀ j,(slC x).ownBlock=some j->B<=j:=fun j hj=>((h.rest i x hx (Nat.le_refl _)).lt j hj).1
 have hA:∀ j,E<=j->j<W.heap.size->wA.heap[j]?=W.heap[j]?:=fun j h1 h2=>a4 j h2 fun e=>by have:=hxE j e;omega
 have hAs:=a3.size
 have hxbA:=(hA (w.heap.size+1+1) (by omega) (by omega)).trans h.xb
 have hnga:(slC x).ownBlock≠some ga:=fun e=>(c.kt.u x hm).2.2 ga 0 (hxg ga e) |>.2.2 rfl
 have hloA:wA.ownsRow E1 38 1 vL i ls:=own_stay h.lo fun g hg=>hA g (by have:=h.lo.lt g hg;omega) (h.lo.lt g hg).2
 obtain⟨vB,wB,b1,b2,b3,b4,b5⟩:=ap_genP (W:=wA) Tryz.underlying48 infoUl rfl (by decide) hloA [.slice (some ⟨gA,0,none⟩) (x.t.cst.length+1) cA] rfl (by simp[Value.oneCell']) (by omega) (by omega) (by omega)
 obtain⟨gB,cB,rfl⟩:=own_slic b2 (by omega)
 have hBs:=b3.size
 have hB:∀ j,j<E1->wB.heap[j]?=wA.heap[j]?:=fun j hj=>b4 j (by omega) fun e=>by have:=h.lo.lt j e;omega
 have hxbB:=(hB (w.heap.size+1+1) (by omega)).trans hxbA
 have hgB:E1<=gB:=(b2.lt gB rfl).1
 obtain⟨wC,hwC⟩:∃ V,V=wB.setCell ⟨w.heap.size+1+1,3,none⟩ (.slice (some ⟨gB,0,none⟩) (i+1) cB):=⟨_,rfl⟩
 have hC:∀ j,j≠w.heap.size+1+1->wC.heap[j]?=wB.heap[j]?:=fun j hj=>by rw[hwC];exact set_off hj
 have hCs:wC.heap.size=wB.heap.size:=by rw[hwC];simp[World.setCell]
 have hCx:wC.heap[w.heap.size+1+1]?=some (.cells #[.slice (some ⟨ga,0,none⟩) a.toks.length ca,.slice none 0 0,.slice (some ⟨gC,0,none⟩) ks.length cC,.slice (some ⟨gB,0,none⟩) (i+1) cB,.int .i64 (m:Int)] 50):=by rw[hwC,set_at hxbB];rfl
 have F3:Fr B E w wC:=by
  have hvL:∀ j,vL.ownBlock=some j->E1<=j/\j<W.heap.size:=fun j e=>h.lo.lt j e
  have F1:Fr B E w wA:=h.fr.one hAs a3.os a3.tape a3.output (fun j hj hj'=>a4 j hj fun e=>by have:=hxE j e;have:=hxB j e;omega) hbW
  have F2:Fr B E w wB:=F1.one hBs b3.os b3.tape b3.output (fun j hj hj'=>b4 j hj fun e=>by have:=hvL j e;omega) hbW
  rw[hwC]
  exact F2.set (by omega) (.inr (by omega)) hbW
 have hfbC:wC.heap[w.heap.size]?=some (fmO a (some ⟨ga,0,none⟩) ca):=(hC _ (by omega)).trans ((hB _ (by omega)).trans ((hA _ (by omega) (by omega)).trans h.fb))
 have htC:wC.ownsRow B 40 21 (.slice (some ⟨ga,0,none⟩) ks.length ca) ks.length xs:=own_stay t1 fun g hg=>by
  have e:=own_ptr t1 hg
  injection e with e
  injection e with e _ _
  subst e
  exact(hC _ (by omega)).trans ((hB _ (by omega)).trans (a4 _ (by have:=(t1.lt ga rfl).2;omega) hnga))
 obtain⟨ys,y1,y2⟩:=own_sets (mTk m) (i*21) htC (by show i*21+21<=_;omega)
 have hT:=own_there htC (i*21) 21 (by omega)
 have hBg:=(t1.lt ga rfl).1
 obtain⟨wD,hwD⟩:∃ V,V=wC.setCells ga (i*21) (mTk m):=⟨_,rfl⟩
 have hD:∀ j,j≠ga->wD.heap[j]?=wC.heap[j]?:=fun j hj=>by rw[hwD];exact J.sets_other hj _ _ _
 have hss:∀ (l:List Value) (o:Nat) (V:World),(V.setCells ga o l).os=V.os/\(V.setCells ga o l).tape=V.tape/\(V.setCells ga o l).output=V.output/\(V.setCells ga o l).heap.size=V.heap.size:=by
  intro l
  induction l with
  | nil=>intro o V;exact⟨rfl,rfl,rfl,rfl⟩
  | cons u r ih =>
   intro o V
   obtain⟨i1,i2,i3,i4⟩:=ih (o+1) (V.setCell ⟨ga,o,none⟩ u)
   exact⟨i1,i2,i3,i4.trans (by simp[World.setCell])⟩
 have hDx:=hss (mTk m) (i*21) wC
 rw[<- hwD] at hDx y1
 obtain⟨s1,s2,s3,hDs⟩:=hDx
 have hall:∀ j,j≠ga->j≠w.heap.size+1+1->j<wA.heap.size->vL.ownBlock≠some j->wD.heap[j]?=wA.heap[j]?:=fun j h1 h2 h3 h4=>(hD j h1).trans ((hC j h2).trans (b4 j h3 h4))
 have hall2:∀ j,E<=j->j≠w.heap.size+1+1->j<E1->wD.heap[j]?=W.heap[j]?:=fun j h1 h2 h3=>(hall j (by omega) h2 (by omega) fun e=>by have:=h.lo.lt j e;omega).trans (hA j h1 (by omega))
 have hvL:∀ j,vL.ownBlock=some j->E1<=j/\j<W.heap.size:=fun j e=>h.lo.lt j e
 have hll:ls.length=i:=by have:=h.lo.1;omega
 refine⟨gC,ga,some ⟨gA,0,none⟩,cA,wA,some ⟨gB,0,none⟩,cB,wB,rfl,rfl,?_,a1,cell_at hxbA 3,b1,cell_at hxbB 3,frz_at hxbB,by rw[<- hwC];exact cell_at hfbC 12,?_,?_⟩
 ·refine ownCl h.co ?_
  rw[List.getElem?_map,hx]
  rfl
 ·rw[<- hwC]
  exact run_storeAt_mid wC ga (i*21) 40 (mTk m).toArray hT infoTk1 (mTk_one m)
 ·rw[<- hwC,<- hwD]
  clear hwC hwD
  refine⟨(hD _ (by omega)).trans hfbC,?_,?_,?_,h.cE,?_,⟨e1a,by omega⟩,⟨ys,y1,fun j hj=>?_⟩,fun j z hz hj=>?_,fun j z hz hj=>?_,?_⟩
  ·exact(hall2 _ (by omega) (by omega) (by omega)).trans h.rb
  ·exact(hD _ (by omega)).trans hCx
  ·refine own_stay h.co fun g hg=>hall2 g ?_ ?_ (h.cE g hg)
   ·have:=h.co.lt g hg;omega
   ·have:=h.co.lt g hg;omega
  ·refine own_stay b2 fun g hg=>?_
   have:=(b2.lt g hg).1
   exact(hD g (by omega)).trans (hC g (by omega))
  ·rw[y2]
   by_cases e:j=i
   ·subst e
    rw[if_pos ⟨by omega,by show _<j*21+21;omega⟩,show j*21+2-j*21=2 by omega]
    rfl
   ·rw[if_neg (by omega)]
    exact t2 j (by omega)
  ·have ho:=h.rest j z hz (by omega)
   refine own_stay ho fun g hg=>?_
   have ep:=own_ptr ho hg
   have hgE:=c.wE z (List.mem_of_getElem? hz) g 0 ep
   have hne:=((c.kt.u z (List.mem_of_getElem? hz)).2.2 g 0 ep).2.2
   refine(hall g (fun e=>hne (by rw[e];rfl)) (by omega) (by omega) (fun e=>by have:=hvL g e;omega)).trans (a4 g (by omega) fun e=>?_)
   exact c.dis hz hx (by omega) ep (hxg g e) rfl
  ·have hstep:∀ k,(Value.slice (some ⟨gB,0,none⟩) (i+1) cB).ownBlock=some k->vL.ownBlock=some k\/W.heap.size<=k:=fun k hk=>by
    rcases b5 k hk with e|e
    ·exact .inl e
    ·exact .inr (by omega)
   by_cases e:j=i
   ·subst e
    rw[hx] at hz
    cases hz
    refine⟨_,_,by rw[List.getElem?_append_right (by omega),hll,Nat.sub_self];rfl,?_,?_⟩
    ·
     have key:Wd wA (fun g=>x.p=some ⟨g,0,none⟩) x.p x.t.cst.length ((1000*m+j:Nat):Int):=by
      rcases a6 with a6|a6
      ·cases hp:x.p with
       | none =>
        rw[slC,hp] at a6
        simp[Value.ownBlock] at a6
       | some ad =>
        have ha:=hxg ad.block (by rw[slC,hp];rfl)
        rw[hp] at ha
        injection ha with ha
        rw[slC,hp,ha] at a6
        simp only[Value.ownBlock,Option.some.injEq] at a6
        rw[ha,<- a6]
        refine Wd.of_own a2 (Nat.le_succ _) (fun q hq=>?_) fun g e=>e
        rw[List.getElem?_append_left (by simpa using hq),List.getElem?_replicate,if_pos hq]
      ·refine(Wd.of_own (h.rest j x hx (Nat.le_refl _)) (Nat.le_refl _) (fun q hq=>by rw[List.getElem?_replicate,if_pos hq]) (S:=fun g=>x.p=some ⟨g,0,none⟩) fun g e=>e).keep fun g e _=>⟨a6 g (by have:=c.wE x hm g 0 e;omega),e⟩
     refine key.keep fun g e _=>⟨?_,.inl e⟩
     have hgE:=c.wE x hm g 0 e
     have hne:=((c.kt.u x hm).2.2 g 0 e).2.2
     exact hall g (fun e=>hne (by rw[e];rfl)) (by omega) (by omega) fun e=>by have:=hvL g e;omega
    ·have key:Wd wA (fun g=>g=gA) (some ⟨gA,0,none⟩) (x.t.cst.length+1) ((1000*m+j:Nat):Int):=by
      refine Wd.of_own a2 (Nat.le_refl _) (fun q hq=>?_) fun g e=>by injection e with e;injection e with e _ _;exact e.symm
      by_cases hq2:q<x.t.cst.length
      ·rw[List.getElem?_append_left (by simpa using hq2),List.getElem?_replicate,if_pos hq2]
      ·rw[List.getElem?_append_right (by simp;omega),List.length_replicate,show q-x.t.cst.length=0 by omega]
       rfl
     refine key.keep fun g _ eg=>?_
     subst eg
     have hgl:=(a2.lt g rfl).2
     rcases a5 g rfl with e|e
     ·have ep:=hxg g e
      have hgE:=c.wE x hm g 0 ep
      have hne:=((c.kt.u x hm).2.2 g 0 ep).2.2
      exact⟨hall g (fun e=>hne (by rw[e];rfl)) (by omega) (by omega) fun e=>by have:=hvL g e;omega,.inl ep⟩
     ·refine⟨hall g (by omega) (by omega) hgl fun e=>by have:=hvL g e;omega,.inr ⟨by omega,by omega,fun e2=>?_⟩⟩
      rcases b5 g e2 with e3|e3
      ·have:=hvL g e3;omega
      ·omega
   ·obtain⟨p2,c2,d1,d2,d3⟩:=h.done j z hz (by omega)
    have hkeep:∀ g,S2 z.p E1 vL W g->wD.heap[g]?=W.heap[g]?/\S2 z.p E1 (.slice (some ⟨gB,0,none⟩) (i+1) cB) wD g:=fun g hg=>by
     refine⟨?_,hg.step (by omega) hstep⟩
     rcases hg with ep|⟨h1,h2,h3⟩
     ·have hgE:=c.wE z (List.mem_of_getElem? hz) g 0 ep
      have hne:=((c.kt.u z (List.mem_of_getElem? hz)).2.2 g 0 ep).2.2
      exact(hall g (fun e=>hne (by rw[e];rfl)) (by omega) (by omega) (fun e=>by have:=hvL g e;omega)).trans (a4 g (by omega) fun e=>c.dis hz hx (by omega) ep (hxg g e) rfl)
     ·exact(hall g (by omega) (by omega) (by omega) h3).trans (hA g (by omega) h2)
    exact⟨p2,c2,by rw[List.getElem?_append_left (by omega)];exact d1,d2.keep fun g _ hg=>hkeep g hg,d3.keep fun g _ hg=>hkeep g hg⟩
  ·exact F3.one (by omega) s1 s2 s3 (fun j hj hj'=>hD j (by omega)) hbW
end
theorem infoMk:(Tryz.prog.info? 50).map (·.size)=some 5:=by kernel_rfl
theorem undMk:∃ d,Tryz.prog.underlying 50=some d/\d.isRow=true:=⟨_,Tryz.underlying50,rfl⟩
theorem mk_one (a b c d:Option Addr) (n1 n2 n3 n4 c1 c2 c3 c4:Nat) (m:Int):#[Value.slice a n1 c1,.slice b n2 c2,.slice c n3 c3,.slice d n4 c4,.int .i64 m].all (·.oneCell')=true:=by simp[Value.oneCell']
theorem st_newM (w:World) (z:Array Value) (hz:z.size=5) (a b c d:Option Addr) (n1 n2 n3 n4 c1 c2 c3 c4:Nat) (m:Int):(Instr.storeAt 50 (.pointer (some ⟨w.heap.size,0,none⟩)) (.agg #[.slice a n1 c1,.slice b n2 c2,.slice c n3 c3,.slice d n4 c4,.int .i64 m])).run Tryz.prog (w.alloc (.cells z 50)) = .ok () (w.alloc (.cells #[.slice a n1 c1,.slice b n2 c2,.slice c n3 c3,.slice d n4 c4,.int .i64 m] 50)) :=
 run_storeAt_new w 50 z _ infoMk hz (mk_one ..)
theorem mk_st {w:World} {b:Nat} {old:Array Value} (hb:w.heap[b]?=some (.cells old 50)) (ho:old.size=5) (x:Mkv):(Instr.storeAt 50 (.pointer (some ⟨b,0,none⟩)) x.v).run Tryz.prog w = .ok () (w.setRow b x.cs.toArray):=by
 simp only[Instr.storeAt,Instr.sureAddr,Sem.run_bind,Sem.run_pure,Result.andThen]
 exact run_storeVar_row _ _ _ _ _ _ hb infoMk (by rw[ho];rfl) (mk_one ..)
theorem mk_ld {w:World} {b:Nat} (x:Mkv) (hb:w.heap[b]?=some x.o):(Instr.loadAt 50 (.pointer (some ⟨b,0,none⟩))).run Tryz.prog w = .ok x.v w:=by
 obtain⟨d,hu,hd⟩:=undMk
 refine run_loadAt_mid w b 0 50 x.cs d (fun j v hj=>?_) hu hd infoMk
 rw[Nat.zero_add,cell_at hb]
 simpa using hj
section
variable {w:World} {a:Fm} {pa:Option Addr} {ca B E m:Nat} {ks:List Ktp} {pC:Option Addr} {cC E1:Nat} {ls:List Value} {W:World}
theorem M2.last {pl:Option Addr} {cl:Nat} (h:M2 w a pa ca B E m ks pC cC E1 ks.length (.slice pl ks.length cl) ls W) (c:M0 w a pa ca B E m ks):∃ pm cm wE,(∀ ty,(Builtin.append_ #[28,28] ty #[.slice pa a.toks.length ca,.slice (some ⟨W.heap.size,0,none⟩) 1 1]).run Tryz.prog (W.alloc (.cells (mTk m).toArray 40)) = .ok (.slice pm (a.toks.length+1) cm) wE)/\wE.cell? ⟨w.heap.size+1+1,1,none⟩=some (.slice none 0 0)/\wE.frozen? ⟨w.heap.size+1+1,1,none⟩=false /\
  ∃ x:Mkv,(Instr.loadAt 50 (.pointer (some ⟨w.heap.size+1+1,0,none⟩))).run Tryz.prog (wE.setCell ⟨w.heap.size+1+1,1,none⟩ (.slice pm (a.toks.length+1) cm)) = .ok x.v (wE.setCell ⟨w.heap.size+1+1,1,none⟩ (.slice pm (a.toks.length+1) cm))/\(Instr.storeAt 50 (.pointer (some ⟨w.heap.size+1,0,none⟩)) x.v).run Tryz.prog (wE.setCell ⟨w.heap.size+1+1,1,none⟩ (.slice pm (a.toks.length+1) cm)) = .ok () ((wE.setCell ⟨w.heap.size+1+1,1,none⟩ (.slice pm (a.toks.length+1) cm)).setRow (w.heap.size+1) x.cs.toArray) /\
   (wE.setCell ⟨w.heap.size+1+1,1,none⟩ (.slice pm (a.toks.length+1) cm)).heap[w.heap.size+1]?=some zMk/\MkOk ((wE.setCell ⟨w.heap.size+1+1,1,none⟩ (.slice pm (a.toks.length+1) cm)).setRow (w.heap.size+1) x.cs.toArray) (fun g=>(B<=g/\g<E)\/(w.heap.size<=g/\g<((wE.setCell ⟨w.heap.size+1+1,1,none⟩ (.slice pm (a.toks.length+1) cm)).setRow (w.heap.size+1) x.cs.toArray).heap.size)) x/\Fr B E w ((wE.setCell ⟨w.heap.size+1+1,1,none⟩ (.slice pm (a.toks.length+1) cm)).setRow (w.heap.size+1) x.cs.toArray)/\x.n=ks.length/\x.m=m:=by
 rw[c.len]
 have hln:=c.ln
 have hcE:=c.eW
 have hbW:=c.bW
 have hmm:=c.mm
 obtain⟨e1a,e1b⟩:=h.e1
 obtain⟨xs,t1,t2⟩:=h.tk
 obtain⟨vM,wE,a1,⟨a2,a3,a4,a5⟩,a6⟩:=ap_genQ (W:=W) Tryz.underlying28 J.infoTkK (by kernel_rfl) (by decide) t1 (mTk m) rfl (by simp[Value.oneCell']) (by omega) (by omega) (by have:=h.fr.bl.size;omega)
 obtain⟨gM,cM,rfl⟩:=own_slic a2 (by omega)
 have hga:∀ j,(Value.slice pa ks.length ca).ownBlock=some j->pa=some ⟨j,0,none⟩/\B<=j/\j<E:=fun j hj=>⟨own_ptr t1 hj,(t1.lt j hj).1,c.pE j 0 (own_ptr t1 hj)⟩
 have hs:=a3.size
 have hE:∀ j,E<=j->j<W.heap.size->wE.heap[j]?=W.heap[j]?:=fun j h1 h2=>a4 j h2 fun e=>by have:=hga j e;omega
 have hxb:=(hE (w.heap.size+1+1) (by omega) (by omega)).trans h.xb
 rw[c.len] at hxb
 have hx2:(wE.setCell ⟨w.heap.size+1+1,1,none⟩ (.slice (some ⟨gM,0,none⟩) (ks.length+1) cM)).heap[w.heap.size+1+1]?=some (Mkv.o ⟨pa,ks.length,ca,some ⟨gM,0,none⟩,cM,pC,cC,pl,cl,m⟩):=by
  rw[set_at hxb]
  rfl
 have hrb:(wE.setCell ⟨w.heap.size+1+1,1,none⟩ (.slice (some ⟨gM,0,none⟩) (ks.length+1) cM)).heap[w.heap.size+1]?=some zMk:=(set_off (by omega)).trans ((hE _ (by omega) (by omega)).trans h.rb)
 have hsz:((wE.setCell ⟨w.heap.size+1+1,1,none⟩ (.slice (some ⟨gM,0,none⟩) (ks.length+1) cM)).setRow (w.heap.size+1) (Mkv.cs ⟨pa,ks.length,ca,some ⟨gM,0,none⟩,cM,pC,cC,pl,cl,m⟩).toArray).heap.size=wE.heap.size:=by rw[size_setRow];simp[World.setCell]
 have hF:∀ j,j≠w.heap.size+1->j≠w.heap.size+1+1->((wE.setCell ⟨w.heap.size+1+1,1,none⟩ (.slice (some ⟨gM,0,none⟩) (ks.length+1) cM)).setRow (w.heap.size+1) (Mkv.cs ⟨pa,ks.length,ca,some ⟨gM,0,none⟩,cM,pC,cC,pl,cl,m⟩).toArray).heap[j]?=wE.heap[j]?:=fun j h1 h2=>(setRow_other _ _ _ _ h1).trans (set_off h2)
 refine⟨some ⟨gM,0,none⟩,cM,wE,a1,cell_at hxb 1,frz_at hxb,⟨pa,ks.length,ca,some ⟨gM,0,none⟩,cM,pC,cC,pl,cl,m⟩,mk_ld _ hx2,mk_st hrb rfl _,hrb,?_,?_,rfl,rfl⟩
 ·refine⟨fun i hi=>?_,fun i hi=>?_,fun i hi=>?_,by show ks.length<=_;omega,hmm⟩
  ·replace hi:i<ks.length:=hi
   obtain⟨ga,ca',ea⟩:=own_slic t1 (by omega)
   injection ea with ea _ _
   obtain⟨-,g1,g2⟩:=hga ga (by rw[ea];rfl)
   refine⟨ga,ea,.inl ⟨g1,g2⟩,?_⟩
   rw[cell_blk (hF ga (by omega) (by omega))]
   rcases a6 with a6|a6
   ·rw[ea] at a6
    simp only[Value.ownBlock,Option.some.injEq] at a6
    rw[a6] at a2
    refine ownCl a2 ?_
    rw[List.getElem?_append_left (by rw[t1.1];show i*21+2<_;replace hi:i<ks.length:=hi;omega)]
    exact t2 i hi
   ·rw[cell_blk (a6 ga (by omega))]
    rw[ea] at t1
    exact ownCl t1 (t2 i hi)
  ·replace hi:i<ks.length+1:=hi
   have hgl:=a2.lt gM rfl
   have hgM:(B<=gM/\gM<E)\/W.heap.size<=gM:=by
    rcases a5 gM rfl with e|e
    ·exact .inl (hga gM e).2
    ·exact .inr e
   refine⟨gM,rfl,?_,?_⟩
   ·rcases hgM with e|e
    ·exact .inl e
    ·exact .inr ⟨by omega,by rw[hsz];exact hgl.2⟩
   ·rw[cell_blk (hF gM (by omega) (by omega))]
    refine ownCl a2 ?_
    by_cases e:i<ks.length
    ·rw[List.getElem?_append_left (by rw[t1.1];omega)]
     exact t2 i e
    ·rw[List.getElem?_append_right (by rw[t1.1];omega),t1.1,show i*21+2-ks.length*21=2 by omega]
     rfl
  ·replace hi:i<ks.length:=hi
   have hx:ks[i]?=some ks[i]:=List.getElem?_eq_getElem hi
   have hm:=List.mem_of_getElem? hx
   obtain⟨p',c',d1,d2,d3⟩:=h.done i _ hx hi
   obtain⟨gC,cC',eC⟩:=own_slic h.co (by omega)
   obtain⟨gL,cL',eL⟩:=own_slic h.lo (by omega)
   injection eC with eC _ _
   injection eL with eL _ _
   subst eC eL
   have hgC:=h.cE gC rfl
   have hgC':=(h.co.lt gC rfl).1
   have hgL:=h.lo.lt gL rfl
   have key:∀ g,g<W.heap.size->E<=g->g≠w.heap.size+1->g≠w.heap.size+1+1->((wE.setCell ⟨w.heap.size+1+1,1,none⟩ (.slice (some ⟨gM,0,none⟩) (ks.length+1) cM)).setRow (w.heap.size+1) (Mkv.cs ⟨pa,ks.length,ca,some ⟨gM,0,none⟩,cM,some ⟨gC,0,none⟩,cC,some ⟨gL,0,none⟩,cl,m⟩).toArray).heap[g]?=W.heap[g]?:=fun g h1 h2 h3 h4=>(hF g h3 h4).trans (hE g h2 h1)
   have hk2:∀ g,S2 ks[i].p E1 (.slice (some ⟨gL,0,none⟩) ks.length cl) W g->((wE.setCell ⟨w.heap.size+1+1,1,none⟩ (.slice (some ⟨gM,0,none⟩) (ks.length+1) cM)).setRow (w.heap.size+1) (Mkv.cs ⟨pa,ks.length,ca,some ⟨gM,0,none⟩,cM,some ⟨gC,0,none⟩,cC,some ⟨gL,0,none⟩,cl,m⟩).toArray).heap[g]?=W.heap[g]?/\((B<=g/\g<E)\/(w.heap.size<=g/\g<((wE.setCell ⟨w.heap.size+1+1,1,none⟩ (.slice (some ⟨gM,0,none⟩) (ks.length+1) cM)).setRow (w.heap.size+1) (Mkv.cs ⟨pa,ks.length,ca,some ⟨gM,0,none⟩,cM,some ⟨gC,0,none⟩,cC,some ⟨gL,0,none⟩,cl,m⟩).toArray).heap.size)):=fun g hg=>by
    rcases hg with ep|⟨h1,h2,h3⟩
    ·have hgE:=c.wE _ hm g 0 ep
     obtain⟨u1,u2,u3⟩:=(c.kt.u _ hm).2.2 g 0 ep
     exact⟨(hF g (by omega) (by omega)).trans (a4 g (by omega) u3),.inl ⟨u1,hgE⟩⟩
    ·exact⟨key g h2 (by omega) (by omega) (by omega),.inr ⟨by omega,by rw[hsz];omega⟩⟩
   refine⟨gC,gL,ks[i].p,ks[i].t.cst.length,ks[i].c,p',c',rfl,.inr ⟨by omega,by rw[hsz];omega⟩,rfl,.inr ⟨by omega,by rw[hsz];omega⟩,?_,?_,by have:=c.cs _ hm;omega,d2.keep fun g _ hg=>hk2 g hg,d3.keep fun g _ hg=>hk2 g hg⟩
   ·rw[cell_blk (key gC (by omega) (by omega) (by omega) (by omega))]
    exact ownCl h.co (by rw[List.getElem?_map,hx];rfl)
   ·rw[cell_blk (key gL hgL.2 (by omega) (by omega) (by omega))]
    exact ownCl h.lo d1
 ·have F1:Fr B E w wE:=h.fr.one hs a3.os a3.tape a3.output (fun j hj hj'=>a4 j hj fun e=>by have:=hga j e;omega) hbW
  have F2:=F1.set (g:=w.heap.size+1+1) (o:=1) (u:=.slice (some ⟨gM,0,none⟩) (ks.length+1) cM) (by omega) (.inr (by omega)) hbW
  exact F2.one (by rw[size_setRow];exact Nat.le_refl _) rfl rfl rfl (fun j hj hj'=>setRow_other _ _ _ _ (by omega)) hbW
end
end Go.Proofs.YtcgimchhcaankaaGreatDoor
