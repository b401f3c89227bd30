import Derived.Test.YtcgimchhcaankaaGreatDoorK35
namespace Go.Proofs.YtcgimchhcaankaaGreatDoor
set_option maxRecDepth 1000000
set_option maxHeartbeats 16000000
open Go.ChangeShapes Go.WideShapes Go.ChangeAt Go.RowKit Go.Shelf Go.Maps
theorem kepF_cs {l:List Tk} (hl:∀ t∈l,t.cst.length*8<=140737488351232) (C:List Nat) (v:Int):∀ n,∀ t∈kepF l C v n,t.cst.length*8<=140737488351232
 | 0,t,h=>by cases h
 | n+1,t,h=>by
  rw[kepF] at h
  rcases List.mem_append.1 h with h|h
  ·exact kepF_cs hl C v n t h
  ·cases ht:l[n]? with
   | none=>rw[ht] at h;cases h
   | some u =>
    rw[ht] at h
    simp only at h
    split at h
    ·obtain rfl:=List.mem_singleton.1 h
     exact hl u (List.mem_of_getElem? ht)
    ·cases h
theorem ap_genN {W:World} {base:Nat} {t e:TypeId} {z:Value} {size bytes n:Nat} {v:Value} {xs:List Value} (ht:Tryz.prog.underlying t=some (.slice e)) (hi:(Tryz.prog.info? e).map (fun i=>(i.zero,i.size,i.bytes))=some (some z,size,bytes)) (hz:z.cells.size=size) (hsz:0<size)
  (own:W.ownsRow base e size v n xs) (k:Nat) (cs:List Value) (hcs:cs.length=k*size) (h1:∀ u∈cs,u.oneCell'=true) (hn:(n+k)*bytes<=140737488355328) (hn':n+k<=140737488355328) (hbase:base<=W.heap.size) :
  ∃ v' w',(∀ ty,(Builtin.append_ #[t,t] ty #[v,.slice (some ⟨W.heap.size,0,none⟩) k k]).run Tryz.prog (W.alloc (.cells cs.toArray e)) = .ok v' w')/\(w'.ownsRow base e size v' (n+k) (xs++cs)/\Below base W w'/\(∀ j,j<W.heap.size->v.ownBlock≠some j->w'.heap[j]?=W.heap[j]?)/\∀ k,v'.ownBlock=some k->v.ownBlock=some k\/W.heap.size<=k):=by
 obtain⟨i0,hi0,hz0⟩:=Option.map_eq_some_iff.1 hi
 simp only[Prod.mk.injEq] at hz0
 have hB:=nbel W (.cells cs.toArray e)
 have hO:=own_keep own hB
 have hN:∀ (j:Nat) (u:Value),cs[j]?=some u->(W.alloc (.cells cs.toArray e)).cell? ((⟨W.heap.size,0,none⟩:Addr).add j)=some u:=World.news_of_block (thnK W _)
 have hs:(W.alloc (.cells cs.toArray e)).heap.size=W.heap.size+1:=World.size_alloc _ _
 have hr:=run_append_own_at (P:=Tryz.prog) (W.alloc (.cells cs.toArray e)) base t 0 e i0 z size bytes ht hi0 hz0.1 hz0.2.1 hz0.2.2 hz hsz v n xs hO ⟨W.heap.size,0,none⟩ k k cs hcs hN h1 (by simp only[maxLen];omega) hn (by omega)
 obtain⟨v',w',q1,q2,q3,_,q5⟩:=hr
 refine⟨v',w',fun _=>q1,q2,grown_below hB q3 hbase (fun j hj=>(own.lt j hj).1),fun j hj hn=>(q3.block j (by omega) (fun e=>hn e.symm)).trans (hB.block j hj),fun k hk=>?_⟩
 rcases q5 with q5|q5
 ·exact .inl (by rw[<- q5];exact hk)
 ·rw[q5] at hk
  cases hk
  exact .inr (by omega)
theorem infoMkK:(Tryz.prog.info? 50).map (fun i=>(i.zero,i.size,i.bytes))=some (some (.agg #[.slice none 0 0,.slice none 0 0,.slice none 0 0,.slice none 0 0,.int .i64 0]),5,104):=by kernel_rfl
structure Kp (b:Nat) (vk:Value) (L:List Mkv) (W:World):Prop where
 row:W.ownsRow b 50 5 vk L.length (L.flatMap Mkv.cs)
 ok:∀ x∈L,MkOk W (fun g=>b<=g/\g<W.heap.size/\vk.ownBlock≠some g) x
theorem Kp.nil (b:Nat) (W:World):Kp b (.slice none 0 0) [] W:=⟨World.ownsRow_nil _ _ _ 5,fun x hx=>by cases hx⟩
structure Ow (f:Fm) (pp:Option Addr) (cp:Nat) (v:Int) (pg:Option Addr) (cg:Nat) (ks:List Ktp) (Z gb wb gw cap:Nat) (ps:List J.TkP) (w:World) (W:World):Prop where
 fb:W.heap[w.heap.size]?=some (fmO f pp cp)
 tl:TkL W pp W.heap.size f.toks
 gh:W.heap[gb]?=some (fmO (atF f v) pg cg)
 gt:KtR W Z (.slice pg ks.length cg) ks
 wh:W.heap[wb]?=some (fmO (atF f v) (some ⟨gw,0,none⟩) cap)
 co:J.Cop W Z gw cap ps
 bl:Below w.heap.size w W
 zz:w.heap.size<Z/\Z<=gb/\Z<=wb
structure OwC (f:Fm) (v:Int) (w:World) (ks:List Ktp) (ps:List J.TkP):Prop where
 kt:KT w
 mt:MT w
 lm:f.toks.length*192<=140737488351232
 cm:∀ t∈f.toks,t.cst.length*8<=140737488351232
 z:chkZ f=none
 hv:fstV f<=v/\v<=f.ver
 hks:ks.map Ktp.t=(atF f v).toks
 hps:ps.map J.TkP.t=(atF f v).toks
section
variable {f:Fm} {pp:Option Addr} {cp:Nat} {v:Int} {pg:Option Addr} {cg:Nat} {ks:List Ktp} {Z gb wb gw cap:Nat} {ps:List J.TkP} {w:World} {W W':World}
theorem Ow.below (h:Ow f pp cp v pg cg ks Z gb wb gw cap ps w W) (hb:Below W.heap.size W W'):Ow f pp cp v pg cg ks Z gb wb gw cap ps w W' :=
 ⟨(hb.block _ (Array.getElem?_eq_some_iff.1 h.fb).1).trans h.fb,(h.tl.below hb).mono hb.size,(hb.block _ (Array.getElem?_eq_some_iff.1 h.gh).1).trans h.gh,h.gt.below hb,(hb.block _ (Array.getElem?_eq_some_iff.1 h.wh).1).trans h.wh,h.co.below hb,h.bl.trans (hb.mono h.bl.size),h.zz⟩
theorem Ow.ldF (h:Ow f pp cp v pg cg ks Z gb wb gw cap ps w W):(Instr.loadAt 30 (.pointer (some ⟨w.heap.size,0,none⟩))).run Tryz.prog W = .ok (fmV f pp cp) W:=(J.fm_of h.fb).load
theorem Ow.ldW (h:Ow f pp cp v pg cg ks Z gb wb gw cap ps w W):(Instr.loadAt 30 (.pointer (some ⟨wb,0,none⟩))).run Tryz.prog W = .ok (fmV (atF f v) (some ⟨gw,0,none⟩) cap) W:=(J.fm_of h.wh).load
theorem at_ok (hz:chkZ f=none) (hv:fstV f<=v/\v<=f.ver):atE f v=0/\atG f v=atF f v:=by
 have h:atE f v=0:=by unfold atE;rw[if_pos hz,if_pos hv]
 exact⟨h,by unfold atG;rw[if_pos h]⟩
theorem atF_sm (lm:f.toks.length*192<=140737488351232):(atF f v).toks.length*192<=140737488351232:=by
 have h1:=new_len (f:=f) (v:=v)
 have h2:=rnk_le (camZ f) v f.toks.length
 omega
theorem atF_oks (hl:∀ t∈f.toks,TkOk t) (lm:f.toks.length*192<=140737488351232):∀ t∈(atF f v).toks,TkOk t:=kepF_ok hl _ v (by rw[camZ_length];omega) _
theorem OwC.tk (c:OwC f v w ks ps) (h:Ow f pp cp v pg cg ks Z gb wb gw cap ps w W):TkL W (some ⟨gw,0,none⟩) W.heap.size (atF f v).toks:=⟨by rw[<- c.hps];exact h.co.trow,by have:=atF_sm (v:=v) c.lm;omega,atF_oks h.tl.ok c.lm⟩
theorem Ow.pck (h:Ow f pp cp v pg cg ks Z gb wb gw cap ps w W) (c:OwC f v w ks ps):PCk W f pp cp:=pCk_of _ _ _ _ h.tl (c.kt.up h.bl) (c.mt.below c.mt.pos h.bl)
theorem Ow.at (h:Ow f pp cp v pg cg ks Z gb wb gw cap ps w W) (c:OwC f v w ks ps):Calls Tryz.prog 7 #[fmV f pp cp,.int .i64 v] W fun e w1=>∃ pa ca ls,e = .returned (.tuple #[fmV (atF f v) pa ca,.int .i64 0])/\ls.map Ktp.t=(atF f v).toks/\KtR w1 W.heap.size (.slice pa ls.length ca) ls/\Below W.heap.size W w1:=by
 have hA:=pAt_any (h.pck c) h.tl c.lm v
 obtain⟨e1,e2⟩:=at_ok c.z c.hv
 rw[e1,e2] at hA
 exact hA
theorem m0_of (c:OwC f v w ks ps) {W1 V:World} {pa:Option Addr} {ca:Nat} {ls:List Ktp} {B m:Nat} (hl:ls.map Ktp.t=(atF f v).toks) (hk:KtR W1 B (.slice pa ls.length ca) ls) (hV:KtR V B (.slice pa ls.length ca) ls) (hs:W1.heap.size<=V.heap.size) (hB:B<=V.heap.size) (hm:m<=100):M0 V (atF f v) pa ca B W1.heap.size m ls:=by
 have hln:ls.length=(atF f v).toks.length:=by rw[<- hl,List.length_map]
 refine⟨hV,hl,fun g o e=>?_,fun x hx g o e=>((hk.u x hx).2.2 g o e).2.1,hs,hB,by rw[hln];exact atF_sm c.lm,fun x hx=>?_,hm,?_⟩
 ·have:=hk.row.lt g (by rw[e];rfl)
  exact this.2
 ·refine kepF_cs c.cm (camZ f) v f.toks.length x.t ?_
  show x.t∈(atF f v).toks
  rw[<- hl]
  exact List.mem_map_of_mem hx
 ·obtain⟨t0,ht0,-⟩:=first_msg (atF_valid c.z c.hv)
  rw[hln]
  exact(List.getElem?_eq_some_iff.1 ht0).1
theorem round_any (h3:Ow f pp cp v pg cg ks Z gb wb gw cap ps w W) (c:OwC f v w ks ps) {wr:World} (hb:Below W.heap.size W wr) {vk:Value} {L:List Mkv} (hk:Kp W.heap.size vk L wr) (hL:L.length<=100) {r:Nat} (hr:r<=3) {A1 A2:Int} (hA1:A1=((2*r:Nat):Int)) (hA2:A2=((2*r+1:Nat):Int)) :
  Calls Tryz.prog 7 #[fmV f pp cp,.int .i64 v] wr fun e w1=>∃ pa ca W1,e = .returned (.tuple #[fmV (atF f v) pa ca,.int .i64 0])/\(∀ z:Array Value,z.size=13->(Instr.storeAt 30 (.pointer (some ⟨w1.heap.size,0,none⟩)) (fmV (atF f v) pa ca)).run Tryz.prog (w1.alloc (.cells z 30)) = .ok () W1)/\(Instr.loadAt 30 (.pointer (some ⟨w.heap.size,0,none⟩))).run Tryz.prog W1 = .ok (fmV f pp cp) W1 /\
  Calls Tryz.prog 7 #[fmV f pp cp,.int .i64 v] W1 fun e w2=>∃ pb cb W2,e = .returned (.tuple #[fmV (atF f v) pb cb,.int .i64 0])/\(∀ z:Array Value,z.size=13->(Instr.storeAt 30 (.pointer (some ⟨w2.heap.size,0,none⟩)) (fmV (atF f v) pb cb)).run Tryz.prog (w2.alloc (.cells z 30)) = .ok () W2)/\(Instr.loadAt 30 (.pointer (some ⟨w1.heap.size,0,none⟩))).run Tryz.prog W2 = .ok (fmV (atF f v) pa ca) W2/\(Instr.loadAt 30 (.pointer (some ⟨wb,0,none⟩))).run Tryz.prog W2 = .ok (fmV (atF f v) (some ⟨gw,0,none⟩) cap) W2 /\
  Calls Tryz.prog 9 #[fmV (atF f v) pa ca,fmV (atF f v) (some ⟨gw,0,none⟩) cap] W2 fun e w3=>e = .returned (.bool true)/\(Instr.loadAt 30 (.pointer (some ⟨w2.heap.size,0,none⟩))).run Tryz.prog w3 = .ok (fmV (atF f v) pb cb) w3/\(Instr.loadAt 30 (.pointer (some ⟨wb,0,none⟩))).run Tryz.prog w3 = .ok (fmV (atF f v) (some ⟨gw,0,none⟩) cap) w3 /\
  Calls Tryz.prog 9 #[fmV (atF f v) pb cb,fmV (atF f v) (some ⟨gw,0,none⟩) cap] w3 fun e w4=>e = .returned (.bool true)/\(Instr.loadAt 30 (.pointer (some ⟨w1.heap.size,0,none⟩))).run Tryz.prog w4 = .ok (fmV (atF f v) pa ca) w4 /\
  Calls Tryz.prog 10 #[fmV (atF f v) pa ca,.int .i64 A1] w4 fun e w5=>∃ x W5,e = .returned x.v/\(∀ z:Array Value,z.size=5->(Instr.storeAt 50 (.pointer (some ⟨w5.heap.size,0,none⟩)) x.v).run Tryz.prog (w5.alloc (.cells z 50)) = .ok () W5)/\(Instr.loadAt 30 (.pointer (some ⟨w2.heap.size,0,none⟩))).run Tryz.prog W5 = .ok (fmV (atF f v) pb cb) W5 /\
  Calls Tryz.prog 10 #[fmV (atF f v) pb cb,.int .i64 A2] W5 fun e w6=>∃ y W6,e = .returned y.v/\(∀ z:Array Value,z.size=5->(Instr.storeAt 50 (.pointer (some ⟨w6.heap.size,0,none⟩)) y.v).run Tryz.prog (w6.alloc (.cells z 50)) = .ok () W6)/\(Instr.loadAt 50 (.pointer (some ⟨w5.heap.size,0,none⟩))).run Tryz.prog W6 = .ok x.v W6/\(Instr.loadAt 50 (.pointer (some ⟨w6.heap.size,0,none⟩))).run Tryz.prog W6 = .ok y.v W6 /\
  ∃ v7 w7,(∀ ty,(Builtin.append_ #[46,46] ty #[vk,.slice (some ⟨W6.heap.size,0,none⟩) 2 2]).run Tryz.prog (W6.alloc (.cells (x.cs++y.cs).toArray 50)) = .ok v7 w7)/\((∃ p7 c7,v7 = .slice p7 (L.length+2) c7)/\Hid (Below W.heap.size W w7/\Kp W.heap.size v7 (L++[x,y]) w7)):=by
 subst hA1 hA2
 have q0:=h3.below hb
 have hs0:=hb.size
 refine(q0.at c).mono fun e w1 hP=>?_
 obtain⟨pa,ca,la,rfl,l1,k1,b1⟩:=hP
 have hs1:=b1.size
 have b1':=bel1 w1 (fmO (atF f v) pa ca)
 have ha1:=heap_al w1 (fmO (atF f v) pa ca)
 have z1:(w1.alloc (fmO (atF f v) pa ca)).heap.size=w1.heap.size+1:=World.size_alloc _ _
 refine⟨pa,ca,_,rfl,fun z hz=>J.st_newF w1 z hz (atF f v) pa ca,?_⟩
 generalize w1.alloc (fmO (atF f v) pa ca)=W1 at b1' ha1 z1
 have B1:=b1.trans (b1'.mono hs1)
 have q1:=q0.below B1
 refine⟨q1.ldF,(q1.at c).mono fun e w2 hP=>?_⟩
 obtain⟨pb,cb,lb,rfl,l2,k2,b2⟩:=hP
 have hs2:=b2.size
 have b2':=bel1 w2 (fmO (atF f v) pb cb)
 have ha2:=heap_al w2 (fmO (atF f v) pb cb)
 have z2:(w2.alloc (fmO (atF f v) pb cb)).heap.size=w2.heap.size+1:=World.size_alloc _ _
 refine⟨pb,cb,_,rfl,fun z hz=>J.st_newF w2 z hz (atF f v) pb cb,?_⟩
 generalize w2.alloc (fmO (atF f v) pb cb)=W2 at b2' ha2 z2
 have B2:=b2.trans (b2'.mono hs2)
 have q2:=q1.below B2
 have ha12:=(B2.block w1.heap.size (by omega)).trans ha1
 have ka:KtR W2 wr.heap.size (.slice pa la.length ca) la:=(k1.below b1').below B2
 have kb:KtR W2 W1.heap.size (.slice pb lb.length cb) lb:=k2.below b2'
 have oks:=atF_oks (v:=v) q2.tl.ok c.lm
 have len:(atF f v).toks.length*192<=140737488355328:=by have:=atF_sm (v:=v) c.lm;omega
 have ta:TkL W2 pa W2.heap.size (atF f v).toks:=⟨by rw[<- l1];exact ka.trow,len,oks⟩
 have tb:TkL W2 pb W2.heap.size (atF f v).toks:=⟨by rw[<- l2];exact kb.trow,len,oks⟩
 refine⟨(J.fm_of ha12).load,q2.ldW,(sameForm13 (atF f v) pa (some ⟨gw,0,none⟩) ca cap W2 ta (c.tk q2)).mono fun e w3 hP=>?_⟩
 obtain⟨rfl,b3⟩:=hP
 have q3:=q2.below b3
 have hs3:=b3.size
 refine⟨rfl,(J.fm_of ((b3.block w2.heap.size (by omega)).trans ha2)).load,q3.ldW,(sameForm13 (atF f v) pb (some ⟨gw,0,none⟩) cb cap w3 ((tb.below b3).mono b3.size) (c.tk q3)).mono fun e w4 hP=>?_⟩
 obtain⟨rfl,b4⟩:=hP
 have q4:=q3.below b4
 have hs4:=b4.size
 have b24:=b3.trans (b4.mono hs3)
 have ha4:=(b24.block w1.heap.size (by omega)).trans ha12
 have hb4:=(b24.block w2.heap.size (by omega)).trans ha2
 have ka4:=ka.below b24
 have kb4:=kb.below b24
 refine⟨rfl,(J.fm_of ha4).load,(marked_any (m0_of (m:=2*r) c l1 k1 ka4 (by omega) (by omega) (by omega))).mono fun e w5 hP=>?_⟩
 obtain⟨x,rfl,x1,x2,-,-⟩:=hP
 have hs5:=x2.bl.size
 have b5':=bel1 w5 x.o
 have hx5:=heap_al w5 x.o
 have z5:(w5.alloc x.o).heap.size=w5.heap.size+1:=World.size_alloc _ _
 refine⟨x,_,rfl,fun z hz=>st_newM w5 z hz _ _ _ _ _ _ _ _ _ _ _ _ _,?_⟩
 generalize w5.alloc x.o=W5 at b5' hx5 z5
 have hb5:=(b5'.block w2.heap.size (by omega)).trans ((x2.fr w2.heap.size (by omega) (by omega)).trans hb4)
 have kb5:KtR W5 W1.heap.size (.slice pb lb.length cb) lb:=(kb4.keep hs5 fun k h1 h2 _=>x2.fr k (by omega) h2).below b5'
 refine⟨(J.fm_of hb5).load,(marked_any (m0_of (m:=2*r+1) c l2 k2 kb5 (by omega) (by omega) (by omega))).mono fun e w6 hP=>?_⟩
 obtain⟨y,rfl,y1,y2,-,-⟩:=hP
 have hs6:=y2.bl.size
 have b6':=bel1 w6 y.o
 have hy6:=heap_al w6 y.o
 have z6:(w6.alloc y.o).heap.size=w6.heap.size+1:=World.size_alloc _ _
 refine⟨y,_,rfl,fun z hz=>st_newM w6 z hz _ _ _ _ _ _ _ _ _ _ _ _ _,?_⟩
 generalize w6.alloc y.o=W6 at b6' hy6 z6
 have hx6:=(b6'.block w5.heap.size (by omega)).trans ((y2.fr w5.heap.size (by omega) (by omega)).trans hx5)
 have x6:MkOk W6 (fun g=>(wr.heap.size<=g/\g<w1.heap.size)\/(w4.heap.size<=g/\g<w5.heap.size)) x:=x1.keep fun g hg=>⟨(b6'.block g (by omega)).trans ((y2.blk (by omega) (by omega)).trans (b5'.block g (by omega))),hg⟩
 have y6:MkOk W6 (fun g=>(W1.heap.size<=g/\g<w2.heap.size)\/(W5.heap.size<=g/\g<w6.heap.size)) y:=y1.keep fun g hg=>⟨b6'.block g (by omega),hg⟩
 have Br:Below wr.heap.size wr W6:=(B1.trans ((B2.trans (b24.mono (by omega))).mono (by omega))).trans ((x2.bl.trans ((b5'.mono (by omega)))).trans ((y2.bl.mono (by omega)).trans (b6'.mono (by omega))))
 have hk6:W6.ownsRow W.heap.size 50 5 vk L.length (L.flatMap Mkv.cs):=own_stay hk.row fun g hg=>Br.block g (hk.row.lt g hg).2
 have hs6':=Br.size
 obtain⟨v7,w7,a1,a2,a3,a4,a5⟩:=ap_genN (W:=W6) Tryz.underlying46 infoMkK rfl (by decide) hk6 2 (x.cs++y.cs) rfl (by
  intro u hu
  simp only[Mkv.cs,List.mem_append,List.mem_cons,List.not_mem_nil,or_false] at hu
  rcases hu with (rfl|rfl|rfl|rfl|rfl)|(rfl|rfl|rfl|rfl|rfl)<;>rfl) (by omega) (by omega) (by omega)
 refine⟨mk_ld x hx6,mk_ld y hy6,v7,w7,a1,?_,⟨(hb.trans (Br.mono hs0)).trans a3,?_,fun u hu=>?_⟩⟩
 ·obtain⟨g,cc,e⟩:=own_slic a2 (by omega)
  exact⟨_,_,e⟩
 ·rw[List.length_append,List.flatMap_append]
  simpa using a2
 ·have hs7:=a3.size
  have hvk:=fun g (e:vk.ownBlock=some g)=>hk.row.lt g e
  have hnew:∀ g,g<W6.heap.size->vk.ownBlock≠some g->v7.ownBlock≠some g:=fun g h1 h2 e=>by
   rcases a5 g e with e|e
   ·exact h2 e
   ·omega
  rcases List.mem_append.1 hu with hu|hu
  ·refine(hk.ok u hu).keep fun g hg=>?_
   obtain⟨g1,g2,g3⟩:=hg
   exact⟨(a4 g (by omega) g3).trans (Br.block g g2),g1,by omega,hnew g (by omega) g3⟩
  ·simp only[List.mem_cons,List.not_mem_nil,or_false] at hu
   rcases hu with rfl|rfl
   ·refine x6.keep fun g hg=>?_
    have g3:vk.ownBlock≠some g:=fun e=>by have:=hvk g e;omega
    exact⟨a4 g (by omega) g3,by omega,by omega,hnew g (by omega) g3⟩
   ·refine y6.keep fun g hg=>?_
    have g3:vk.ownBlock≠some g:=fun e=>by have:=hvk g e;omega
    exact⟨a4 g (by omega) g3,by omega,by omega,hnew g (by omega) g3⟩
end
theorem infoHdP:(Tryz.prog.info? 27).map (·.size)=some 9:=by kernel_rfl
abbrev smT (op:Int) (nm:List UInt8) (id off siz since prim len pres nul hi blk full pair:Int):Tk:=⟨op,⟨nm.toArray⟩,id,off,siz,since,prim,len,pres,nul,0,hi,[],0,blk,full,⟨0,0⟩,⟨0,0⟩,pair⟩
def smF:Fm:=⟨0,7,1,8,⟨6,0⟩,⟨6,2⟩,⟨6,4⟩,⟨6,6⟩,[
 smT 0 [77] 3 0 0 0 0 0 0 0 0 6 6 7,
 smT 2 [97] 1 0 4 0 0 0 0 0 0 0 0 3,
 smT 14 [117,105,110,116,51,50] 0 0 4 0 7 1 0 4294967295 4294967294 0 0 2,
 smT 3 [97] 0 0 0 0 0 0 0 0 0 0 0 1,
 smT 2 [98] 2 4 2 1 0 0 1 0 0 0 0 6,
 smT 14 [117,105,110,116,49,54] 0 0 2 0 6 1 0 65535 65534 0 0 5,
 smT 3 [98] 0 0 0 0 0 0 0 0 0 0 0 4,
 smT 1 [77] 0 0 0 0 0 0 0 0 0 0 0 0]⟩
theorem sm_at:(atE smF 0=0)/\(atF smF 0).ver=0/\(atF smF 0).toks.length=5/\((atF smF 0).toks[0]?).map (fun t=>(t.blk,t.full))=some (4,6):=by
 refine⟨?_,rfl,?_,?_⟩<;>kernel_rfl
theorem sm_liv:livB smF 4 1=true/\livB smF 4 0=false:=by constructor<;>kernel_rfl
theorem wpList_bs {P:Program} {w w':World} {ops:Array Oper} {rest:List Oper} {a:Act} {Q:Exit->Act->World->Prop} {d:Option Tmp} {ty:TypeId} {ps:String} {af:Array Edge} {t:TypeId} {n:Nat} {xs:Array (Nat×Operand)} {ys:Array (Nat×Value)} {v:Value} (hr:(Instr.buildSlice t n ys).run P w = .ok v w') (hx:(xs.map fun (i,x)=>(i,a.eval x))=ys)
  (h:wpList P ops Q rest (a.put d v) w'):wpList P ops Q (⟨d,.buildSlice t n xs,ty,ps,af,none⟩::rest) a w:=by
 refine wpList_plain rfl fun _ hK=>?_
 unfold Oper.wp execOp
 simp only[hx,hr,Sem.run_bind,Result.andThen_ok]
 exact hK _ _ h
def sm0:Tk:=smT 0 [77] 3 0 0 0 0 0 0 0 0 6 6 7
def sm1:Tk:=smT 2 [97] 1 0 4 0 0 0 0 0 0 0 0 3
def sm2:Tk:=smT 14 [117,105,110,116,51,50] 0 0 4 0 7 1 0 4294967295 4294967294 0 0 2
def sm3:Tk:=smT 3 [97] 0 0 0 0 0 0 0 0 0 0 0 1
def sm4:Tk:=smT 2 [98] 2 4 2 1 0 0 1 0 0 0 0 6
def sm5:Tk:=smT 14 [117,105,110,116,49,54] 0 0 2 0 6 1 0 65535 65534 0 0 5
def sm6:Tk:=smT 3 [98] 0 0 0 0 0 0 0 0 0 0 0 4
def sm7:Tk:=smT 1 [77] 0 0 0 0 0 0 0 0 0 0 0 0
def tkCs:List Tk->List Value
 | []=>[]
 | t::r=>tkC t none 0++tkCs r
theorem sm_bs (W:World):(Instr.buildSlice 28 8 #[(0,tkV sm0 none 0),(1,tkV sm1 none 0),(2,tkV sm2 none 0),(3,tkV sm3 none 0),(4,tkV sm4 none 0),(5,tkV sm5 none 0),(6,tkV sm6 none 0),(7,tkV sm7 none 0)]).run Tryz.prog W = .ok (.slice (some ⟨W.heap.size,0,none⟩) 8 8) (W.alloc (.cells (tkCs smF.toks).toArray 40)):=by kernel_rfl
theorem tkCs_get:∀ (l:List Tk) (i:Nat) (t:Tk),l[i]?=some t->∀ j,j<21->(tkCs l)[i*21+j]?=(tkC t none 0)[j]?
 | [],_,_,h,_,_=>by cases h
 | a::r,0,t,h,j,hj=>by
  cases h
  rw[tkCs,Nat.zero_mul,Nat.zero_add,List.getElem?_append_left (by show j<21;omega)]
 | a::r,i+1,t,h,j,hj=>by
  have ih:=tkCs_get r i t h j hj
  have hl:(tkC a none 0).length=21:=rfl
  rw[tkCs,List.getElem?_append_right (by omega),hl,<- ih]
  congr 1
  omega
theorem tkL_lit {w:World} {g H:Nat} {l:List Tk} (hg:w.heap[g]?=some (.cells (tkCs l).toArray 40)) (hH:g<H) (hl:l.length*192<=140737488355328) (hc:∀ t∈l,t.cst=[]/\TkOk t):TkL w (some ⟨g,0,none⟩) H l :=
 ⟨⟨fun i t ht=>by
  have h0:=(hc t (List.mem_of_getElem? ht)).1
  refine⟨g,0,none,0,rfl,hH,tkC_of fun j u hu=>?_,by rw[h0];exact URow.nil _ _ _,by rw[h0];exact Nat.le_refl _⟩
  rw[Nat.zero_add,cell_at hg,List.getElem?_toArray,tkCs_get l i t ht j (List.getElem?_eq_some_iff.1 hu).1]
  exact hu⟩,hl,fun t ht=>(hc t ht).2⟩
def iB (x:Int):Bool:=decide (-9223372036854775808<=x/\x<=9223372036854775807)
def uB (x:Int):Bool:=decide (0<=x/\x<=18446744073709551615)
def tokB (t:Tk):Bool:=t.cst.isEmpty&&iB t.op&&decide (t.name.size<=281474976710656)&&iB t.id&&iB t.off&&iB t.siz&&iB t.since&&iB t.prim&&iB t.len&&iB t.pres&&uB t.nul&&uB t.lo&&uB t.hi&&uB t.val&&iB t.blk&&iB t.full&&iB t.a.p&&iB t.a.o&&iB t.b.p&&iB t.b.o&&iB t.pair
theorem tokB_ok {t:Tk} (h:tokB t=true):t.cst=[]/\TkOk t:=by
 unfold tokB at h
 simp only[Bool.and_eq_true,List.isEmpty_iff,iB,uB,decide_eq_true_eq] at h
 obtain⟨⟨⟨⟨⟨⟨⟨⟨⟨⟨⟨⟨⟨⟨⟨⟨⟨⟨⟨⟨h0,h1⟩,h2⟩,h3⟩,h4⟩,h5⟩,h6⟩,h7⟩,h8⟩,h9⟩,h10⟩,h11⟩,h12⟩,h13⟩,h14⟩,h15⟩,h16⟩,h17⟩,h18⟩,h19⟩,h20⟩:=h
 exact⟨h0,⟨h1,h2,h3,h4,h5,h6,h7,h8,h9,h10,h11,h12,by rw[h0];decide,by rw[h0];simp,h13,h14,h15,h16,h17,h18,h19,h20⟩⟩
theorem sm_toks:∀ t∈smF.toks,t.cst=[]/\TkOk t:=by
 have h:smF.toks.all tokB=true:=by decide +kernel
 exact fun t ht=>tokB_ok (List.all_eq_true.1 h t ht)
theorem infoSpP:(Tryz.prog.info? 25).map (·.size)=some 2:=by kernel_rfl
theorem small_any (w:World):Calls Tryz.prog 12 #[] w fun r w'=>∃ g,r = .returned (fmV smF (some ⟨g,0,none⟩) 8)/\TkL w' (some ⟨g,0,none⟩) w'.heap.size smF.toks/\Below w.heap.size w w':=by
 have hb0:=bel1 w J.zFo
 have hr0:=heap_al w J.zFo
 have hs0:(w.alloc J.zFo).heap.size=w.heap.size+1:=World.size_alloc _ _
 generalize hW:w.alloc J.zFo=W0 at hb0 hr0 hs0
 simp only[J.zFo] at hW
 obtain⟨W1,s1,t1,b1,z1⟩:∃ W1,(∀ z:Array Value,z.size=21->(Instr.storeAt 40 (.pointer (some ⟨W0.heap.size,0,none⟩)) (tkV sm2 none 0)).run Tryz.prog (W0.alloc (.cells z 40)) = .ok () W1)/\W1.heap[W0.heap.size]?=some (tkO sm2 none 0)/\Below W0.heap.size W0 W1/\W1.heap.size=W0.heap.size+1:=⟨_,fun z hz=>st_new W0 z hz sm2 none 0,heap_al _ _,bel1 _ _,World.size_alloc _ _⟩
 obtain⟨W2,s2,t2,b2,z2⟩:∃ W2,(∀ z:Array Value,z.size=21->(Instr.storeAt 40 (.pointer (some ⟨W1.heap.size,0,none⟩)) (tkV sm5 none 0)).run Tryz.prog (W1.alloc (.cells z 40)) = .ok () W2)/\W2.heap[W1.heap.size]?=some (tkO sm5 none 0)/\Below W1.heap.size W1 W2/\W2.heap.size=W1.heap.size+1:=⟨_,fun z hz=>st_new W1 z hz sm5 none 0,heap_al _ _,bel1 _ _,World.size_alloc _ _⟩
 obtain⟨W3,s3,t3,b3,z3⟩:∃ W3,(∀ z:Array Value,z.size=2->(Instr.storeAt 25 (.pointer (some ⟨W2.heap.size,0,none⟩)) (.agg #[.int .i64 6,.int .i64 0])).run Tryz.prog (W2.alloc (.cells z 25)) = .ok () W3)/\W3.heap[W2.heap.size]?=some (.cells #[.int .i64 6,.int .i64 0] 25)/\Below W2.heap.size W2 W3/\W3.heap.size=W2.heap.size+1:=⟨_,fun z hz=>run_storeAt_new W2 25 z _ infoSpP hz (by kernel_rfl),heap_al _ _,bel1 _ _,World.size_alloc _ _⟩
 obtain⟨W4,s4,t4,b4,z4⟩:∃ W4,(∀ z:Array Value,z.size=9->(Instr.storeAt 27 (.pointer (some ⟨W3.heap.size,0,none⟩)) (.agg #[.int .i64 8,.int .i64 6,.int .i64 0,.int .i64 6,.int .i64 2,.int .i64 6,.int .i64 4,.int .i64 6,.int .i64 6])).run Tryz.prog (W3.alloc (.cells z 27)) = .ok () W4)/\W4.heap[W3.heap.size]?=some (.cells #[.int .i64 8,.int .i64 6,.int .i64 0,.int .i64 6,.int .i64 2,.int .i64 6,.int .i64 4,.int .i64 6,.int .i64 6] 27)/\Below W3.heap.size W3 W4/\W4.heap.size=W3.heap.size+1:=⟨_,fun z hz=>run_storeAt_new W3 27 z _ infoHdP hz (by kernel_rfl),heap_al _ _,bel1 _ _,World.size_alloc _ _⟩
 obtain⟨W5,s5,t5,b5,z5⟩:∃ W5,(Instr.buildSlice 28 8 #[(0,tkV sm0 none 0),(1,tkV sm1 none 0),(2,tkV sm2 none 0),(3,tkV sm3 none 0),(4,tkV sm4 none 0),(5,tkV sm5 none 0),(6,tkV sm6 none 0),(7,tkV sm7 none 0)]).run Tryz.prog W4 = .ok (.slice (some ⟨W4.heap.size,0,none⟩) 8 8) W5/\W5.heap[W4.heap.size]?=some (.cells (tkCs smF.toks).toArray 40)/\Below W4.heap.size W4 W5/\W5.heap.size=W4.heap.size+1:=⟨_,sm_bs W4,heap_al _ _,bel1 _ _,World.size_alloc _ _⟩
 have c34:=b3.trans (b4.mono b3.size)
 have c24:=b2.trans (c34.mono b2.size)
 have l3:Hid _:=⟨(tk_of ((c24.block _ (by omega)).trans t1)).load⟩
 have l5:Hid _:=⟨(tk_of ((c34.block _ (by omega)).trans t2)).load⟩
 have lS:Hid ((Instr.loadAt 25 (.pointer (some ⟨W2.heap.size,0,none⟩))).run Tryz.prog W3 = .ok (.agg #[.int .i64 6,.int .i64 0]) W3):=⟨by
  simp only[Instr.loadAt,Instr.sureAddr,Sem.run_bind,Sem.run_pure,Result.andThen]
  exact run_loadVar_row _ _ _ _ _ _ _ t3 Tryz.underlying25 rfl infoSpP⟩
 have lH:Hid ((Instr.loadAt 27 (.pointer (some ⟨W3.heap.size,0,none⟩))).run Tryz.prog W4 = .ok (.agg #[.int .i64 8,.int .i64 6,.int .i64 0,.int .i64 6,.int .i64 2,.int .i64 6,.int .i64 4,.int .i64 6,.int .i64 6]) W4):=⟨by
  simp only[Instr.loadAt,Instr.sureAddr,Sem.run_bind,Sem.run_pure,Result.andThen]
  exact run_loadVar_row _ _ _ _ _ _ _ t4 Tryz.underlying27 rfl infoHdP⟩
 have c05:Below W0.heap.size W0 W5:=b1.trans ((c24.trans (b5.mono (by omega))).mono (by omega))
 have r5:W5.heap[w.heap.size]?=some J.zFo:=(c05.block _ (by omega)).trans hr0
 have SF:Hid _:=⟨fm_st r5 rfl smF (some ⟨W4.heap.size,0,none⟩) 8⟩
 have R5:Hid _:=⟨r5⟩
 have T5:Hid _:=⟨t5⟩
 have B5:Hid (Below w.heap.size w W5):=⟨hb0.trans (c05.mono (by omega))⟩
 have hne:Hid (W4.heap.size≠w.heap.size/\W4.heap.size<W5.heap.size):=⟨by omega⟩
 replace s1:=Hid.mk s1
 replace s2:=Hid.mk s2
 replace s3:=Hid.mk s3
 replace s4:=Hid.mk s4
 replace s5:=Hid.mk s5
 clear hb0 hr0 hs0 t1 b1 z1 t2 b2 z2 t3 b3 z3 t4 b4 z4 t5 b5 z5 c34 c24 c05 r5
 go_enter Tryz.func12,Tryz.ntmps12
 go_wp2_with (first
  | (guard_target =~ wpList _ _ _ (Oper.mk _ (Op.store 40 _ _) _ _ _ _::_) _ _;go_must (first|refine wpList_st 40 _ _ rfl rfl _ _ rfl rfl (s1.out _ rfl) ?_|refine wpList_st 40 _ _ rfl rfl _ _ rfl rfl (s2.out _ rfl) ?_);simp only[pts])
  | (guard_target =~ wpList _ _ _ (Oper.mk _ (Op.store 25 _ _) _ _ _ _::_) _ _;go_must (refine wpList_st 25 _ _ rfl rfl _ _ rfl rfl (s3.out _ rfl) ?_);simp only[pts])
  | (guard_target =~ wpList _ _ _ (Oper.mk _ (Op.store 27 _ _) _ _ _ _::_) _ _;go_must (refine wpList_st 27 _ _ rfl rfl _ _ rfl rfl (s4.out _ rfl) ?_);simp only[pts])
  | (guard_target =~ wpList _ _ _ (Oper.mk _ (Op.store 30 _ _) _ _ _ _::_) _ _;go_must (refine wpList_st 30 _ _ rfl rfl _ _ rfl rfl SF.out ?_);simp only[pts])
  | (guard_target =~ wpList _ _ _ (Oper.mk _ (Op.load 25 _) _ _ _ _::_) _ _;go_must (refine wpList_ld 25 _ rfl rfl _ _ rfl lS.out ?_);simp only[pts])
  | (guard_target =~ wpList _ _ _ (Oper.mk _ (Op.load 27 _) _ _ _ _::_) _ _;go_must (refine wpList_ld 27 _ rfl rfl _ _ rfl lH.out ?_);simp only[pts])
  | (guard_target =~ wpList _ _ _ (Oper.mk _ (Op.load 40 _) _ _ _ _::_) _ _;go_must (first|refine wpList_ld 40 _ rfl rfl _ _ rfl l3.out ?_|refine wpList_ld 40 _ rfl rfl _ _ rfl l5.out ?_);simp only[pts])
  | (guard_target =~ wpList _ _ _ (Oper.mk _ (Op.buildSlice 28 _ _) _ _ _ _::_) _ _;go_must (refine wpList_bs s5.out (by kernel_rfl) ?_);simp only[pts]))
 refine bodyPost_ret (results_cell_row rfl _ _ w.heap.size 30 _ (0,0) _ rfl (setRow_heap _ _ _ _ _ _ R5.out) Tryz.underlying30 rfl J.infoFm) rfl ⟨W4.heap.size,rfl,?_,?_⟩
 ·refine tkL_lit ((setRow_other _ _ _ _ hne.out.1).trans T5.out) ?_ (by decide) sm_toks
  rw[size_setRow]
  exact hne.out.2
 ·exact B5.out.trans ⟨rfl,rfl,rfl,by rw[size_setRow];exact Nat.le_refl _,fun k hk=>setRow_other _ _ _ _ (by omega)⟩
theorem KtR.rowAt {W:World} {B cp:Nat} {pp:Option Addr} {ks:List Ktp} {l:List Tk} (h:KtR W B (.slice pp ks.length cp) ks) (hl:ks.map Ktp.t=l) {i:Nat} {t:Tk} (ht:l[i]?=some t):∃ g pc cc,pp=some ⟨g,0,none⟩/\g<W.heap.size/\TkC W g (i*21) t pc cc:=by
 obtain⟨g,o,pc,cc,e,hg,hT,-,-⟩:=h.trow.c i t (by rw[hl];exact ht)
 rcases h.row.2 with ⟨e0,e1⟩|⟨g',cap',cur,e1,-⟩
 ·injection e0 with a b c
  rw[a] at e
  cases e
 ·injection e1 with a b c
  subst a
  cases e
  exact⟨_,pc,cc,rfl,hg,by simpa using hT⟩
theorem sm_t0:∃ t,(atF smF 0).toks[0]?=some t/\t.blk=4/\t.full=6:=by
 have h:=sm_at.2.2.2
 cases ht:(atF smF 0).toks[0]? with
 | none=>rw[ht] at h;cases h
 | some t =>
  rw[ht] at h
  simp only[Option.map_some,Option.some.injEq,Prod.mk.injEq] at h
  exact⟨t,rfl,h.1,h.2⟩
theorem sure_any (w:World) (kt:KT w) (mt:MT w):Calls Tryz.prog 4 #[] w fun r w'=>r = .returned (.bool true)/\Below w.heap.size w w':=by
 have CC:Hid (∀ w1 g,TkL w1 (some ⟨g,0,none⟩) w1.heap.size smF.toks->Below w.heap.size w w1->∃ W2,(∀ z:Array Value,z.size=13->(Instr.storeAt 30 (.pointer (some ⟨w1.heap.size,0,none⟩)) (fmV smF (some ⟨g,0,none⟩) 8)).run Tryz.prog (w1.alloc (.cells z 30)) = .ok () W2)/\(Instr.loadAt 30 (.pointer (some ⟨w1.heap.size,0,none⟩))).run Tryz.prog W2 = .ok (fmV smF (some ⟨g,0,none⟩) 8) W2 /\
   Calls Tryz.prog 7 #[fmV smF (some ⟨g,0,none⟩) 8,.int .i64 0] W2 fun e w3=>∃ gp cp' W4,e = .returned (.tuple #[fmV (atF smF 0) (some ⟨gp,0,none⟩) cp',.int .i64 0])/\(∀ z:Array Value,z.size=13->(Instr.storeAt 30 (.pointer (some ⟨w3.heap.size,0,none⟩)) (fmV (atF smF 0) (some ⟨gp,0,none⟩) cp')).run Tryz.prog (w3.alloc (.cells z 30)) = .ok () W4) /\
    W4.cell? ⟨w3.heap.size,2,none⟩=some (.int .i64 0)/\W4.cell? ⟨w3.heap.size,12,none⟩=some (.slice (some ⟨gp,0,none⟩) 5 cp')/\W4.cell? ⟨gp,14,none⟩=some (.int .i64 4)/\W4.cell? ⟨gp,15,none⟩=some (.int .i64 6)/\(Instr.loadAt 30 (.pointer (some ⟨w1.heap.size,0,none⟩))).run Tryz.prog W4 = .ok (fmV smF (some ⟨g,0,none⟩) 8) W4 /\
    Calls Tryz.prog 13 #[fmV smF (some ⟨g,0,none⟩) 8,.int .i64 4,.int .i64 1] W4 fun e w5=>e = .returned (.bool true)/\(Instr.loadAt 30 (.pointer (some ⟨w1.heap.size,0,none⟩))).run Tryz.prog w5 = .ok (fmV smF (some ⟨g,0,none⟩) 8) w5 /\
     Calls Tryz.prog 13 #[fmV smF (some ⟨g,0,none⟩) 8,.int .i64 4,.int .i64 0] w5 fun e w6=>e = .returned (.bool false)/\Hid (Below w.heap.size w w6)):=⟨fun w1 g tl hb=>by
  have b2:=bel1 w1 (fmO smF (some ⟨g,0,none⟩) 8)
  have h2:=heap_al w1 (fmO smF (some ⟨g,0,none⟩) 8)
  have z2:(w1.alloc (fmO smF (some ⟨g,0,none⟩) 8)).heap.size=w1.heap.size+1:=World.size_alloc _ _
  refine⟨_,fun z hz=>J.st_newF w1 z hz smF (some ⟨g,0,none⟩) 8,(J.fm_of h2).load,?_⟩
  generalize w1.alloc (fmO smF (some ⟨g,0,none⟩) 8)=W2 at b2 h2 z2
  have hb2:=hb.trans (b2.mono hb.size)
  have tl2:=(tl.below b2).mono b2.size
  have hlm:smF.toks.length*192<=140737488351232:=by decide
  have P:∀ W,Below W2.heap.size W2 W->PCk W smF (some ⟨g,0,none⟩) 8/\TkL W (some ⟨g,0,none⟩) W.heap.size smF.toks:=fun W hW=>by
   have hx:=hb2.trans (hW.mono hb2.size)
   have t:=(tl2.below hW).mono hW.size
   exact⟨pCk_of _ _ _ _ t (kt.up hx) (mt.below mt.pos hx),t⟩
  refine(pAt_any (P W2 (Below.refl _ _)).1 tl2 hlm 0).mono fun e w3 hP=>?_
  obtain⟨pp',cp',ks,e1,e2,e3,e4⟩:=hP
  have hG:atG smF 0=atF smF 0:=by unfold atG;rw[if_pos sm_at.1]
  rw[hG,sm_at.1] at e1
  rw[hG] at e2
  obtain⟨t,ht,hbk,hfu⟩:=sm_t0
  obtain⟨gp,pc,cc,rfl,hgp,hT⟩:=e3.rowAt e2 ht
  have b4:=bel1 w3 (fmO (atF smF 0) (some ⟨gp,0,none⟩) cp')
  have h4:=heap_al w3 (fmO (atF smF 0) (some ⟨gp,0,none⟩) cp')
  have z4:(w3.alloc (fmO (atF smF 0) (some ⟨gp,0,none⟩) cp')).heap.size=w3.heap.size+1:=World.size_alloc _ _
  have hT4:=hT.below hgp b4
  rw[Nat.zero_mul] at hT4
  have hb4:=e4.trans (b4.mono e4.size)
  have k14:=hT4.c14
  have k15:=hT4.c15
  rw[hbk] at k14
  rw[hfu] at k15
  refine⟨gp,cp',_,e1,fun z hz=>J.st_newF w3 z hz (atF smF 0) (some ⟨gp,0,none⟩) cp',cell_at h4 2,?_,by simpa using k14,by simpa using k15,(J.fm_of ((hb4.block _ (by omega)).trans h2)).load,?_⟩
  ·refine(cell_at h4 12).trans ?_
   show some (Value.slice _ (atF smF 0).toks.length _)=_
   rw[sm_at.2.2.1]
  ·obtain⟨p1,p2⟩:=P _ hb4
   refine(pLives_any p1 p2 hlm 4 1).mono fun e w5 hP=>?_
   obtain⟨rfl,b5⟩:=hP
   have hb5:=hb4.trans (b5.mono hb4.size)
   obtain⟨p1,p2⟩:=P _ hb5
   refine⟨by rw[sm_liv.1],(J.fm_of ((hb5.block _ (by omega)).trans h2)).load,(pLives_any p1 p2 hlm 4 0).mono fun e w6 hP=>?_⟩
   obtain⟨rfl,b6⟩:=hP
   exact⟨by rw[sm_liv.2],⟨hb2.trans ((hb5.trans (b6.mono hb5.size)).mono hb2.size)⟩⟩⟩
 have cM:=small_any w
 clear kt mt
 go_enter Tryz.func4,Tryz.ntmps4
 go_wp2_with (first
  | (go_at_call 12;refine cM.mono ?_;rintro _ w1 ⟨g,rfl,tl,hb⟩;obtain⟨W2,s2,l2,cA⟩:=CC.out w1 g tl hb;replace s2:=Hid.mk s2;replace l2:=Hid.mk l2;clear tl hb)
  | (go_at_call 7;refine cA.mono ?_;rintro _ w3 ⟨gp,cp',W4,rfl,s4,y2,y12,y14,y15,l4,cL⟩;replace s4:=Hid.mk s4;replace l4:=Hid.mk l4)
  | (go_at_call 13;refine cL.mono ?_;rintro _ w5 ⟨rfl,l6,cN⟩;replace l6:=Hid.mk l6;clear cL)
  | (go_at_call 13;refine cN.mono ?_;rintro _ w6 ⟨rfl,hF⟩)
  | (guard_target =~ wpList _ _ _ (Oper.mk _ (Op.load 30 _) _ _ _ _::_) _ _;go_must (first|refine wpList_ld 30 _ rfl rfl _ _ rfl l2.out ?_|refine wpList_ld 30 _ rfl rfl _ _ rfl l4.out ?_|refine wpList_ld 30 _ rfl rfl _ _ rfl l6.out ?_);simp only[pts])
  | (guard_target =~ wpList _ _ _ (Oper.mk _ (Op.store 30 _ _) _ _ _ _::_) _ _;go_must (first|refine wpList_st 30 _ _ rfl rfl _ _ rfl rfl (s2.out _ rfl) ?_|refine wpList_st 30 _ _ rfl rfl _ _ rfl rfl (s4.out _ rfl) ?_);simp only[pts]))
 go_ret
 exact⟨rfl,hF.out⟩
end Go.Proofs.YtcgimchhcaankaaGreatDoor
