import Derived.Test.YtcgimchhcaankaaGreatDoorK36
import Derived.Test.YtcgimchhcaankaaGreatDoorK49
namespace Go.Proofs.YtcgimchhcaankaaGreatDoor
open Go.ChangeShapes Go.WideShapes Go.ChangeAt Go.RowKit Go.Shelf Go.Maps
theorem Kp.below {b:Nat} {vk:Value} {L:List Mkv} {W W':World} (h:Kp b vk L W) (hb:Below W.heap.size W W'):Kp b vk L W' :=
 ⟨own_stay h.row fun g hg=>hb.block g (h.row.lt g hg).2,fun x hx=>(h.ok x hx).keep fun g hg=>⟨hb.block g hg.2.1,hg.1,Nat.lt_of_lt_of_le hg.2.1 hb.size,hg.2.2⟩⟩
theorem Kp.grow {b gl:Nat} {vk:Value} {L:List Mkv} {W W':World} (h:Kp b vk L W) (hb:W.grownBy W' (some gl)) (hl:gl<b):Kp b vk L W' :=
 ⟨own_stay h.row fun g hg=>hb.block g (h.row.lt g hg).2 (by have:=(h.row.lt g hg).1;intro e;injection e;omega),fun x hx=>(h.ok x hx).keep fun g hg=>⟨hb.block g hg.2.1 (by have:=hg.1;intro e;injection e;omega),hg.1,Nat.lt_of_lt_of_le hg.2.1 hb.size,hg.2.2⟩⟩
theorem Kp.load {b:Nat} {gk n ck:Nat} {L:List Mkv} {W:World} (h:Kp b (.slice (some ⟨gk,0,none⟩) n ck) L W) {i:Nat} {x:Mkv} (hx:L[i]?=some x):(Instr.loadAt 50 (.pointer (some ⟨gk,i*5,none⟩))).run Tryz.prog W = .ok x.v W:=by
 obtain⟨d,hu,hd⟩:=undMk
 refine run_loadAt_mid W gk (i*5) 50 x.cs d (fun j u hj=>?_) hu hd infoMk
 refine ownCl h.row ?_
 have hj5:j<5:=(List.getElem?_eq_some_iff.1 hj).1
 have key:∀ (l:List Mkv) (i:Nat),l[i]?=some x->(l.flatMap Mkv.cs)[i*5+j]?=x.cs[j]?:=by
  intro l
  induction l with
  | nil=>intro i hi;cases hi
  | cons y r ih =>
   intro i hi
   rw[List.flatMap_cons]
   cases i with
   | zero =>
    cases hi
    rw[List.getElem?_append_left (by show 0*5+j<5;omega),Nat.zero_mul,Nat.zero_add]
   | succ i =>
    have e:(i+1)*5+j-y.cs.length=i*5+j:=by
     show (i+1)*5+j-5=_
     omega
    rw[List.getElem?_append_right (by show 5<=(i+1)*5+j;omega),e]
    exact ih i hi
 rw[key L i hx]
 exact hj
structure Em (f:Fm) (v:Int) (pg:Option Addr) (cg:Nat) (ks:List Ktp) (Z gb wb gw cap:Nat) (ps:List J.TkP) (w:World) (gl gm cm b:Nat) (vk:Value) (L:List Mkv) (W:World):Prop where
 gh:W.heap[gb]?=some (fmO (atF f v) pg cg)
 gt:KtR W Z (.slice pg ks.length cg) ks
 wh:W.heap[wb]?=some (fmO (atF f v) (some ⟨gw,0,none⟩) cap)
 co:J.Cop W Z gw cap ps
 kp:Kp b vk L W
 mr:W.ownsRow b 3 1 (.slice (some ⟨gm,0,none⟩) (verL f).length cm) (verL f).length ((verL f).map cI)
 bl:Below w.heap.size w W
 ok:∀ t∈(atF f v).toks,TkOk t
 zz:w.heap.size<=gl/\gl<Z/\Z<=gb/\Z<=wb/\Z<=b
section
variable {f:Fm} {pp:Option Addr} {cp:Nat} {v:Int} {pg:Option Addr} {cg:Nat} {ks:List Ktp} {Z gb wb gw cap:Nat} {ps:List J.TkP} {w:World} {W W':World} {gl gm cm b:Nat} {vk:Value} {L:List Mkv}
theorem Em.grow (h:Em f v pg cg ks Z gb wb gw cap ps w gl gm cm b vk L W) (hb:W.grownBy W' (some gl)):Em f v pg cg ks Z gb wb gw cap ps w gl gm cm b vk L W':=by
 obtain⟨z1,z2,z3,z4,z5⟩:=h.zz
 have key:∀ j,Z<=j->j<W.heap.size->W'.heap[j]?=W.heap[j]?:=fun j h1 h2=>hb.block j h2 (by intro e;injection e;omega)
 refine⟨(key _ z3 (Array.getElem?_eq_some_iff.1 h.gh).1).trans h.gh,h.gt.keep hb.size fun k h1 h2 _=>key k h1 h2,(key _ z4 (Array.getElem?_eq_some_iff.1 h.wh).1).trans h.wh,⟨own_stay h.co.row fun g hg=>key g (h.co.row.lt g hg).1 (h.co.row.lt g hg).2,fun x hx=>⟨own_stay (h.co.good x hx).1 fun g hg=>key g (World.ownsRow.lt (h.co.good x hx).1 g hg).1 (World.ownsRow.lt (h.co.good x hx).1 g hg).2,(h.co.good x hx).2⟩,h.co.dis⟩,h.kp.grow hb (by omega),own_stay h.mr fun g hg=>key g (by have:=(h.mr.lt g hg).1;omega) (h.mr.lt g hg).2,h.bl.trans ⟨hb.os,hb.tape,hb.output,hb.size,fun k hk=>hb.block k (by have:=h.bl.size;omega) (by intro e;injection e;omega)⟩,h.ok,h.zz⟩
theorem Em.below (h:Em f v pg cg ks Z gb wb gw cap ps w gl gm cm b vk L W) (hb:Below W.heap.size W W'):Em f v pg cg ks Z gb wb gw cap ps w gl gm cm b vk L W':=h.grow ⟨hb.os,hb.tape,hb.output,hb.size,fun k hk _=>hb.block k hk⟩
theorem Em.whole (h:Em f v pg cg ks Z gb wb gw cap ps w gl gm cm b vk L W) {i:Nat} {x:Mkv} (hx:L[i]?=some x):Calls Tryz.prog 11 #[x.v] W fun e w'=>e = .returned (.bool true)/\Em f v pg cg ks Z gb wb gw cap ps w gl gm cm b vk L w' :=
 (whole_any x W _ (h.kp.ok x (List.mem_of_getElem? hx)) fun _ hg=>hg.2.1).mono fun _ _ ⟨h1,h2⟩=>⟨h1,h.below h2⟩
theorem Em.fin (h:Em f v pg cg ks Z gb wb gw cap ps w gl gm cm b vk L W) (c:OwC f v w ks ps):(Instr.loadAt 30 (.pointer (some ⟨gb,0,none⟩))).run Tryz.prog W = .ok (fmV (atF f v) pg cg) W/\(Instr.loadAt 30 (.pointer (some ⟨wb,0,none⟩))).run Tryz.prog W = .ok (fmV (atF f v) (some ⟨gw,0,none⟩) cap) W/\Calls Tryz.prog 9 #[fmV (atF f v) pg cg,fmV (atF f v) (some ⟨gw,0,none⟩) cap] W fun e w'=>e = .returned (.bool true)/\Hid (Below w.heap.size w w'):=by
 have hl:(atF f v).toks.length*192<=140737488355328:=by have:=atF_sm (v:=v) c.lm;omega
 refine⟨(J.fm_of h.gh).load,(J.fm_of h.wh).load,(sameForm13 (atF f v) pg (some ⟨gw,0,none⟩) cg cap W ⟨by rw[<- c.hks];exact h.gt.trow,hl,h.ok⟩ ⟨by rw[<- c.hps];exact h.co.trow,hl,h.ok⟩).mono fun _ _ ⟨h1,h2⟩=>⟨h1,⟨h.bl.trans (h2.mono h.bl.size)⟩⟩⟩
theorem verZ_eq (hz:chkZ f=none):verZ f=verL f:=by unfold verZ verL;rw[if_pos hz]
theorem verL_pos (hz:chkZ f=none):0<(verL f).length:=by
 obtain⟨-,-,n,r,e,-⟩:=verL_all hz
 rw[e]
 simp
theorem verL_len (hz:chkZ f=none):(verL f).length<=65535:=by
 have hv:=head_ver hz
 have:=List.length_filter_le (fun v=>(camZ f).contains v) (List.range (f.ver.toNat+1))
 rw[List.length_range] at this
 unfold verL
 omega
theorem Ow.end_ (h:Ow f pp cp v pg cg ks Z gb wb gw cap ps w W) (c:OwC f v w ks ps) (hgl:w.heap.size<=gl/\gl<Z) {Bl cl:Nat} (hr:W.ownsRow Bl 3 1 (.slice (some ⟨gl,0,none⟩) (verL f).length cl) (verL f).length ((verL f).map cI)) {wr:World} (hb:Below W.heap.size W wr) (hk:Kp W.heap.size vk L wr):Calls Tryz.prog 6 #[fmV f pp cp] wr fun e wm=>∃ gm cm,e = .returned (.slice (some ⟨gm,0,none⟩) (verL f).length cm)/\Hid (Em f v pg cg ks Z gb wb gw cap ps w gl gm cm W.heap.size vk L wm/\wm.ownsRow Bl 3 1 (.slice (some ⟨gl,0,none⟩) (verL f).length cl) (verL f).length ((verL f).map cI)):=by
 have q:=h.below hb
 have hs:=hb.size
 refine(pVersions_any (q.pck c) q.tl c.lm).mono fun e wm hP=>?_
 obtain⟨va,rfl,a1,a2⟩:=hP
 rw[verZ_eq c.z] at a1
 obtain⟨gm,cm,rfl⟩:=own_slic a1 (verL_pos c.z)
 have q2:=q.below a2
 obtain⟨z1,z2,z3⟩:=h.zz
 have hZ:Z<=W.heap.size:=by
  have:=(Array.getElem?_eq_some_iff.1 h.gh).1
  omega
 refine⟨gm,cm,rfl,⟨q2.gh,q2.gt,q2.wh,q2.co,hk.below a2,own_lower a1 hs,q2.bl,atF_oks q2.tl.ok c.lm,hgl.1,hgl.2,z2,z3,hZ⟩,own_stay hr fun g hg=>?_⟩
 have:=(hr.lt g hg).2
 exact(a2.block g (by omega)).trans (hb.block g this)
end
structure Q4 (f:Fm) (pp:Option Addr) (cp:Nat) (w:World) (gl cl:Nat) (W:World):Prop where
 fb:W.heap[w.heap.size]?=some (fmO f pp cp)
 tl:TkL W pp W.heap.size f.toks
 lr:W.ownsRow (w.heap.size+1) 3 1 (.slice (some ⟨gl,0,none⟩) (verL f).length cl) (verL f).length ((verL f).map cI)
 bl:Below w.heap.size w W
structure Q0 (f:Fm) (w:World):Prop where
 kt:KT w
 mt:MT w
 lm:f.toks.length*192<=140737488351232
 cm:∀ t∈f.toks,t.cst.length*8<=140737488351232
 z:chkZ f=none
structure Q6 (f:Fm) (pp:Option Addr) (cp:Nat) (v:Int) (pg:Option Addr) (cg:Nat) (ks:List Ktp) (Z gb:Nat) (w:World) (gl cl:Nat) (W:World):Prop where
 q:Q4 f pp cp w gl cl W
 gh:W.heap[gb]?=some (fmO (atF f v) pg cg)
 gt:KtR W Z (.slice pg ks.length cg) ks
 hks:ks.map Ktp.t=(atF f v).toks
 zz:w.heap.size<gl/\gl<Z/\Z<=gb
section
variable {f:Fm} {pp:Option Addr} {cp:Nat} {v:Int} {pg:Option Addr} {cg:Nat} {ks:List Ktp} {Z gb:Nat} {w:World} {gl cl:Nat} {W W':World}
theorem Q4.below (h:Q4 f pp cp w gl cl W) (hb:Below W.heap.size W W'):Q4 f pp cp w gl cl W' :=
 ⟨(hb.block _ (Array.getElem?_eq_some_iff.1 h.fb).1).trans h.fb,(h.tl.below hb).mono hb.size,own_stay h.lr fun g hg=>hb.block g (h.lr.lt g hg).2,h.bl.trans (hb.mono h.bl.size)⟩
theorem Q4.ldF (h:Q4 f pp cp w gl cl W):(Instr.loadAt 30 (.pointer (some ⟨w.heap.size,0,none⟩))).run Tryz.prog W = .ok (fmV f pp cp) W:=(J.fm_of h.fb).load
theorem Q4.ver (h:Q4 f pp cp w gl cl W):W.cell? ⟨w.heap.size,2,none⟩=some (.int .i64 f.ver):=cell_at h.fb 2
theorem Q4.cell (h:Q4 f pp cp w gl cl W) {i x:Nat} (hx:(verL f)[i]?=some x):W.cell? ⟨gl,i,none⟩=some (.int .i64 (x:Int)):=ownCl h.lr (by rw[List.getElem?_map,hx];rfl)
theorem Q4.pck (h:Q4 f pp cp w gl cl W) (c:Q0 f w):PCk W f pp cp:=pCk_of _ _ _ _ h.tl (c.kt.up h.bl) (c.mt.below c.mt.pos h.bl)
theorem q4_of (c:Q0 f w) (hr:TkL w pp w.heap.size f.toks) {W3:World} (hb:Below w.heap.size w W3) (H:W3.heap[w.heap.size]?=some (fmO f pp cp)):Calls Tryz.prog 6 #[fmV f pp cp] W3 fun e w4=>∃ gl cl,e = .returned (.slice (some ⟨gl,0,none⟩) (verL f).length cl)/\Hid (Q4 f pp cp w gl cl w4):=by
 have tl:=(hr.below hb).mono hb.size
 have hs:=(Array.getElem?_eq_some_iff.1 H).1
 refine(pVersions_any (pCk_of _ _ _ _ tl (c.kt.up hb) (c.mt.below c.mt.pos hb)) tl c.lm).mono fun e wm hP=>?_
 obtain⟨va,rfl,a1,a2⟩:=hP
 rw[verZ_eq c.z] at a1
 obtain⟨gl,cl,rfl⟩:=own_slic a1 (verL_pos c.z)
 exact⟨gl,cl,rfl,⟨(a2.block _ hs).trans H,(tl.below a2).mono a2.size,own_lower a1 hs,hb.trans (a2.mono hb.size)⟩⟩
theorem Q6.below (h:Q6 f pp cp v pg cg ks Z gb w gl cl W) (hb:Below W.heap.size W W'):Q6 f pp cp v pg cg ks Z gb w gl cl W' :=
 ⟨h.q.below hb,(hb.block _ (Array.getElem?_eq_some_iff.1 h.gh).1).trans h.gh,h.gt.below hb,h.hks,h.zz⟩
theorem Q4.at (h:Q4 f pp cp w gl cl W) (c:Q0 f w) (hv:fstV f<=v/\v<=f.ver):Calls Tryz.prog 7 #[fmV f pp cp,.int .i64 v] W fun e w5=>∃ pg cg ks W6,e = .returned (.tuple #[fmV (atF f v) pg cg,.int .i64 0])/\(∀ z:Array Value,z.size=13->(Instr.storeAt 30 (.pointer (some ⟨w5.heap.size,0,none⟩)) (fmV (atF f v) pg cg)).run Tryz.prog (w5.alloc (.cells z 30)) = .ok () W6)/\Q6 f pp cp v pg cg ks W.heap.size w5.heap.size w gl cl W6:=by
 have hA:=pAt_any (h.pck c) h.tl c.lm v
 obtain⟨e1,e2⟩:=at_ok c.z hv
 rw[e1,e2] at hA
 refine hA.mono fun e w5 hP=>?_
 obtain⟨pg,cg,ks,rfl,k1,k2,k3⟩:=hP
 have b5:=bel1 w5 (fmO (atF f v) pg cg)
 have hl:=h.lr.lt gl rfl
 exact⟨pg,cg,ks,_,rfl,fun z hz=>J.st_newF w5 z hz (atF f v) pg cg,h.below (k3.trans (b5.mono k3.size)),heap_al _ _,k2.below b5,k1,by omega,hl.2,k3.size⟩
theorem Q6.at2 (h:Q6 f pp cp v pg cg ks Z gb w gl cl W) (c:Q0 f w) {u:Int} (hu:fstV f<=u/\u<=f.ver):Calls Tryz.prog 7 #[fmV f pp cp,.int .i64 u] W fun e w7=>∃ ph ch W8,e = .returned (.tuple #[fmV (atF f u) ph ch,.int .i64 0])/\(∀ z:Array Value,z.size=13->(Instr.storeAt 30 (.pointer (some ⟨w7.heap.size,0,none⟩)) (fmV (atF f u) ph ch)).run Tryz.prog (w7.alloc (.cells z 30)) = .ok () W8)/\W8.cell? ⟨w7.heap.size,12,none⟩=some (.slice ph (atF f u).toks.length ch)/\Q6 f pp cp v pg cg ks Z gb w gl cl W8:=by
 have hA:=pAt_any (h.q.pck c) h.q.tl c.lm u
 obtain⟨e1,e2⟩:=at_ok c.z hu
 rw[e1,e2] at hA
 refine hA.mono fun e w7 hP=>?_
 obtain⟨ph,ch,ls,rfl,k1,k2,k3⟩:=hP
 have b7:=bel1 w7 (fmO (atF f u) ph ch)
 exact⟨ph,ch,_,rfl,fun z hz=>J.st_newF w7 z hz (atF f u) ph ch,cell_at (heap_al _ _) 12,h.below (k3.trans (b7.mono k3.size))⟩
theorem Q6.ldG (h:Q6 f pp cp v pg cg ks Z gb w gl cl W):(Instr.loadAt 30 (.pointer (some ⟨gb,0,none⟩))).run Tryz.prog W = .ok (fmV (atF f v) pg cg) W:=(J.fm_of h.gh).load
theorem Q6.c12 (h:Q6 f pp cp v pg cg ks Z gb w gl cl W):W.cell? ⟨gb,12,none⟩=some (.slice pg (atF f v).toks.length cg):=cell_at h.gh 12
theorem Q6.cop (h:Q6 f pp cp v pg cg ks Z gb w gl cl W) (c:Q0 f w) (hv:fstV f<=v/\v<=f.ver):Calls Tryz.prog 8 #[fmV (atF f v) pg cg] W fun e w9=>∃ gw cap ps W10,e = .returned (fmV (atF f v) (some ⟨gw,0,none⟩) cap)/\(∀ z:Array Value,z.size=13->(Instr.storeAt 30 (.pointer (some ⟨w9.heap.size,0,none⟩)) (fmV (atF f v) (some ⟨gw,0,none⟩) cap)).run Tryz.prog (w9.alloc (.cells z 30)) = .ok () W10)/\Ow f pp cp v pg cg ks Z gb w9.heap.size gw cap ps w W10/\OwC f v w ks ps/\Q4 f pp cp w gl cl W10:=by
 have oks:=atF_oks (v:=v) h.q.tl.ok c.lm
 have lm:=atF_sm (v:=v) c.lm
 have hZW:Z<=W.heap.size:=by have:=(Array.getElem?_eq_some_iff.1 h.gh).1;have:=h.zz;omega
 refine(J.copied_any (atF f v) pg cg W ⟨by rw[<- h.hks];exact h.gt.trow,by omega,oks⟩ lm (kepF_cs c.cm (camZ f) v f.toks.length)).mono fun e w9 hP=>?_
 obtain⟨gw,cap,ps,rfl,hp,hc,b9⟩:=hP
 have b10:=bel1 w9 (fmO (atF f v) (some ⟨gw,0,none⟩) cap)
 have q10:=h.below (b9.trans (b10.mono b9.size))
 have hs9:=b9.size
 have co:=hc.below b10
 refine⟨gw,cap,ps,_,rfl,fun z hz=>J.st_newF w9 z hz (atF f v) (some ⟨gw,0,none⟩) cap,⟨q10.q.fb,q10.q.tl,q10.gh,q10.gt,heap_al _ _,⟨own_lower co.row hZW,fun x hx=>⟨own_lower (co.good x hx).1 hZW,(co.good x hx).2⟩,co.dis⟩,q10.q.bl,by have:=h.zz;omega,h.zz.2.2,by omega⟩,⟨c.kt,c.mt,c.lm,c.cm,c.z,hv,h.hks,hp⟩,q10.q⟩
end
theorem take_mem {l:List Nat} {j x n:Nat} (h:l[j]?=some x):decide (n∈l.take (j+1))=(decide (n∈l.take j)||decide (x=n)):=by
 rw[List.take_add_one,h]
 simp only[Option.toList_some,List.mem_append,List.mem_singleton,Bool.decide_or]
 congr 1
 exact decide_eq_decide.2 eq_comm
theorem i_grow {W:World} {gl i:Nat} {u:Value}:W.grownBy (W.setCell ⟨gl,i,none⟩ u) (some gl):=⟨rfl,rfl,rfl,by simp[World.setCell],fun k _ hne=>set_off fun e=>hne (by rw[e])⟩
theorem five_more {W:World} {Bl gl cl n:Nat} {xs:List Value} (hr:W.ownsRow Bl 3 1 (.slice (some ⟨gl,0,none⟩) n cl) n xs) (hx:∀ i,i<n->xs[i]?=some (.int .i64 (-5))) (hn:n<=65535) (hB:Bl<=W.heap.size):∃ v' w',(∀ ty,(Builtin.append_ #[41,41] ty #[.slice (some ⟨gl,0,none⟩) n cl,.slice (some ⟨W.heap.size,0,none⟩) 1 1]).run Tryz.prog (W.alloc (.cells #[.int .i64 (-5)] 3)) = .ok v' w')/\∃ gq cq,v' = .slice (some ⟨gq,0,none⟩) (n+1) cq/\Hid ((∀ i,i<n->w'.cell? ⟨gl,i,none⟩=some (.int .i64 (-5))/\w'.cell? ⟨gq,i,none⟩=some (.int .i64 (-5)))/\W.grownBy w' (some gl)):=by
 obtain⟨v',w',a1,⟨a2,a3,a4,a5⟩,a6⟩:=ap_genQ (W:=W) Tryz.underlying41 infoInt rfl (by decide) hr [.int .i64 (-5)] rfl (by simp[Value.oneCell']) (by omega) (by omega) hB
 obtain⟨gq,cq,rfl⟩:=own_slic a2 (by omega)
 refine⟨_,w',a1,gq,cq,rfl,⟨fun i hi=>?_,⟨a3.os,a3.tape,a3.output,a3.size,fun k hk hne=>a4 k hk fun e=>hne (by rw[<- e];rfl)⟩⟩⟩
 have hq:w'.cell? ⟨gq,i,none⟩=some (.int .i64 (-5)):=ownCl a2 (by rw[List.getElem?_append_left (by rw[hr.1];omega)];exact hx i hi)
 refine⟨?_,hq⟩
 rcases a6 with a6|a6
 ·simp only[Value.ownBlock,Option.some.injEq] at a6
  rw[<- a6]
  exact hq
 ·rw[cell_blk (a6 gl (hr.lt gl rfl).2)]
  exact ownCl hr (hx i hi)
end Go.Proofs.YtcgimchhcaankaaGreatDoor
