import Derived.Test.YtbhmciieiilcfaaGreatDoorK30
namespace Go.Proofs.YtbhmciieiilcfaaGreatDoor
set_option maxRecDepth 1000000
set_option maxHeartbeats 16000000
open Go.ChangeShapes Go.WideShapes Go.ChangeAt Go.RowKit Go.Shelf Go.Maps
variable {B b cap cp g go i n q:Nat} {P:Program} {R:Int×DM} {W w w':World} {a c cnt k:Int} {cl:Cl} {d:DL} {f:Fm} {l:List Tk} {m m':DM} {nm:ByteArray} {pp:Option Addr} {s:Ms} {ys zs:List DL}
theorem RM.leave (h:RM f s m) (e:leavesD f.toks m=some m'):∃ s',RM f s' m'/\m'.op.length+1=m.op.length:=by
 obtain⟨hok,hi,hr⟩:=h
 obtain⟨op,ent⟩:=s
 cases op with
 | nil=>exact absurd rfl hok.ne
 | cons x r =>
  have hl:=leaves_top hok hr
  by_cases hv:overB f.toks x=true/\r≠[]
  ·rw[if_pos hv] at hl
   obtain⟨m2,e1,e2,_,e4⟩:=hl
   rw[e] at e1
   cases e1
   cases r with
   | nil=>exact absurd rfl hv.2
   | cons y r=>exact⟨⟨y::r,ent⟩,⟨hok.tail,fun z hz=>hi z (List.mem_cons_of_mem _ hz),e4⟩,e2⟩
  ·rw[if_neg hv] at hl
   rw[hl] at e
   cases e
theorem results_cell_slot {fn:Func} {p q:Tmp} {ty:TypeId} (h:fn.results=#[.cell p ty,.tmp q]) (tmps:Array Value) (w:World) (g:Nat) (t:TypeId) (cs:Array Value) (d:TypeDesc) {v2:Value} (hp:tmps.getD p undef = .pointer (some ⟨g,0,none⟩)) (hq:tmps.getD q undef=v2) (hg:w.heap[g]?=some (.cells cs t))
  (hu:P.underlying ty=some d) (hd:(match d with | .struct _ | .array _ _=>true|_=>false)=true) (hi:(P.info? ty).map (·.size)=some cs.size) :
  (results fn tmps).run P w = .ok (.tuple #[.agg cs,v2]) w:=by
 subst hq
 have hp':tmps[p]?.getD undef = .pointer (some ⟨g,0,none⟩):=by simpa using hp
 simp[results,h,hp',asAddr,run_loadVar_row w g t ty cs (0,0) d hg hu hd hi]
theorem infoCl:(Tryz.prog.info? 45).map (·.size)=some 5:=by kernel_rfl
theorem ca_ld {c:Cl} (h:w.heap[b]?=some (caO c)):(Instr.loadAt 45 (.pointer (some ⟨b,0,none⟩))).run Tryz.prog w = .ok (caV c) w:=by
 simp only[Instr.loadAt,Instr.sureAddr,Sem.run_bind,Sem.run_pure,Result.andThen]
 exact run_loadVar_row _ _ _ _ _ _ _ h Tryz.underlying45 rfl infoCl
def MyP (f:Fm) (pp:Option Addr) (cp:Nat) (R:Option DM) (w:World) (e:Ending) (w':World):Prop:=Below w.heap.size w w'/\match R with
 | none=>∃ p n q g c a,e = .returned (.tuple #[dmV f pp cp (.slice p n q) g c a,.bool false])
 | some m=>∃ go cap,e = .returned (.tuple #[dmV f pp cp (.slice (some ⟨go,0,none⟩) m.op.length cap) (m.group:Int) m.count m.all,.bool true])/\DOp w' go cap m.op.reverse/\w.heap.size<=go
theorem kb_below {E:List Nat} (h:Kb E w w') (hE:∀ k∈E,B<=k) (hB:B<=w.heap.size):Below B w w':=⟨h.os,h.tape,h.output,h.size,fun k hk=>h.block k (by omega) fun hm=>by have:=hE k hm;omega⟩
theorem bel_row {cs:Array Value} (h:Below B w W) (hg:B<=g):Below B w (W.setRow g cs):=h.trans ⟨rfl,rfl,rfl,by rw[size_setRow];exact Nat.le_refl _,fun k hk=>setRow_other _ _ _ _ (by omega)⟩
def lenAt (N:Nat) (w:World):Nat:=match w.cell? ⟨N,13,none⟩ with
 | some (.slice _ n _)=>n
 | _=>0
theorem lenAt_of (h:DS W b go cap f pp cp zs g c a):lenAt b W=zs.length:=by
 unfold lenAt
 rw[cell_at h.c 13]
 rfl
theorem mayF_some (hn:0<n) (h:hereD l m k cnt nm=some m'):mayF l k cnt nm n m=some m':=by
 obtain⟨n,rfl⟩:∃ j,n=j+1:=⟨n-1,by omega⟩
 rw[mayF,h]
theorem mayF_none (hn:0<n) (h:hereD l m k cnt nm=none) (h2:leavesD l m=none):mayF l k cnt nm n m=none:=by
 obtain⟨n,rfl⟩:∃ j,n=j+1:=⟨n-1,by omega⟩
 rw[mayF,h,h2]
theorem mayF_more (h:hereD l m k cnt nm=none) (h2:leavesD l m=some m'):mayF l k cnt nm (n+1) m=mayF l k cnt nm n m':=by
 rw[mayF,h,h2]
theorem ds_new (ho:DOp W go cap zs) (hl:zs.length<=1000000) (h1:0<zs.length):DS (W.alloc (dmO f pp cp (.slice (some ⟨go,0,none⟩) zs.length cap) (g:Int) c a)) W.heap.size go cap f pp cp zs g c a :=
 ⟨heap_al _ _,ho.same ((bel1 _ _).block _ ho.lt),by have:=ho.lt;omega,hl,h1⟩
structure MyI (w:World) (N go:Nat) (f:Fm) (pp:Option Addr) (cp:Nat) (cl:Cl) (R:Option DM) (wr:World):Prop where
 d:∃ cap zs g c a s,DS wr N go cap f pp cp zs g c a/\RM f s ⟨zs.reverse,g,c,a⟩/\mayF f.toks cl.k cl.cnt cl.nm zs.length ⟨zs.reverse,g,c,a⟩=R
 x:wr.heap[w.heap.size]?=some (caO cl)
 r:wr.heap[w.heap.size+1]?=some zM
 b:Below w.heap.size w wr
 n1:w.heap.size+2<=N
 n2:w.heap.size+2<=go
theorem dMay_any (hz:chkZ f=none) (h:DS w b go cap f pp cp zs g c a) (tl:TkL w pp w.heap.size f.toks) (rm:RM f s ⟨zs.reverse,g,c,a⟩) (cl:Cl) (hk:0<=cl.k/\cl.k<=3) :
  Calls Tryz.prog 26 #[.pointer (some ⟨b,0,none⟩),caV cl] w (MyP f pp cp (mayF f.toks cl.k cl.cnt cl.nm zs.length ⟨zs.reverse,g,c,a⟩) w):=by
 generalize hR:mayF f.toks cl.k cl.cnt cl.nm zs.length ⟨zs.reverse,g,c,a⟩=R
 have hW2:=two_b w (caO cl) zM
 have hz1:((w.alloc (caO cl)).alloc zM).heap[w.heap.size]?=some (caO cl):=two_1 _ _ _
 have hz2:((w.alloc (caO cl)).alloc zM).heap[w.heap.size+1]?=some zM:=two_2 _ _ _
 have hzs:((w.alloc (caO cl)).alloc zM).heap.size=w.heap.size+2:=by simp
 have CP:=dCopy_any (h.below hW2)
 have zl:=h.zl
 have z1:=h.z1
 generalize hV:(w.alloc (caO cl)).alloc zM=V at *
 have TL:Hid (∀ W,Below w.heap.size w W->TkL W pp W.heap.size f.toks):=⟨fun W hW=>(tl.below hW).mono hW.size⟩
 have ST:Hid (∀ w1 go1 cap1,CpD f pp cp zs g c a V go1 cap1 w1->MyI w w1.heap.size go1 f pp cp cl R (w1.alloc (dmO f pp cp (.slice (some ⟨go1,0,none⟩) zs.length cap1) (g:Int) c a))):=⟨fun w1 go1 cap1 hc=>by
  have e1:=hc.b.size
  have hb:=hc.b.trans ((bel1 w1 (dmO f pp cp (.slice (some ⟨go1,0,none⟩) zs.length cap1) (g:Int) c a)).mono e1)
  exact⟨⟨cap1,zs,g,c,a,s,ds_new hc.o zl z1,rm,hR⟩,(hb.block _ (by omega)).trans hz1,(hb.block _ (by omega)).trans hz2,hW2.trans (hb.mono hW2.size),by omega,by have:=hc.ge;omega⟩⟩
 clear h tl rm hR hz1 hz2
 go_enter Tryz.func26,Tryz.ntmps26
 go_wp2_with (first
  | (go_at_call 8;refine CP.mono ?_;rintro _ w1 ⟨go1,cap1,rfl,hc⟩;have S1:=fun z hz=>dm_new w1 z hz f pp cp (some ⟨go1,0,none⟩) zs.length cap1 (g:Int) c a;have I1:=ST.out w1 go1 cap1 hc;replace I1:=Hid.mk I1;clear hc)
  | (guard_target =~ wpList _ _ _ (Oper.mk _ (Op.store 34 _ _) _ _ _ _::_) _ _;go_must (refine wpList_st 34 _ _ rfl rfl _ _ rfl rfl (S1 _ rfl) ?_);simp only[pts]))
 generalize w1.heap.size=N at *
 generalize w1.alloc (dmO f pp cp (.slice (some ⟨go1,0,none⟩) zs.length cap1) (g:Int) c a)=WL at *
 clear S1 CP ST hW2 hzs
 go_loopw [7] (fun _ wr=>MyI w N go1 f pp cp cl R wr) (fun _ wr=>lenAt N wr)
 case atStart=>exact I1.out
 case round =>
  clear I1
  rename World=>wr
  obtain⟨⟨cap2,zs2,g2,c2,a2,s2,hD,hrm,hRR⟩,hx,hr,hb,n1,n2⟩:=hrel
  have CP:=dCopy_any hD
  have z1':=hD.z1
  have zl':=hD.zl
  have hlen:=lenAt_of hD
  have hNl:=hD.lt
  cases hH:hereD f.toks ⟨zs2.reverse,g2,c2,a2⟩ cl.k cl.cnt cl.nm with
  | some m =>
   have FIN:Hid (∀ w2 go2 cap2',CpD f pp cp zs2 g2 c2 a2 wr go2 cap2' w2->Calls Tryz.prog 49 #[.pointer (some ⟨w2.heap.size,0,none⟩),caV cl] (w2.alloc (dmO f pp cp (.slice (some ⟨go2,0,none⟩) zs2.length cap2') (g2:Int) c2 a2)) fun e w3=>e = .returned (.bool true)/\Hid (∃ go' cap',w3.heap[w2.heap.size]?=some (dmO f pp cp (.slice (some ⟨go',0,none⟩) m.op.length cap') (m.group:Int) m.count m.all)/\w3.heap[w.heap.size+1]?=some zM/\MyP f pp cp R w (.returned (.tuple #[dmV f pp cp (.slice (some ⟨go',0,none⟩) m.op.length cap') (m.group:Int) m.count m.all,.bool true])) (w3.setRow (w.heap.size+1) (dmA f pp cp (.slice (some ⟨go',0,none⟩) m.op.length cap') (m.group:Int) m.count m.all)))):=⟨fun w2 go2 cap2' hc=>by
    have e1:=hc.b.size
    have e0:=hb.size
    have hb2:=hc.b.trans ((bel1 w2 (dmO f pp cp (.slice (some ⟨go2,0,none⟩) zs2.length cap2') (g2:Int) c2 a2)).mono e1)
    have hbw:=hb.trans (hb2.mono hb.size)
    refine(dHere_any hz (ds_new hc.o zl' z1') (TL.out _ hbw) hrm cl hk).mono ?_
    intro e w3 hP
    unfold HrP at hP
    rw[hH] at hP
    obtain⟨rfl,⟨go',cap',hd',hg'⟩,hkb⟩:=hP
    have hge:=hc.ge
    have hbk:Below (w.heap.size+2) _ w3:=kb_below (B:=w.heap.size+2) hkb (by intro k hk;simp at hk;omega) (by simp;omega)
    have hg2:w.heap.size+2<=go':=by rcases hg' with e|e;omega;simp at e;omega
    have hml:m.op.reverse.length=m.op.length:=List.length_reverse
    have hcc:=hd'.c
    rw[hml] at hcc
    refine⟨rfl,⟨go',cap',hcc,(hbk.block _ (by omega)).trans ((hb2.block _ (by omega)).trans hr),bel_row (hbw.trans (hbk.mono (by omega))) (by omega),?_⟩⟩
    rw[<- hRR,mayF_some z1' hH]
    exact⟨go',cap',rfl,hd'.o.same (setRow_other _ _ _ _ (by omega)),by omega⟩⟩
   have LX:Hid (∀ w2 go2 cap2',CpD f pp cp zs2 g2 c2 a2 wr go2 cap2' w2->(w2.alloc (dmO f pp cp (.slice (some ⟨go2,0,none⟩) zs2.length cap2') (g2:Int) c2 a2)).heap[w.heap.size]?=some (caO cl)):=⟨fun w2 go2 cap2' hc=>by
    have e1:=hc.b.size
    have hb2:=hc.b.trans ((bel1 w2 (dmO f pp cp (.slice (some ⟨go2,0,none⟩) zs2.length cap2') (g2:Int) c2 a2)).mono e1)
    exact(hb2.block _ (by omega)).trans hx⟩
   clear hD hrm hx hr hb hH hRR hlen TL
   go_wp2_with (first
    | (go_at_call 8;refine CP.mono ?_;rintro _ w2 ⟨go2,cap2',rfl,hc⟩;have S1:=fun z hz=>dm_new w2 z hz f pp cp (some ⟨go2,0,none⟩) zs2.length cap2' (g2:Int) c2 a2;have HE:=FIN.out w2 go2 cap2' hc;have L1:=ca_ld (LX.out w2 go2 cap2' hc);clear hc)
    | (guard_target =~ wpList _ _ _ (Oper.mk _ (Op.store 34 _ _) _ _ _ _::_) _ _;go_must (first|refine wpList_st 34 _ _ rfl rfl _ _ rfl rfl (S1 _ rfl) ?_|refine wpList_st 34 _ _ rfl rfl _ _ rfl rfl S2 ?_);simp only[pts])
    | (guard_target =~ wpList _ _ _ (Oper.mk _ (Op.load 45 _) _ _ _ _::_) _ _;go_must (refine wpList_ld 45 _ rfl rfl _ _ rfl L1 ?_);simp only[pts])
    | (guard_target =~ wpList _ _ _ (Oper.mk _ (Op.load 34 _) _ _ _ _::_) _ _;go_must (refine wpList_ld 34 _ rfl rfl _ _ rfl L2 ?_);simp only[pts])
    | (go_at_call 49;refine HE.mono ?_;rintro _ w3 ⟨rfl,hQ⟩;obtain⟨go',cap',q1,q2,q3⟩:=hQ.out;have L2:=dm_ld q1;have S2:=dm_st (old:=zMa) q2 rfl f pp cp (some ⟨go',0,none⟩) m.op.length cap' (m.group:Int) m.count m.all;replace q2:=Hid.mk q2;replace q3:=Hid.mk q3;clear q1 hQ))
   exact bodyPost_ret (results_cell_slot (v2:=.bool true) rfl _ _ (w.heap.size+1) 34 _ _ rfl rfl (setRow_heap _ _ _ _ _ _ q2.out) Tryz.underlying34 rfl infoDM) rfl q3.out
  | none =>
   have hne':zs2≠[]:=fun e=>by rw[e] at z1';simp at z1'
   obtain⟨ys,d,rfl⟩:∃ ys d,zs2=ys++[d]:=⟨zs2.dropLast,zs2.getLast hne',(List.dropLast_concat_getLast hne').symm⟩
   obtain⟨hlv,-,-,-,-⟩:=hrm.lv hz
   have hdB:∃ n t ks,Bgn f.toks d.at_ n t ks:=by
    obtain⟨n,t,ks,hh⟩:=(hlv d (by show d∈(ys++[d]).reverse;simp)).b
    exact⟨n,t,ks,hh.bg⟩
   have htl:f.toks.length<=1000000000000:=by have:=(TL.out _ hb).len;omega
   have hN:∀ e∈ys,(e.next:Int)<=1000000000000:=fun e he=>by
    have:=(hlv e (by show e∈(ys++[d]).reverse;simp[he])).nx
    omega
   have HEN:Hid (∀ w2 go2 cap2',CpD f pp cp (ys++[d]) g2 c2 a2 wr go2 cap2' w2->Calls Tryz.prog 49 #[.pointer (some ⟨w2.heap.size,0,none⟩),caV cl] (w2.alloc (dmO f pp cp (.slice (some ⟨go2,0,none⟩) (ys++[d]).length cap2') (g2:Int) c2 a2)) fun e w3=>e = .returned (.bool false)/\Hid (Below wr.heap.size wr w3)):=⟨fun w2 go2 cap2' hc=>by
    have e1:=hc.b.size
    have hb2:=hc.b.trans ((bel1 w2 (dmO f pp cp (.slice (some ⟨go2,0,none⟩) (ys++[d]).length cap2') (g2:Int) c2 a2)).mono e1)
    have hbw:=hb.trans (hb2.mono hb.size)
    refine(dHere_any hz (ds_new hc.o zl' z1') (TL.out _ hbw) hrm cl hk).mono ?_
    intro e w3 hP
    unfold HrP at hP
    rw[hH] at hP
    exact⟨hP.1,⟨hb2.trans (hP.2.mono hb2.size)⟩⟩⟩
   have LX:Hid (∀ w2 go2 cap2',CpD f pp cp (ys++[d]) g2 c2 a2 wr go2 cap2' w2->(w2.alloc (dmO f pp cp (.slice (some ⟨go2,0,none⟩) (ys++[d]).length cap2') (g2:Int) c2 a2)).heap[w.heap.size]?=some (caO cl)):=⟨fun w2 go2 cap2' hc=>by
    have e1:=hc.b.size
    have hb2:=hc.b.trans ((bel1 w2 (dmO f pp cp (.slice (some ⟨go2,0,none⟩) (ys++[d]).length cap2') (g2:Int) c2 a2)).mono e1)
    exact(hb2.block _ (by omega)).trans hx⟩
   cases hL:leavesD f.toks ⟨(ys++[d]).reverse,g2,c2,a2⟩ with
   | none =>
    have LV:Hid (∀ w3,Below wr.heap.size wr w3->Calls Tryz.prog 50 #[.pointer (some ⟨N,0,none⟩)] w3 fun e w4=>e = .returned (.bool false)/\Hid (w4.heap[N]?=some (dmO f pp cp (.slice (some ⟨go1,0,none⟩) (ys++[d]).length cap2) (g2:Int) c2 a2)/\w4.heap[w.heap.size+1]?=some zM/\MyP f pp cp R w (.returned (.tuple #[dmV f pp cp (.slice (some ⟨go1,0,none⟩) (ys++[d]).length cap2) (g2:Int) c2 a2,.bool false])) (w4.setRow (w.heap.size+1) (dmA f pp cp (.slice (some ⟨go1,0,none⟩) (ys++[d]).length cap2) (g2:Int) c2 a2)))):=⟨fun w3 hb3=>by
     refine(dLeaves_any (hD.below hb3) (TL.out _ (hb.trans (hb3.mono hb.size))) hdB hN).mono ?_
     intro e w4 hP
     unfold LvP at hP
     rw[hL] at hP
     have hb4:=hb3.trans (hP.2.mono hb3.size)
     refine⟨hP.1,⟨(hD.below hb4).c,(hb4.block _ (by omega)).trans hr,bel_row (hb.trans (hb4.mono hb.size)) (by omega),?_⟩⟩
     rw[<- hRR,mayF_none z1' hH hL]
     exact⟨_,_,_,_,_,_,rfl⟩⟩
    generalize ys++[d]=zs2 at *
    clear hD hrm hx hr hb hH hRR hlen TL hlv hN hdB hL
    go_wp2_with (first
     | (go_at_call 8;refine CP.mono ?_;rintro _ w2 ⟨go2,cap2',rfl,hc⟩;have S1:=fun z hz=>dm_new w2 z hz f pp cp (some ⟨go2,0,none⟩) zs2.length cap2' (g2:Int) c2 a2;have HE:=HEN.out w2 go2 cap2' hc;have L1:=ca_ld (LX.out w2 go2 cap2' hc);clear hc)
     | (guard_target =~ wpList _ _ _ (Oper.mk _ (Op.store 34 _ _) _ _ _ _::_) _ _;go_must (first|refine wpList_st 34 _ _ rfl rfl _ _ rfl rfl (S1 _ rfl) ?_|refine wpList_st 34 _ _ rfl rfl _ _ rfl rfl S2 ?_);simp only[pts])
     | (guard_target =~ wpList _ _ _ (Oper.mk _ (Op.load 45 _) _ _ _ _::_) _ _;go_must (refine wpList_ld 45 _ rfl rfl _ _ rfl L1 ?_);simp only[pts])
     | (guard_target =~ wpList _ _ _ (Oper.mk _ (Op.load 34 _) _ _ _ _::_) _ _;go_must (refine wpList_ld 34 _ rfl rfl _ _ rfl L2 ?_);simp only[pts])
     | (go_at_call 49;refine HE.mono ?_;rintro _ w3 ⟨rfl,hQ⟩;have LE:=LV.out w3 hQ.out;clear hQ)
     | (go_at_call 50;refine LE.mono ?_;rintro _ w4 ⟨rfl,hQ⟩;obtain⟨q1,q2,q3⟩:=hQ.out;have L2:=dm_ld q1;have S2:=dm_st (old:=zMa) q2 rfl f pp cp (some ⟨go1,0,none⟩) zs2.length cap2 (g2:Int) c2 a2;replace q2:=Hid.mk q2;replace q3:=Hid.mk q3;clear q1 hQ))
    exact bodyPost_ret (results_cell_slot (v2:=.bool false) rfl _ _ (w.heap.size+1) 34 _ _ rfl rfl (setRow_heap _ _ _ _ _ _ q2.out) Tryz.underlying34 rfl infoDM) rfl q3.out
   | some m =>
    obtain⟨s3,hrm3,hl3⟩:=hrm.leave hL
    have LV:Hid (∀ w3,Below wr.heap.size wr w3->Calls Tryz.prog 50 #[.pointer (some ⟨N,0,none⟩)] w3 fun e w4=>e = .returned (.bool true)/\Hid (MyI w N go1 f pp cp cl R w4/\lenAt N w4<lenAt N wr)):=⟨fun w3 hb3=>by
     refine(dLeaves_any (hD.below hb3) (TL.out _ (hb.trans (hb3.mono hb.size))) hdB hN).mono ?_
     intro e w4 hP
     unfold LvP at hP
     rw[hL] at hP
     obtain⟨rfl,hD4,hkb⟩:=hP
     have e3:=hb3.size
     have hbk:Below (w.heap.size+2) w3 w4:=kb_below (B:=w.heap.size+2) hkb (by intro k hk;simp at hk;omega) (by omega)
     have hml:m.op.reverse.length=m.op.length:=List.length_reverse
     have hzl:(ys++[d]).length=m.op.length+1:=by have:m.op.length+1=(ys++[d]).reverse.length:=hl3;rw[List.length_reverse] at this;exact this.symm
     refine⟨rfl,⟨⟨⟨cap2,m.op.reverse,m.group,m.count,m.all,s3,hD4,by rw[List.reverse_reverse];exact hrm3,?_⟩,(hbk.block _ (by omega)).trans ((hb3.block _ (by omega)).trans hx),(hbk.block _ (by omega)).trans ((hb3.block _ (by omega)).trans hr),(hb.trans (hb3.mono hb.size)).trans (hbk.mono (by omega)),n1,n2⟩,?_⟩⟩
     ·rw[List.reverse_reverse,hml,<- hRR,hzl,mayF_more hH hL]
     ·rw[lenAt_of hD4,hlen,hml,hzl]
      omega⟩
    generalize ys++[d]=zs2 at *
    clear hD hrm hx hr hb hH hRR hlen TL hlv hN hdB hL hrm3 hl3
    go_wp2_with (first
     | (go_at_call 8;refine CP.mono ?_;rintro _ w2 ⟨go2,cap2',rfl,hc⟩;have S1:=fun z hz=>dm_new w2 z hz f pp cp (some ⟨go2,0,none⟩) zs2.length cap2' (g2:Int) c2 a2;have HE:=HEN.out w2 go2 cap2' hc;have L1:=ca_ld (LX.out w2 go2 cap2' hc);clear hc)
     | (guard_target =~ wpList _ _ _ (Oper.mk _ (Op.store 34 _ _) _ _ _ _::_) _ _;go_must (refine wpList_st 34 _ _ rfl rfl _ _ rfl rfl (S1 _ rfl) ?_);simp only[pts])
     | (guard_target =~ wpList _ _ _ (Oper.mk _ (Op.load 45 _) _ _ _ _::_) _ _;go_must (refine wpList_ld 45 _ rfl rfl _ _ rfl L1 ?_);simp only[pts])
     | (go_at_call 49;refine HE.mono ?_;rintro _ w3 ⟨rfl,hQ⟩;have LE:=LV.out w3 hQ.out;clear hQ)
     | (go_at_call 50;refine LE.mono ?_;rintro _ w4 ⟨rfl,hQ⟩))
    exact hQ.out
structure MbI (w:World) (N go:Nat) (f:Fm) (pp:Option Addr) (cp:Nat) (cl:Cl) (R:Nat) (wr:World):Prop where
 d:∃ cap ys d g c a s,DS wr N go cap f pp cp (ys++[d]) g c a/\RM f s ⟨(ys++[d]).reverse,g,c,a⟩/\memF f.toks cl.k cl.nm (ys++[d]).length ⟨(ys++[d]).reverse,g,c,a⟩=R
 x:wr.heap[w.heap.size]?=some (caO cl)
 b:Below w.heap.size w wr
 n1:w.heap.size+1<=N
 n2:w.heap.size+1<=go
def mbB (f:Fm) (d:DL) (g:Nat) (cl:Cl):Bool:=decide (g=0)&&match (rowZ f.toks d.at_)[d.next]? with
 | some q=>isD f.toks q cl.k cl.nm
 | none=>false
theorem memF_yes (hg:g=0) (hq:(rowZ f.toks d.at_)[d.next]?=some q) (hd:isD f.toks q cl.k cl.nm=true):memF f.toks cl.k cl.nm (ys++[d]).length ⟨(ys++[d]).reverse,g,c,a⟩=q:=by
 rw[List.length_append,rev1]
 show memF f.toks cl.k cl.nm (ys.length+1) _=q
 rw[memF]
 simp only
 rw[if_pos ⟨hg,q,hq,hd⟩,hq]
 rfl
theorem memF_no (h:mbB f d g cl=false):memF f.toks cl.k cl.nm (ys++[d]).length ⟨(ys++[d]).reverse,g,c,a⟩=match leavesD f.toks ⟨(ys++[d]).reverse,g,c,a⟩ with
  | some m'=>memF f.toks cl.k cl.nm ys.length m'
  | none=>0:=by
 rw[List.length_append]
 show memF f.toks cl.k cl.nm (ys.length+1) _=_
 rw[rev1,memF]
 simp only
 have hn:¬ (g=0/\∃ q,(rowZ f.toks d.at_)[d.next]?=some q/\isD f.toks q cl.k cl.nm=true):=by
  rintro⟨hg,q,hq,hd⟩
  unfold mbB at h
  simp[hq,hd,hg] at h
 rw[if_neg hn]
 rfl
def LvQ (w:World) (N go:Nat) (f:Fm) (pp:Option Addr) (cp:Nat) (cl:Cl) (R:Nat) (wr:World) (bb:Bool) (w4:World):Prop:=(bb=true->MbI w N go f pp cp cl R w4/\lenAt N w4<lenAt N wr)/\(bb=false->R=0/\Below w.heap.size w w4)
theorem mb_leave {wr:World} {N:Nat} {R:Nat} (hz:chkZ f=none) (hD:DS wr N go cap f pp cp (ys++[d]) g c a) (hrm:RM f s ⟨(ys++[d]).reverse,g,c,a⟩) (hRR:memF f.toks cl.k cl.nm (ys++[d]).length ⟨(ys++[d]).reverse,g,c,a⟩=R) (hx:wr.heap[w.heap.size]?=some (caO cl)) (hb:Below w.heap.size w wr) (n1:w.heap.size+1<=N) (n2:w.heap.size+1<=go) (TL:∀ W,Below w.heap.size w W->TkL W pp W.heap.size f.toks) (hmb:mbB f d g cl=false) :
  ∃ bb,∀ w3,Below wr.heap.size wr w3->Calls Tryz.prog 50 #[.pointer (some ⟨N,0,none⟩)] w3 fun e w4=>e = .returned (.bool bb)/\Hid (LvQ w N go f pp cp cl R wr bb w4):=by
 obtain⟨hlv,-,-,-,-⟩:=hrm.lv hz
 have hdB:∃ n t ks,Bgn f.toks d.at_ n t ks:=by
  obtain⟨n,t,ks,hh⟩:=(hlv d (by show d∈(ys++[d]).reverse;simp)).b
  exact⟨n,t,ks,hh.bg⟩
 have htl:f.toks.length<=1000000000000:=by have:=(TL _ hb).len;omega
 have hN:∀ e∈ys,(e.next:Int)<=1000000000000:=fun e he=>by
  have:=(hlv e (by show e∈(ys++[d]).reverse;simp[he])).nx
  omega
 have hlen:=lenAt_of hD
 have hNl:=hD.lt
 have hM:=memF_no (ys:=ys) (c:=c) (a:=a) hmb
 rw[hRR] at hM
 cases hL:leavesD f.toks ⟨(ys++[d]).reverse,g,c,a⟩ with
 | none =>
  rw[hL] at hM
  refine⟨false,fun w3 hb3=>(dLeaves_any (hD.below hb3) (TL _ (hb.trans (hb3.mono hb.size))) hdB hN).mono ?_⟩
  intro e w4 hP
  unfold LvP at hP
  rw[hL] at hP
  exact⟨hP.1,⟨fun h=>(by cases h),fun _=>⟨hM,(hb.trans (hb3.mono hb.size)).trans (hP.2.mono (Nat.le_trans hb.size hb3.size))⟩⟩⟩
 | some m =>
  rw[hL] at hM
  obtain⟨s3,hrm3,hl3⟩:=hrm.leave hL
  refine⟨true,fun w3 hb3=>(dLeaves_any (hD.below hb3) (TL _ (hb.trans (hb3.mono hb.size))) hdB hN).mono ?_⟩
  intro e w4 hP
  unfold LvP at hP
  rw[hL] at hP
  obtain⟨rfl,hD4,hkb⟩:=hP
  have e3:=hb3.size
  have hbk:Below (w.heap.size+1) w3 w4:=kb_below (B:=w.heap.size+1) hkb (by intro k hk;simp at hk;omega) (by omega)
  have hml:m.op.reverse.length=m.op.length:=List.length_reverse
  have hzl:ys.length=m.op.length:=by have:m.op.length+1=(ys++[d]).reverse.length:=hl3;simp at this;omega
  have hm1:=hD4.z1
  have hne:m.op.reverse≠[]:=fun e=>by rw[e] at hm1;simp at hm1
  obtain⟨ys',d',hys⟩:∃ ys' d',m.op.reverse=ys'++[d']:=⟨_,_,(List.dropLast_concat_getLast hne).symm⟩
  have hrv:(ys'++[d']).reverse=m.op:=by rw[<- hys,List.reverse_reverse]
  refine⟨rfl,⟨fun _=>⟨⟨⟨cap,ys',d',m.group,m.count,m.all,s3,by rw[<- hys];exact hD4,by rw[hrv];exact hrm3,?_⟩,(hbk.block _ (by omega)).trans ((hb3.block _ (by omega)).trans hx),(hb.trans (hb3.mono hb.size)).trans (hbk.mono (by omega)),n1,n2⟩,?_⟩,fun h=>(by cases h)⟩⟩
  ·rw[hrv,<- hys,hml,<- hzl]
   exact hM.symm
  ·rw[lenAt_of hD4,hlen,hml,<- hzl]
   simp
theorem dMember_any (hz:chkZ f=none) (h:DS w b go cap f pp cp zs g c a) (tl:TkL w pp w.heap.size f.toks) (rm:RM f s ⟨zs.reverse,g,c,a⟩) (cl:Cl) (hk:cl.k=1) :
  Calls Tryz.prog 27 #[.pointer (some ⟨b,0,none⟩),caV cl] w fun e w'=>e = .returned (.int .i64 ((memF f.toks cl.k cl.nm zs.length ⟨zs.reverse,g,c,a⟩:Nat):Int))/\Below w.heap.size w w':=by
 have e3:(cl.k==1)=true:=by rw[hk];rfl
 have e5:(cl.k==3)=false:=by rw[hk];rfl
 clear hk
 generalize hR:memF f.toks cl.k cl.nm zs.length ⟨zs.reverse,g,c,a⟩=R
 have hW2:=bel1 w (caO cl)
 have hz1:(w.alloc (caO cl)).heap[w.heap.size]?=some (caO cl):=heap_al _ _
 have hzs:(w.alloc (caO cl)).heap.size=w.heap.size+1:=World.size_alloc _ _
 have CP:=dCopy_any (h.below hW2)
 have zl:=h.zl
 have z1:=h.z1
 generalize hV:w.alloc (caO cl)=V at *
 have TL:Hid (∀ W,Below w.heap.size w W->TkL W pp W.heap.size f.toks):=⟨fun W hW=>(tl.below hW).mono hW.size⟩
 have ST:Hid (∀ w1 go1 cap1,CpD f pp cp zs g c a V go1 cap1 w1->MbI w w1.heap.size go1 f pp cp cl R (w1.alloc (dmO f pp cp (.slice (some ⟨go1,0,none⟩) zs.length cap1) (g:Int) c a))):=⟨fun w1 go1 cap1 hc=>by
  have e1:=hc.b.size
  have hb:=hc.b.trans ((bel1 w1 (dmO f pp cp (.slice (some ⟨go1,0,none⟩) zs.length cap1) (g:Int) c a)).mono e1)
  have hne:zs≠[]:=fun e=>by rw[e] at z1;simp at z1
  obtain⟨ys',d',hys⟩:∃ ys' d',zs=ys'++[d']:=⟨_,_,(List.dropLast_concat_getLast hne).symm⟩
  have:=ds_new (f:=f) (pp:=pp) (cp:=cp) (g:=g) (c:=c) (a:=a) hc.o zl z1
  exact⟨⟨cap1,ys',d',g,c,a,s,by rw[<- hys];exact this,by rw[<- hys];exact rm,by rw[<- hys];exact hR⟩,(hb.block _ (by omega)).trans hz1,hW2.trans (hb.mono hW2.size),by omega,by have:=hc.ge;omega⟩⟩
 clear h tl rm hR hz1
 go_enter Tryz.func27,Tryz.ntmps27
 go_wp2_with (first
  | (go_at_call 8;refine CP.mono ?_;rintro _ w1 ⟨go1,cap1,rfl,hc⟩;have S1:=fun z hz=>dm_new w1 z hz f pp cp (some ⟨go1,0,none⟩) zs.length cap1 (g:Int) c a;have I1:=ST.out w1 go1 cap1 hc;replace I1:=Hid.mk I1;clear hc)
  | (guard_target =~ wpList _ _ _ (Oper.mk _ (Op.store 34 _ _) _ _ _ _::_) _ _;go_must (refine wpList_st 34 _ _ rfl rfl _ _ rfl rfl (S1 _ rfl) ?_);simp only[pts]))
 generalize w1.heap.size=N at *
 generalize w1.alloc (dmO f pp cp (.slice (some ⟨go1,0,none⟩) zs.length cap1) (g:Int) c a)=WL at *
 clear S1 CP ST hW2 hzs
 go_loopw [6] (fun _ wr=>MbI w N go1 f pp cp cl R wr) (fun _ wr=>lenAt N wr)
 case atStart=>exact I1.out
 case round =>
  clear I1
  rename World=>wr
  obtain⟨⟨cap2,ys,d,g2,c2,a2,s2,hD,hrm,hRR⟩,hx,hb,n1,n2⟩:=hrel
  obtain⟨hlv,-,-,-,-⟩:=hrm.lv hz
  obtain⟨nn,tt,ks,hblk⟩:=(hlv d (by show d∈(ys++[d]).reverse;simp)).b
  have zy:ys.length<=1000000:=by have:=hD.zl;simp at this;omega
  have lK:(ys.length:Int)<(ys.length:Int)+1:=by omega
  have hg0:(ys++[d])[ys.length]?=some d:=by simp
  have b13:wr.cell? ⟨N,13,none⟩=some (.slice (some ⟨go1,0,none⟩) (ys.length+1) cap2):=by have:=cell_at hD.c 13;simpa using this
  have kk0:wr.cell? ⟨go1,ys.length*4,none⟩=some (.int .i64 (d.at_:Int)):=hD.o.at hg0 0 (by decide)
  have kk1:wr.cell? ⟨go1,ys.length*4+1,none⟩=some (.int .i64 (d.next:Int)):=hD.o.at hg0 1 (by decide)
  have kk2:wr.cell? ⟨go1,ys.length*4+2,none⟩=some (.int .i64 d.left):=hD.o.at hg0 2 (by decide)
  have kk3:wr.cell? ⟨go1,ys.length*4+3,none⟩=some (.bool d.block):=hD.o.at hg0 3 (by decide)
  have hB1:=bel1 wr (.cells #[.int .i64 (d.at_:Int),.int .i64 (d.next:Int),.int .i64 d.left,.bool d.block] 55)
  have RW:Calls Tryz.prog 51 #[fmV f pp cp,.int .i64 (d.at_:Int)] (wr.alloc (.cells #[.int .i64 (d.at_:Int),.int .i64 (d.next:Int),.int .i64 d.left,.bool d.block] 55)) fun r w2=>∃ vp vc,r = .returned (.slice vp (rowZ f.toks d.at_).length vc)/\Hid (NSl w2 vp (rowZ f.toks d.at_)/\Below wr.heap.size wr w2/\w2.heap[wr.heap.size]?=some (.cells #[.int .i64 (d.at_:Int),.int .i64 (d.next:Int),.int .i64 d.left,.bool d.block] 55)):=by
   refine(refRow_any f d.at_ nn tt ks pp cp _ (TL.out _ (hb.trans (hB1.mono hb.size))) hblk.bg).mono ?_
   rintro r w2 ⟨v,rfl,q1,q2⟩
   obtain⟨vp,vc,rfl,vN⟩:=q1.shape
   exact⟨vp,vc,rfl,⟨vN,hB1.trans (q2.mono hB1.size),(q2.block _ (by simp)).trans (heap_al _ _)⟩⟩
  have LF:=(dm_form (hD.below hB1).c).load
  have HDs:Hid (∀ W,Below wr.heap.size wr W->DS W N go1 cap2 f pp cp (ys++[d]) g2 c2 a2/\W.heap[w.heap.size]?=some (caO cl)/\Below w.heap.size w W):=⟨fun W hW=>⟨hD.below hW,(hW.block _ (by have:=hb.size;have:=hD.lt;have:w.heap.size<wr.heap.size:=(Array.getElem?_eq_some_iff.1 hx).1;omega)).trans hx,hb.trans (hW.mono hb.size)⟩⟩
  cases hmb:mbB f d g2 cl with
  | false =>
   obtain⟨bb,LV0⟩:=mb_leave hz hD hrm hRR hx hb n1 n2 TL.out hmb
   replace LV0:=Hid.mk LV0
   by_cases hg:g2=0
   ·subst hg
    cases hq:(rowZ f.toks d.at_)[d.next]? with
    | none =>
     have hq0:=List.getElem?_eq_none_iff.1 hq
     have m6:decide (d.next<(rowZ f.toks d.at_).length)=false:=decide_eq_false (by omega)
     have m7:decide ((d.next:Int)<((rowZ f.toks d.at_).length:Int))=false:=decide_eq_false (by omega)
     clear hD hrm hRR hx hb hlv hblk hmb TL hq hq0
     cases bb
     all_goals
      go_wp2_with (first
       | (go_at_call 51;refine RW.mono ?_;rintro _ w2 ⟨vp,vc,rfl,hQ⟩;obtain⟨q1,q2,q3⟩:=hQ.out;obtain⟨hD2,hX2,hB2⟩:=HDs.out w2 q2;have LE:=LV0.out w2 q2;have y14:=cell_at hD2.c 14;have l1:=cell_at q3 1;clear hD2 q1 hQ;replace hB2:=Hid.mk hB2)
       | (guard_target =~ wpList _ _ _ (Oper.mk _ (Op.load 30 _) _ _ _ _::_) _ _;go_must (refine wpList_ld 30 _ rfl rfl _ _ rfl LF ?_);simp only[pts])
       | (go_at_call 50;refine LE.mono ?_;rintro _ w4 ⟨rfl,hP⟩))
     ·obtain⟨rfl,hb4⟩:=hP.out.2 rfl
      go_ret
      exact⟨rfl,hb4⟩
     ·exact hP.out.1 rfl
    | some q =>
     obtain⟨u,hu,_⟩:=hblk.row (List.mem_of_getElem? hq)
     have hisd:isD f.toks q cl.k cl.nm=(decide (u.name=cl.nm)&&((u.op==4)==(cl.k==1))&&((u.op==6)==(cl.k==3))):=by unfold isD;rw[opAt_some hu,nmAt_some hu];rfl
     rw[e3,e5] at hisd
     have hnd:isD f.toks q cl.k cl.nm=false:=by
      unfold mbB at hmb
      rw[hq] at hmb
      simpa using hmb
     have hx3:Hid ((u.name.toList==cl.nm.toList)=false\/((u.name.toList==cl.nm.toList)=true/\(u.op==4)=false)\/((u.name.toList==cl.nm.toList)=true/\(u.op==4)=true/\(u.op==6)=true)):=⟨by
      have hbn:(u.name.toList==cl.nm.toList)=decide (u.name=cl.nm):=by
       by_cases h:u.name=cl.nm
       ·rw[h];simp
       ·have h':¬ u.name.toList=cl.nm.toList:=fun e=>h (ba_eq.2 e)
        simp[h,h']
      rw[hbn]
      rw[hisd] at hnd
      generalize decide (u.name=cl.nm)=A1 at *
      generalize (u.op==4)=A2 at *
      generalize (u.op==6)=A3 at *
      clear hbn hisd
      cases A1<;>cases A2<;>cases A3<;>simp_all⟩
     clear hisd hnd
     obtain⟨gt,ot,pu,cu,hpp,hgt,hT0,-⟩:=(TL.out wr hb).at hu
     subst hpp
     have hql:q<f.toks.length:=(List.getElem?_eq_some_iff.1 hu).1
     have m5:(q:Int)<(f.toks.length:Int):=by omega
     have hdl:d.next<(rowZ f.toks d.at_).length:=(List.getElem?_eq_some_iff.1 hq).1
     have m4:(d.next:Int)<((rowZ f.toks d.at_).length:Int):=by omega
     have m6:decide (d.next<(rowZ f.toks d.at_).length)=true:=decide_eq_true hdl
     have m7:decide ((d.next:Int)<((rowZ f.toks d.at_).length:Int))=true:=decide_eq_true m4
     have LT:Hid (∀ W,Below wr.heap.size wr W->(Instr.loadAt 83 (.pointer (some ⟨gt,ot+q*21,none⟩))).run Tryz.prog W = .ok (tkV u pu cu) W):=⟨fun W hW=>(hT0.below hgt hW).load⟩
     have hq':Hid ((rowZ f.toks d.at_)[d.next]?=some q):=⟨hq⟩
     have gg:((0:Nat):Int)=0:=rfl
     clear hD hrm hRR hx hb hlv hblk hmb TL hu hq hT0 hdl gg
     go_wp2_with (first
      | (go_at_call 51;refine RW.mono ?_;rintro _ w2 ⟨vp,vc,rfl,hQ⟩;obtain⟨q1,q2,q3⟩:=hQ.out;obtain⟨rr,rfl,hrl,hrc⟩:=q1 d.next q hq'.out;obtain⟨hD2,hX2,hB2⟩:=HDs.out w2 q2;have y14:=cell_at hD2.c 14;have y12:=cell_at hD2.c 12;have l1:=cell_at q3 1;have x0:=cell_at hX2 0;have x1:=cell_at hX2 1;clear q1 hQ;replace hB2:=Hid.mk hB2;replace hD2:=Hid.mk hD2;replace hX2:=Hid.mk hX2;replace q2:=Hid.mk q2;replace q3:=Hid.mk q3)
      | (guard_target =~ wpList _ _ _ (Oper.mk _ (Op.load 30 _) _ _ _ _::_) _ _;go_must (refine wpList_ld 30 _ rfl rfl _ _ rfl LF ?_);simp only[pts]))
     obtain⟨p,pI,pN,r12,rl1,rrc,LT2⟩:∃ p:World->Prop,(∀ W,Below w2.heap.size w2 W->p W)/\Nonempty (CW p)/\(∀ θ:CW p,θ.w.cell? ⟨N,12,none⟩=some (.slice (some ⟨gt,ot,none⟩) f.toks.length cp))/\(∀ θ:CW p,θ.w.cell? ⟨wr.heap.size,1,none⟩=some (.int .i64 (d.next:Int)))/\(∀ θ:CW p,θ.w.cell? ⟨rr,d.next,none⟩=some (.int .i64 (q:Int)))/\(∀ W,(∃ θ:CW p,W=θ.w)->(Instr.loadAt 83 (.pointer (some ⟨gt,ot+q*21,none⟩))).run Tryz.prog W = .ok (tkV u pu cu) W) :=
      ⟨Below w2.heap.size w2,fun _ h=>h,⟨⟨w2,Below.refl _ _⟩⟩,fun θ=>(θ.h.cell (p:=⟨N,12,none⟩) hD2.out.lt.1).trans y12,fun θ=>(θ.h.cell (p:=⟨wr.heap.size,1,none⟩) (lt_of_blk q3.out)).trans l1,fun θ=>(θ.h.cell (p:=⟨rr,d.next,none⟩) hrl).trans hrc,by
       rintro _ ⟨θ,rfl⟩
       exact LT.out _ (q2.out.trans (θ.h.mono q2.out.size))⟩
     refine wp_region_lw 11 (fun V=>∃ θ:CW p,V=θ.w) (by kernel_rfl) (by kernel_rfl) (fun _ _ d _ _ h=>by cases d<;>exact h) ⟨⟨_,pI _ (Below.refl _ _).drew⟩,rfl⟩ ?_
     repeat (first|(refine lw_ld LT2 rfl (by rfl) ?_;simp only[pts])|(refine lw_one rfl ?_;(first|go_big_quiet_skip|(go_big_quiet_want;go_big_quiet_op;go_big_quiet_on));refine wpQuiet_nil ?_))
     refine lw_al (al_tk w2.drew) ⟨⟨_,pI _ ((Below.refl _ _).drew.trans (bel1 w2.drew zTkD))⟩,rfl⟩ (by rfl) ?_
     simp only[pts]
     refine lw_st (st_new w2.drew zTa rfl u pu cu) rfl rfl (by rfl) ?_
     simp only[pts]
     have hV3:Below w2.heap.size w2 (w2.drew.alloc (tkO u pu cu)):=(Below.refl _ _).drew.trans (bel1 w2.drew (tkO u pu cu))
     have hTK:=tk_of (heap_al w2.drew (tkO u pu cu))
     have tk0:(w2.drew.alloc (tkO u pu cu)).cell? ⟨w2.drew.heap.size,0,none⟩=some (.int .i64 u.op):=hTK.c0
     have tk1:(w2.drew.alloc (tkO u pu cu)).cell? ⟨w2.drew.heap.size,1,none⟩=some (.string u.name):=hTK.c1
     have y0:=(hV3.cell (p:=⟨w.heap.size,0,none⟩) (lt_of_blk hX2.out)).trans x0
     have y1:=(hV3.cell (p:=⟨w.heap.size,1,none⟩) (lt_of_blk hX2.out)).trans x1
     have yl1:=(hV3.cell (p:=⟨wr.heap.size,1,none⟩) (lt_of_blk q3.out)).trans l1
     have yr:=(hV3.cell (p:=⟨rr,d.next,none⟩) hrl).trans hrc
     have hV4:Hid _:=⟨q2.out.trans (hV3.mono q2.out.size)⟩
     have hV5:Hid _:=⟨hB2.out.trans (hV3.mono hB2.out.size)⟩
     generalize hVV:w2.drew.alloc (tkO u pu cu)=V3 at *
     dsimp only [World.drew] at tk0 tk1
     clear hVV hTK hV3 r12 rl1 rrc LT2 pI pN LT y12 l1 x0 x1 hrc
     have LE:=LV0.out V3 hV4.out
     rcases hx3.out with e1|⟨e1,e2⟩|⟨e1,e2,e4⟩
     all_goals
      cases bb
      all_goals
       go_wp2_with (go_at_call 50;refine LE.mono ?_;rintro _ w4 ⟨rfl,hP⟩)
      ·obtain⟨rfl,hb4⟩:=hP.out.2 rfl
       go_ret
       exact⟨rfl,hb4⟩
      ·exact hP.out.1 rfl
   ·have g1:((g2:Int)==0)=false:=by simp;exact hg
    clear hD hrm hRR hx hb hlv hblk hmb TL hg
    cases bb
    all_goals
     go_wp2_with (first
      | (go_at_call 51;refine RW.mono ?_;rintro _ w2 ⟨vp,vc,rfl,hQ⟩;obtain⟨q1,q2,q3⟩:=hQ.out;obtain⟨hD2,hX2,hB2⟩:=HDs.out w2 q2;have LE:=LV0.out w2 q2;have y14:=cell_at hD2.c 14;have l1:=cell_at q3 1;clear hD2 q1 hQ;replace hB2:=Hid.mk hB2)
      | (guard_target =~ wpList _ _ _ (Oper.mk _ (Op.load 30 _) _ _ _ _::_) _ _;go_must (refine wpList_ld 30 _ rfl rfl _ _ rfl LF ?_);simp only[pts])
      | (go_at_call 50;refine LE.mono ?_;rintro _ w4 ⟨rfl,hP⟩))
    ·obtain⟨rfl,hb4⟩:=hP.out.2 rfl
     go_ret
     exact⟨rfl,hb4⟩
    ·exact hP.out.1 rfl
  | true =>
   unfold mbB at hmb
   obtain⟨hg,q,hq,hd⟩:g2=0/\∃ q,(rowZ f.toks d.at_)[d.next]?=some q/\isD f.toks q cl.k cl.nm=true:=by
    cases hq:(rowZ f.toks d.at_)[d.next]? with
    | none=>rw[hq] at hmb;simp at hmb
    | some q =>
     rw[hq] at hmb
     simp only[Bool.and_eq_true,decide_eq_true_eq] at hmb
     exact⟨hmb.1,q,rfl,hmb.2⟩
   subst hg
   obtain⟨u,hu,_⟩:=hblk.row (List.mem_of_getElem? hq)
   have hisd:isD f.toks q cl.k cl.nm=(decide (u.name=cl.nm)&&((u.op==4)==(cl.k==1))&&((u.op==6)==(cl.k==3))):=by unfold isD;rw[opAt_some hu,nmAt_some hu];rfl
   rw[e3,e5] at hisd
   have hRq:R=q:=by rw[<- hRR];exact memF_yes rfl hq hd
   rw[hisd] at hd
   simp only[Bool.and_eq_true,decide_eq_true_eq,beq_iff_eq] at hd
   obtain⟨⟨hd1,hd2⟩,hd3⟩:=hd
   have e1:(u.name.toList==cl.nm.toList)=true:=by rw[hd1];simp
   have e2:(u.op==4)=true:=by simp[hd2]
   have e4:(u.op==6)=false:=hd3
   have hRq':Hid _:=⟨hRq⟩
   clear hd1 hd2 hd3 hisd hRq
   obtain⟨gt,ot,pu,cu,hpp,hgt,hT0,-⟩:=(TL.out wr hb).at hu
   subst hpp
   have hql:q<f.toks.length:=(List.getElem?_eq_some_iff.1 hu).1
   have m5:(q:Int)<(f.toks.length:Int):=by omega
   have hdl:d.next<(rowZ f.toks d.at_).length:=(List.getElem?_eq_some_iff.1 hq).1
   have m4:(d.next:Int)<((rowZ f.toks d.at_).length:Int):=by omega
   have m6:decide (d.next<(rowZ f.toks d.at_).length)=true:=decide_eq_true hdl
   have m7:decide ((d.next:Int)<((rowZ f.toks d.at_).length:Int))=true:=decide_eq_true m4
   have LT:Hid (∀ W,Below wr.heap.size wr W->(Instr.loadAt 83 (.pointer (some ⟨gt,ot+q*21,none⟩))).run Tryz.prog W = .ok (tkV u pu cu) W):=⟨fun W hW=>(hT0.below hgt hW).load⟩
   have hq':Hid ((rowZ f.toks d.at_)[d.next]?=some q):=⟨hq⟩
   have gg:((0:Nat):Int)=0:=rfl
   clear hD hrm hRR hx hb hlv hblk hmb TL hu hq hT0 hdl gg
   go_wp2_with (first
    | (go_at_call 51;refine RW.mono ?_;rintro _ w2 ⟨vp,vc,rfl,hQ⟩;obtain⟨q1,q2,q3⟩:=hQ.out;obtain⟨rr,rfl,hrl,hrc⟩:=q1 d.next q hq'.out;obtain⟨hD2,hX2,hB2⟩:=HDs.out w2 q2;have y14:=cell_at hD2.c 14;have y12:=cell_at hD2.c 12;have l1:=cell_at q3 1;have x0:=cell_at hX2 0;have x1:=cell_at hX2 1;clear q1 hQ;replace hB2:=Hid.mk hB2;replace hD2:=Hid.mk hD2;replace hX2:=Hid.mk hX2;replace q2:=Hid.mk q2;replace q3:=Hid.mk q3)
    | (guard_target =~ wpList _ _ _ (Oper.mk _ (Op.load 30 _) _ _ _ _::_) _ _;go_must (refine wpList_ld 30 _ rfl rfl _ _ rfl LF ?_);simp only[pts]))
   obtain⟨p,pI,pN,r12,rl1,rrc,LT2⟩:∃ p:World->Prop,(∀ W,Below w2.heap.size w2 W->p W)/\Nonempty (CW p)/\(∀ θ:CW p,θ.w.cell? ⟨N,12,none⟩=some (.slice (some ⟨gt,ot,none⟩) f.toks.length cp))/\(∀ θ:CW p,θ.w.cell? ⟨wr.heap.size,1,none⟩=some (.int .i64 (d.next:Int)))/\(∀ θ:CW p,θ.w.cell? ⟨rr,d.next,none⟩=some (.int .i64 (q:Int)))/\(∀ W,(∃ θ:CW p,W=θ.w)->(Instr.loadAt 83 (.pointer (some ⟨gt,ot+q*21,none⟩))).run Tryz.prog W = .ok (tkV u pu cu) W) :=
    ⟨Below w2.heap.size w2,fun _ h=>h,⟨⟨w2,Below.refl _ _⟩⟩,fun θ=>(θ.h.cell (p:=⟨N,12,none⟩) hD2.out.lt.1).trans y12,fun θ=>(θ.h.cell (p:=⟨wr.heap.size,1,none⟩) (lt_of_blk q3.out)).trans l1,fun θ=>(θ.h.cell (p:=⟨rr,d.next,none⟩) hrl).trans hrc,by
     rintro _ ⟨θ,rfl⟩
     exact LT.out _ (q2.out.trans (θ.h.mono q2.out.size))⟩
   refine wp_region_lw 11 (fun V=>∃ θ:CW p,V=θ.w) (by kernel_rfl) (by kernel_rfl) (fun _ _ d _ _ h=>by cases d<;>exact h) ⟨⟨_,pI _ (Below.refl _ _).drew⟩,rfl⟩ ?_
   repeat (first|(refine lw_ld LT2 rfl (by rfl) ?_;simp only[pts])|(refine lw_one rfl ?_;(first|go_big_quiet_skip|(go_big_quiet_want;go_big_quiet_op;go_big_quiet_on));refine wpQuiet_nil ?_))
   refine lw_al (al_tk w2.drew) ⟨⟨_,pI _ ((Below.refl _ _).drew.trans (bel1 w2.drew zTkD))⟩,rfl⟩ (by rfl) ?_
   simp only[pts]
   refine lw_st (st_new w2.drew zTa rfl u pu cu) rfl rfl (by rfl) ?_
   simp only[pts]
   have hV3:Below w2.heap.size w2 (w2.drew.alloc (tkO u pu cu)):=(Below.refl _ _).drew.trans (bel1 w2.drew (tkO u pu cu))
   have hTK:=tk_of (heap_al w2.drew (tkO u pu cu))
   have tk0:(w2.drew.alloc (tkO u pu cu)).cell? ⟨w2.drew.heap.size,0,none⟩=some (.int .i64 u.op):=hTK.c0
   have tk1:(w2.drew.alloc (tkO u pu cu)).cell? ⟨w2.drew.heap.size,1,none⟩=some (.string u.name):=hTK.c1
   have y0:=(hV3.cell (p:=⟨w.heap.size,0,none⟩) (lt_of_blk hX2.out)).trans x0
   have y1:=(hV3.cell (p:=⟨w.heap.size,1,none⟩) (lt_of_blk hX2.out)).trans x1
   have yl1:=(hV3.cell (p:=⟨wr.heap.size,1,none⟩) (lt_of_blk q3.out)).trans l1
   have yr:=(hV3.cell (p:=⟨rr,d.next,none⟩) hrl).trans hrc
   have hV4:Hid _:=⟨q2.out.trans (hV3.mono q2.out.size)⟩
   have hV5:Hid _:=⟨hB2.out.trans (hV3.mono hB2.out.size)⟩
   generalize hVV:w2.drew.alloc (tkO u pu cu)=V3 at *
   dsimp only [World.drew] at tk0 tk1
   clear hVV hTK hV3 r12 rl1 rrc LT2 pI pN LT y12 l1 x0 x1 hrc
   go_wp2_with fail
   go_ret
   have eRq:=hRq'.out
   clear hRq'
   subst eRq
   exact⟨rfl,hV5.out⟩
def schV (md:Region.Mode) (ops:Array Oper) (z:Nat) (i:Nat) (r1:List Nat) (j:Nat) (r2:List Nat):List Nat->Array Bool->Bool
 | [],listed=>(Region.ready md ops listed==[i,j])&&(match ops[i]? with|some o=>!rdK o.op|none=>false)&&(match ops[j]? with|some o=>!rdK o.op|none=>false) && !(i==z) && !(j==z) && !r1.isEmpty && !r2.isEmpty&&schF md ops z r1 (listed.setIfInBounds i true)&&schF md ops z r2 (listed.setIfInBounds j true)&&(r1.length==r2.length)
 | k::r,listed=>(match ops[k]? with
  | some o=>rdK o.op&&(Region.free md ops listed k&&(Region.ready md ops listed).contains k&&(waitsB md ops z k && !(k==z)))
  | none=>false)&&schV md ops z i r1 j r2 r (listed.setIfInBounds k true)
def wpLv (P:Program) (ops:Array Oper) (Q:Exit->Act->World->Prop) (l1 l2:List Oper):List Oper->(World->Prop)->Act->World->Prop
 | [],C,a,w=>wpLw P ops Q l1 C a w/\wpLw P ops Q l2 C a w
 | o::r,C,a,w=>if Region.wanted o (yielded ops a.tmps)=true then o.quiet P a C (fun a'=>wpLv P ops Q l1 l2 r C a' w) else wpLv P ops Q l1 l2 r C (a.put o.dst undef) w
section
variable {P:Program} {md:Region.Mode} {ops:Array Oper} {Q:Exit->Act->World->Prop} {z:Nat}
theorem headAct (hs:Region.noSelect ops=true) (hQ:∀ c (a:Act) d v w,Q (.panic c) (a.put d v) w->Q (.panic c) a w) {r:List Nat} {o:Oper} {l:List Oper} {C:World->Prop} {listed:Array Bool} {a:Act} (ho:ops[i]?=some o) (hr:rdK o.op=false) (he:r.map (fun i=>ops[i]?)=l.map some) (hne:r≠[]) (hv:schF md ops z r (listed.setIfInBounds i true)=true) (hC:C w) (h:wpLw P ops Q (o::l) C a w) :
  wpOp P ops Q i (fun a' w'=>(i≠z->C w')/\wpAnyF P md ops Q C z r.length (listed.setIfInBounds i true) a' w') a w:=by
 unfold wpLw at h
 unfold wpOp
 rw[ho]
 dsimp only
 by_cases hw:Region.wanted o (yielded ops a.tmps)=true
 ·rw[if_pos hw,if_neg (by rw[hr];decide)] at h
  rw[if_pos hw]
  refine .inl (Oper.wp_mono (fun a' w' h'=>?_) h)
  obtain⟨C',hCC,h''⟩:=h'
  rcases hCC with hn|⟨hCC,hc⟩
  ·rw[hn] at he
   cases r with
   | nil=>exact absurd rfl hne
   | cons _ _=>cases he
  ·exact⟨fun _=>hCC _ hc,wpAnyF_narrow hCC _ _ _ _ (wpAnyF_lw hs hQ r l C' _ _ _ he hv hc h'')⟩
 ·rw[if_neg hw] at h
  rw[if_neg hw]
  exact⟨fun _=>hC,wpAnyF_lw hs hQ r l C _ _ _ he hv hC h⟩
theorem wpAnyF_lv (hs:Region.noSelect ops=true) (hQ:∀ c (a:Act) d v w,Q (.panic c) (a.put d v) w->Q (.panic c) a w) {j:Nat} {r1 r2:List Nat} {l1 l2:List Oper} (he1:(i::r1).map (fun i=>ops[i]?)=l1.map some) (he2:(j::r2).map (fun i=>ops[i]?)=l2.map some):∀ (sc:List Nat) (l:List Oper) (C:World->Prop) (listed:Array Bool) (a:Act) (w:World),sc.map (fun i=>ops[i]?)=l.map some->schV md ops z i r1 j r2 sc listed=true->C w->wpLv P ops Q l1 l2 l C a w->wpAnyF P md ops Q C z (sc.length+(r1.length+1)) listed a w
 | [],[],C,listed,a,w,_,hv,hC,h=>by
  unfold schV at hv
  simp only[Bool.and_eq_true,beq_iff_eq,Bool.not_eq_true',List.isEmpty_eq_false_iff] at hv
  obtain⟨⟨⟨⟨⟨⟨⟨⟨⟨h1,h2⟩,h3⟩,h4⟩,h5⟩,h6⟩,h7⟩,h8⟩,h9⟩,h10⟩:=hv
  unfold wpLv at h
  rw[List.length_nil,Nat.zero_add]
  cases l1 with
  | nil=>cases he1
  | cons o1 t1 =>
   cases l2 with
   | nil=>cases he2
   | cons o2 t2 =>
    simp only[List.map_cons,List.cons.injEq] at he1 he2
    rw[he1.1] at h2
    rw[he2.1] at h3
    refine⟨fun h0=>(by rw[h1] at h0;cases h0),fun k hk=>?_⟩
    rw[h1] at hk
    simp only[List.mem_cons,List.not_mem_nil,or_false] at hk
    rcases hk with rfl|rfl
    ·exact headAct hs hQ he1.1 (by simpa using h2) he1.2 h6 h8 hC h.1
    ·rw[h10]
     exact headAct hs hQ he2.1 (by simpa using h3) he2.2 h7 h9 hC h.2
 | [],_::_,_,_,_,_,e,_,_,_=>by cases e
 | _::_,[],_,_,_,_,e,_,_,_=>by cases e
 | k::r,o::l,C,listed,a,w,e,hv,hC,h=>by
  simp only[List.map_cons,List.cons.injEq] at e
  obtain⟨ho,e⟩:=e
  unfold schV at hv
  rw[Bool.and_eq_true,ho] at hv
  obtain⟨h1,h2⟩:=hv
  dsimp only at h1
  rw[Bool.and_eq_true,Bool.and_eq_true,Bool.and_eq_true] at h1
  obtain⟨hr,⟨hf,hc⟩,hwt⟩:=h1
  unfold wpLv at h
  rw[List.length_cons,Nat.add_right_comm]
  by_cases hw:Region.wanted o (yielded ops a.tmps)=true
  ·rw[if_pos hw] at h
   obtain⟨v,hv,h⟩:=h
   exact wpAnyF_take ho hs hf hc hwt (fun c a w=>hQ c a o.dst v w) (.inl ⟨hw,fun W hW=>rd_value hr (hv W hW)⟩) hC (wpAnyF_lv hs hQ he1 he2 r l C _ _ _ e h2 hC h)
  ·rw[if_neg hw] at h
   rw[Bool.not_eq_true] at hw
   exact wpAnyF_take ho hs hf hc hwt (fun c a w=>hQ c a o.dst undef w) (.inr ⟨hw,rfl⟩) hC (wpAnyF_lv hs hQ he1 he2 r l C _ _ _ e h2 hC h)
structure Lv2 (P:Program) (ops:Array Oper) (Q:Exit->Act->World->Prop) (l1 l2:List Oper) (C:World->Prop) (l:List Oper) (a:Act) (w:World):Prop where
 out:wpLv P ops Q l1 l2 l C a w
variable {d:Option Tmp} {op:Op} {ty:TypeId} {ps:String} {af:Array Edge} {gd:Option (Nat×Bool)} {r:List Oper} {a:Act} {w:World} {C:World->Prop} {l1 l2:List Oper}
theorem lv_read (hw:Region.wanted ⟨d,op,ty,ps,af,gd⟩ (yielded ops a.tmps)=true) (h:∀ K:Act->Prop,(∀ a',Lv2 P ops Q l1 l2 C r a' w->K a')->Oper.quiet P ⟨d,op,ty,ps,af,gd⟩ a C K):Lv2 P ops Q l1 l2 C (⟨d,op,ty,ps,af,gd⟩::r) a w:=by
 refine⟨?_⟩
 unfold wpLv
 rw[if_pos hw]
 exact h _ fun _ h=>h.out
theorem lv_one (h:wpQuiet P ops C (fun a'=>Lv2 P ops Q l1 l2 C r a' w) [⟨d,op,ty,ps,af,gd⟩] a):Lv2 P ops Q l1 l2 C (⟨d,op,ty,ps,af,gd⟩::r) a w:=by
 unfold wpQuiet at h
 by_cases hw:Region.wanted ⟨d,op,ty,ps,af,gd⟩ (yielded ops a.tmps)=true
 ·rw[if_pos hw] at h
  refine lv_read hw fun K hK=>?_
  exact Oper.quiet_mono (fun a' h'=>hK a' h') h
 ·rw[if_neg hw] at h
  refine⟨?_⟩
  unfold wpLv
  rw[if_neg hw]
  exact h.out
theorem lv_ld {t:TypeId} {x:Operand} {p v:Value} (hl:∀ W,C W->(Instr.loadAt t p).run P W = .ok v W) (hx:a.eval x=p) (hw:Region.wanted ⟨d,.load t x,ty,ps,af,gd⟩ (yielded ops a.tmps)=true) (h:Lv2 P ops Q l1 l2 C r (a.put d v) w):Lv2 P ops Q l1 l2 C (⟨d,.load t x,ty,ps,af,gd⟩::r) a w :=
 lv_read hw fun K hK=>⟨v,fun W hW=>by
  unfold Oper.quietAt execOp
  simp only[hx,hl W hW,Sem.run_bind,Result.andThen_ok,Sem.run_pure]
  exact⟨rfl,rfl⟩,hK _ h⟩
theorem lv_both (h1:Lw P ops Q C l1 a w) (h2:Lw P ops Q C l2 a w):Lv2 P ops Q l1 l2 C [] a w:=⟨⟨h1.out,h2.out⟩⟩
theorem lw_call2 {f:FuncId} {x1 x2:Operand} {y1 y2:Value} {tx:Array TypeId} {R:Value->World->Prop} (hen:∀ ag w,(callFunc f ag).run P w = .ok (.enter f ag) w) (hc:Calls P f #[y1,y2] w fun e w'=>∃ v,e = .returned v/\R v w') (h1:a.eval x1=y1) (h2:a.eval x2=y2) (hw:Region.wanted ⟨d,.call { callee:=.value (.func f),args:=#[x1,x2],argTypes:=tx },ty,ps,af,gd⟩ (yielded ops a.tmps)=true)
  (h:∀ v w',R v w'->C w'/\Lw P ops Q C r (a.put d v) w'):Lw P ops Q C (⟨d,.call { callee:=.value (.func f),args:=#[x1,x2],argTypes:=tx },ty,ps,af,gd⟩::r) a w :=
 lw_act hw rfl fun K hK=>by
  have hf:a.eval (.func f) = .func (.func f) #[] #[]:=rfl
  unfold Oper.wp execOp
  simp only[resolve,invoke,Sem.run_bind,hf]
  simp[Deferred.ofValue,hen,Oper.upon_enter,h1,h2]
  refine hc.mono ?_
  rintro e w' ⟨v,rfl,hp⟩
  exact hK _ _ C (.inr ⟨fun _ h=>h,(h v w' hp).1⟩) (h v w' hp).2
end
theorem wp_region_lv {Q:Exit->Act->World->Prop} {id:Nat} {a:Act} {l:List Oper} (z:Nat) (C:World->Prop) (sc:List Nat) (i:Nat) (r1:List Nat) (j:Nat) (r2:List Nat) (hm:P.follows .mixedOrders=true)
  (hv:(Region.noSelect l.toArray&&schV .any l.toArray z i r1 j r2 sc (Array.replicate l.length false)&&(sc.length+(r1.length+1)==l.length)&&(sc++i::r1++j::r2).all (fun i=>decide (i<l.length)))=true)
  (hQ:∀ c (a:Act) d v w,Q (.panic c) (a.put d v) w->Q (.panic c) a w) (hp:C w.drew) (h:Lv2 P l.toArray Q ((i::r1).filterMap fun i=>l[i]?) ((j::r2).filterMap fun i=>l[i]?) C (sc.filterMap fun i=>l[i]?) a w.drew):(Code.region id l.toArray true).wp P Q a w:=by
 rw[Bool.and_eq_true,Bool.and_eq_true,Bool.and_eq_true,beq_iff_eq] at hv
 have ha:=hv.2
 rw[List.all_append,List.all_append,Bool.and_eq_true,Bool.and_eq_true] at ha
 refine wp_region_F z C hm hp fun _=>?_
 have:=wpAnyF_lv (z:=z) hv.1.1.1 hQ (pick_map l (i::r1) ha.1.2) (pick_map l (j::r2) ha.2) _ _ C _ a w.drew (pick_map l sc ha.1.1) hv.1.1.2 hp h.out
 rw[hv.1.2] at this
 simpa using this
theorem grp_prim (hz:chkZ f=none) {p:Nat} {t:Tk} {ks:List Nat} (hb:Blk f p n t ks) (hq:q∈rowZ f.toks p) {u:Tk} (hu:f.toks[q]?=some u) (h4:u.op=4):u.b.p=5\/u.b.p=6\/u.b.p=7:=by
 have hg:bgO t.op=true:=by rcases hb.op with h|h<;>rw[h]<;>rfl
 obtain⟨n2,ks2,h1,h2⟩:=bgn_took hz hb.bg.et hg
 have hk:q∈ks2:=by
  unfold rowZ at hq
  rw[h1.kids] at hq
  exact(List.mem_filter.1 hq).1
 obtain⟨j,hj⟩:=List.getElem?_of_mem hk
 obtain⟨x,o,ids,e1,e2,e3,e4,e5⟩:=h2 j q u hj hu
 unfold inOk at e4
 rw[if_neg (by rw[e5];decide)] at e4
 simp only[Bool.and_eq_true] at e4
 have e6:=e4.2.2
 unfold rulB at e6
 rw[if_neg (by rw[h4];decide),if_pos h4] at e6
 unfold grpB lieB numB at e6
 simp only[Bool.and_eq_true,decide_eq_true_eq] at e6
 have e7:=e6.1.2.2.1
 omega
theorem gmax_mx {p:Int} (h:p=5\/p=6\/p=7):gmax p=mx p/\0<=mx p:=by rcases h with rfl|rfl|rfl<;>decide
theorem mem_group (hz:chkZ f=none) (rm:RM f s m) (hm:mayF f.toks 1 cnt nm m.op.length m=some m'):m'.all=m.all/\∃ u,f.toks[memF f.toks 1 nm m.op.length m]?=some u/\gmax u.b.p=mx u.b.p/\0<=mx u.b.p:=by
 obtain⟨hok,hi,hr⟩:=rm
 obtain⟨op,ent⟩:=s
 cases op with
 | nil=>exact absurd rfl hok.ne
 | cons x r =>
  obtain⟨y,r',e1,e2⟩:=step_m hz (k:=1) (.inl rfl) nm cnt hok hi hr (Nat.le_refl _)
  cases hy:memZ f.toks y 1 nm with
  | none =>
   rw[hy] at e2
   have e2:mayF f.toks 1 cnt nm m.op.length m=none:=e2
   rw[e2] at hm
   cases hm
  | some q =>
   rw[hy] at e2
   obtain⟨e3,m2,e4,e5,_⟩:=e2
   rw[e4] at hm
   cases hm
   refine⟨e5,?_⟩
   rw[e3]
   have hyo:y∈x::r:=by
    have:∀ l:List Lv,∀ z∈leaveR f.toks l,z∈l:=by
     intro l
     induction l with
     | nil=>intro z hz;cases hz
     | cons a b ih =>
      intro z hz
      cases b with
      | nil=>exact hz
      | cons c d =>
       rw[leaveR] at hz
       split at hz
       ·exact List.mem_cons_of_mem _ (ih z hz)
       ·exact hz
    exact this _ y (by rw[e1];exact List.mem_cons_self ..)
   obtain⟨n,t,ks,hblk⟩:=(hok.all y hyo).blk hz (hi y hyo)
   unfold memZ at hy
   split at hy
   ·cases hq:(rowZ f.toks y.p)[y.come]? with
    | none=>rw[hq] at hy;cases hy
    | some q2 =>
     rw[hq] at hy
     simp only at hy
     split at hy
     ·rename_i hc
      cases hy
      have hmem:=List.mem_of_getElem? hq
      obtain⟨u,hu,hop,_⟩:=hblk.row hmem
      have h4:u.op=4:=by
       have:=hc.1
       rw[opAt_some hu] at this
       unfold knd at this
       rcases hop with h|h
       ·exact h
       ·rw[h] at this;cases this
      exact⟨u,hu,gmax_mx (grp_prim hz hblk hmem hu h4)⟩
     ·cases hy
   ·cases hy
def StD (b go:Nat) (f:Fm) (pp:Option Addr) (cp:Nat) (R:Int×DM) (w:World) (e:Ending) (w':World):Prop:=e = .returned (.int .i64 R.1)/\(∃ go' cap',DS w' b go' cap' f pp cp R.2.op.reverse R.2.group R.2.count R.2.all/\(go'=go\/w.heap.size<=go'))/\Kb [b] w w'
theorem st_no {er:Int} (hR:R=(er,⟨zs.reverse,g,c,a⟩)) (h:DS w b go cap f pp cp zs g c a) (hb:Below w.heap.size w w'):StD b go f pp cp R w (.returned (.int .i64 er)) w':=by
 subst hR
 refine⟨rfl,⟨go,cap,?_,.inl rfl⟩,Kb.of_below hb⟩
 show DS w' b go cap f pp cp zs.reverse.reverse g c a
 rw[List.reverse_reverse]
 exact h.below hb
theorem st_yes {go1 cap1:Nat} {a2:Int} (hR:R=(0,⟨m.op,m.group,m.count,a2⟩)) {old:Array Value} (hb:Below w.heap.size w W) (hbl:b<w.heap.size) (hold:W.heap[b]?=some (.cells old 34)) (ho:DOp W go1 cap1 m.op.reverse) (hge:w.heap.size<=go1) (h1:0<m.op.length) (hl:m.op.length<=1000000) :
  StD b go f pp cp R w (.returned (.int .i64 0)) (W.setRow b (dmA f pp cp (.slice (some ⟨go1,0,none⟩) m.op.length cap1) (m.group:Int) m.count a2)):=by
 subst hR
 have hml:m.op.reverse.length=m.op.length:=List.length_reverse
 refine⟨rfl,⟨go1,cap1,⟨?_,ho.same (setRow_other _ _ _ _ (by omega)),by omega,by show m.op.reverse.length<=1000000;rw[hml];exact hl,by show 0<m.op.reverse.length;rw[hml];exact h1⟩,.inr hge⟩,⟨hb.os,hb.tape,hb.output,by rw[size_setRow];exact hb.size,fun k hk hn=>(setRow_other _ _ _ _ (by simp at hn;exact hn)).trans (hb.block k hk)⟩⟩
 show _=some (dmO f pp cp (.slice (some ⟨go1,0,none⟩) m.op.reverse.length cap1) (m.group:Int) m.count a2)
 rw[hml]
 exact setRow_heap _ _ _ _ _ _ hold
end Go.Proofs.YtbhmciieiilcfaaGreatDoor
