import Derived.Test.YtjnafpefolgcoaaGreatDoorK21
import Derived.Deep.RegionLaw
namespace Go.Proofs.YtjnafpefolgcoaaGreatDoor
set_option maxRecDepth 1000000
set_option maxHeartbeats 16000000
open Go.ChangeShapes Go.WideShapes Go.ChangeAt Go.RowKit Go.Shelf Go.Maps
theorem infoOf (t:TypeId) (z:Value) (s b:Nat) (h:(Tryz.prog.info? t).map (fun i=>(i.zero,i.size,i.bytes))=some (some z,s,b)):∃ i,Tryz.prog.info? t=some i/\i.zero=some z/\i.size=s/\i.bytes=b:=by
 obtain⟨i,hi,hz⟩:=Option.map_eq_some_iff.1 h
 simp only[Prod.mk.injEq] at hz
 exact⟨i,hi,hz.1,hz.2.1,hz.2.2⟩
theorem svCs_one (g o:Nat) (l:List Sv):∀ u∈svCs g o l,u.oneCell'=true:=by
 intro u hu
 obtain⟨a,_,h⟩:=List.mem_flatMap.1 hu
 simp only[svC,List.mem_cons,List.not_mem_nil,or_false] at h
 rcases h with rfl|rfl|rfl|rfl|rfl|rfl|rfl|rfl<;>rfl
theorem s_ap {W:World} {base g o:Nat} {v:Value} {al bl:List Sv} {ad:Addr} (cb:Nat) (own:W.ownsRow base 109 8 v al.length (svCs g o al)) (hB:∀ (j:Nat) (u:Value),(svCs g o bl)[j]?=some u->W.cell? (ad.add j)=some u) (hl:al.length+bl.length<=977343669134) (hb:base<=W.heap.size) :
  ∃ v' w',(∀ ty,(Builtin.append_ #[82,82] ty #[v,.slice (some ad) bl.length cb]).run Tryz.prog W = .ok v' w')/\(w'.ownsRow base 109 8 v' (al++bl).length (svCs g o (al++bl))/\W.grownBy w' v.ownBlock/\(v'.ownBlock=v.ownBlock\/v'.ownBlock=some W.heap.size)):=by
 obtain⟨i0,hi,hz,hs,hby⟩:=infoOf 109 (.agg #[.pointer none,.int .i64 0,.int .i64 0,.int .i64 0,.int .i64 0,.int .i64 0,.int .i64 0,.int .i64 0]) 8 64 (by kernel_rfl)
 have hr:=fun ty=>run_append_own_at (P:=Tryz.prog) W base 82 ty 109 i0 _ 8 64 Tryz.underlying82 hi hz hs hby rfl (by decide) v al.length (svCs g o al) own ad bl.length cb (svCs g o bl) (svCs_length g o bl) hB (svCs_one g o bl) (by simp only[maxLen];omega) (by omega) hb
 obtain⟨v',w',h1,h2,h3,_,h4⟩:=hr 0
 refine⟨v',w',fun ty=>?_,by rw[List.length_append,svCs_append];exact h2,h3,h4⟩
 have e:(Builtin.append_ #[82,82] ty #[v,.slice (some ad) bl.length cb])=(Builtin.append_ #[82,82] 0 #[v,.slice (some ad) bl.length cb]):=rfl
 rw[e]
 exact h1
theorem own_alloc2 {W W':World} {base:Nat} {e:TypeId} {s:Nat} {v:Value} {n:Nat} {xs:List Value} (h:W.ownsRow base e s v n xs) (hb:Below W.heap.size W W'):W'.ownsRow base e s v n xs:=by
 refine⟨h.1,?_⟩
 rcases h.2 with h0|⟨g,cap,cur,rfl,hb',hg,r⟩
 ·exact .inl h0
 ·exact .inr ⟨g,cap,cur,rfl,hb',(hb.block g (Array.getElem?_eq_some_iff.1 hg).1).trans hg,r⟩
theorem own_op {W:World} {base g o:Nat} {v:Value} {l:List Sv} (h:W.ownsRow base 109 8 v l.length (svCs g o l)) (hl:0<l.length):∃ go cap,v = .slice (some ⟨go,0,none⟩) l.length cap/\OpR W g o go cap l/\base<=go:=by
 rcases h.2 with ⟨_,h0⟩|⟨go,cap,cur,e,hb',hg,h1,h2,h3,h4⟩
 ·omega
 ·exact⟨go,cap,e,⟨cur,hg,h1,h2,h3,h4⟩,hb'⟩
theorem bb2 (w:World) (a b:Obj):Below w.heap.size w ((w.alloc a).alloc b):=(bel1 w a).trans ((bel1 (w.alloc a) b).mono (al_le _ _))
theorem sz2 (w:World) (a b:Obj):((w.alloc a).alloc b).heap.size=w.heap.size+2:=by rw[World.size_alloc,World.size_alloc]
theorem hp2 (w:World) (a b:Obj):((w.alloc a).alloc b).heap[w.heap.size+1]?=some b:=by rw[show w.heap.size+1=(w.alloc a).heap.size from (World.size_alloc ..).symm];exact heap_al _ _
theorem lit8 {W:World} {gB g o:Nat} {x:Sv} {ty:TypeId} (h:W.heap[gB]?=some (.cells (svC g o x).toArray ty)):∀ (j:Nat) (u:Value),(svCs g o [x])[j]?=some u->W.cell? ((⟨gB,0,none⟩:Addr).add j)=some u:=by
 intro j u hu
 have e:(⟨gB,0,none⟩:Addr).add j=⟨gB,0+j,none⟩:=by unfold Addr.add;split<;>simp_all
 rw[e,Nat.zero_add,cell_at h]
 unfold svCs at hu
 rw[List.flatMap_cons,List.flatMap_nil,List.append_nil] at hu
 simpa using hu
theorem push_fin {w W w':World} {B gf g o H m1 m2 m3 go' cap':Nat} {i:Int} {rl v:Value} {dep:Nat->Int} {wh:Bool} {l:List Sv} {n:Nat} (hBl:B<w.heap.size) (hvB:v.ownBlock≠some B) (hW:Below w.heap.size w W) (q2:W.grownBy w' v.ownBlock) (q3:(Value.slice (some ⟨go',0,none⟩) n cap').ownBlock=v.ownBlock\/(Value.slice (some ⟨go',0,none⟩) n cap').ownBlock=some W.heap.size) (qO:OpR w' g o go' cap' l) (qH:H<=go') (c4:CkH w' B gf v i rl m1 m2 m3 dep wh) (k:Nat) :
  CkH (w'.setCell ⟨B,0,none⟩ (.slice (some ⟨go',0,none⟩) k cap')) B gf (.slice (some ⟨go',0,none⟩) k cap') i rl m1 m2 m3 dep wh/\OpR (w'.setCell ⟨B,0,none⟩ (.slice (some ⟨go',0,none⟩) k cap')) g o go' cap' l/\H<=go'/\(some go'=v.ownBlock\/w.heap.size<=go')/\Kb (B::v.ownBlock.toList) w (w'.setCell ⟨B,0,none⟩ (.slice (some ⟨go',0,none⟩) k cap')):=by
 have hs:=hW.size
 have h3:some go'=v.ownBlock\/go'=W.heap.size:=by
  rcases q3 with q|q
  ·exact .inl q
  ·exact .inr (by simpa[Value.ownBlock] using q)
 have hne:B≠go':=by
  rintro rfl
  rcases h3 with q|q
  ·exact hvB q.symm
  ·omega
 refine⟨c4.setOp _,qO.same (set_oth hne),qH,?_,?_⟩
 ·rcases h3 with q|q
  ·exact .inl q
  ·exact .inr (by omega)
 ·have kg:Kb (B::v.ownBlock.toList) W w':=⟨q2.os,q2.tape,q2.output,q2.size,fun j hj he=>q2.block j hj fun e=>he (List.mem_cons_of_mem _ (by rw[<- e];simp))⟩
  exact((Kb.of_below hW).trans kg).set (List.mem_cons_self ..) _
theorem push_any (B gf g o H m1 m2 m3:Nat) (i:Int) (rl v:Value) (dep:Nat->Int) (wh:Bool) (al:List Sv) (x:Sv) (w:World) (hH:CkH w B gf v i rl m1 m2 m3 dep wh) (own:w.ownsRow H 109 8 v al.length (svCs g o al)) (hl:al.length+1<=977343669134) (hHs:H<=w.heap.size) (hvB:v.ownBlock≠some B) :
  Calls Tryz.prog 79 #[.pointer (some ⟨B,0,none⟩),svV g o x] w fun r w'=>r = .returned (.tuple #[])/\∃ go' cap',CkH w' B gf (.slice (some ⟨go',0,none⟩) (al.length+1) cap') i rl m1 m2 m3 dep wh/\OpR w' g o go' cap' (al++[x])/\H<=go'/\(some go'=v.ownBlock\/w.heap.size<=go')/\Kb (B::v.ownBlock.toList) w w':=by
 have hBl:=hH.lt
 have b0:w.cell? ⟨B,0,none⟩=some v:=hH.cell 0
 have hBn:B≠w.heap.size:=by omega
 have fz:=hH.frz 0
 go_enter Tryz.func79,Tryz.ntmps79
 go_wp2_with fail
 go_region_law ((refine step_append_ex rfl _ _ _ _ (by rfl) v (.slice (some ⟨w.heap.size+1,0,none⟩) 1 1) (by rfl) (by rfl) _ (s_ap (bl:=[x]) 1 (own_alloc2 own (by first|exact bb2 _ _ _|exact drw (bb2 _ _ _))) (lit8 (hp2 _ _ _)) hl (by first|(rw[sz2];omega)|(show H<=((w.alloc _).alloc _).heap.size;rw[sz2];omega))) ?_;rintro v' w' ⟨q1,q2,q3⟩;obtain⟨go',cap',rfl,qO,qH⟩:=own_op q1 (by simp);have hk2:w'.heap[B]?=w.heap[B]?:=(q2.block B (Nat.lt_of_lt_of_le hBl (bb2 w _ _).size) (fun e=>hvB e.symm)).trans ((bb2 _ _ _).block B hBl);have c4:=hH.same hk2;have y0:w'.cell? ⟨B,0,none⟩=some v:=c4.cell 0;have yf:=c4.frz 0))
 all_goals
  go_wp2_with fail
  refine bodyPost_end (v:=.tuple #[]) (results_none (by rfl) _ _ _) rfl ⟨rfl,go',cap',?_⟩
  first
  | exact push_fin hBl hvB (drw (bb2 _ _ _)) q2 q3 qO qH c4 _
  | exact push_fin hBl hvB (bb2 _ _ _) q2 q3 qO qH c4 _
theorem ent_pop:∀ ag w,(callFunc 76 ag).run Tryz.prog w = .ok (.enter 76 ag) w:=enters_of Tryz.func76 (by kernel_rfl) rfl
theorem fldTk (g k:Nat) (a b c d e f h:Value) (w:World):(Instr.field 109 (.agg #[.pointer (some ⟨g,k,none⟩),a,b,c,d,e,f,h]) 0).run Tryz.prog w = .ok (.pointer (some ⟨g,k,none⟩)) w:=by kernel_rfl
theorem pass_end (B gf go n cap g o ot m1 m2 m3:Nat) (i:Int) (rl:Value) (dep:Nat->Int) (wh:Bool) (x:Sv) (w:World) (hH:CkH w B gf (.slice (some ⟨go,0,none⟩) (n+1) cap) i rl m1 m2 m3 dep wh) (hX:ScC w g o go (n*8) x) (hgo:go<w.heap.size) (hn:n<1000000000000) (hcap:n+1<=cap) (q qx:Nat) (ht:w.cell? ⟨g,ot,none⟩=some (.int .i64 (q:Int))) (hx:w.cell? ⟨g,o+x.at_*21,none⟩=some (.int .i64 (qx:Int))) (hg:g<w.heap.size) (hgB:g≠B) (hq:q<16) (hqx:qx<16) (he:edO (q:Int)=true) (hd:-1000000000000<=dep qx/\dep qx<=1000000000000) :
  Calls Tryz.prog 45 #[.pointer (some ⟨B,0,none⟩),.pointer (some ⟨g,ot,none⟩)] w fun r w'=>r = .returned (.tuple #[])/\CkH w' B gf (.slice (some ⟨go,0,none⟩) n cap) i rl m1 m2 m3 (fun k=>if k=qx then dep qx-1 else dep k) (decide (n=0))/\Kb [B] w w':=by
 have cE:=fun W=>ends_any (q:Int) W (by omega)
 rw[he] at cE
 have cP:∀ W,Below w.heap.size w W->Calls Tryz.prog 76 #[.pointer (some ⟨B,0,none⟩)] W fun r w'=>∃ v,r = .returned v/\(v = .agg #[.pointer (some ⟨g,o+x.at_*21,none⟩),.int .i64 (x.at_:Int),.int .i64 x.cnt,.int .i64 x.last,.int .i64 x.fld,.int .i64 x.row,.int .i64 x.en,.int .i64 x.cod]/\CkH w' B gf (.slice (some ⟨go,0,none⟩) n cap) i rl m1 m2 m3 dep wh/\Kb [B] w w'/\w'.cell? ⟨g,o+x.at_*21,none⟩=some (.int .i64 (qx:Int))):=fun W hW=>by
  refine(pop_any B gf go n cap g o m1 m2 m3 i rl dep wh x W (hH.same (hW.block B hH.lt)) (hX.same (hW.block go hgo)) (Nat.lt_of_lt_of_le hgo hW.size) hn hcap).mono ?_
  rintro _ w' ⟨rfl,h1,h2⟩
  have k:Kb [B] w w':=(Kb.of_below hW).trans h2
  exact⟨_,rfl,rfl,h1,k,(k.cell hg (by simpa using hgB)).trans hx⟩
 have hq0:(0:Int)<=(qx:Int):=by omega
 have hq1:(qx:Int)<16:=by omega
 have hs:IntKind.i64.wrap (dep qx-1)=dep qx-1:=by rw[IntKind.wrap_i64];omega
 have fT:=fun W=>fldTk g (o+x.at_*21) (.int .i64 (x.at_:Int)) (.int .i64 x.cnt) (.int .i64 x.last) (.int .i64 x.fld) (.int .i64 x.row) (.int .i64 x.en) (.int .i64 x.cod) W
 clear hX hx he
 replace hH:=Hid.mk hH
 go_enter Tryz.func45,Tryz.ntmps45
 go_wp2_with (go_at_call 48;refine(cE _).mono ?_;rintro _ wq ⟨rfl,e⟩;obtain rfl:w=wq:=e.symm)
 go_region_law (refine xstep1 ?_ _ (.tmp 13) #[84] ?_ ent_pop _ ?_ _ (cP _ (by first|exact Below.refl _ _|exact drw (Below.refl _ _))) ?_;rfl;rfl;rfl;rintro _ w1 ⟨rfl,h1,k1,x1⟩;have y4:=h1.ck.cd qx hqx;have yf:=h1.frz (4+qx))
 have h2:=h1.setDep qx hqx (dep qx-1)
 have k2:Kb [B] w (w1.setCell ⟨B,4+qx,none⟩ (.int .i64 (dep qx-1))):=k1.set (List.mem_singleton.2 rfl) _
 generalize w1.setCell ⟨B,4+qx,none⟩ (.int .i64 (dep qx-1))=w2 at h2 k2 ⊢
 have cI:=isEmpty_any B n cap (some ⟨go,0,none⟩) w2 (h2.cell 0)
 have z23:=h2.ck.c23
 have zf:=h2.frz 23
 clear h1 k1 x1 y4 yf cP cE fT
 replace h2:=Hid.mk h2
 replace k2:=Hid.mk k2
 go_wp2_with (go_at_call 77;refine cI.mono ?_;rintro _ wq ⟨rfl,e⟩;obtain rfl:w2=wq:=e.symm)
 refine bodyPost_ret (v:=.tuple #[]) (results_none (by rfl) _ _ _) rfl ⟨rfl,h2.out.setWh _,k2.out.set (List.mem_singleton.2 rfl) _⟩
theorem ent_push:∀ ag w,(callFunc 79 ag).run Tryz.prog w = .ok (.enter 79 ag) w:=enters_of Tryz.func79 (by kernel_rfl) rfl
theorem pass_first (B gf g o k m1 m2 m3:Nat) (rl:Value) (dep:Nat->Int) (wh:Bool) (w:World) (hH:CkH w B gf (.slice none 0 0) (k:Int) rl m1 m2 m3 dep wh) (q:Nat) (sn off:Int) (t0:w.cell? ⟨g,o+k*21,none⟩=some (.int .i64 (q:Int))) (t3:w.cell? ⟨g,o+k*21+3,none⟩=some (.int .i64 off)) (t5:w.cell? ⟨g,o+k*21+5,none⟩=some (.int .i64 sn)) (hg:g<w.heap.size) (hgB:g≠B) (hq:q<16) (he:edO (q:Int)=false) (hb:bgO (q:Int)=true) (hd:-1000000000000<=dep q/\dep q<=1000000000000) :
  Calls Tryz.prog 45 #[.pointer (some ⟨B,0,none⟩),.pointer (some ⟨g,o+k*21,none⟩)] w fun r w'=>r = .returned (.tuple #[])/\∃ go' cap',CkH w' B gf (.slice (some ⟨go',0,none⟩) 1 cap') (k:Int) rl m1 m2 m3 (fun j=>if j=q then dep q+1 else dep j) wh/\OpR w' g o go' cap' [⟨k,0,0,sn,sn,off,0⟩]/\w.heap.size<=go'/\Kb [B] w w':=by
 have cE:=fun W=>ends_any (q:Int) W (by omega)
 have cB:=fun W=>begins_any (q:Int) W (by omega)
 rw[he] at cE
 rw[hb] at cB
 have cI:=isEmpty_any B 0 0 none w (hH.cell 0)
 have hq0:(0:Int)<=(q:Int):=by omega
 have hq1:(q:Int)<16:=by omega
 have hs:IntKind.i64.wrap (dep q+1)=dep q+1:=by rw[IntKind.wrap_i64];omega
 have y4:=hH.ck.cd q hq
 have yf:=hH.frz (4+q)
 clear he hb
 replace hH:=Hid.mk hH
 go_enter Tryz.func45,Tryz.ntmps45
 go_wp2_with (first|(go_at_call 48;refine(cE _).mono ?_;rintro _ wq ⟨rfl,e⟩;obtain rfl:w=wq:=e.symm)|(go_at_call 52;refine(cB _).mono ?_;rintro _ wq ⟨rfl,e⟩;obtain rfl:w=wq:=e.symm)|(go_at_call 77;refine cI.mono ?_;rintro _ wq ⟨rfl,e⟩;obtain rfl:w=wq:=e.symm))
 go_region
 have h2:=(hH.out.setDep q hq (dep q+1)).same (w':=(w.setCell ⟨B,4+q,none⟩ (.int .i64 (dep q+1))).drew) rfl
 have k2:Kb [B] w (w.setCell ⟨B,4+q,none⟩ (.int .i64 (dep q+1))).drew:=((Kb.refl _ _).set (List.mem_singleton.2 rfl) _).drew
 generalize (w.setCell ⟨B,4+q,none⟩ (.int .i64 (dep q+1))).drew=w2 at h2 k2 ⊢
 have hgE:g∉[B]:=by simpa using hgB
 have x0:w2.cell? ⟨g,o+k*21,none⟩=some (.int .i64 (q:Int)):=(k2.cell hg hgE).trans t0
 have x3:w2.cell? ⟨g,o+k*21+3,none⟩=some (.int .i64 off):=(k2.cell hg hgE).trans t3
 have x5:w2.cell? ⟨g,o+k*21+5,none⟩=some (.int .i64 sn):=(k2.cell hg hgE).trans t5
 have z2:=h2.ck.c2
 have cU:∀ W,Below w2.heap.size w2 W->Calls Tryz.prog 79 #[.pointer (some ⟨B,0,none⟩),.agg #[.pointer (some ⟨g,o+k*21,none⟩),.int .i64 (k:Int),.int .i64 0,.int .i64 0,.int .i64 sn,.int .i64 sn,.int .i64 off,.int .i64 0]] W fun r w'=>∃ v,r = .returned v/\(v = .tuple #[]/\∃ go' cap',CkH w' B gf (.slice (some ⟨go',0,none⟩) 1 cap') (k:Int) rl m1 m2 m3 (fun j=>if j=q then dep q+1 else dep j) wh/\OpR w' g o go' cap' [⟨k,0,0,sn,sn,off,0⟩]/\w.heap.size<=go'/\Kb [B] w w'):=fun W hW=>by
  refine(push_any B gf g o w.heap.size m1 m2 m3 (k:Int) rl (.slice none 0 0) _ wh [] ⟨k,0,0,sn,sn,off,0⟩ W (h2.same (hW.block B h2.lt)) ⟨rfl,.inl ⟨rfl,rfl⟩⟩ (by simp) (Nat.le_trans k2.size hW.size) (by simp[Value.ownBlock])).mono ?_
  rintro _ w' ⟨rfl,go',cap',u1,u2,u3,_,u5⟩
  exact⟨_,rfl,rfl,go',cap',u1,u2,u3,(k2.trans (Kb.of_below hW)).trans u5⟩
 clear t0 t3 t5 y4 yf hH cE cB cI hs
 replace h2:=Hid.mk h2
 replace k2:=Hid.mk k2
 go_wp2_with fail
 go_region_law (refine xstep2 ?_ _ (.tmp 80) (.tmp 98) #[84,109] ?_ ent_push _ _ ?_ ?_ _ (cU _ (by first|exact Below.refl _ _|exact drw (Below.refl _ _))) ?_;rfl;rfl;rfl;rfl;rintro _ w3 ⟨rfl,u⟩;replace u:=Hid.mk u)
 all_goals
  go_wp2_with fail
  exact bodyPost_end (v:=.tuple #[]) (results_none (by rfl) _ _ _) rfl ⟨rfl,u.out⟩
theorem pass_leaf (B gf go cap g o ot m1 m2 m3:Nat) (i:Int) (rl:Value) (dep:Nat->Int) (wh:Bool) (L:List Sv) (x:Sv) (w:World) (hH:CkH w B gf (.slice (some ⟨go,0,none⟩) (L.length+1) cap) i rl m1 m2 m3 dep wh) (hO:OpR w g o go cap (L++[x])) (hn:L.length<1000000000000) (q:Nat) (t0:w.cell? ⟨g,ot,none⟩=some (.int .i64 (q:Int))) (hg:g<w.heap.size) (hgo:g≠go) (hB:go≠B) (hq:q<16) (he:edO (q:Int)=false) (hb:bgO (q:Int)=false) (hc:0<=x.cnt/\x.cnt<=1000000000000) :
  Calls Tryz.prog 45 #[.pointer (some ⟨B,0,none⟩),.pointer (some ⟨g,ot,none⟩)] w fun r w'=>r = .returned (.tuple #[])/\CkH w' B gf (.slice (some ⟨go,0,none⟩) (L.length+1) cap) i rl m1 m2 m3 dep wh/\OpR w' g o go cap (L++[{ x with cnt:=x.cnt+1,last:=(q:Int) }])/\Kb [go] w w':=by
 have cE:=fun W=>ends_any (q:Int) W (by omega)
 have cB:=fun W=>begins_any (q:Int) W (by omega)
 rw[he] at cE
 rw[hb] at cB
 have hs:IntKind.i64.wrap (x.cnt+1)=x.cnt+1:=by rw[IntKind.wrap_i64];omega
 have cI:=isEmpty_any B (L.length+1) cap (some ⟨go,0,none⟩) w (hH.cell 0)
 rw[decide_eq_false (show ¬ L.length+1=0 by omega)] at cI
 have cT:=top_any B go L.length cap w (hH.cell 0) hn
 have hgE:g∉[go]:=by simpa using hgo
 clear he hb
 replace hH:=Hid.mk hH
 replace hO:=Hid.mk hO
 go_enter Tryz.func45,Tryz.ntmps45
 go_wp2_with (first|(go_at_call 48;refine(cE _).mono ?_;rintro _ wq ⟨rfl,e⟩;obtain rfl:w=wq:=e.symm)|(go_at_call 77;refine cI.mono ?_;rintro _ wq ⟨rfl,e⟩;obtain rfl:w=wq:=e.symm)|(go_at_call 78;refine cT.mono ?_;rintro _ w1 ⟨rfl,b1⟩;have o1:=hO.out.same (b1.block go hO.out.lt);have y2:=o1.last.c2;have yf:=o1.frz (L.length*8+2)))
 have h1:=hH.out.same (b1.block B hH.out.lt)
 have o2:OpR (w1.setCell ⟨go,L.length*8+2,none⟩ (.int .i64 (x.cnt+1))) g o go cap (L++[{ x with cnt:=x.cnt+1 }]):=o1.set (j:=2) (by decide) rfl
 have h2:=h1.same (set_oth (w:=w1) (b:=go) (o:=L.length*8+2) (v:=.int .i64 (x.cnt+1)) hB)
 have k2:Kb [go] w (w1.setCell ⟨go,L.length*8+2,none⟩ (.int .i64 (x.cnt+1))):=(Kb.of_below b1).set (List.mem_singleton.2 rfl) _
 generalize w1.setCell ⟨go,L.length*8+2,none⟩ (.int .i64 (x.cnt+1))=w2 at o2 h2 k2 ⊢
 have x0:w2.cell? ⟨g,ot,none⟩=some (.int .i64 (q:Int)):=(k2.cell hg hgE).trans t0
 have cT2:∀ W,Below w2.heap.size w2 W->Calls Tryz.prog 78 #[.pointer (some ⟨B,0,none⟩)] W fun r w'=>∃ v,r = .returned v/\(v = .pointer (some ⟨go,L.length*8,none⟩)/\OpR w' g o go cap (L++[{ x with cnt:=x.cnt+1 }])/\CkH w' B gf (.slice (some ⟨go,0,none⟩) (L.length+1) cap) i rl m1 m2 m3 dep wh/\Kb [go] w w'):=fun W hW=>by
  refine(top_any B go L.length cap W ((h2.same (hW.block B h2.lt)).cell 0) hn).mono ?_
  rintro _ w' ⟨rfl,b⟩
  have bb:=hW.trans (b.mono hW.size)
  exact⟨_,rfl,rfl,o2.same (bb.block go o2.lt),h2.same (bb.block B h2.lt),k2.trans (Kb.of_below bb)⟩
 clear y2 yf o1 b1 h1 cE cI cT hs
 replace o2:=Hid.mk o2
 replace h2:=Hid.mk h2
 replace k2:=Hid.mk k2
 go_region_law (refine xstep1 ?_ _ (.tmp 52) #[84] ?_ ent_top _ ?_ _ (cT2 _ (by first|exact Below.refl _ _|exact drw (Below.refl _ _))) ?_;rfl;rfl;rfl;rintro _ w3 ⟨rfl,o3,h3,k3⟩;have z0:w3.cell? ⟨g,ot,none⟩=some (.int .i64 (q:Int)):=(k3.cell hg hgE).trans t0;have z3:=o3.last.c3;have zf:=o3.frz (L.length*8+3);replace o3:=Hid.mk o3;replace h3:=Hid.mk h3;replace k3:=Hid.mk k3)
 all_goals
  have o5:OpR (w3.setCell ⟨go,L.length*8+3,none⟩ (.int .i64 (q:Int))) g o go cap (L++[{ x with cnt:=x.cnt+1,last:=(q:Int) }]):=o3.out.set (j:=3) (by decide) rfl
  have h5:=h3.out.same (set_oth (w:=w3) (b:=go) (o:=L.length*8+3) (v:=.int .i64 (q:Int)) hB)
  have k5:Kb [go] w (w3.setCell ⟨go,L.length*8+3,none⟩ (.int .i64 (q:Int))):=k3.out.set (List.mem_singleton.2 rfl) _
  clear z0 z3 zf o3 h3 k3 x0
  generalize w3.setCell ⟨go,L.length*8+3,none⟩ (.int .i64 (q:Int))=w5 at o5 h5 k5 ⊢
  have z0:w5.cell? ⟨g,ot,none⟩=some (.int .i64 (q:Int)):=(k5.cell hg hgE).trans t0
  replace o5:=Hid.mk o5
  replace h5:=Hid.mk h5
  replace k5:=Hid.mk k5
  go_wp2_with (go_at_call 52;refine(cB _).mono ?_;rintro _ wq ⟨rfl,e⟩;obtain rfl:w5=wq:=e.symm)
  exact bodyPost_end (v:=.tuple #[]) (results_none (by rfl) _ _ _) rfl ⟨rfl,h5.out,o5.out,k5.out⟩
theorem ent_push2:∀ ag w,(callFunc 79 ag).run Tryz.prog w = .ok (.enter 79 ag) w:=enters_of Tryz.func79 (by kernel_rfl) rfl
theorem pass_open (B gf go cap g o k H m1 m2 m3:Nat) (rl:Value) (dep:Nat->Int) (wh:Bool) (L:List Sv) (x:Sv) (w:World) (hH:CkH w B gf (.slice (some ⟨go,0,none⟩) (L.length+1) cap) (k:Int) rl m1 m2 m3 dep wh) (hO:OpR w g o go cap (L++[x])) (hn:L.length<900000000000) (q:Nat) (sn off:Int) (t0:w.cell? ⟨g,o+k*21,none⟩=some (.int .i64 (q:Int))) (t3:w.cell? ⟨g,o+k*21+3,none⟩=some (.int .i64 off)) (t5:w.cell? ⟨g,o+k*21+5,none⟩=some (.int .i64 sn)) (hg:g<w.heap.size) (hgo:g≠go) (hgB:g≠B) (hB:go≠B) (hHg:H<=go) (hq:q<16) (he:edO (q:Int)=false) (hb:bgO (q:Int)=true) (hc:0<=x.cnt/\x.cnt<=1000000000000) (hd:-1000000000000<=dep q/\dep q<=1000000000000) :
  Calls Tryz.prog 45 #[.pointer (some ⟨B,0,none⟩),.pointer (some ⟨g,o+k*21,none⟩)] w fun r w'=>r = .returned (.tuple #[])/\∃ go' cap',CkH w' B gf (.slice (some ⟨go',0,none⟩) (L.length+2) cap') (k:Int) rl m1 m2 m3 (fun j=>if j=q then dep q+1 else dep j) wh/\OpR w' g o go' cap' (L++[{ x with cnt:=x.cnt+1,last:=(q:Int) }]++[⟨k,0,0,sn,sn,off,0⟩])/\H<=go'/\(go'=go\/w.heap.size<=go')/\Kb [B,go] w w':=by
 have cE:=fun W=>ends_any (q:Int) W (by omega)
 have cB:=fun W=>begins_any (q:Int) W (by omega)
 rw[he] at cE
 rw[hb] at cB
 have hs:IntKind.i64.wrap (x.cnt+1)=x.cnt+1:=by rw[IntKind.wrap_i64];omega
 have cI:=isEmpty_any B (L.length+1) cap (some ⟨go,0,none⟩) w (hH.cell 0)
 rw[decide_eq_false (show ¬ L.length+1=0 by omega)] at cI
 have cT:=top_any B go L.length cap w (hH.cell 0) (by omega)
 have hgE:g∉[go]:=by simpa using hgo
 clear he hb
 replace hH:=Hid.mk hH
 replace hO:=Hid.mk hO
 go_enter Tryz.func45,Tryz.ntmps45
 go_wp2_with (first|(go_at_call 48;refine(cE _).mono ?_;rintro _ wq ⟨rfl,e⟩;obtain rfl:w=wq:=e.symm)|(go_at_call 77;refine cI.mono ?_;rintro _ wq ⟨rfl,e⟩;obtain rfl:w=wq:=e.symm)|(go_at_call 78;refine cT.mono ?_;rintro _ w1 ⟨rfl,b1⟩;have o1:=hO.out.same (b1.block go hO.out.lt);have y2:=o1.last.c2;have yf:=o1.frz (L.length*8+2)))
 have h1:=hH.out.same (b1.block B hH.out.lt)
 have o2:OpR (w1.setCell ⟨go,L.length*8+2,none⟩ (.int .i64 (x.cnt+1))) g o go cap (L++[{ x with cnt:=x.cnt+1 }]):=o1.set (j:=2) (by decide) rfl
 have h2:=h1.same (set_oth (w:=w1) (b:=go) (o:=L.length*8+2) (v:=.int .i64 (x.cnt+1)) hB)
 have k2:Kb [go] w (w1.setCell ⟨go,L.length*8+2,none⟩ (.int .i64 (x.cnt+1))):=(Kb.of_below b1).set (List.mem_singleton.2 rfl) _
 generalize w1.setCell ⟨go,L.length*8+2,none⟩ (.int .i64 (x.cnt+1))=w2 at o2 h2 k2 ⊢
 have x0:w2.cell? ⟨g,o+k*21,none⟩=some (.int .i64 (q:Int)):=(k2.cell hg hgE).trans t0
 have cT2:∀ W,Below w2.heap.size w2 W->Calls Tryz.prog 78 #[.pointer (some ⟨B,0,none⟩)] W fun r w'=>r = .returned (.pointer (some ⟨go,L.length*8,none⟩))/\(OpR w' g o go cap (L++[{ x with cnt:=x.cnt+1 }])/\CkH w' B gf (.slice (some ⟨go,0,none⟩) (L.length+1) cap) (k:Int) rl m1 m2 m3 dep wh/\Kb [go] w w'):=fun W hW=>by
  refine(top_any B go L.length cap W ((h2.same (hW.block B h2.lt)).cell 0) (by omega)).mono ?_
  rintro _ w' ⟨rfl,b⟩
  have bb:=hW.trans (b.mono hW.size)
  exact⟨rfl,o2.same (bb.block go o2.lt),h2.same (bb.block B h2.lt),k2.trans (Kb.of_below bb)⟩
 have cT3:=cT2 w2.drew (drw (Below.refl _ _))
 clear cT2
 clear y2 yf o1 b1 h1 cE cI cT hs
 replace o2:=Hid.mk o2
 replace h2:=Hid.mk h2
 replace k2:=Hid.mk k2
 obtain⟨p,pK,hN,x1⟩:∃ p:World->Prop,(∀ W,Kb [go] w W->p W)/\Nonempty (CW p)/\(∀ θ:CW p,θ.w.cell? ⟨g,o+k*21,none⟩=some (.int .i64 (q:Int))):=⟨Kb [go] w,fun _ h=>h,⟨⟨_,Kb.refl _ _⟩⟩,fun θ=>(θ.h.cell hg hgE).trans t0⟩
 refine wp_region_pp p [0,1,2,4,5,6,7,3,8,9,10] (by kernel_rfl) (by kernel_rfl) (fun _ _ d _ _ h=>by cases d<;>exact h) (pK _ k2.out.drew) ?_
 simp only[List.filterMap_cons,List.filterMap_nil,List.getElem?_cons_zero,List.getElem?_cons_succ]
 repeat (first|(refine lx_one rfl ?_;(first|go_big_quiet_skip|(go_big_quiet_want;go_big_quiet_op;go_big_quiet_on));refine wpQuiet_nil ?_)|(refine lx_call1 ent_top cT3 rfl (by rfl) ?_;rintro w3 ⟨o3,h3,k3⟩;have z3:=o3.last.c3;have zf:=o3.frz (L.length*8+3);replace o3:=Hid.mk o3;replace h3:=Hid.mk h3;replace k3:=Hid.mk k3;refine⟨⟨⟨_,pK _ k3.out⟩,rfl⟩,?_⟩;simp only[pts])|(refine lx_skip (by rfl) ?_;simp only[pts]))
 refine lx_act (by rfl) (by rfl) ?_
 intro K hK
 go_simp
 refine hK _ _ ⟨⟨_,pK _ (k3.out.set (List.mem_singleton.2 rfl) _)⟩,rfl⟩ ?_
 clear hK K
 try simp only[pts]
 refine lx_done ?_
 have o5:OpR (w3.setCell ⟨go,L.length*8+3,none⟩ (.int .i64 (q:Int))) g o go cap (L++[{ x with cnt:=x.cnt+1,last:=(q:Int) }]):=o3.out.set (j:=3) (by decide) rfl
 have h5:=h3.out.same (set_oth (w:=w3) (b:=go) (o:=L.length*8+3) (v:=.int .i64 (q:Int)) hB)
 have k5:Kb [go] w (w3.setCell ⟨go,L.length*8+3,none⟩ (.int .i64 (q:Int))):=k3.out.set (List.mem_singleton.2 rfl) _
 clear z3 zf o3 h3 k3 x0 cT3 x1 hN pK o2 h2 k2
 generalize w3.setCell ⟨go,L.length*8+3,none⟩ (.int .i64 (q:Int))=w5 at o5 h5 k5 ⊢
 have z0:w5.cell? ⟨g,o+k*21,none⟩=some (.int .i64 (q:Int)):=(k5.cell hg hgE).trans t0
 have y4:=h5.ck.cd q hq
 have yf:=h5.frz (4+q)
 have hq0:(0:Int)<=(q:Int):=by omega
 have hq1:(q:Int)<16:=by omega
 have hs:IntKind.i64.wrap (dep q+1)=dep q+1:=by rw[IntKind.wrap_i64];omega
 replace o5:=Hid.mk o5
 replace h5:=Hid.mk h5
 replace k5:=Hid.mk k5
 go_wp2_with (go_at_call 52;refine(cB _).mono ?_;rintro _ wq ⟨rfl,e⟩;obtain rfl:w5=wq:=e.symm)
 go_region
 have h6:=(h5.out.setDep q hq (dep q+1)).same (w':=(w5.setCell ⟨B,4+q,none⟩ (.int .i64 (dep q+1))).drew) rfl
 have o6:OpR (w5.setCell ⟨B,4+q,none⟩ (.int .i64 (dep q+1))).drew g o go cap (L++[{ x with cnt:=x.cnt+1,last:=(q:Int) }]):=(o5.out.same (set_oth hB.symm)).same rfl
 have k6:Kb [B,go] w (w5.setCell ⟨B,4+q,none⟩ (.int .i64 (dep q+1))).drew:=((k5.out.mono (E':=[B,go]) (by simp)).set (by simp) _).drew
 generalize (w5.setCell ⟨B,4+q,none⟩ (.int .i64 (dep q+1))).drew=w6 at h6 o6 k6 ⊢
 have hgE2:g∉[B,go]:=by simp[hgB,hgo]
 have x0:w6.cell? ⟨g,o+k*21,none⟩=some (.int .i64 (q:Int)):=(k6.cell hg hgE2).trans t0
 have x3:w6.cell? ⟨g,o+k*21+3,none⟩=some (.int .i64 off):=(k6.cell hg hgE2).trans t3
 have x5:w6.cell? ⟨g,o+k*21+5,none⟩=some (.int .i64 sn):=(k6.cell hg hgE2).trans t5
 have z2:=h6.ck.c2
 have cU:∀ W,Below w6.heap.size w6 W->Calls Tryz.prog 79 #[.pointer (some ⟨B,0,none⟩),.agg #[.pointer (some ⟨g,o+k*21,none⟩),.int .i64 (k:Int),.int .i64 0,.int .i64 0,.int .i64 sn,.int .i64 sn,.int .i64 off,.int .i64 0]] W fun r w'=>∃ v,r = .returned v/\(v = .tuple #[]/\∃ go' cap',CkH w' B gf (.slice (some ⟨go',0,none⟩) (L.length+2) cap') (k:Int) rl m1 m2 m3 (fun j=>if j=q then dep q+1 else dep j) wh/\OpR w' g o go' cap' (L++[{ x with cnt:=x.cnt+1,last:=(q:Int) }]++[⟨k,0,0,sn,sn,off,0⟩])/\H<=go'/\(go'=go\/w.heap.size<=go')/\Kb [B,go] w w'):=fun W hW=>by
  have oW:=o6.same (hW.block go o6.lt)
  have e1:(L++[{ x with cnt:=x.cnt+1,last:=(q:Int) }]).length=L.length+1:=by simp
  have ow:=oW.owns hHg
  rw[e1] at ow
  refine(push_any B gf g o H m1 m2 m3 (k:Int) rl (.slice (some ⟨go,0,none⟩) (L.length+1) cap) _ wh (L++[{ x with cnt:=x.cnt+1,last:=(q:Int) }]) ⟨k,0,0,sn,sn,off,0⟩ W (h6.same (hW.block B h6.lt)) (by rw[e1];exact ow) (by rw[e1];omega) (Nat.le_of_lt (Nat.lt_of_le_of_lt hHg oW.lt)) (by simp[Value.ownBlock,hB])).mono ?_
  rintro _ w' ⟨rfl,go',cap',u1,u2,u3,u4,u5⟩
  rw[e1] at u1
  refine⟨_,rfl,rfl,go',cap',u1,u2,u3,?_,(k6.trans (Kb.of_below hW)).trans (u5.mono (by simp[Value.ownBlock]))⟩
  rcases u4 with u4|u4
  ·exact .inl (by simpa[Value.ownBlock] using u4)
  ·exact .inr (Nat.le_trans (Nat.le_trans k6.size hW.size) u4)
 clear t0 t3 t5 y4 yf cB hs o5 h5 k5 z0 hH hO
 replace h6:=Hid.mk h6
 replace k6:=Hid.mk k6
 replace o6:=Hid.mk o6
 go_wp2_with fail
 go_region_law (refine xstep2 ?_ _ (.tmp 80) (.tmp 98) #[84,109] ?_ ent_push2 _ _ ?_ ?_ _ (cU _ (by first|exact Below.refl _ _|exact drw (Below.refl _ _))) ?_;rfl;rfl;rfl;rfl;rintro _ w7 ⟨rfl,u⟩;replace u:=Hid.mk u)
 all_goals
  go_wp2_with fail
  exact bodyPost_end (v:=.tuple #[]) (results_none (by rfl) _ _ _) rfl ⟨rfl,u.out⟩
end Go.Proofs.YtjnafpefolgcoaaGreatDoor
