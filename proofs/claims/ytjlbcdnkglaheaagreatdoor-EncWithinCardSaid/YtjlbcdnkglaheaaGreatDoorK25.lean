import Derived.Test.YtjlbcdnkglaheaaGreatDoorK23
import Derived.Test.YtjlbcdnkglaheaaGreatDoorK24
namespace Go.Proofs.YtjlbcdnkglaheaaGreatDoor
set_option maxRecDepth 1000000
set_option maxHeartbeats 16000000
open Go.ChangeShapes Go.WideShapes Go.ChangeAt Go.RowKit Go.Shelf Go.Maps
theorem ent_push2:∀ ag w,(callFunc 94 ag).run Tryz.prog w = .ok (.enter 94 ag) w:=enters_of Tryz.func94 (by kernel_rfl) rfl
theorem pass_open (B gf go cap g o k H m1 m2 m3:Nat) (rl:Value) (dep:Nat->Int) (wh:Bool) (L:List Sv) (x:Sv) (w:World) (hH:CkH w B gf (.slice (some ⟨go,0,none⟩) (L.length+1) cap) (k:Int) rl m1 m2 m3 dep wh) (hO:OpR w g o go cap (L++[x])) (hn:L.length<900000000000) (q:Nat) (sn off:Int) (t0:w.cell? ⟨g,o+k*21,none⟩=some (.int .i64 (q:Int))) (t3:w.cell? ⟨g,o+k*21+3,none⟩=some (.int .i64 off)) (t5:w.cell? ⟨g,o+k*21+5,none⟩=some (.int .i64 sn)) (hg:g<w.heap.size) (hgo:g≠go) (hgB:g≠B) (hB:go≠B) (hHg:H<=go) (hq:q<16) (he:edO (q:Int)=false) (hb:bgO (q:Int)=true) (hc:0<=x.cnt/\x.cnt<=1000000000000) (hd:-1000000000000<=dep q/\dep q<=1000000000000) :
  Calls Tryz.prog 52 #[.pointer (some ⟨B,0,none⟩),.pointer (some ⟨g,o+k*21,none⟩)] w fun r w'=>r = .returned (.tuple #[])/\∃ go' cap',CkH w' B gf (.slice (some ⟨go',0,none⟩) (L.length+2) cap') (k:Int) rl m1 m2 m3 (fun j=>if j=q then dep q+1 else dep j) wh/\OpR w' g o go' cap' (L++[{ x with cnt:=x.cnt+1,last:=(q:Int) }]++[⟨k,0,0,sn,sn,off,0⟩])/\H<=go'/\(go'=go\/w.heap.size<=go')/\Kb [B,go] w w':=by
 have cE:=fun W=>ends_any (q:Int) W (by omega)
 have cB:=fun W=>begins_any (q:Int) W (by omega)
 rw[he] at cE
 rw[hb] at cB
 have hs:IntKind.i64.wrap (x.cnt+1)=x.cnt+1:=by rw[IntKind.wrap_i64];omega
 have cI:=isEmpty_any B (L.length+1) cap (some ⟨go,0,none⟩) w (hH.cell 0)
 rw[decide_eq_false (show ¬ L.length+1=0 by omega)] at cI
 have cT:=top_any B go L.length cap w (hH.cell 0) (by omega)
 have hgE:g∉[go]:=by simpa using hgo
 clear he hb
 replace hH:=Hid.mk hH
 replace hO:=Hid.mk hO
 go_enter Tryz.func52,Tryz.ntmps52
 go_wp2_with (first|(go_at_call 89;refine(cE _).mono ?_;rintro _ wq ⟨rfl,e⟩;obtain rfl:w=wq:=e.symm)|(go_at_call 91;refine cI.mono ?_;rintro _ wq ⟨rfl,e⟩;obtain rfl:w=wq:=e.symm)|(go_at_call 92;refine cT.mono ?_;rintro _ w1 ⟨rfl,b1⟩;have o1:=hO.out.same (b1.block go hO.out.lt);have y2:=o1.last.c2;have yf:=o1.frz (L.length*8+2)))
 have h1:=hH.out.same (b1.block B hH.out.lt)
 have o2:OpR (w1.setCell ⟨go,L.length*8+2,none⟩ (.int .i64 (x.cnt+1))) g o go cap (L++[{ x with cnt:=x.cnt+1 }]):=o1.set (j:=2) (by decide) rfl
 have h2:=h1.same (set_oth (w:=w1) (b:=go) (o:=L.length*8+2) (v:=.int .i64 (x.cnt+1)) hB)
 have k2:Kb [go] w (w1.setCell ⟨go,L.length*8+2,none⟩ (.int .i64 (x.cnt+1))):=(Kb.of_below b1).set (List.mem_singleton.2 rfl) _
 generalize w1.setCell ⟨go,L.length*8+2,none⟩ (.int .i64 (x.cnt+1))=w2 at o2 h2 k2 ⊢
 have x0:w2.cell? ⟨g,o+k*21,none⟩=some (.int .i64 (q:Int)):=(k2.cell hg hgE).trans t0
 have cT2:∀ W,Below w2.heap.size w2 W->Calls Tryz.prog 92 #[.pointer (some ⟨B,0,none⟩)] W fun r w'=>r = .returned (.pointer (some ⟨go,L.length*8,none⟩))/\(OpR w' g o go cap (L++[{ x with cnt:=x.cnt+1 }])/\CkH w' B gf (.slice (some ⟨go,0,none⟩) (L.length+1) cap) (k:Int) rl m1 m2 m3 dep wh/\Kb [go] w w'):=fun W hW=>by
  refine(top_any B go L.length cap W ((h2.same (hW.block B h2.lt)).cell 0) (by omega)).mono ?_
  rintro _ w' ⟨rfl,b⟩
  have bb:=hW.trans (b.mono hW.size)
  exact⟨rfl,o2.same (bb.block go o2.lt),h2.same (bb.block B h2.lt),k2.trans (Kb.of_below bb)⟩
 have cT3:=cT2 w2.drew (drw (Below.refl _ _))
 clear cT2
 clear y2 yf o1 b1 h1 cE cI cT hs
 replace o2:=Hid.mk o2
 replace h2:=Hid.mk h2
 replace k2:=Hid.mk k2
 obtain⟨p,pK,hN,x1⟩:∃ p:World->Prop,(∀ W,Kb [go] w W->p W)/\Nonempty (CW p)/\(∀ θ:CW p,θ.w.cell? ⟨g,o+k*21,none⟩=some (.int .i64 (q:Int))):=⟨Kb [go] w,fun _ h=>h,⟨⟨_,Kb.refl _ _⟩⟩,fun θ=>(θ.h.cell hg hgE).trans t0⟩
 refine wp_region_pp p [0,1,2,4,5,6,7,3,8,9,10] (by kernel_rfl) (by kernel_rfl) (fun _ _ d _ _ h=>by cases d<;>exact h) (pK _ k2.out.drew) ?_
 simp only[List.filterMap_cons,List.filterMap_nil,List.getElem?_cons_zero,List.getElem?_cons_succ]
 repeat (first|(refine lx_one rfl ?_;(first|go_big_quiet_skip|(go_big_quiet_want;go_big_quiet_op;go_big_quiet_on));refine wpQuiet_nil ?_)|(refine lx_call1 ent_top cT3 rfl (by rfl) ?_;rintro w3 ⟨o3,h3,k3⟩;have z3:=o3.last.c3;have zf:=o3.frz (L.length*8+3);replace o3:=Hid.mk o3;replace h3:=Hid.mk h3;replace k3:=Hid.mk k3;refine⟨⟨⟨_,pK _ k3.out⟩,rfl⟩,?_⟩;simp only[pts])|(refine lx_skip (by rfl) ?_;simp only[pts]))
 refine lx_act (by rfl) (by rfl) ?_
 intro K hK
 go_simp
 refine hK _ _ ⟨⟨_,pK _ (k3.out.set (List.mem_singleton.2 rfl) _)⟩,rfl⟩ ?_
 clear hK K
 try simp only[pts]
 refine lx_done ?_
 have o5:OpR (w3.setCell ⟨go,L.length*8+3,none⟩ (.int .i64 (q:Int))) g o go cap (L++[{ x with cnt:=x.cnt+1,last:=(q:Int) }]):=o3.out.set (j:=3) (by decide) rfl
 have h5:=h3.out.same (set_oth (w:=w3) (b:=go) (o:=L.length*8+3) (v:=.int .i64 (q:Int)) hB)
 have k5:Kb [go] w (w3.setCell ⟨go,L.length*8+3,none⟩ (.int .i64 (q:Int))):=k3.out.set (List.mem_singleton.2 rfl) _
 clear z3 zf o3 h3 k3 x0 cT3 x1 hN pK o2 h2 k2
 generalize w3.setCell ⟨go,L.length*8+3,none⟩ (.int .i64 (q:Int))=w5 at o5 h5 k5 ⊢
 have z0:w5.cell? ⟨g,o+k*21,none⟩=some (.int .i64 (q:Int)):=(k5.cell hg hgE).trans t0
 have y4:=h5.ck.cd q hq
 have yf:=h5.frz (4+q)
 have hq0:(0:Int)<=(q:Int):=by omega
 have hq1:(q:Int)<16:=by omega
 have hs:IntKind.i64.wrap (dep q+1)=dep q+1:=by rw[IntKind.wrap_i64];omega
 replace o5:=Hid.mk o5
 replace h5:=Hid.mk h5
 replace k5:=Hid.mk k5
 go_wp2_with (go_at_call 93;refine(cB _).mono ?_;rintro _ wq ⟨rfl,e⟩;obtain rfl:w5=wq:=e.symm)
 go_region
 have h6:=(h5.out.setDep q hq (dep q+1)).same (w':=(w5.setCell ⟨B,4+q,none⟩ (.int .i64 (dep q+1))).drew) rfl
 have o6:OpR (w5.setCell ⟨B,4+q,none⟩ (.int .i64 (dep q+1))).drew g o go cap (L++[{ x with cnt:=x.cnt+1,last:=(q:Int) }]):=(o5.out.same (set_oth hB.symm)).same rfl
 have k6:Kb [B,go] w (w5.setCell ⟨B,4+q,none⟩ (.int .i64 (dep q+1))).drew:=((k5.out.mono (E':=[B,go]) (by simp)).set (by simp) _).drew
 generalize (w5.setCell ⟨B,4+q,none⟩ (.int .i64 (dep q+1))).drew=w6 at h6 o6 k6 ⊢
 have hgE2:g∉[B,go]:=by simp[hgB,hgo]
 have x0:w6.cell? ⟨g,o+k*21,none⟩=some (.int .i64 (q:Int)):=(k6.cell hg hgE2).trans t0
 have x3:w6.cell? ⟨g,o+k*21+3,none⟩=some (.int .i64 off):=(k6.cell hg hgE2).trans t3
 have x5:w6.cell? ⟨g,o+k*21+5,none⟩=some (.int .i64 sn):=(k6.cell hg hgE2).trans t5
 have z2:=h6.ck.c2
 have cU:∀ W,Below w6.heap.size w6 W->Calls Tryz.prog 94 #[.pointer (some ⟨B,0,none⟩),.agg #[.pointer (some ⟨g,o+k*21,none⟩),.int .i64 (k:Int),.int .i64 0,.int .i64 0,.int .i64 sn,.int .i64 sn,.int .i64 off,.int .i64 0]] W fun r w'=>∃ v,r = .returned v/\(v = .tuple #[]/\∃ go' cap',CkH w' B gf (.slice (some ⟨go',0,none⟩) (L.length+2) cap') (k:Int) rl m1 m2 m3 (fun j=>if j=q then dep q+1 else dep j) wh/\OpR w' g o go' cap' (L++[{ x with cnt:=x.cnt+1,last:=(q:Int) }]++[⟨k,0,0,sn,sn,off,0⟩])/\H<=go'/\(go'=go\/w.heap.size<=go')/\Kb [B,go] w w'):=fun W hW=>by
  have oW:=o6.same (hW.block go o6.lt)
  have e1:(L++[{ x with cnt:=x.cnt+1,last:=(q:Int) }]).length=L.length+1:=by simp
  have ow:=oW.owns hHg
  rw[e1] at ow
  refine(push_any B gf g o H m1 m2 m3 (k:Int) rl (.slice (some ⟨go,0,none⟩) (L.length+1) cap) _ wh (L++[{ x with cnt:=x.cnt+1,last:=(q:Int) }]) ⟨k,0,0,sn,sn,off,0⟩ W (h6.same (hW.block B h6.lt)) (by rw[e1];exact ow) (by rw[e1];omega) (Nat.le_of_lt (Nat.lt_of_le_of_lt hHg oW.lt)) (by simp[Value.ownBlock,hB])).mono ?_
  rintro _ w' ⟨rfl,go',cap',u1,u2,u3,u4,u5⟩
  rw[e1] at u1
  refine⟨_,rfl,rfl,go',cap',u1,u2,u3,?_,(k6.trans (Kb.of_below hW)).trans (u5.mono (by simp[Value.ownBlock]))⟩
  rcases u4 with u4|u4
  ·exact .inl (by simpa[Value.ownBlock] using u4)
  ·exact .inr (Nat.le_trans (Nat.le_trans k6.size hW.size) u4)
 clear t0 t3 t5 y4 yf cB hs o5 h5 k5 z0 hH hO
 replace h6:=Hid.mk h6
 replace k6:=Hid.mk k6
 replace o6:=Hid.mk o6
 go_wp2_with fail
 go_region_law (refine xstep2 ?_ _ (.tmp 80) (.tmp 98) #[127,164] ?_ ent_push2 _ _ ?_ ?_ _ (cU _ (by first|exact Below.refl _ _|exact drw (Below.refl _ _))) ?_;rfl;rfl;rfl;rfl;rintro _ w7 ⟨rfl,u⟩;replace u:=Hid.mk u)
 all_goals
  go_wp2_with fail
  exact bodyPost_end (v:=.tuple #[]) (results_none (by rfl) _ _ _) rfl ⟨rfl,u.out⟩
structure LpB (w:World) (c:Cf) (gr:Nat) (f:Fm) (n:Nat) (h1 h2 h3:Value->Prop):Prop where
 fm:FmC w c.gf 0 f (some ⟨c.g,c.o,none⟩) c.cp
 tl:TkL w (some ⟨c.g,c.o,none⟩) c.H f.toks
 ap:Apart c
 kt:KT w
 mt:MT w
 sz:c.H<=w.heap.size
 fl:c.gf<w.heap.size
 k0:0<c.H
 k1:1<c.H
 rl:RlC w c gr
 gh:c.H<=gr/\gr≠c.B/\gr≠c.gf
 ml:c.m1<w.heap.size/\c.m2<w.heap.size/\c.m3<w.heap.size
 cm:Cm w c n h1 h2 h3
theorem LpB.turned {w w':World} {c:Cf} {gr:Nat} {f:Fm} {n n':Nat} {h1 h2 h3 g1 g2 g3:Value->Prop} (h:LpB w c gr f n h1 h2 h3) (hb:Kb [c.B,c.m1,c.m2,c.m3,c.go] w w') (hM:Cm w' c n' g1 g2 g3):LpB w' c gr f n' g1 g2 g3:=by
 have hap:=h.ap
 have low:∀ k,k<c.H->k∉[c.B,c.m1,c.m2,c.m3,c.go]:=fun k hk=>by have:=hap.B;have:=hap.go;have:=hap.m1;have:=hap.m2;have:=hap.m3;simp;omega
 have hbl:Below c.H w w':=hb.below h.sz (fun k hk=>by have:=hap.B;have:=hap.go;have:=hap.m1;have:=hap.m2;have:=hap.m3;simp at hk;omega)
 exact⟨h.fm.same (hb.block _ h.fl (by simp;exact⟨hap.fB,hap.f1,hap.f2,hap.f3,hap.fo⟩)),h.tl.below hbl,hap,h.kt.same hb.size (hb.block _ (Nat.lt_of_lt_of_le h.k0 h.sz) (low _ h.k0)),h.mt.below h.k1 hbl,Nat.le_trans h.sz hb.size,Nat.lt_of_lt_of_le h.fl hb.size,h.k0,h.k1,
  ⟨Nat.lt_of_lt_of_le h.rl.lt hb.size,h.rl.m1,h.rl.m2,h.rl.m3,h.rl.go,fun q=>(hb.cell h.rl.lt (by simp;exact⟨h.gh.2.1,h.rl.m1,h.rl.m2,h.rl.m3,h.rl.go⟩)).trans (h.rl.c q)⟩,h.gh,
  ⟨Nat.lt_of_lt_of_le h.ml.1 hb.size,Nat.lt_of_lt_of_le h.ml.2.1 hb.size,Nat.lt_of_lt_of_le h.ml.2.2 hb.size⟩,hM⟩
theorem LpB.moved {w:World} {c:Cf} {gr:Nat} {f:Fm} {n:Nat} {h1 h2 h3:Value->Prop} (h:LpB w c gr f n h1 h2 h3) {go cap i:Nat} (hg:go=c.go\/(c.H<=go/\go≠c.B/\go≠c.gf/\go≠c.m1/\go≠c.m2/\go≠c.m3/\go≠gr)):LpB w { c with go:=go,cap:=cap,i:=i } gr f n h1 h2 h3:=by
 have hap:=h.ap
 have hrl:=h.rl
 rcases hg with rfl|⟨g1,g2,g3,g4,g5,g6,g7⟩
 ·exact⟨h.fm,h.tl,⟨hap.g,hap.gf,hap.B,hap.go,hap.m1,hap.m2,hap.m3,hap.fB,hap.fo,hap.f1,hap.f2,hap.f3,hap.Bo,hap.B1,hap.B2,hap.B3,hap.o1,hap.o2,hap.o3,hap.m12,hap.m13,hap.m23⟩,h.kt,h.mt,h.sz,h.fl,h.k0,h.k1,⟨hrl.lt,hrl.m1,hrl.m2,hrl.m3,hrl.go,hrl.c⟩,h.gh,h.ml,⟨h.cm.m1,h.cm.m2,h.cm.m3,h.cm.n⟩⟩
 ·exact⟨h.fm,h.tl,⟨hap.g,hap.gf,hap.B,g1,hap.m1,hap.m2,hap.m3,hap.fB,g3.symm,hap.f1,hap.f2,hap.f3,g2.symm,hap.B1,hap.B2,hap.B3,g4,g5,g6,hap.m12,hap.m13,hap.m23⟩,h.kt,h.mt,h.sz,h.fl,h.k0,h.k1,⟨hrl.lt,hrl.m1,hrl.m2,hrl.m3,g7.symm,hrl.c⟩,h.gh,h.ml,⟨h.cm.m1,h.cm.m2,h.cm.m3,h.cm.n⟩⟩
structure LpS (w:World) (c:Cf) (gr:Nat) (f:Fm) (s:St) (v:Value) (dep:Nat->Int) (wh:Bool) (n:Nat) (h1 h2 h3:Value->Prop):Prop where
 b:LpB w c gr f n h1 h2 h3
 ck:CkH w c.B c.gf v (c.i:Int) (.slice (some ⟨gr,0,none⟩) 16 16) c.m1 c.m2 c.m3 dep wh
 op:s.open_≠[]->v = .slice (some ⟨c.go,0,none⟩) s.open_.length c.cap/\OpR w c.g c.o c.go c.cap (s.open_.reverse.map (svOf f.toks))
 no:s.open_=[]->∃ p cp,v = .slice p 0 cp
 zr:c.i=0->v = .slice none 0 0
 ky:KeysV f.toks s.open_ c.i s.ids h1 h2 h3
 dp:depOk s.open_ dep
 wl:wh=(decide (s.open_=[])&&decide (c.i≠0))
 iv:Inv f c.i s
 nn:n<=c.i
 kl:∀ a∈s.open_,a.kids.length<=c.i
theorem out_len {l:List Tk} {i:Nat}:∀ {b:Nat} {o:List Sc},Out l b o->(∀ a∈o,ScOk l i a)->o.length<=b
 | _,[],_,_=>Nat.zero_le _
 | b,a::o,⟨⟨ks,hk,_⟩,_,h⟩,hs=>by
  have h1:a.at_<b:=((hs a (List.mem_cons_self ..)).kid b (by rw[hk];simp)).1
  have h2:=out_len h (fun x hx=>hs x (List.mem_cons_of_mem _ hx))
  rw[List.length_cons]
  omega
theorem open_len {f:Fm} {i:Nat} {x:Sc} {r:List Sc} {s:St} (h:Inv f i s) (ho:s.open_=x::r):r.length+1<=i:=by
 have hN:=h.nest
 have hA:=h.all
 rw[ho] at hN hA
 have h1:=out_len hN.2.2 (fun a ha=>hA a (List.mem_cons_of_mem _ ha))
 have h2:=(hA x (List.mem_cons_self ..)).lt
 omega
section
variable {w:World} {c:Cf} {gr:Nat} {f:Fm} {s:St} {v:Value} {dep:Nat->Int} {wh:Bool} {n:Nat} {h1 h2 h3:Value->Prop} {x:Sc} {r:List Sc} {t:Tk}
theorem LpS.ll (h:LpS w c gr f s v dep wh n h1 h2 h3) (ht:f.toks[c.i]?=some t):c.i<f.toks.length/\f.toks.length<=733007751850:=⟨(List.getElem?_eq_some_iff.1 ht).1,by have:=h.b.tl.len;omega⟩
theorem rev_map (l:List Tk) (x:Sc) (r:List Sc):(x::r).reverse.map (svOf l)=r.reverse.map (svOf l)++[svOf l x]:=by simp
theorem LpS.ct (h:LpS w c gr f s v dep wh n h1 h2 h3) (ho:s.open_=x::r) (ht:f.toks[c.i]?=some t):Ct w c f (r.reverse.map (svOf f.toks)) (svOf f.toks x) x.tk t (.slice (some ⟨gr,0,none⟩) 16 16) dep wh/\CkH w c.B c.gf (.slice (some ⟨c.go,0,none⟩) ((r.reverse.map (svOf f.toks)).length+1) c.cap) (c.i:Int) (.slice (some ⟨gr,0,none⟩) 16 16) c.m1 c.m2 c.m3 dep wh:=by
 obtain⟨hv,hO⟩:=h.op (by rw[ho];simp)
 have hck:=h.ck
 rw[hv,ho] at hck
 rw[ho,rev_map] at hO
 have hlen:(r.reverse.map (svOf f.toks)).length=r.length:=by simp
 have hA:=h.iv.all
 rw[ho] at hA
 have hl:=h.ll ht
 have ho2:=open_len h.iv ho
 have hck2:CkH w c.B c.gf (.slice (some ⟨c.go,0,none⟩) ((r.reverse.map (svOf f.toks)).length+1) c.cap) (c.i:Int) (.slice (some ⟨gr,0,none⟩) 16 16) c.m1 c.m2 c.m3 dep wh:=by
  rw[hlen]
  exact hck
 exact⟨⟨hck2.ck,hO,h.b.fm,h.b.tl,(hA x (List.mem_cons_self ..)).tk,ht,h.b.ap,h.b.kt,h.b.sz,h.b.fl,h.b.k0,by rw[hlen];omega⟩,hck2⟩
theorem pass_l (h:LpS w c gr f s v dep wh n h1 h2 h3) (ho:s.open_=x::r) (ht:f.toks[c.i]?=some t) (hq:t.op=14\/t.op=15) (hok:okZ f s c.i t=true) (w1:World) (hK:Kb [c.m1,c.m2,c.m3,c.go] w w1) (hR:Rst w1 c f (r.reverse.map (svOf f.toks)) x r t (.slice (some ⟨gr,0,none⟩) 16 16) dep wh n s.ids) :
  Calls Tryz.prog 52 #[.pointer (some ⟨c.B,0,none⟩),.pointer (some ⟨c.g,c.o+c.i*21,none⟩)] w1 fun e w2=>e = .returned (.tuple #[])/\Kb [c.B,c.m1,c.m2,c.m3,c.go] w w2/\(w2.cell? ⟨c.B,2,none⟩=some (.int .i64 (c.i:Int))/\w2.frozen? ⟨c.B,2,none⟩=false)/\∃ g1 g2 g3,LpS (w2.setCell ⟨c.B,2,none⟩ (.int .i64 ((c.i:Int)+1))) { c with i:=c.i+1 } gr f (nxt s c.i t) v dep wh (n+1) g1 g2 g3:=by
 obtain⟨x',g1,g2,g3,hC,hM,hst,hky⟩:=hR.ex
 obtain⟨hct,hck⟩:=h.ct ho ht
 have hap:=h.b.ap
 have hl:=h.ll ht
 have ho2:=open_len h.iv ho
 have hlen:(r.reverse.map (svOf f.toks)).length=r.length:=by simp
 have hck1:CkH w1 c.B c.gf (.slice (some ⟨c.go,0,none⟩) ((r.reverse.map (svOf f.toks)).length+1) c.cap) (c.i:Int) (.slice (some ⟨gr,0,none⟩) 16 16) c.m1 c.m2 c.m3 dep wh:=hck.same (hK.block _ hck.lt (by simp;exact⟨hap.B1,hap.B2,hap.B3,hap.Bo⟩))
 obtain⟨_,_,pc,cc,e0,hgH,hT,hU,hUc,kT⟩:=hC.tl.at hC.ht
 cases e0
 obtain⟨q,hqq⟩:∃ q:Nat,t.op=q:=⟨t.op.toNat,by omega⟩
 have hkl:=h.kl x (by rw[ho];exact List.mem_cons_self ..)
 have hcnt:x'.cnt=(x.kids.length:Int):=by
  have e:=congrArg Sv.cnt hst
  have e:x'.cnt+1=((metX x c.i t).kids.length:Int):=e
  rw[len_met] at e
  omega
 have t0:=hT.c0
 rw[hqq] at t0
 have he:edO (q:Int)=false:=by rw[<- hqq];rcases hq with e|e<;>rw[e]<;>decide
 have hb:bgO (q:Int)=false:=by rw[<- hqq];rcases hq with e|e<;>rw[e]<;>decide
 refine(pass_leaf c.B c.gf c.go c.cap c.g c.o (c.o+c.i*21) c.m1 c.m2 c.m3 (c.i:Int) _ dep wh (r.reverse.map (svOf f.toks)) x' w1 hck1 hC.op (by rw[hlen];omega) q t0 hC.lg (by have:=hap.g;have:=hap.go;omega) hap.Bo.symm (by omega) he hb (by rw[hcnt];omega)).mono ?_
 rintro _ w2 ⟨rfl,hc2,hO2,hk2⟩
 have hkb:Kb [c.B,c.m1,c.m2,c.m3,c.go] w w2:=(hK.mono (fun a ha=>List.mem_cons_of_mem _ ha)).trans (hk2.mono (fun a ha=>by simp at ha ⊢;right;right;right;right;exact ha))
 refine⟨rfl,hkb,⟨hc2.ck.c2,hc2.frz 2⟩,g1,g2,g3,?_⟩
 have hk3:Kb [c.B] w2 (w2.setCell ⟨c.B,2,none⟩ (.int .i64 ((c.i:Int)+1))):=(Kb.refl _ _).set (List.mem_singleton.2 rfl) _
 have hM3:Cm (w2.setCell ⟨c.B,2,none⟩ (.int .i64 ((c.i:Int)+1))) c (n+1) g1 g2 g3:=(hM.kept hk2 (notin1 hap.o1.symm) (notin1 hap.o2.symm) (notin1 hap.o3.symm)).kept hk3 (notin1 hap.B1.symm) (notin1 hap.B2.symm) (notin1 hap.B3.symm)
 have hB3:=h.b.turned (hkb.trans (hk3.mono (fun a ha=>by simp at ha ⊢;left;exact ha))) hM3
 have hnx:nxt s c.i t=⟨metX x c.i t::r,s.ids⟩:=by
  unfold nxt
  rw[if_neg (by rw[hqq,he];decide),ho,if_neg (by rw[hqq,hb];decide),if_neg (by rcases hq with e|e<;>rw[e]<;>decide)]
  rfl
 have hv:=(h.op (by rw[ho];simp)).1
 rw[ho] at hv
 have hst2:{ x' with cnt:=x'.cnt+1,last:=(q:Int) }=svOf f.toks (metX x c.i t):=by rw[<- hst,hqq];rfl
 refine⟨hB3.moved (.inl rfl),?_,fun _=>⟨?_,?_⟩,fun e=>?_,fun e=>?_,?_,?_,?_,?_,?_,fun a ha=>?_⟩
 ·rw[hv]
  have h5:=hc2.setPlace ((c.i:Int)+1)
  rw[hlen] at h5
  exact h5
 ·rw[hnx,hv]
  rfl
 ·rw[hnx]
  show OpR _ c.g c.o c.go c.cap ((metX x c.i t::r).reverse.map (svOf f.toks))
  rw[rev_map,<- hst2]
  exact hO2.same (set_oth hap.Bo)
 ·rw[hnx] at e;cases e
 ·exact absurd e (Nat.succ_ne_zero _)
 ·rw[hnx];exact hky.up
 ·rw[hnx]
  have:=h.dp
  rw[ho] at this
  exact dep_met this
 ·rw[h.wl,hnx,ho]
  simp
 ·exact inv_step h.iv ht hok
 ·show n+1<=c.i+1
  have:=h.nn
  omega
 ·rw[hnx] at ha
  show a.kids.length<=c.i+1
  rcases List.mem_cons.1 ha with rfl|ha
  ·have:(metX x c.i t).kids.length=x.kids.length+1:=by simp[metX]
   omega
  ·have:=h.kl a (by rw[ho];exact List.mem_cons_of_mem _ ha)
   omega
end
section
variable {w:World} {c:Cf} {gr:Nat} {f:Fm} {s:St} {v:Value} {dep:Nat->Int} {wh:Bool} {n:Nat} {h1 h2 h3:Value->Prop} {x:Sc} {r:List Sc} {t:Tk}
theorem dep_fun (dep:Nat->Int) (q:Nat):(fun j=>if j=q then dep q+1 else dep j)=(fun k=>if k=q then dep k+1 else dep k):=by
 funext k
 by_cases h:k=q
 ·simp[h]
 ·simp[h]
theorem dep_fun2 (dep:Nat->Int) (q:Nat):(fun k=>if k=q then dep q-1 else dep k)=(fun k=>if k=q then dep k-1 else dep k):=by
 funext k
 by_cases h:k=q
 ·simp[h]
 ·simp[h]
theorem dep_b {o:List Sc} {dep:Nat->Int} (h:depOk o dep) (q:Nat) (hq:q<16):0<=dep q/\dep q<=(o.length:Int):=by
 rw[h q hq]
 have:depB (q:Int) o<=o.length:=List.length_filter_le _ _
 omega
theorem pass_o (h:LpS w c gr f s v dep wh n h1 h2 h3) (ho:s.open_=x::r) (ht:f.toks[c.i]?=some t) (hne:edO t.op=false) (hbg:bgO t.op=true) (hok:okZ f s c.i t=true) (w1:World) (hK:Kb [c.m1,c.m2,c.m3,c.go] w w1) (hR:Rst w1 c f (r.reverse.map (svOf f.toks)) x r t (.slice (some ⟨gr,0,none⟩) 16 16) dep wh n (if ptO t.op then s.ids++[t.id] else s.ids)) :
  Calls Tryz.prog 52 #[.pointer (some ⟨c.B,0,none⟩),.pointer (some ⟨c.g,c.o+c.i*21,none⟩)] w1 fun e w2=>e = .returned (.tuple #[])/\Kb [c.B,c.m1,c.m2,c.m3,c.go] w w2/\(w2.cell? ⟨c.B,2,none⟩=some (.int .i64 (c.i:Int))/\w2.frozen? ⟨c.B,2,none⟩=false)/\∃ go cap v' dep' g1 g2 g3,LpS (w2.setCell ⟨c.B,2,none⟩ (.int .i64 ((c.i:Int)+1))) { c with go:=go,cap:=cap,i:=c.i+1 } gr f (nxt s c.i t) v' dep' wh (n+1) g1 g2 g3:=by
 obtain⟨x',g1,g2,g3,hC,hM,hst,hky⟩:=hR.ex
 obtain⟨hct,hck⟩:=h.ct ho ht
 have hap:=h.b.ap
 have hl:=h.ll ht
 have ho2:=open_len h.iv ho
 have hlen:(r.reverse.map (svOf f.toks)).length=r.length:=by simp
 have hck1:CkH w1 c.B c.gf (.slice (some ⟨c.go,0,none⟩) ((r.reverse.map (svOf f.toks)).length+1) c.cap) (c.i:Int) (.slice (some ⟨gr,0,none⟩) 16 16) c.m1 c.m2 c.m3 dep wh:=hck.same (hK.block _ hck.lt (by simp;exact⟨hap.B1,hap.B2,hap.B3,hap.Bo⟩))
 obtain⟨_,_,pc,cc,e0,hgH,hT,hU,hUc,kT⟩:=hC.tl.at hC.ht
 cases e0
 have hbo:0<=t.op/\t.op<16:=by unfold bgO at hbg;have:=decT hbg;omega
 obtain⟨q,hqq⟩:∃ q:Nat,t.op=q:=⟨t.op.toNat,by omega⟩
 have hkl:=h.kl x (by rw[ho];exact List.mem_cons_self ..)
 have hcnt:x'.cnt=(x.kids.length:Int):=by
  have e:=congrArg Sv.cnt hst
  have e:x'.cnt+1=((metX x c.i t).kids.length:Int):=e
  rw[len_met] at e
  omega
 have t0:=hT.c0
 rw[hqq] at t0
 have he:edO (q:Int)=false:=by rw[<- hqq];exact hne
 have hb:bgO (q:Int)=true:=by rw[<- hqq];exact hbg
 have hdp:=h.dp
 rw[ho] at hdp
 have hdb:=dep_b hdp q (by omega)
 have hA:=h.iv.all
 rw[ho] at hA
 have hx:=hA x (List.mem_cons_self ..)
 have hoff:0<=t.off:=by
  unfold okZ at hok
  rw[ho] at hok
  have hok2:inOk f (x::r) s.ids c.i x t=true:=hok
  unfold inOk at hok2
  rw[hne] at hok2
  simp only[Bool.and_eq_true,Bool.false_eq_true,if_false] at hok2
  exact((rul_b hx hok2.1.1.1 hne hok2.1.1.2 hok2.2.2).1 hbg).1
 refine(pass_open c.B c.gf c.go c.cap c.g c.o c.i c.H c.m1 c.m2 c.m3 _ dep wh (r.reverse.map (svOf f.toks)) x' w1 hck1 hC.op (by rw[hlen];omega) q t.since t.off t0 hT.c3 hT.c5 hC.lg (by have:=hap.g;have:=hap.go;omega) (by have:=hap.g;have:=hap.B;omega) hap.Bo.symm hap.go (by omega) he hb (by rw[hcnt];omega) (by simp only[List.length_cons] at hdb;omega)).mono ?_
 rintro _ w2 ⟨rfl,go,cap,hc2,hO2,hHg,hgo,hk2⟩
 have hkb:Kb [c.B,c.m1,c.m2,c.m3,c.go] w w2:=(hK.mono (fun a ha=>List.mem_cons_of_mem _ ha)).trans (hk2.mono (fun a ha=>by simp at ha ⊢;rcases ha with e|e;(left;exact e);(right;right;right;right;exact e)))
 refine⟨rfl,hkb,⟨hc2.ck.c2,hc2.frz 2⟩,go,cap,.slice (some ⟨go,0,none⟩) (r.length+2) cap,fun j=>if j=q then dep q+1 else dep j,g1,g2,g3,?_⟩
 have hk3:Kb [c.B] w2 (w2.setCell ⟨c.B,2,none⟩ (.int .i64 ((c.i:Int)+1))):=(Kb.refl _ _).set (List.mem_singleton.2 rfl) _
 have hM3:Cm (w2.setCell ⟨c.B,2,none⟩ (.int .i64 ((c.i:Int)+1))) c (n+1) g1 g2 g3:=(hM.kept hk2 (notin2 hap.B1.symm hap.o1.symm) (notin2 hap.B2.symm hap.o2.symm) (notin2 hap.B3.symm hap.o3.symm)).kept hk3 (notin1 hap.B1.symm) (notin1 hap.B2.symm) (notin1 hap.B3.symm)
 have hB3:=h.b.turned (hkb.trans (hk3.mono (fun a ha=>by simp at ha ⊢;left;exact ha))) hM3
 have hnx:nxt s c.i t=⟨scNew c.i t::metX x c.i t::r,if ptO t.op then s.ids++[t.id] else s.ids⟩:=by
  unfold nxt
  rw[if_neg (by rw[hne];decide),ho,if_pos hbg]
  rfl
 have hst2:{ x' with cnt:=x'.cnt+1,last:=(q:Int) }=svOf f.toks (metX x c.i t):=by rw[<- hst,hqq];rfl
 have hw1:=hK.size
 have hml:=h.b.ml
 have hfl:=h.b.fl
 have hrt:=h.b.rl.lt
 have hBl:=hck.lt
 have hgne:go=c.go\/(c.H<=go/\go≠c.B/\go≠c.gf/\go≠c.m1/\go≠c.m2/\go≠c.m3/\go≠gr):=by
  rcases hgo with e|e
  ·exact .inl e
  ·exact .inr ⟨hHg,by omega,by omega,by omega,by omega,by omega,by omega⟩
 have hgB:c.B≠go:=by
  rcases hgne with e|e
  ·rw[e];exact hap.Bo
  ·exact e.2.1.symm
 refine⟨hB3.moved hgne,?_,fun _=>⟨?_,?_⟩,fun e=>?_,fun e=>?_,?_,?_,?_,?_,?_,fun a ha=>?_⟩
 ·have h5:=hc2.setPlace ((c.i:Int)+1)
  rw[hlen] at h5
  exact h5
 ·rw[hnx]
  rfl
 ·rw[hnx]
  show OpR _ c.g c.o go cap ((scNew c.i t::metX x c.i t::r).reverse.map (svOf f.toks))
  rw[rev_map,rev_map,<- hst2,left_new f.toks c.i t hoff]
  exact hO2.same (set_oth hgB)
 ·rw[hnx] at e;cases e
 ·exact absurd e (Nat.succ_ne_zero _)
 ·rw[hnx];exact(keys_beg hky).up
 ·rw[hnx,dep_fun]
  exact dep_beg (dep_met hdp) hqq
 ·rw[h.wl,hnx,ho]
  simp
 ·exact inv_step h.iv ht hok
 ·show n+1<=c.i+1
  have:=h.nn
  omega
 ·rw[hnx] at ha
  show a.kids.length<=c.i+1
  rcases List.mem_cons.1 ha with rfl|ha
  ·exact Nat.zero_le _
  rcases List.mem_cons.1 ha with rfl|ha
  ·have:(metX x c.i t).kids.length=x.kids.length+1:=by simp[metX]
   omega
  ·have:=h.kl a (by rw[ho];exact List.mem_cons_of_mem _ ha)
   omega
theorem pass_e (h:LpS w c gr f s v dep wh n h1 h2 h3) (ho:s.open_=x::r) (ht:f.toks[c.i]?=some t) (hne:edO t.op=true) (hok:okZ f s c.i t=true) (w1:World) (hK:Below w.heap.size w w1) :
  Calls Tryz.prog 52 #[.pointer (some ⟨c.B,0,none⟩),.pointer (some ⟨c.g,c.o+c.i*21,none⟩)] w1 fun e w2=>e = .returned (.tuple #[])/\Kb [c.B,c.m1,c.m2,c.m3,c.go] w w2/\(w2.cell? ⟨c.B,2,none⟩=some (.int .i64 (c.i:Int))/\w2.frozen? ⟨c.B,2,none⟩=false)/\∃ v' dep' wh',LpS (w2.setCell ⟨c.B,2,none⟩ (.int .i64 ((c.i:Int)+1))) { c with i:=c.i+1 } gr f (nxt s c.i t) v' dep' wh' n h1 h2 h3:=by
 obtain⟨hct0,hck0⟩:=h.ct ho ht
 have hC:=hct0.below hK
 have hap:=h.b.ap
 have hl:=h.ll ht
 have ho2:=open_len h.iv ho
 have hlen:(r.reverse.map (svOf f.toks)).length=r.length:=by simp
 have hck1:CkH w1 c.B c.gf (.slice (some ⟨c.go,0,none⟩) (r.length+1) c.cap) (c.i:Int) (.slice (some ⟨gr,0,none⟩) 16 16) c.m1 c.m2 c.m3 dep wh:=by
  have:=hck0.same (hK.block _ hck0.lt)
  rwa [hlen] at this
 obtain⟨_,_,pc,cc,e0,hgH,hT,hU,hUc,kT⟩:=hC.tl.at hC.ht
 cases e0
 obtain⟨_,_,px,cx,e1,_,hXk,_⟩:=hC.tl.at hC.hx
 cases e1
 have hA:=h.iv.all
 rw[ho] at hA
 have hx:=hA x (List.mem_cons_self ..)
 obtain⟨q,hqq,hq2⟩:∃ q:Nat,t.op=q/\q<16:=by
  unfold edO at hne
  have:=decT hne
  exact⟨t.op.toNat,by omega,by omega⟩
 obtain⟨qx,hqx,hqx2⟩:∃ q:Nat,x.tk.op=q/\q<16:=by
  have hb:=hx.beg
  unfold bgO at hb
  have:=decT hb
  exact⟨x.tk.op.toNat,by omega,by omega⟩
 have hdp:=h.dp
 rw[ho] at hdp
 have hdb:=dep_b hdp qx hqx2
 have hXl:=hC.op.last
 rw[hlen] at hXl
 obtain⟨cur,_,hcap,_⟩:=hC.op.ex
 have t0:=hT.c0
 rw[hqq] at t0
 have x0:w1.cell? ⟨c.g,c.o+(svOf f.toks x).at_*21,none⟩=some (.int .i64 (qx:Int)):=by rw[<- hqx];exact hXk.c0
 refine(pass_end c.B c.gf c.go r.length c.cap c.g c.o (c.o+c.i*21) c.m1 c.m2 c.m3 (c.i:Int) _ dep wh (svOf f.toks x) w1 hck1 hXl hC.op.lt (by omega) (by simpa using hcap) q qx t0 x0 hC.lg (by have:=hap.g;have:=hap.B;omega) hq2 hqx2 (by rw[<- hqq];exact hne) (by simp only[List.length_cons] at hdb;omega)).mono ?_
 rintro _ w2 ⟨rfl,hc2,hk2⟩
 have hkb:Kb [c.B,c.m1,c.m2,c.m3,c.go] w w2:=(Kb.of_below hK).trans (hk2.mono (fun a ha=>by simp at ha ⊢;left;exact ha))
 refine⟨rfl,hkb,⟨hc2.ck.c2,hc2.frz 2⟩,.slice (some ⟨c.go,0,none⟩) r.length c.cap,fun k=>if k=qx then dep qx-1 else dep k,decide (r.length=0),?_⟩
 have hk3:Kb [c.B] w2 (w2.setCell ⟨c.B,2,none⟩ (.int .i64 ((c.i:Int)+1))):=(Kb.refl _ _).set (List.mem_singleton.2 rfl) _
 have hk4:Kb [c.B] w1 (w2.setCell ⟨c.B,2,none⟩ (.int .i64 ((c.i:Int)+1))):=hk2.trans hk3
 have hM3:Cm (w2.setCell ⟨c.B,2,none⟩ (.int .i64 ((c.i:Int)+1))) c n h1 h2 h3:=(h.b.cm.below hK).kept hk4 (notin1 hap.B1.symm) (notin1 hap.B2.symm) (notin1 hap.B3.symm)
 have hB3:=h.b.turned (hkb.trans (hk3.mono (fun a ha=>by simp at ha ⊢;left;exact ha))) hM3
 have hnx:nxt s c.i t=⟨r,s.ids⟩:=by
  unfold nxt
  rw[if_pos hne,ho]
  rfl
 have hky:=h.ky
 rw[ho] at hky
 refine⟨hB3.moved (.inl rfl),?_,fun e=>⟨?_,?_⟩,fun e=>?_,fun e=>?_,?_,?_,?_,?_,?_,fun a ha=>?_⟩
 ·exact hc2.setPlace ((c.i:Int)+1)
 ·rw[hnx]
 ·rw[hnx]
  show OpR _ c.g c.o c.go c.cap (r.reverse.map (svOf f.toks))
  have hO:=hC.op.same (hk4.block _ hC.op.lt (by simp;exact hap.Bo.symm))
  obtain⟨cur,a1,a2,a3,a4,a5⟩:=hO.ex
  refine⟨cur,a1,by simp at a2 ⊢;omega,a3,a4,?_⟩
  have e5:cur.toList.take ((r.reverse.map (svOf f.toks)).length*8)=(cur.toList.take ((r.reverse.map (svOf f.toks)++[svOf f.toks x]).length*8)).take ((r.reverse.map (svOf f.toks)).length*8):=by
   rw[List.take_take]
   congr 1
   rw[List.length_append]
   omega
  rw[e5,a5,svCs_append,List.take_append_of_le_length (by rw[svCs_length];omega),List.take_of_length_le (by rw[svCs_length];omega)]
 ·rw[hnx] at e
  have e:r=[]:=e
  rw[e]
  exact⟨_,_,rfl⟩
 ·exact absurd e (Nat.succ_ne_zero _)
 ·rw[hnx]
  have:=keys_end hky
  exact this
 ·rw[hnx,dep_fun2]
  exact dep_end hdp hqx
 ·rw[hnx]
  show decide (r.length=0)=(decide (r=[])&&decide (c.i+1≠0))
  simp
 ·exact inv_step h.iv ht hok
 ·show n<=c.i+1
  have:=h.nn
  omega
 ·rw[hnx] at ha
  show a.kids.length<=c.i+1
  have:=h.kl a (by rw[ho];exact List.mem_cons_of_mem _ ha)
  omega
theorem pass_f (h:LpS w c gr f s v dep wh n h1 h2 h3) (ho:s.open_=[]) (ht:f.toks[c.i]?=some t) (hok:okZ f s c.i t=true) (w1:World) (hK:Below w.heap.size w w1) :
  Calls Tryz.prog 52 #[.pointer (some ⟨c.B,0,none⟩),.pointer (some ⟨c.g,c.o+c.i*21,none⟩)] w1 fun e w2=>e = .returned (.tuple #[])/\Kb [c.B,c.m1,c.m2,c.m3,c.go] w w2/\(w2.cell? ⟨c.B,2,none⟩=some (.int .i64 (c.i:Int))/\w2.frozen? ⟨c.B,2,none⟩=false)/\∃ go cap v' dep',LpS (w2.setCell ⟨c.B,2,none⟩ (.int .i64 ((c.i:Int)+1))) { c with go:=go,cap:=cap,i:=c.i+1 } gr f (nxt s c.i t) v' dep' wh n h1 h2 h3:=by
 have hap:=h.b.ap
 have hl:=h.ll ht
 have hok2:(decide (c.i=0)&&decide (t.op=0)&&plainB t&&symbolB t.name&&pairB f.toks c.i t&&msgB f t)=true:=by
  unfold okZ at hok
  rw[ho] at hok
  exact hok
 simp only[Bool.and_eq_true,decide_eq_true_eq] at hok2
 have hi:=hok2.1.1.1.1.1
 have hop:=hok2.1.1.1.1.2
 have hv:=h.zr hi
 have hck:=h.ck
 rw[hv] at hck
 have hck1:=hck.same (hK.block _ hck.lt)
 have hTL:=h.b.tl.below (hK.mono h.b.sz)
 obtain⟨_,_,pc,cc,e0,hgH,hT,hU,hUc,kT⟩:=hTL.at ht
 cases e0
 have hlg:c.g<w1.heap.size:=Nat.lt_of_lt_of_le hgH (Nat.le_trans h.b.sz hK.size)
 have hdb:=dep_b h.dp 0 (by decide)
 rw[ho] at hdb
 have t0:=hT.c0
 rw[show t.op=((0:Nat):Int) from hop] at t0
 have hoff:t.off=0:=pl_msg hok2.1.1.1.2 (.inl hop)
 refine(pass_first c.B c.gf c.g c.o c.i c.m1 c.m2 c.m3 _ dep wh w1 hck1 0 t.since t.off t0 hT.c3 hT.c5 hlg (by have:=hap.g;have:=hap.B;omega) (by decide) (by decide) (by decide) (by simp only[List.length_nil] at hdb;omega)).mono ?_
 rintro _ w2 ⟨rfl,go,cap,hc2,hO2,hgo,hk2⟩
 have hkb:Kb [c.B,c.m1,c.m2,c.m3,c.go] w w2:=(Kb.of_below hK).trans (hk2.mono (fun a ha=>by simp at ha ⊢;left;exact ha))
 refine⟨rfl,hkb,⟨hc2.ck.c2,hc2.frz 2⟩,go,cap,.slice (some ⟨go,0,none⟩) 1 cap,fun j=>if j=0 then dep 0+1 else dep j,?_⟩
 have hk3:Kb [c.B] w2 (w2.setCell ⟨c.B,2,none⟩ (.int .i64 ((c.i:Int)+1))):=(Kb.refl _ _).set (List.mem_singleton.2 rfl) _
 have hk4:Kb [c.B] w1 (w2.setCell ⟨c.B,2,none⟩ (.int .i64 ((c.i:Int)+1))):=hk2.trans hk3
 have hM3:Cm (w2.setCell ⟨c.B,2,none⟩ (.int .i64 ((c.i:Int)+1))) c n h1 h2 h3:=(h.b.cm.below hK).kept hk4 (notin1 hap.B1.symm) (notin1 hap.B2.symm) (notin1 hap.B3.symm)
 have hB3:=h.b.turned (hkb.trans (hk3.mono (fun a ha=>by simp at ha ⊢;left;exact ha))) hM3
 have hnx:nxt s c.i t=⟨[scNew c.i t],s.ids⟩:=by
  unfold nxt
  rw[if_neg (by rw[hop];decide),ho,if_pos (by rw[hop];decide),if_neg (by rw[hop];decide)]
  rfl
 have hw1:=hK.size
 have hml:=h.b.ml
 have hfl:=h.b.fl
 have hrt:=h.b.rl.lt
 have hBl:=hck.lt
 have hsz:=h.b.sz
 have hgne:go=c.go\/(c.H<=go/\go≠c.B/\go≠c.gf/\go≠c.m1/\go≠c.m2/\go≠c.m3/\go≠gr):=.inr ⟨by omega,by omega,by omega,by omega,by omega,by omega,by omega⟩
 have hky:=h.ky
 rw[ho] at hky
 have hdp:=h.dp
 rw[ho] at hdp
 refine⟨hB3.moved hgne,?_,fun e=>⟨?_,?_⟩,fun e=>?_,fun e=>?_,?_,?_,?_,?_,?_,fun a ha=>?_⟩
 ·exact hc2.setPlace ((c.i:Int)+1)
 ·rw[hnx]
  rfl
 ·rw[hnx]
  show OpR _ c.g c.o go cap ([scNew c.i t].reverse.map (svOf f.toks))
  rw[show [scNew c.i t].reverse.map (svOf f.toks)=[svOf f.toks (scNew c.i t)] from rfl,left_new f.toks c.i t (by omega)]
  exact hO2.same (set_oth (by omega))
 ·rw[hnx] at e;cases e
 ·exact absurd e (Nat.succ_ne_zero _)
 ·rw[hnx];exact(keys_beg hky).up
 ·rw[hnx,dep_fun]
  exact dep_beg hdp hop
 ·rw[h.wl,hnx,ho]
  simp[hi]
 ·exact inv_step h.iv ht hok
 ·show n<=c.i+1
  have:=h.nn
  omega
 ·rw[hnx] at ha
  rcases List.mem_cons.1 ha with rfl|ha
  ·exact Nat.zero_le _
  ·cases ha
end
section
variable {w:World} {c:Cf} {gr:Nat} {f:Fm} {s:St} {v:Value} {dep:Nat->Int} {wh:Bool} {n:Nat} {h1 h2 h3:Value->Prop} {t:Tk}
theorem LpS.below {w':World} (h:LpS w c gr f s v dep wh n h1 h2 h3) (hb:Below w.heap.size w w'):LpS w' c gr f s v dep wh n h1 h2 h3 :=
 ⟨h.b.turned (Kb.of_below hb) (h.b.cm.below hb),h.ck.same (hb.block _ h.ck.lt),fun e=>⟨(h.op e).1,(h.op e).2.same (hb.block _ (h.op e).2.lt)⟩,h.no,h.zr,h.ky,h.dp,h.wl,h.iv,h.nn,h.kl⟩
theorem lp_takes (h:LpS w c gr f s v dep wh n h1 h2 h3) (ht:f.toks[c.i]?=some t) :
  Calls Tryz.prog 51 #[.pointer (some ⟨c.B,0,none⟩),.pointer (some ⟨c.g,c.o+c.i*21,none⟩)] w fun e w1=>e = .returned (.bool (okZ f s c.i t))/\Kb [c.B,c.m1,c.m2,c.m3,c.go] w w1/\w1.heap[c.B]?=w.heap[c.B]? /\
   (okZ f s c.i t=true->Calls Tryz.prog 52 #[.pointer (some ⟨c.B,0,none⟩),.pointer (some ⟨c.g,c.o+c.i*21,none⟩)] w1 fun e w2=>e = .returned (.tuple #[])/\Kb [c.B,c.m1,c.m2,c.m3,c.go] w w2/\(w2.cell? ⟨c.B,2,none⟩=some (.int .i64 (c.i:Int))/\w2.frozen? ⟨c.B,2,none⟩=false)/\∃ go cap v' dep' wh' n' g1 g2 g3,LpS (w2.setCell ⟨c.B,2,none⟩ (.int .i64 ((c.i:Int)+1))) { c with go:=go,cap:=cap,i:=c.i+1 } gr f (nxt s c.i t) v' dep' wh' n' g1 g2 g3):=by
 have hl:=h.ll ht
 have hap:=h.b.ap
 cases ho:s.open_ with
 | nil =>
  obtain⟨p,cp,hv⟩:=h.no ho
  have hck:=h.ck
  rw[hv] at hck
  have hwl:=h.wl
  rw[ho] at hwl
  refine(takes_top w p cp hck.ck h.b.fm h.b.fl h.b.tl h.b.sz ht h.b.kt h.b.rl h.b.mt (by rw[hwl];simp) s ho).mono ?_
  rintro _ w1 ⟨rfl,hb⟩
  refine⟨rfl,Kb.of_below hb,hb.block _ hck.lt,fun hok=>(pass_f h ho ht hok w1 hb).mono ?_⟩
  rintro _ w2 ⟨rfl,hk,hcl,go,cap,v',dep',hL⟩
  exact⟨rfl,hk,hcl,go,cap,v',dep',wh,n,h1,h2,h3,hL⟩
 | cons x r =>
  obtain⟨hct,hck⟩:=h.ct ho ht
  have hA:=h.iv.all
  have hN:=h.iv.nest
  have hky:=h.ky
  have hdp:=h.dp
  rw[ho] at hA hN hky hdp
  have hx:=hA x (List.mem_cons_self ..)
  have hz:okZ f s c.i t=inOk f (x::r) s.ids c.i x t:=by
   unfold okZ
   rw[ho]
  rw[hz]
  by_cases hne:edO t.op=true
  ·refine(takes_fin (ids:=s.ids) w _ hct h.b.mt hx hne).mono ?_
   rintro _ w1 ⟨rfl,hb⟩
   refine⟨rfl,Kb.of_below hb,hb.block _ hck.lt,fun hok=>(pass_e h ho ht hne (hz.trans hok) w1 hb).mono ?_⟩
   rintro _ w2 ⟨rfl,hk,hcl,v',dep',wh',hL⟩
   exact⟨rfl,hk,hcl,c.go,c.cap,v',dep',wh',n,h1,h2,h3,hL⟩
  ·have hne:edO t.op=false:=by simpa using hne
   have hnn:=h.nn
   refine(takes_mid w hct h.b.rl h.b.mt h.b.cm (by omega) hky hA hN hdp hne).mono ?_
   rintro _ w1 ⟨rfl,hk,hR⟩
   refine⟨rfl,hk.mono (fun a ha=>List.mem_cons_of_mem _ ha),hk.block _ hck.lt (by simp;exact⟨hap.B1,hap.B2,hap.B3,hap.Bo⟩),fun hok=>?_⟩
   by_cases hbg:bgO t.op=true
   ·refine(pass_o h ho ht hne hbg (hz.trans hok) w1 hk (hR hok)).mono ?_
    rintro _ w2 ⟨rfl,hk,hcl,go,cap,v',dep',g1,g2,g3,hL⟩
    exact⟨rfl,hk,hcl,go,cap,v',dep',wh,n+1,g1,g2,g3,hL⟩
   ·have hq:t.op=14\/t.op=15:=by
     have hok2:=hok
     unfold inOk at hok2
     simp only[Bool.and_eq_true] at hok2
     have hbg:¬ (t.op=0\/t.op=2\/t.op=4\/t.op=6\/t.op=8\/t.op=10\/t.op=12):=fun e=>hbg (decide_eq_true e)
     rcases may_typ hok2.1.1.1 hne hx.beg with ⟨_,h3,_⟩|⟨_,_,h3⟩|⟨_,h3⟩|⟨_,⟨_,h4⟩|⟨_,h4⟩⟩
     ·unfold ptO at h3;have:=decT h3;omega
     ·unfold tyO at h3;have:=decT h3;omega
     ·unfold tyO at h3;have:=decT h3;omega
     ·exact .inl h4
     ·exact .inr h4
    have hR2:=hR hok
    rw[if_neg (by rcases hq with e|e<;>rw[e]<;>decide)] at hR2
    refine(pass_l h ho ht hq (hz.trans hok) w1 hk hR2).mono ?_
    rintro _ w2 ⟨rfl,hk,hcl,g1,g2,g3,hL⟩
    exact⟨rfl,hk,hcl,c.go,c.cap,v,dep,wh,n+1,g1,g2,g3,hL⟩
end
end Go.Proofs.YtjlbcdnkglaheaaGreatDoor
