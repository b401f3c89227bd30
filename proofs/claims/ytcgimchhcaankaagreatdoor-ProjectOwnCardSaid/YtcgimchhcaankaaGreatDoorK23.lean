import Derived.Test.YtcgimchhcaankaaGreatDoorK22
namespace Go.Proofs.YtcgimchhcaankaaGreatDoor
set_option maxRecDepth 1000000
set_option maxHeartbeats 16000000
open Go.ChangeShapes Go.WideShapes Go.ChangeAt Go.RowKit Go.Shelf Go.Maps
section
variable {w:World} {c:Cf} {gr:Nat} {f:Fm} {s:St} {v:Value} {dep:Nat->Int} {wh:Bool} {n:Nat} {h1 h2 h3:Value->Prop} {x:Sc} {r:List Sc} {t:Tk}
theorem dep_fun (dep:Nat->Int) (q:Nat):(fun j=>if j=q then dep q+1 else dep j)=(fun k=>if k=q then dep k+1 else dep k):=by
 funext k
 by_cases h:k=q
 ·simp[h]
 ·simp[h]
theorem dep_fun2 (dep:Nat->Int) (q:Nat):(fun k=>if k=q then dep q-1 else dep k)=(fun k=>if k=q then dep k-1 else dep k):=by
 funext k
 by_cases h:k=q
 ·simp[h]
 ·simp[h]
theorem dep_b {o:List Sc} {dep:Nat->Int} (h:depOk o dep) (q:Nat) (hq:q<16):0<=dep q/\dep q<=(o.length:Int):=by
 rw[h q hq]
 have:depB (q:Int) o<=o.length:=List.length_filter_le _ _
 omega
theorem pass_o (h:LpS w c gr f s v dep wh n h1 h2 h3) (ho:s.open_=x::r) (ht:f.toks[c.i]?=some t) (hne:edO t.op=false) (hbg:bgO t.op=true) (hok:okZ f s c.i t=true) (w1:World) (hK:Kb [c.m1,c.m2,c.m3,c.go] w w1) (hR:Rst w1 c f (r.reverse.map (svOf f.toks)) x r t (.slice (some ⟨gr,0,none⟩) 16 16) dep wh n (if ptO t.op then s.ids++[t.id] else s.ids)) :
  Calls Tryz.prog 72 #[.pointer (some ⟨c.B,0,none⟩),.pointer (some ⟨c.g,c.o+c.i*21,none⟩)] w1 fun e w2=>e = .returned (.tuple #[])/\Kb [c.B,c.m1,c.m2,c.m3,c.go] w w2/\(w2.cell? ⟨c.B,2,none⟩=some (.int .i64 (c.i:Int))/\w2.frozen? ⟨c.B,2,none⟩=false)/\∃ go cap v' dep' g1 g2 g3,LpS (w2.setCell ⟨c.B,2,none⟩ (.int .i64 ((c.i:Int)+1))) { c with go:=go,cap:=cap,i:=c.i+1 } gr f (nxt s c.i t) v' dep' wh (n+1) g1 g2 g3:=by
 obtain⟨x',g1,g2,g3,hC,hM,hst,hky⟩:=hR.ex
 obtain⟨hct,hck⟩:=h.ct ho ht
 have hap:=h.b.ap
 have hl:=h.ll ht
 have ho2:=open_len h.iv ho
 have hlen:(r.reverse.map (svOf f.toks)).length=r.length:=by simp
 have hck1:CkH w1 c.B c.gf (.slice (some ⟨c.go,0,none⟩) ((r.reverse.map (svOf f.toks)).length+1) c.cap) (c.i:Int) (.slice (some ⟨gr,0,none⟩) 16 16) c.m1 c.m2 c.m3 dep wh:=hck.same (hK.block _ hck.lt (by simp;exact⟨hap.B1,hap.B2,hap.B3,hap.Bo⟩))
 obtain⟨_,_,pc,cc,e0,hgH,hT,hU,hUc,kT⟩:=hC.tl.at hC.ht
 cases e0
 have hbo:0<=t.op/\t.op<16:=by unfold bgO at hbg;have:=decT hbg;omega
 obtain⟨q,hqq⟩:∃ q:Nat,t.op=q:=⟨t.op.toNat,by omega⟩
 have hkl:=h.kl x (by rw[ho];exact List.mem_cons_self ..)
 have hcnt:x'.cnt=(x.kids.length:Int):=by
  have e:=congrArg Sv.cnt hst
  have e:x'.cnt+1=((metX x c.i t).kids.length:Int):=e
  rw[len_met] at e
  omega
 have t0:=hT.c0
 rw[hqq] at t0
 have he:edO (q:Int)=false:=by rw[<- hqq];exact hne
 have hb:bgO (q:Int)=true:=by rw[<- hqq];exact hbg
 have hdp:=h.dp
 rw[ho] at hdp
 have hdb:=dep_b hdp q (by omega)
 have hA:=h.iv.all
 rw[ho] at hA
 have hx:=hA x (List.mem_cons_self ..)
 have hoff:0<=t.off:=by
  unfold okZ at hok
  rw[ho] at hok
  have hok2:inOk f (x::r) s.ids c.i x t=true:=hok
  unfold inOk at hok2
  rw[hne] at hok2
  simp only[Bool.and_eq_true,Bool.false_eq_true,if_false] at hok2
  exact((rul_b hx hok2.1.1.1 hne hok2.1.1.2 hok2.2.2).1 hbg).1
 refine(pass_open c.B c.gf c.go c.cap c.g c.o c.i c.H c.m1 c.m2 c.m3 _ dep wh (r.reverse.map (svOf f.toks)) x' w1 hck1 hC.op (by rw[hlen];omega) q t.since t.off t0 hT.c3 hT.c5 hC.lg (by have:=hap.g;have:=hap.go;omega) (by have:=hap.g;have:=hap.B;omega) hap.Bo.symm hap.go (by omega) he hb (by rw[hcnt];omega) (by simp only[List.length_cons] at hdb;omega)).mono ?_
 rintro _ w2 ⟨rfl,go,cap,hc2,hO2,hHg,hgo,hk2⟩
 have hkb:Kb [c.B,c.m1,c.m2,c.m3,c.go] w w2:=(hK.mono (fun a ha=>List.mem_cons_of_mem _ ha)).trans (hk2.mono (fun a ha=>by simp at ha ⊢;rcases ha with e|e;(left;exact e);(right;right;right;right;exact e)))
 refine⟨rfl,hkb,⟨hc2.ck.c2,hc2.frz 2⟩,go,cap,.slice (some ⟨go,0,none⟩) (r.length+2) cap,fun j=>if j=q then dep q+1 else dep j,g1,g2,g3,?_⟩
 have hk3:Kb [c.B] w2 (w2.setCell ⟨c.B,2,none⟩ (.int .i64 ((c.i:Int)+1))):=(Kb.refl _ _).set (List.mem_singleton.2 rfl) _
 have hM3:Cm (w2.setCell ⟨c.B,2,none⟩ (.int .i64 ((c.i:Int)+1))) c (n+1) g1 g2 g3:=(hM.kept hk2 (notin2 hap.B1.symm hap.o1.symm) (notin2 hap.B2.symm hap.o2.symm) (notin2 hap.B3.symm hap.o3.symm)).kept hk3 (notin1 hap.B1.symm) (notin1 hap.B2.symm) (notin1 hap.B3.symm)
 have hB3:=h.b.turned (hkb.trans (hk3.mono (fun a ha=>by simp at ha ⊢;left;exact ha))) hM3
 have hnx:nxt s c.i t=⟨scNew c.i t::metX x c.i t::r,if ptO t.op then s.ids++[t.id] else s.ids⟩:=by
  unfold nxt
  rw[if_neg (by rw[hne];decide),ho,if_pos hbg]
  rfl
 have hst2:{ x' with cnt:=x'.cnt+1,last:=(q:Int) }=svOf f.toks (metX x c.i t):=by rw[<- hst,hqq];rfl
 have hw1:=hK.size
 have hml:=h.b.ml
 have hfl:=h.b.fl
 have hrt:=h.b.rl.lt
 have hBl:=hck.lt
 have hgne:go=c.go\/(c.H<=go/\go≠c.B/\go≠c.gf/\go≠c.m1/\go≠c.m2/\go≠c.m3/\go≠gr):=by
  rcases hgo with e|e
  ·exact .inl e
  ·exact .inr ⟨hHg,by omega,by omega,by omega,by omega,by omega,by omega⟩
 have hgB:c.B≠go:=by
  rcases hgne with e|e
  ·rw[e];exact hap.Bo
  ·exact e.2.1.symm
 refine⟨hB3.moved hgne,?_,fun _=>⟨?_,?_⟩,fun e=>?_,fun e=>?_,?_,?_,?_,?_,?_,fun a ha=>?_⟩
 ·have h5:=hc2.setPlace ((c.i:Int)+1)
  rw[hlen] at h5
  exact h5
 ·rw[hnx]
  rfl
 ·rw[hnx]
  show OpR _ c.g c.o go cap ((scNew c.i t::metX x c.i t::r).reverse.map (svOf f.toks))
  rw[rev_map,rev_map,<- hst2,left_new f.toks c.i t hoff]
  exact hO2.same (set_oth hgB)
 ·rw[hnx] at e;cases e
 ·exact absurd e (Nat.succ_ne_zero _)
 ·rw[hnx];exact(keys_beg hky).up
 ·rw[hnx,dep_fun]
  exact dep_beg (dep_met hdp) hqq
 ·rw[h.wl,hnx,ho]
  simp
 ·exact inv_step h.iv ht hok
 ·show n+1<=c.i+1
  have:=h.nn
  omega
 ·rw[hnx] at ha
  show a.kids.length<=c.i+1
  rcases List.mem_cons.1 ha with rfl|ha
  ·exact Nat.zero_le _
  rcases List.mem_cons.1 ha with rfl|ha
  ·have:(metX x c.i t).kids.length=x.kids.length+1:=by simp[metX]
   omega
  ·have:=h.kl a (by rw[ho];exact List.mem_cons_of_mem _ ha)
   omega
theorem pass_e (h:LpS w c gr f s v dep wh n h1 h2 h3) (ho:s.open_=x::r) (ht:f.toks[c.i]?=some t) (hne:edO t.op=true) (hok:okZ f s c.i t=true) (w1:World) (hK:Below w.heap.size w w1) :
  Calls Tryz.prog 72 #[.pointer (some ⟨c.B,0,none⟩),.pointer (some ⟨c.g,c.o+c.i*21,none⟩)] w1 fun e w2=>e = .returned (.tuple #[])/\Kb [c.B,c.m1,c.m2,c.m3,c.go] w w2/\(w2.cell? ⟨c.B,2,none⟩=some (.int .i64 (c.i:Int))/\w2.frozen? ⟨c.B,2,none⟩=false)/\∃ v' dep' wh',LpS (w2.setCell ⟨c.B,2,none⟩ (.int .i64 ((c.i:Int)+1))) { c with i:=c.i+1 } gr f (nxt s c.i t) v' dep' wh' n h1 h2 h3:=by
 obtain⟨hct0,hck0⟩:=h.ct ho ht
 have hC:=hct0.below hK
 have hap:=h.b.ap
 have hl:=h.ll ht
 have ho2:=open_len h.iv ho
 have hlen:(r.reverse.map (svOf f.toks)).length=r.length:=by simp
 have hck1:CkH w1 c.B c.gf (.slice (some ⟨c.go,0,none⟩) (r.length+1) c.cap) (c.i:Int) (.slice (some ⟨gr,0,none⟩) 16 16) c.m1 c.m2 c.m3 dep wh:=by
  have:=hck0.same (hK.block _ hck0.lt)
  rwa [hlen] at this
 obtain⟨_,_,pc,cc,e0,hgH,hT,hU,hUc,kT⟩:=hC.tl.at hC.ht
 cases e0
 obtain⟨_,_,px,cx,e1,_,hXk,_⟩:=hC.tl.at hC.hx
 cases e1
 have hA:=h.iv.all
 rw[ho] at hA
 have hx:=hA x (List.mem_cons_self ..)
 obtain⟨q,hqq,hq2⟩:∃ q:Nat,t.op=q/\q<16:=by
  unfold edO at hne
  have:=decT hne
  exact⟨t.op.toNat,by omega,by omega⟩
 obtain⟨qx,hqx,hqx2⟩:∃ q:Nat,x.tk.op=q/\q<16:=by
  have hb:=hx.beg
  unfold bgO at hb
  have:=decT hb
  exact⟨x.tk.op.toNat,by omega,by omega⟩
 have hdp:=h.dp
 rw[ho] at hdp
 have hdb:=dep_b hdp qx hqx2
 have hXl:=hC.op.last
 rw[hlen] at hXl
 obtain⟨cur,_,hcap,_⟩:=hC.op.ex
 have t0:=hT.c0
 rw[hqq] at t0
 have x0:w1.cell? ⟨c.g,c.o+(svOf f.toks x).at_*21,none⟩=some (.int .i64 (qx:Int)):=by rw[<- hqx];exact hXk.c0
 refine(pass_end c.B c.gf c.go r.length c.cap c.g c.o (c.o+c.i*21) c.m1 c.m2 c.m3 (c.i:Int) _ dep wh (svOf f.toks x) w1 hck1 hXl hC.op.lt (by omega) (by simpa using hcap) q qx t0 x0 hC.lg (by have:=hap.g;have:=hap.B;omega) hq2 hqx2 (by rw[<- hqq];exact hne) (by simp only[List.length_cons] at hdb;omega)).mono ?_
 rintro _ w2 ⟨rfl,hc2,hk2⟩
 have hkb:Kb [c.B,c.m1,c.m2,c.m3,c.go] w w2:=(Kb.of_below hK).trans (hk2.mono (fun a ha=>by simp at ha ⊢;left;exact ha))
 refine⟨rfl,hkb,⟨hc2.ck.c2,hc2.frz 2⟩,.slice (some ⟨c.go,0,none⟩) r.length c.cap,fun k=>if k=qx then dep qx-1 else dep k,decide (r.length=0),?_⟩
 have hk3:Kb [c.B] w2 (w2.setCell ⟨c.B,2,none⟩ (.int .i64 ((c.i:Int)+1))):=(Kb.refl _ _).set (List.mem_singleton.2 rfl) _
 have hk4:Kb [c.B] w1 (w2.setCell ⟨c.B,2,none⟩ (.int .i64 ((c.i:Int)+1))):=hk2.trans hk3
 have hM3:Cm (w2.setCell ⟨c.B,2,none⟩ (.int .i64 ((c.i:Int)+1))) c n h1 h2 h3:=(h.b.cm.below hK).kept hk4 (notin1 hap.B1.symm) (notin1 hap.B2.symm) (notin1 hap.B3.symm)
 have hB3:=h.b.turned (hkb.trans (hk3.mono (fun a ha=>by simp at ha ⊢;left;exact ha))) hM3
 have hnx:nxt s c.i t=⟨r,s.ids⟩:=by
  unfold nxt
  rw[if_pos hne,ho]
  rfl
 have hky:=h.ky
 rw[ho] at hky
 refine⟨hB3.moved (.inl rfl),?_,fun e=>⟨?_,?_⟩,fun e=>?_,fun e=>?_,?_,?_,?_,?_,?_,fun a ha=>?_⟩
 ·exact hc2.setPlace ((c.i:Int)+1)
 ·rw[hnx]
 ·rw[hnx]
  show OpR _ c.g c.o c.go c.cap (r.reverse.map (svOf f.toks))
  have hO:=hC.op.same (hk4.block _ hC.op.lt (by simp;exact hap.Bo.symm))
  obtain⟨cur,a1,a2,a3,a4,a5⟩:=hO.ex
  refine⟨cur,a1,by simp at a2 ⊢;omega,a3,a4,?_⟩
  have e5:cur.toList.take ((r.reverse.map (svOf f.toks)).length*8)=(cur.toList.take ((r.reverse.map (svOf f.toks)++[svOf f.toks x]).length*8)).take ((r.reverse.map (svOf f.toks)).length*8):=by
   rw[List.take_take]
   congr 1
   rw[List.length_append]
   omega
  rw[e5,a5,svCs_append,List.take_append_of_le_length (by rw[svCs_length];omega),List.take_of_length_le (by rw[svCs_length];omega)]
 ·rw[hnx] at e
  have e:r=[]:=e
  rw[e]
  exact⟨_,_,rfl⟩
 ·exact absurd e (Nat.succ_ne_zero _)
 ·rw[hnx]
  have:=keys_end hky
  exact this
 ·rw[hnx,dep_fun2]
  exact dep_end hdp hqx
 ·rw[hnx]
  show decide (r.length=0)=(decide (r=[])&&decide (c.i+1≠0))
  simp
 ·exact inv_step h.iv ht hok
 ·show n<=c.i+1
  have:=h.nn
  omega
 ·rw[hnx] at ha
  show a.kids.length<=c.i+1
  have:=h.kl a (by rw[ho];exact List.mem_cons_of_mem _ ha)
  omega
theorem pass_f (h:LpS w c gr f s v dep wh n h1 h2 h3) (ho:s.open_=[]) (ht:f.toks[c.i]?=some t) (hok:okZ f s c.i t=true) (w1:World) (hK:Below w.heap.size w w1) :
  Calls Tryz.prog 72 #[.pointer (some ⟨c.B,0,none⟩),.pointer (some ⟨c.g,c.o+c.i*21,none⟩)] w1 fun e w2=>e = .returned (.tuple #[])/\Kb [c.B,c.m1,c.m2,c.m3,c.go] w w2/\(w2.cell? ⟨c.B,2,none⟩=some (.int .i64 (c.i:Int))/\w2.frozen? ⟨c.B,2,none⟩=false)/\∃ go cap v' dep',LpS (w2.setCell ⟨c.B,2,none⟩ (.int .i64 ((c.i:Int)+1))) { c with go:=go,cap:=cap,i:=c.i+1 } gr f (nxt s c.i t) v' dep' wh n h1 h2 h3:=by
 have hap:=h.b.ap
 have hl:=h.ll ht
 have hok2:(decide (c.i=0)&&decide (t.op=0)&&plainB t&&symbolB t.name&&pairB f.toks c.i t&&msgB f t)=true:=by
  unfold okZ at hok
  rw[ho] at hok
  exact hok
 simp only[Bool.and_eq_true,decide_eq_true_eq] at hok2
 have hi:=hok2.1.1.1.1.1
 have hop:=hok2.1.1.1.1.2
 have hv:=h.zr hi
 have hck:=h.ck
 rw[hv] at hck
 have hck1:=hck.same (hK.block _ hck.lt)
 have hTL:=h.b.tl.below (hK.mono h.b.sz)
 obtain⟨_,_,pc,cc,e0,hgH,hT,hU,hUc,kT⟩:=hTL.at ht
 cases e0
 have hlg:c.g<w1.heap.size:=Nat.lt_of_lt_of_le hgH (Nat.le_trans h.b.sz hK.size)
 have hdb:=dep_b h.dp 0 (by decide)
 rw[ho] at hdb
 have t0:=hT.c0
 rw[show t.op=((0:Nat):Int) from hop] at t0
 have hoff:t.off=0:=pl_msg hok2.1.1.1.2 (.inl hop)
 refine(pass_first c.B c.gf c.g c.o c.i c.m1 c.m2 c.m3 _ dep wh w1 hck1 0 t.since t.off t0 hT.c3 hT.c5 hlg (by have:=hap.g;have:=hap.B;omega) (by decide) (by decide) (by decide) (by simp only[List.length_nil] at hdb;omega)).mono ?_
 rintro _ w2 ⟨rfl,go,cap,hc2,hO2,hgo,hk2⟩
 have hkb:Kb [c.B,c.m1,c.m2,c.m3,c.go] w w2:=(Kb.of_below hK).trans (hk2.mono (fun a ha=>by simp at ha ⊢;left;exact ha))
 refine⟨rfl,hkb,⟨hc2.ck.c2,hc2.frz 2⟩,go,cap,.slice (some ⟨go,0,none⟩) 1 cap,fun j=>if j=0 then dep 0+1 else dep j,?_⟩
 have hk3:Kb [c.B] w2 (w2.setCell ⟨c.B,2,none⟩ (.int .i64 ((c.i:Int)+1))):=(Kb.refl _ _).set (List.mem_singleton.2 rfl) _
 have hk4:Kb [c.B] w1 (w2.setCell ⟨c.B,2,none⟩ (.int .i64 ((c.i:Int)+1))):=hk2.trans hk3
 have hM3:Cm (w2.setCell ⟨c.B,2,none⟩ (.int .i64 ((c.i:Int)+1))) c n h1 h2 h3:=(h.b.cm.below hK).kept hk4 (notin1 hap.B1.symm) (notin1 hap.B2.symm) (notin1 hap.B3.symm)
 have hB3:=h.b.turned (hkb.trans (hk3.mono (fun a ha=>by simp at ha ⊢;left;exact ha))) hM3
 have hnx:nxt s c.i t=⟨[scNew c.i t],s.ids⟩:=by
  unfold nxt
  rw[if_neg (by rw[hop];decide),ho,if_pos (by rw[hop];decide),if_neg (by rw[hop];decide)]
  rfl
 have hw1:=hK.size
 have hml:=h.b.ml
 have hfl:=h.b.fl
 have hrt:=h.b.rl.lt
 have hBl:=hck.lt
 have hsz:=h.b.sz
 have hgne:go=c.go\/(c.H<=go/\go≠c.B/\go≠c.gf/\go≠c.m1/\go≠c.m2/\go≠c.m3/\go≠gr):=.inr ⟨by omega,by omega,by omega,by omega,by omega,by omega,by omega⟩
 have hky:=h.ky
 rw[ho] at hky
 have hdp:=h.dp
 rw[ho] at hdp
 refine⟨hB3.moved hgne,?_,fun e=>⟨?_,?_⟩,fun e=>?_,fun e=>?_,?_,?_,?_,?_,?_,fun a ha=>?_⟩
 ·exact hc2.setPlace ((c.i:Int)+1)
 ·rw[hnx]
  rfl
 ·rw[hnx]
  show OpR _ c.g c.o go cap ([scNew c.i t].reverse.map (svOf f.toks))
  rw[show [scNew c.i t].reverse.map (svOf f.toks)=[svOf f.toks (scNew c.i t)] from rfl,left_new f.toks c.i t (by omega)]
  exact hO2.same (set_oth (by omega))
 ·rw[hnx] at e;cases e
 ·exact absurd e (Nat.succ_ne_zero _)
 ·rw[hnx];exact(keys_beg hky).up
 ·rw[hnx,dep_fun]
  exact dep_beg hdp hop
 ·rw[h.wl,hnx,ho]
  simp[hi]
 ·exact inv_step h.iv ht hok
 ·show n<=c.i+1
  have:=h.nn
  omega
 ·rw[hnx] at ha
  rcases List.mem_cons.1 ha with rfl|ha
  ·exact Nat.zero_le _
  ·cases ha
end
section
variable {w:World} {c:Cf} {gr:Nat} {f:Fm} {s:St} {v:Value} {dep:Nat->Int} {wh:Bool} {n:Nat} {h1 h2 h3:Value->Prop} {t:Tk}
theorem LpS.below {w':World} (h:LpS w c gr f s v dep wh n h1 h2 h3) (hb:Below w.heap.size w w'):LpS w' c gr f s v dep wh n h1 h2 h3 :=
 ⟨h.b.turned (Kb.of_below hb) (h.b.cm.below hb),h.ck.same (hb.block _ h.ck.lt),fun e=>⟨(h.op e).1,(h.op e).2.same (hb.block _ (h.op e).2.lt)⟩,h.no,h.zr,h.ky,h.dp,h.wl,h.iv,h.nn,h.kl⟩
theorem lp_takes (h:LpS w c gr f s v dep wh n h1 h2 h3) (ht:f.toks[c.i]?=some t) :
  Calls Tryz.prog 71 #[.pointer (some ⟨c.B,0,none⟩),.pointer (some ⟨c.g,c.o+c.i*21,none⟩)] w fun e w1=>e = .returned (.bool (okZ f s c.i t))/\Kb [c.B,c.m1,c.m2,c.m3,c.go] w w1/\w1.heap[c.B]?=w.heap[c.B]? /\
   (okZ f s c.i t=true->Calls Tryz.prog 72 #[.pointer (some ⟨c.B,0,none⟩),.pointer (some ⟨c.g,c.o+c.i*21,none⟩)] w1 fun e w2=>e = .returned (.tuple #[])/\Kb [c.B,c.m1,c.m2,c.m3,c.go] w w2/\(w2.cell? ⟨c.B,2,none⟩=some (.int .i64 (c.i:Int))/\w2.frozen? ⟨c.B,2,none⟩=false)/\∃ go cap v' dep' wh' n' g1 g2 g3,LpS (w2.setCell ⟨c.B,2,none⟩ (.int .i64 ((c.i:Int)+1))) { c with go:=go,cap:=cap,i:=c.i+1 } gr f (nxt s c.i t) v' dep' wh' n' g1 g2 g3):=by
 have hl:=h.ll ht
 have hap:=h.b.ap
 cases ho:s.open_ with
 | nil =>
  obtain⟨p,cp,hv⟩:=h.no ho
  have hck:=h.ck
  rw[hv] at hck
  have hwl:=h.wl
  rw[ho] at hwl
  refine(takes_top w p cp hck.ck h.b.fm h.b.fl h.b.tl h.b.sz ht h.b.kt h.b.rl h.b.mt (by rw[hwl];simp) s ho).mono ?_
  rintro _ w1 ⟨rfl,hb⟩
  refine⟨rfl,Kb.of_below hb,hb.block _ hck.lt,fun hok=>(pass_f h ho ht hok w1 hb).mono ?_⟩
  rintro _ w2 ⟨rfl,hk,hcl,go,cap,v',dep',hL⟩
  exact⟨rfl,hk,hcl,go,cap,v',dep',wh,n,h1,h2,h3,hL⟩
 | cons x r =>
  obtain⟨hct,hck⟩:=h.ct ho ht
  have hA:=h.iv.all
  have hN:=h.iv.nest
  have hky:=h.ky
  have hdp:=h.dp
  rw[ho] at hA hN hky hdp
  have hx:=hA x (List.mem_cons_self ..)
  have hz:okZ f s c.i t=inOk f (x::r) s.ids c.i x t:=by
   unfold okZ
   rw[ho]
  rw[hz]
  by_cases hne:edO t.op=true
  ·refine(takes_fin (ids:=s.ids) w _ hct h.b.mt hx hne).mono ?_
   rintro _ w1 ⟨rfl,hb⟩
   refine⟨rfl,Kb.of_below hb,hb.block _ hck.lt,fun hok=>(pass_e h ho ht hne (hz.trans hok) w1 hb).mono ?_⟩
   rintro _ w2 ⟨rfl,hk,hcl,v',dep',wh',hL⟩
   exact⟨rfl,hk,hcl,c.go,c.cap,v',dep',wh',n,h1,h2,h3,hL⟩
  ·have hne:edO t.op=false:=by simpa using hne
   have hnn:=h.nn
   refine(takes_mid w hct h.b.rl h.b.mt h.b.cm (by omega) hky hA hN hdp hne).mono ?_
   rintro _ w1 ⟨rfl,hk,hR⟩
   refine⟨rfl,hk.mono (fun a ha=>List.mem_cons_of_mem _ ha),hk.block _ hck.lt (by simp;exact⟨hap.B1,hap.B2,hap.B3,hap.Bo⟩),fun hok=>?_⟩
   by_cases hbg:bgO t.op=true
   ·refine(pass_o h ho ht hne hbg (hz.trans hok) w1 hk (hR hok)).mono ?_
    rintro _ w2 ⟨rfl,hk,hcl,go,cap,v',dep',g1,g2,g3,hL⟩
    exact⟨rfl,hk,hcl,go,cap,v',dep',wh,n+1,g1,g2,g3,hL⟩
   ·have hq:t.op=14\/t.op=15:=by
     have hok2:=hok
     unfold inOk at hok2
     simp only[Bool.and_eq_true] at hok2
     have hbg:¬ (t.op=0\/t.op=2\/t.op=4\/t.op=6\/t.op=8\/t.op=10\/t.op=12):=fun e=>hbg (decide_eq_true e)
     rcases may_typ hok2.1.1.1 hne hx.beg with ⟨_,h3,_⟩|⟨_,_,h3⟩|⟨_,h3⟩|⟨_,⟨_,h4⟩|⟨_,h4⟩⟩
     ·unfold ptO at h3;have:=decT h3;omega
     ·unfold tyO at h3;have:=decT h3;omega
     ·unfold tyO at h3;have:=decT h3;omega
     ·exact .inl h4
     ·exact .inr h4
    have hR2:=hR hok
    rw[if_neg (by rcases hq with e|e<;>rw[e]<;>decide)] at hR2
    refine(pass_l h ho ht hq (hz.trans hok) w1 hk hR2).mono ?_
    rintro _ w2 ⟨rfl,hk,hcl,g1,g2,g3,hL⟩
    exact⟨rfl,hk,hcl,c.go,c.cap,v,dep,wh,n+1,g1,g2,g3,hL⟩
end
def fltV (z:Option Int):Value:=match z with
 | none=>.agg #[.int .i64 0,.int .i64 0]
 | some a=>.agg #[.int .i64 121,.int .i64 a]
theorem runZ_at {f:Fm} {i:Nat} {t:Tk} {s:St} (ht:f.toks[i]?=some t):runZ f (f.toks.drop i) i s=if okZ f s i t then runZ f (f.toks.drop (i+1)) (i+1) (nxt s i t) else some (i:Int):=by
 rw[drop_at ht,runZ]
theorem keys_nil (l:List Tk):KeysV l [] 0 [] (fun _=>False) (fun _=>False) (fun _=>False) :=
 ⟨fun d=>by simp,fun s hs=>(by cases hs),fun s hs=>(by cases hs),fun s hs=>(by cases hs),fun k hk=>⟨fun n e=>e,fun v e=>e⟩⟩
theorem inv_nil (f:Fm):Inv f 0 ⟨[],[]⟩:=⟨fun x hx=>(by cases hx),trivial,fun _=>rfl,Nat.le_refl _⟩
theorem dep_nil:depOk [] (fun _=>0):=fun _ _=>rfl
theorem lp_start {f:Fm} {g o cp H:Nat} {w1 w':World} (hck:CkH w' (w1.heap.size+3) H (.slice none 0 0) 0 (.slice (some ⟨w1.heap.size+4,0,none⟩) 16 16) w1.heap.size (w1.heap.size+1) (w1.heap.size+2) (fun _=>0) false) (hrl:∀ q:Nat,w'.cell? ⟨w1.heap.size+4,q,none⟩=(rulA (w1.heap.size+3))[q]?) (m1:MHas w' 3 w1.heap.size 0 (fun _=>False)) (m2:MHas w' 169 (w1.heap.size+1) 0 (fun _=>False)) (m3:MHas w' 152 (w1.heap.size+2) 0 (fun _=>False)) (hs:w'.heap.size=w1.heap.size+5)
  (hH:H<w1.heap.size) (fm:FmC w' H 0 f (some ⟨g,o,none⟩) cp) (tl:TkL w' (some ⟨g,o,none⟩) H f.toks) (hg:g<H) (kt:KT w') (mt:MT w') (k0:1<H) (k1:0<H) :
  LpS w' ⟨w1.heap.size+3,H,w1.heap.size+5,0,g,o,cp,w1.heap.size,w1.heap.size+1,w1.heap.size+2,H,0⟩ (w1.heap.size+4) f ⟨[],[]⟩ (.slice none 0 0) (fun _=>0) false 0 (fun _=>False) (fun _=>False) (fun _=>False):=by
 refine⟨⟨fm,tl,⟨hg,Nat.le_refl _,by show H<=w1.heap.size+3;omega,by show H<=w1.heap.size+5;omega,Nat.le_of_lt hH,by show H<=w1.heap.size+1;omega,by show H<=w1.heap.size+2;omega,by show H≠w1.heap.size+3;omega,by show H≠w1.heap.size+5;omega,by show H≠w1.heap.size;omega,by show H≠w1.heap.size+1;omega,by show H≠w1.heap.size+2;omega,by show w1.heap.size+3≠w1.heap.size+5;omega,by show w1.heap.size+3≠w1.heap.size;omega,by show w1.heap.size+3≠w1.heap.size+1;omega,by show w1.heap.size+3≠w1.heap.size+2;omega,by show w1.heap.size+5≠w1.heap.size;omega,by show w1.heap.size+5≠w1.heap.size+1;omega,by show w1.heap.size+5≠w1.heap.size+2;omega,by show w1.heap.size≠w1.heap.size+1;omega,by show w1.heap.size≠w1.heap.size+2;omega,by show w1.heap.size+1≠w1.heap.size+2;omega⟩,kt,mt,by show H<=_;omega,by show H<_;omega,k0,k1,⟨by show w1.heap.size+4<_;omega,by show w1.heap.size+4≠w1.heap.size;omega,by show w1.heap.size+4≠w1.heap.size+1;omega,by show w1.heap.size+4≠w1.heap.size+2;omega,by show w1.heap.size+4≠w1.heap.size+5;omega,hrl⟩,⟨by show H<=w1.heap.size+4;omega,by show w1.heap.size+4≠w1.heap.size+3;omega,by show w1.heap.size+4≠H;omega⟩,⟨by show w1.heap.size<_;omega,by show w1.heap.size+1<_;omega,by show w1.heap.size+2<_;omega⟩,⟨m1,m2,m3,by decide⟩⟩,
  hck,fun e=>absurd rfl e,fun _=>⟨none,0,rfl⟩,fun _=>rfl,keys_nil _,dep_nil,rfl,inv_nil f,Nat.le_refl _,fun a ha=>(by cases ha)⟩
theorem cell_set {w:World} {X:Nat} {cs:Array Value} {ty:TypeId} (h:w.heap[X]?=some (.cells cs ty)) (k:Nat) (u:Value):(w.setCell ⟨X,k,none⟩ u).heap[X]?=some (.cells (cs.setIfInBounds k u) ty):=by
 show (w.heap.modify X _)[X]?=_
 rw[Array.getElem?_modify,if_pos rfl,h]
 rfl
theorem flt_set {w:World} {X:Nat} {a b:Value} (u0 u1:Value) (h:w.heap[X]?=some (.cells #[a,b] 93)):((w.setCell ⟨X,0,none⟩ u0).setCell ⟨X,1,none⟩ u1).heap[X]?=some (.cells #[u0,u1] 93):=cell_set (cell_set h 0 u0) 1 u1
theorem infoFt:(Tryz.prog.info? 93).map (·.size)=some 2:=by kernel_rfl
theorem LpS.off {w:World} {c:Cf} {gr:Nat} {f:Fm} {s:St} {v:Value} {dep:Nat->Int} {wh:Bool} {n:Nat} {h1 h2 h3:Value->Prop} {X:Nat} {cs:Array Value} (h:LpS w c gr f s v dep wh n h1 h2 h3) (hX:w.heap[X]?=some (.cells cs 93)) :
  ∃ go,go≠X/\LpS w { c with go:=go } gr f s v dep wh n h1 h2 h3:=by
 by_cases ho:s.open_=[]
 ·have hXl:=(Array.getElem?_eq_some_iff.1 hX).1
  have hsz:=h.b.sz
  have hml:=h.b.ml
  have hfl:=h.b.fl
  have hrt:=h.b.rl.lt
  have hBl:=h.ck.lt
  refine⟨w.heap.size+1,by omega,⟨h.b.moved (go:=w.heap.size+1) (cap:=c.cap) (i:=c.i) (.inr ⟨by omega,by omega,by omega,by omega,by omega,by omega,by omega⟩),h.ck,fun e=>absurd ho e,h.no,h.zr,h.ky,h.dp,h.wl,h.iv,h.nn,h.kl⟩⟩
 ·refine⟨c.go,fun e=>?_,h⟩
  obtain⟨cur,h1,_⟩:=(h.op ho).2.ex
  rw[e,hX] at h1
  have:=Option.some.inj h1
  injection this with _ h3
  revert h3
  decide
theorem check_some (f:Fm) (g o cp:Nat) (w:World) (tl:TkL w (some ⟨g,o,none⟩) w.heap.size f.toks) (hg:g<w.heap.size) (kt:KT w) (mt:MT w) :
  Calls Tryz.prog 53 #[fmV f (some ⟨g,o,none⟩) cp] w fun r w'=>r = .returned (fltV (chkZ f))/\Below w.heap.size w w':=by
 have hX:((w.alloc (fmO f (some ⟨g,o,none⟩) cp)).alloc (.cells #[.int .i64 0,.int .i64 0] 93)).heap[w.heap.size]?=some (fmO f (some ⟨g,o,none⟩) cp):=by
  show ((w.heap.push _).push _)[w.heap.size]?=_
  rw[Array.getElem?_push,if_neg (by simp),Array.getElem?_push,if_pos rfl]
 have hY:((w.alloc (fmO f (some ⟨g,o,none⟩) cp)).alloc (.cells #[.int .i64 0,.int .i64 0] 93)).heap[w.heap.size+1]?=some (.cells #[.int .i64 0,.int .i64 0] 93):=by
  show ((w.heap.push _).push _)[w.heap.size+1]?=_
  rw[Array.getElem?_push,if_pos (by simp)]
 have HB:Below w.heap.size w ((w.alloc (fmO f (some ⟨g,o,none⟩) cp)).alloc (.cells #[.int .i64 0,.int .i64 0] 93)):=(bel1 w _).alloc (by simp) _
 have HS:((w.alloc (fmO f (some ⟨g,o,none⟩) cp)).alloc (.cells #[.int .i64 0,.int .i64 0] 93)).heap.size=w.heap.size+2:=by simp
 generalize hW:(w.alloc (fmO f (some ⟨g,o,none⟩) cp)).alloc (.cells #[.int .i64 0,.int .i64 0] 93)=W at hX hY HB HS
 simp only[fmO] at hW
 have hF:FmC W w.heap.size 0 f (some ⟨g,o,none⟩) cp:=⟨cell_at hX 0,cell_at hX 1,cell_at hX 2,cell_at hX 3,cell_at hX 4,cell_at hX 5,cell_at hX 6,cell_at hX 7,cell_at hX 8,cell_at hX 9,cell_at hX 10,cell_at hX 11,cell_at hX 12⟩
 have cH:=isHeaded_any f w.heap.size 0 (some ⟨g,o,none⟩) cp W (kt.up HB) (by omega) hF
 replace cH:=Hid.mk cH
 replace hX:=Hid.mk hX
 replace hY:=Hid.mk hY
 replace hF:=Hid.mk hF
 replace HB:=Hid.mk HB
 cases hhd:headB f with
 | false =>
  have hz:chkZ f=some (-1):=by unfold chkZ;rw[hhd];rfl
  rw[hz]
  rw[hhd] at cH
  clear hhd hz
  go_enter Tryz.func53,Tryz.ntmps53
  go_wp2_with (go_at_call 69;refine cH.out.mono ?_;rintro _ w1 ⟨rfl,hb⟩;have y1:=(hb.block (w.heap.size+1) (by omega)).trans hY.out;have y10:=cell_at y1 0;have y11:=cell_at y1 1;have yf:∀ k,w1.frozen? ⟨w.heap.size+1,k,none⟩=false:=(fun k=>by simp[World.frozen?,y1]);replace y1:=Hid.mk y1;replace hb:=Hid.mk hb)
  refine bodyPost_ret (results_cell_row rfl _ _ (w.heap.size+1) 93 #[.int .i64 121,.int .i64 (-1)] (0,0) _ rfl (flt_set _ _ y1.out) Tryz.underlying93 rfl infoFt) rfl ⟨rfl,?_⟩
  exact((HB.out.trans (hb.out.mono HB.out.size)).setCell (p:=⟨w.heap.size+1,0,none⟩) (by show w.heap.size<=w.heap.size+1;omega) _).setCell (p:=⟨w.heap.size+1,1,none⟩) (by show w.heap.size<=w.heap.size+1;omega) _
 | true =>
  have hz:chkZ f=runZ f f.toks 0 ⟨[],[]⟩:=by unfold chkZ;rw[hhd];rfl
  rw[hz]
  rw[hhd] at cH
  clear hhd hz
  obtain⟨Z,hZ⟩:∃ Z,runZ f f.toks 0 ⟨[],[]⟩=Z:=⟨_,rfl⟩
  rw[hZ]
  replace hZ:=Hid.mk hZ
  replace kt:=Hid.mk kt
  replace mt:=Hid.mk mt
  replace tl:=Hid.mk tl
  go_enter Tryz.func53,Tryz.ntmps53
  go_wp2_with (first
   | (go_at_call 69;refine cH.out.mono ?_;rintro _ w1 ⟨rfl,hb⟩;replace hb:=Hid.mk hb)
   | (go_at_call 70;refine(newChecker_any w.heap.size w1).mono ?_;rintro _ w2 ⟨rfl,hck,hrl,hm1,hm2,hm3,hs2,hb2⟩;replace hck:=Hid.mk hck;replace hrl:=Hid.mk hrl;replace hm1:=Hid.mk hm1;replace hm2:=Hid.mk hm2;replace hm3:=Hid.mk hm3;replace hs2:=Hid.mk hs2;replace hb2:=Hid.mk hb2))
  have hw1:=hb.out.size
  have hb02:Below w.heap.size w w2:=HB.out.trans ((hb.out.trans (hb2.out.mono hw1)).mono HB.out.size)
  have hF2:=(hF.out.below (by omega) hb.out).below (Nat.lt_of_lt_of_le (by omega:w.heap.size<W.heap.size) hw1) hb2.out
  have hS:=lp_start (H:=w.heap.size) hck.out hrl.out hm1.out hm2.out hm3.out hs2.out (by omega) hF2 (tl.out.below hb02) hg (kt.out.up hb02) (mt.out.below mt.out.pos hb02) kt.out.pos mt.out.pos
  have hY2:=(hb2.out.block (w.heap.size+1) (by omega)).trans ((hb.out.block (w.heap.size+1) (by omega)).trans hY.out)
  have hs22:=hs2.out
  go_loopw [4] (fun u wr=>∃ go cap m1 m2 m3 i s v dep wh n h1 h2 h3,Hid (LpS wr ⟨w1.heap.size+3,w.heap.size,go,cap,g,o,cp,m1,m2,m3,w.heap.size,i⟩ (w1.heap.size+4) f s v dep wh n h1 h2 h3)/\Hid (runZ f (f.toks.drop i) i s=Z)/\i<=f.toks.length/\Hid (Below w.heap.size w wr)/\Hid (wr.heap[w.heap.size+1]?=some (.cells #[.int .i64 0,.int .i64 0] 93))/\Hid (w.heap.size+1<m1/\w.heap.size+1<m2/\w.heap.size+1<m3)/\u=u) (fun _ wr=>f.toks.length-(RowKit.intOf ((wr.cell? ⟨w1.heap.size+3,2,none⟩).getD (.int .i64 0))).toNat)
  case atStart=>exact⟨_,_,_,_,_,0,_,_,_,_,_,_,_,_,⟨hS⟩,⟨by rw[List.drop_zero];exact hZ.out⟩,Nat.zero_le _,⟨hb02⟩,⟨hY2⟩,⟨by omega,by omega,by omega⟩,rfl⟩
  case round =>
   obtain⟨go,cap,m1,m2,m3,i,s,v,dep,wh,n,h1,h2,h3,hS,hR,hi,hB,hY,hm,-⟩:=hrel
   have k2:=hS.out.ck.ck.c2
   have m12:wr.cell? ⟨w.heap.size,12,none⟩=some (.slice (some ⟨g,o,none⟩) f.toks.length cp):=hS.out.b.fm.c12
   have hlen:=hS.out.b.tl.len
   by_cases hlt:i<f.toks.length
   ·obtain⟨t,ht⟩:∃ t,f.toks[i]?=some t:=⟨f.toks[i],List.getElem?_eq_getElem hlt⟩
    obtain⟨go2,hgo,hS2⟩:=hS.out.off hY.out
    have hlti:(i:Int)<f.toks.length:=by omega
    have hr:=hR.out
    rw[runZ_at ht] at hr
    have hT2:=hS2
    have cT:∀ W',Below wr.heap.size wr W'->_:=fun W' hb'=>lp_takes (t:=t) (hT2.below hb') ht
    replace cT:=Hid.mk cT
    replace hr:=Hid.mk hr
    replace hS2:=Hid.mk hS2
    clear hT2
    have hBl:w1.heap.size+3<wr.heap.size:=hS.out.ck.lt
    go_wp2_with fail
    go_quiet (fail)
    go_wp2_with fail
    go_quiet (fail)
    go_wp2_with fail
    refine(cT.out _ (tdr (Below.refl _ _))).mono ?_
    rintro _ w3 ⟨rfl,hk3,hb3,hP⟩
    have hap:=hS2.out.b.ap
    have hE:∀ k∈[w1.heap.size+3,m1,m2,m3,go2],w.heap.size<=k:=fun k hk=>by
     have b1:w.heap.size<=w1.heap.size+3:=hap.B
     have b2:w.heap.size<=m1:=hap.m1
     have b3:w.heap.size<=m2:=hap.m2
     have b4:w.heap.size<=m3:=hap.m3
     have b5:w.heap.size<=go2:=hap.go
     simp at hk
     omega
    have hXE:w.heap.size+1∉[w1.heap.size+3,m1,m2,m3,go2]:=by have:=hm.out;simp;omega
    have hwr:w.heap.size+1<wr.heap.size:=(Array.getElem?_eq_some_iff.1 hY.out).1
    replace hap:=Hid.mk hap
    replace hE:=Hid.mk hE
    replace hXE:=Hid.mk hXE
    cases hok:okZ f s i t with
    | true =>
     have hr1:runZ f (f.toks.drop (i+1)) (i+1) (nxt s i t)=Z:=by
      have h5:=hr.out
      rwa [if_pos hok] at h5
     have hP1:=hP hok
     replace hr1:=Hid.mk hr1
     replace hP1:=Hid.mk hP1
     replace hk3:=Hid.mk hk3
     clear hok hP hb3 cT hr
     go_wp2_with (go_at_call 72;refine hP1.out.mono ?_;rintro _ w4 ⟨rfl,hk4,⟨q2,qf⟩,go',cap',v',dep',wh',n',g1,g2,g3,hL⟩;replace hk4:=Hid.mk hk4;replace hL:=Hid.mk hL)
     have hL5:=hL.out
     have k5:=hL5.ck.ck.c2
     go_roundw
     case rel=>exact⟨go',cap',m1,m2,m3,i+1,nxt s i t,v',dep',wh',n',g1,g2,g3,hL,hr1,by omega,⟨((tdr hB.out).trans (hk4.out.below hB.out.size hE.out)).setCell (p:=⟨w1.heap.size+3,2,none⟩) (by show w.heap.size<=w1.heap.size+3;omega) _⟩,⟨(set_oth (by omega)).trans ((hk4.out.block _ hwr hXE.out).trans hY.out)⟩,hm,trivial⟩
     case measure =>
      rw[k2,show (w4.setCell ⟨w1.heap.size+3,2,none⟩ (.int .i64 ((i:Int)+1))).cell? ⟨w1.heap.size+3,2,none⟩=some (.int .i64 ((i+1:Nat):Int)) from k5]
      simp[RowKit.intOf]
      omega
    | false =>
     have hz:Z=some (i:Int):=by
      have h5:=hr.out
      rw[if_neg (by rw[hok];decide)] at h5
      exact h5.symm
     subst hz
     have q2:=(cell_blk (o:=2) hb3).trans k2
     have y3:=(hk3.block _ hwr hXE.out).trans hY.out
     have y30:=cell_at y3 0
     have y31:=cell_at y3 1
     have yf:∀ k,w3.frozen? ⟨w.heap.size+1,k,none⟩=false:=fun k=>by simp[World.frozen?,y3]
     have hb5:∀ u0 u1,Below w.heap.size w ((w3.setCell ⟨w.heap.size+1,0,none⟩ u0).setCell ⟨w.heap.size+1,1,none⟩ u1):=fun u0 u1=>(((tdr hB.out).trans (hk3.below hB.out.size hE.out)).setCell (p:=⟨w.heap.size+1,0,none⟩) (by show w.heap.size<=w.heap.size+1;omega) _).setCell (p:=⟨w.heap.size+1,1,none⟩) (by show w.heap.size<=w.heap.size+1;omega) _
     replace hb5:=Hid.mk hb5
     replace y3:=Hid.mk y3
     clear hok hP hb3 cT hr hk3
     go_wp2_with fail
     refine bodyPost_ret (results_cell_row rfl _ _ (w.heap.size+1) 93 #[.int .i64 121,.int .i64 (i:Int)] (0,0) _ rfl (flt_set _ _ y3.out) Tryz.underlying93 rfl infoFt) rfl ⟨rfl,?_⟩
     exact hb5.out _ _
   ·obtain rfl:i=f.toks.length:=by omega
    have hr:=hR.out
    rw[List.drop_length,runZ] at hr
    have hwl:=hS.out.wl
    have k23:=hS.out.ck.ck.c23
    have hY0:=cell_at hY.out 0
    have hY1:=cell_at hY.out 1
    have yf:∀ k,wr.frozen? ⟨w.heap.size+1,k,none⟩=false:=fun k=>by simp[World.frozen?,hY.out]
    have hb5:∀ u0 u1,Below w.heap.size w ((wr.setCell ⟨w.heap.size+1,0,none⟩ u0).setCell ⟨w.heap.size+1,1,none⟩ u1):=fun u0 u1=>(hB.out.setCell (p:=⟨w.heap.size+1,0,none⟩) (by show w.heap.size<=w.heap.size+1;omega) _).setCell (p:=⟨w.heap.size+1,1,none⟩) (by show w.heap.size<=w.heap.size+1;omega) _
    replace hb5:=Hid.mk hb5
    cases wh with
    | true =>
     have hz:Z=none:=by
      rw[<- hr,if_neg]
      intro e
      have h5:(decide (s.open_=[])&&decide (f.toks.length≠0))=true:=hwl.symm
      simp only[Bool.and_eq_true,decide_eq_true_eq] at h5
      rcases e with e|e
      ·exact h5.2 e
      ·exact e h5.1
     subst hz
     clear hr hwl
     go_wp2_with fail
     go_quiet (fail)
     go_wp2_with fail
     refine bodyPost_ret (results_cell_row rfl _ _ (w.heap.size+1) 93 #[.int .i64 0,.int .i64 0] (0,0) _ rfl (flt_set (w:=wr.drewN nq) _ _ hY.out) Tryz.underlying93 rfl infoFt) rfl ⟨rfl,?_⟩
     exact tdr (hb5.out _ _)
    | false =>
     have hz:Z=some (f.toks.length:Int):=by
      rw[<- hr,if_pos]
      have h5:(decide (s.open_=[])&&decide (f.toks.length≠0))=false:=hwl.symm
      by_cases e:f.toks.length=0
      ·exact .inl e
      ·refine .inr (fun e2=>?_)
       rw[e2] at h5
       simp at h5
       exact e (by rw[h5];rfl)
     subst hz
     clear hr hwl
     go_wp2_with fail
     go_quiet (fail)
     go_wp2_with fail
     refine bodyPost_ret (results_cell_row rfl _ _ (w.heap.size+1) 93 #[.int .i64 121,.int .i64 (f.toks.length:Int)] (0,0) _ rfl (flt_set (w:=wr.drewN nq) _ _ hY.out) Tryz.underlying93 rfl infoFt) rfl ⟨rfl,?_⟩
     exact tdr (hb5.out _ _)
end Go.Proofs.YtcgimchhcaankaaGreatDoor
