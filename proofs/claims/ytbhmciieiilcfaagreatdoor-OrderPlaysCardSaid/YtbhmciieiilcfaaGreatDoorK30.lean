import Derived.Test.YtbhmciieiilcfaaGreatDoorK29
namespace Go.Proofs.YtbhmciieiilcfaaGreatDoor
set_option maxRecDepth 1000000
set_option maxHeartbeats 16000000
open Go.ChangeShapes Go.WideShapes Go.ChangeAt Go.RowKit Go.Shelf Go.Maps
variable {a c:Int} {b cap cp g go:Nat} {d:DL} {f:Fm} {pp:Option Addr} {s:Ms} {w:World} {ys:List DL}
theorem here_7 (h:DS w b go cap f pp cp (ys++[d]) g c a) (tl:TkL w pp w.heap.size f.toks) (hB:∃ n t ks,Bgn f.toks d.at_ n t ks) (cl:Cl) (hg:g=0) (hk:cl.k=1\/cl.k=3) (q:Nat) (hq:(rowZ f.toks d.at_)[d.next]?=some q) (u:Tk) (hu:f.toks[q]?=some u) (hn:isD f.toks q cl.k cl.nm=false) :
  Calls Tryz.prog 49 #[.pointer (some ⟨b,0,none⟩),caV cl] w (HrP b go f pp cp (ys++[d]) g c a cl.k cl.cnt cl.nm w):=by
 obtain⟨n,t,ks,hBg⟩:=hB
 obtain⟨p,hC⟩:=hrC h cl
 have RW:=hrRW hC tl hBg
 obtain⟨b13,zl,lK⟩:=hrB h cl
 have p0:=hC.p0
 have pN:=hC.pN
 have LF:=hC.LF
 have k0:=hC.k0
 have HC:=Hid.mk hC
 have H:=Hid.mk h
 have ne1:¬ b=go:=h.ne
 have ne2:¬ go=b:=fun e=>ne1 e.symm
 have NO:Hid (∀ w',p w'->HrP b go f pp cp (ys++[d]) g c a cl.k cl.cnt cl.nm w (.returned (.bool false)) w'):=⟨fun w' hp=>hr_no (by rw[rev1,hereD_m rfl hg hk];simp only[hq,hn];rfl) (hC.bel hp)⟩
 have hdl:d.next<(rowZ f.toks d.at_).length:=(List.getElem?_eq_some_iff.1 hq).1
 have m2:decide (((rowZ f.toks d.at_).length:Int)<=(d.next:Int))=false:=decide_eq_false (by omega)
 have m3:decide ((rowZ f.toks d.at_).length<=d.next)=false:=decide_eq_false (by omega)
 have m4:(d.next:Int)<((rowZ f.toks d.at_).length:Int):=by omega
 have hql:q<f.toks.length:=(List.getElem?_eq_some_iff.1 hu).1
 have m5:(q:Int)<(f.toks.length:Int):=by omega
 obtain⟨gt,ot,pu,cu,rfl,hgt,hT0,-⟩:=tl.at hu
 have LT:∀ W,(∃ θ:CW p,W=θ.w)->(Instr.loadAt 83 (.pointer (some ⟨gt,ot+q*21,none⟩))).run Tryz.prog W = .ok (tkV u pu cu) W:=by
  rintro _ ⟨θ,rfl⟩
  exact(hT0.below hgt (hC.bel θ.h)).load
 have hd0:Hid ((d.next:Int)<=1000000000000):=⟨by have:=rowZ_le' f.toks d.at_;have:=tl.len;omega⟩
 have hq':Hid ((rowZ f.toks d.at_)[d.next]?=some q):=⟨hq⟩
 have g1:((g:Int) != 0)=false:=by rw[hg];rfl
 have g2:(cl.k==2)=false:=by rcases hk with e|e<;>rw[e]<;>rfl
 have g3:(cl.k==0)=false:=by rcases hk with e|e<;>rw[e]<;>rfl
 have e:isD f.toks q cl.k cl.nm=(decide (u.name=cl.nm)&&((u.op==4)==(cl.k==1))&&((u.op==6)==(cl.k==3))):=by unfold isD;rw[opAt_some hu,nmAt_some hu];rfl
 rw[e] at hn
 have hx:Hid ((u.name.toList==cl.nm.toList)=false\/((u.name.toList==cl.nm.toList)=true/\(u.op==4)=true/\(cl.k==1)=false)\/((u.name.toList==cl.nm.toList)=true/\(u.op==4)=false/\(cl.k==1)=true)\/((u.name.toList==cl.nm.toList)=true/\(u.op==4)=true/\(cl.k==1)=true/\(u.op==6)=true/\(cl.k==3)=false)\/((u.name.toList==cl.nm.toList)=true/\(u.op==4)=true/\(cl.k==1)=true/\(u.op==6)=false/\(cl.k==3)=true)\/((u.name.toList==cl.nm.toList)=true/\(u.op==4)=false/\(cl.k==1)=false/\(u.op==6)=true/\(cl.k==3)=false)\/((u.name.toList==cl.nm.toList)=true/\(u.op==4)=false/\(cl.k==1)=false/\(u.op==6)=false/\(cl.k==3)=true)):=⟨by
  have hb:(u.name.toList==cl.nm.toList)=decide (u.name=cl.nm):=by
   by_cases h:u.name=cl.nm
   ·rw[h];simp
   ·have h':¬ u.name.toList=cl.nm.toList:=fun e=>h (ba_eq.2 e)
    simp[h,h']
  rw[hb]
  generalize decide (u.name=cl.nm)=X at *
  generalize (u.op==4)=A at *
  generalize (u.op==6)=B at *
  generalize (cl.k==1)=A' at *
  generalize (cl.k==3)=B' at *
  clear e hb
  cases X<;>cases A<;>cases B<;>cases A'<;>cases B'<;>simp_all⟩
 clear e hn h tl hBg hC hg hk hu hq hdl
 go_enter Tryz.func49,Tryz.ntmps49
 go_wp2_with fail
 refine wp_region_ly (fun V=>∃ θ:CW p,V=θ.w) (by kernel_rfl) (by kernel_rfl) (fun _ _ d _ _ h=>by cases d<;>exact h) ⟨⟨_,p0⟩,rfl⟩ ?_
 repeat (first|(refine ly_ld LF rfl (by rfl) ?_;simp only[pts])|(refine ly_one rfl ?_;(first|go_big_quiet_skip|(go_big_quiet_want;go_big_quiet_op;go_big_quiet_on));refine wpQuiet_nil ?_))
 refine ly_call2 ent_Row (RW.out _ p0) rfl rfl (by rfl) (fun v w1 hR=>?_)
 obtain⟨hR1,hR2⟩:=hR
 have p1:=hR2.out
 obtain⟨vp,vc,rfl,vN⟩:=hR1.out.shape
 refine⟨fun V=>∃ θ:CW p,V=θ.w,fun _ h=>h,⟨⟨_,p1⟩,rfl⟩,?_⟩
 simp only[pts]
 repeat (refine ly_one rfl ?_;(first|go_big_quiet_skip|(go_big_quiet_want;go_big_quiet_op;go_big_quiet_on));refine wpQuiet_nil ?_)
 refine ly_done ?_
 obtain⟨rr,rfl,hrl,hrc⟩:=vN d.next q hq'.out
 have hrb:w.heap.size+1<=rr:=Nat.le_trans (Nat.le_of_eq (show w.heap.size+1=(w.alloc (caO cl)).drew.heap.size from (World.size_alloc w (caO cl)).symm)) (hR1.out.lt rr rfl).1
 have nr1:¬ rr=b:=(by have:=H.out.lt.1;omega)
 have nr2:¬ rr=go:=(by have:=H.out.lt.2;omega)
 have nr3:¬ b=rr:=fun e=>nr1 e.symm
 have nr4:¬ go=rr:=fun e=>nr2 e.symm
 have nX1:¬ w.heap.size=b:=(by have:=H.out.lt.1;omega)
 have nX2:¬ w.heap.size=go:=(by have:=H.out.lt.2;omega)
 have nX3:¬ b=w.heap.size:=fun e=>nX1 e.symm
 have nX4:¬ go=w.heap.size:=fun e=>nX2 e.symm
 clear RW b13 hR1 hR2 k0 vN hrb
 have zc14:=HC.out.c14 ⟨w1,p1⟩
 have zx0:=HC.out.x0 ⟨w1,p1⟩
 have zk1:=HC.out.k1 ⟨w1,p1⟩
 go_wp2_with fail
 have pd:p w1.drew:=HC.out.pI _ (HC.out.pB _ p1).drew
 obtain⟨q2,qI,q2p,qN,r1,r2,r3,LT2⟩:∃ q2:World->Prop,(∀ W,p W->Below w1.heap.size w1 W->q2 W)/\(∀ W,q2 W->p W)/\Nonempty (CW q2)/\(∀ θ:CW q2,θ.w.cell? ⟨b,12,none⟩=some (.slice (some ⟨gt,ot,none⟩) f.toks.length cp))/\(∀ θ:CW q2,θ.w.cell? ⟨go,ys.length*4+1,none⟩=some (.int .i64 (d.next:Int)))/\(∀ θ:CW q2,θ.w.cell? ⟨rr,d.next,none⟩=some (.int .i64 (q:Int)))/\(∀ W,(∃ θ:CW q2,W=θ.w)->(Instr.loadAt 83 (.pointer (some ⟨gt,ot+q*21,none⟩))).run Tryz.prog W = .ok (tkV u pu cu) W) :=
  ⟨fun W=>p W/\Below w1.heap.size w1 W,fun W h1 h2=>⟨h1,h2⟩,fun W h=>h.1,⟨⟨w1,p1,Below.refl _ _⟩⟩,fun θ=>HC.out.c12 ⟨θ.w,θ.h.1⟩,fun θ=>HC.out.k1 ⟨θ.w,θ.h.1⟩,fun θ=>(θ.h.2.cell (p:=⟨rr,d.next,none⟩) hrl).trans hrc,by
   rintro _ ⟨θ,rfl⟩
   exact LT _ ⟨⟨θ.w,θ.h.1⟩,rfl⟩⟩
 refine wp_region_lw 15 (fun V=>∃ θ:CW q2,V=θ.w) (by kernel_rfl) (by kernel_rfl) (fun _ _ d _ _ h=>by cases d<;>exact h) ⟨⟨_,qI _ pd (Below.refl _ _).drew⟩,rfl⟩ ?_
 repeat (first|(refine lw_ld LT2 rfl (by rfl) ?_;simp only[pts])|(refine lw_one rfl ?_;(first|go_big_quiet_skip|(go_big_quiet_want;go_big_quiet_op;go_big_quiet_on));refine wpQuiet_nil ?_))
 have pz:=HC.out.pI _ ((HC.out.pB _ pd).trans ((bel1 w1.drew zTkD).mono (HC.out.pB _ pd).size))
 refine lw_al (al_tk w1.drew) ⟨⟨_,qI _ pz ((Below.refl _ _).drew.trans (bel1 w1.drew zTkD))⟩,rfl⟩ (by rfl) ?_
 simp only[pts]
 refine lw_st (st_new w1.drew zTa rfl u pu cu) rfl rfl (by rfl) ?_
 simp only[pts]
 have pt:p (w1.drew.alloc (tkO u pu cu)):=HC.out.pI _ ((HC.out.pB _ pd).trans ((bel1 w1.drew (tkO u pu cu)).mono (HC.out.pB _ pd).size))
 have hTK:=tk_of (heap_al w1.drew (tkO u pu cu))
 have tk0:(w1.drew.alloc (tkO u pu cu)).cell? ⟨w1.drew.heap.size,0,none⟩=some (.int .i64 u.op):=hTK.c0
 have tk1:(w1.drew.alloc (tkO u pu cu)).cell? ⟨w1.drew.heap.size,1,none⟩=some (.string u.name):=hTK.c1
 have y0:=HC.out.x0 ⟨_,pt⟩
 have y1:=HC.out.x1 ⟨_,pt⟩
 have y3:=HC.out.x3 ⟨_,pt⟩
 have yk1:=HC.out.k1 ⟨_,pt⟩
 have yk3:=HC.out.k3 ⟨_,pt⟩
 have yb4:=HC.out.c14 ⟨_,pt⟩
 have yb5:=HC.out.c15 ⟨_,pt⟩
 have yr:(w1.drew.alloc (tkO u pu cu)).cell? ⟨rr,d.next,none⟩=some (.int .i64 (q:Int)):=(((Below.refl w1.heap.size w1).drew.trans (bel1 w1.drew (tkO u pu cu))).cell (p:=⟨rr,d.next,none⟩) hrl).trans hrc
 have yf1:∀ i,(w1.drew.alloc (tkO u pu cu)).frozen? ⟨go,i,none⟩=false:=fun i=>(H.out.below (HC.out.bel pt)).o.frz i
 have yf2:∀ i,(w1.drew.alloc (tkO u pu cu)).frozen? ⟨b,i,none⟩=false:=fun i=>froz_of (H.out.below (HC.out.bel pt)).c
 generalize hV:w1.drew.alloc (tkO u pu cu)=V at *
 dsimp only [World.drew] at tk0 tk1
 clear hV hTK pz r1 r2 r3 LT2 qI q2p qN LT zc14 zx0 zk1 hrc
 rcases hx.out with e1|⟨e1,e2,e3⟩|⟨e1,e2,e3⟩|⟨e1,e2,e3,e4,e5⟩|⟨e1,e2,e3,e4,e5⟩|⟨e1,e2,e3,e4,e5⟩|⟨e1,e2,e3,e4,e5⟩
 all_goals
  go_wp2_with fail
  go_ret
  exact NO.out _ pt
theorem set_blkC {W:World} {v:Value} {g:Int} (h:W.heap[b]?=some (dmO f pp cp v g c a)) (u:Int):(W.setCell ⟨b,15,none⟩ (.int .i64 u)).heap[b]?=some (dmO f pp cp v g u a):=by
 show (W.heap.modify b _)[b]?=_
 rw[Array.getElem?_modify,if_pos rfl,h]
 rfl
theorem here_8 (h:DS w b go cap f pp cp (ys++[d]) g c a) (tl:TkL w pp w.heap.size f.toks) (hB:∃ n t ks,Bgn f.toks d.at_ n t ks) (cl:Cl) (hg:g=0) (hk:cl.k=1\/cl.k=3) (q:Nat) (hq:(rowZ f.toks d.at_)[d.next]?=some q) (u:Tk) (hu:f.toks[q]?=some u) (hn:isD f.toks q cl.k cl.nm=true) (hc1:cl.k=1/\0<cl.cnt) :
  Calls Tryz.prog 49 #[.pointer (some ⟨b,0,none⟩),caV cl] w (HrP b go f pp cp (ys++[d]) g c a cl.k cl.cnt cl.nm w):=by
 obtain⟨n,t,ks,hBg⟩:=hB
 obtain⟨p,hC⟩:=hrC h cl
 have RW:=hrRW hC tl hBg
 obtain⟨b13,zl,lK⟩:=hrB h cl
 have p0:=hC.p0
 have pN:=hC.pN
 have LF:=hC.LF
 have k0:=hC.k0
 have HC:=Hid.mk hC
 have H:=Hid.mk h
 have ne1:¬ b=go:=h.ne
 have ne2:¬ go=b:=fun e=>ne1 e.symm
 have hE:hereD f.toks ⟨(ys++[d]).reverse,g,c,a⟩ cl.k cl.cnt cl.nm=some ⟨(ys++[(⟨d.at_,d.next,d.left,false⟩:DL)]).reverse,q,cl.cnt,a⟩:=by rw[rev1,hereD_m rfl hg hk];simp only[hq,hn,if_true];rw[if_pos hc1];simp
 have FIN:Hid (∀ W,p W->HrP b go f pp cp (ys++[d]) g c a cl.k cl.cnt cl.nm w (.returned (.bool true)) (((W.setCell ⟨go,ys.length*4+3,none⟩ (.bool false)).setCell ⟨b,14,none⟩ (.int .i64 (q:Int))).setCell ⟨b,15,none⟩ (.int .i64 cl.cnt))):=⟨fun W hp=>by
  have hD:=h.below (hC.bel hp)
  refine hr_yes (go':=go) (cap':=cap) hE ?_ (.inl rfl) (((Kb.of_below (hC.bel hp)).set (by simp) _).set (by simp) _ |>.set (by simp) _)
  have s0:=hD.o.set (i:=ys.length) (d:=d) (d':=⟨d.at_,d.next,d.left,false⟩) (by simp) 3 (.bool false) (by decide) (by simp[dlC])
  refine⟨?_,?_,h.ne,by have:=h.zl;simpa using this,by simp⟩
  ·have h0:(W.setCell ⟨go,ys.length*4+3,none⟩ (.bool false)).heap[b]?=some (dmO f pp cp (.slice (some ⟨go,0,none⟩) (ys++[d]).length cap) (g:Int) c a):=(set_oth (Ne.symm h.ne)).trans hD.c
   have:=set_blkC (set_blkG h0 (q:Int)) cl.cnt
   simpa using this
  ·have:=(s0.same (W':=(W.setCell ⟨go,ys.length*4+3,none⟩ (.bool false)).setCell ⟨b,14,none⟩ (.int .i64 (q:Int))) (set_oth h.ne)).same (W':=((W.setCell ⟨go,ys.length*4+3,none⟩ (.bool false)).setCell ⟨b,14,none⟩ (.int .i64 (q:Int))).setCell ⟨b,15,none⟩ (.int .i64 cl.cnt)) (set_oth h.ne)
   simpa using this⟩
 have hdl:d.next<(rowZ f.toks d.at_).length:=(List.getElem?_eq_some_iff.1 hq).1
 have m2:decide (((rowZ f.toks d.at_).length:Int)<=(d.next:Int))=false:=decide_eq_false (by omega)
 have m3:decide ((rowZ f.toks d.at_).length<=d.next)=false:=decide_eq_false (by omega)
 have m4:(d.next:Int)<((rowZ f.toks d.at_).length:Int):=by omega
 have hql:q<f.toks.length:=(List.getElem?_eq_some_iff.1 hu).1
 have m5:(q:Int)<(f.toks.length:Int):=by omega
 obtain⟨gt,ot,pu,cu,rfl,hgt,hT0,-⟩:=tl.at hu
 have LT:∀ W,(∃ θ:CW p,W=θ.w)->(Instr.loadAt 83 (.pointer (some ⟨gt,ot+q*21,none⟩))).run Tryz.prog W = .ok (tkV u pu cu) W:=by
  rintro _ ⟨θ,rfl⟩
  exact(hT0.below hgt (hC.bel θ.h)).load
 have hd0:Hid ((d.next:Int)<=1000000000000):=⟨by have:=rowZ_le' f.toks d.at_;have:=tl.len;omega⟩
 have hq':Hid ((rowZ f.toks d.at_)[d.next]?=some q):=⟨hq⟩
 have g1:((g:Int) != 0)=false:=by rw[hg];rfl
 have g2:(cl.k==2)=false:=by rcases hk with e|e<;>rw[e]<;>rfl
 have g3:(cl.k==0)=false:=by rcases hk with e|e<;>rw[e]<;>rfl
 have e:isD f.toks q cl.k cl.nm=(decide (u.name=cl.nm)&&((u.op==4)==(cl.k==1))&&((u.op==6)==(cl.k==3))):=by unfold isD;rw[opAt_some hu,nmAt_some hu];rfl
 rw[e] at hn
 simp only[Bool.and_eq_true,beq_iff_eq,decide_eq_true_eq] at hn
 obtain⟨⟨hn1,hn2⟩,hn3⟩:=hn
 have e1:(u.name.toList==cl.nm.toList)=true:=by rw[hn1];simp
 have e3:(cl.k==1)=true:=by rw[hc1.1];rfl
 have e5:(cl.k==3)=false:=by rw[hc1.1];rfl
 have e2:(u.op==4)=true:=by rw[hn2,e3]
 have e4:(u.op==6)=false:=by rw[hn3,e5]
 have e6:decide (0<cl.cnt)=true:=decide_eq_true hc1.2
 clear e hn1 hn2 hn3 h tl hBg hC hg hk hu hq hdl hE hc1
 go_enter Tryz.func49,Tryz.ntmps49
 go_wp2_with fail
 refine wp_region_ly (fun V=>∃ θ:CW p,V=θ.w) (by kernel_rfl) (by kernel_rfl) (fun _ _ d _ _ h=>by cases d<;>exact h) ⟨⟨_,p0⟩,rfl⟩ ?_
 repeat (first|(refine ly_ld LF rfl (by rfl) ?_;simp only[pts])|(refine ly_one rfl ?_;(first|go_big_quiet_skip|(go_big_quiet_want;go_big_quiet_op;go_big_quiet_on));refine wpQuiet_nil ?_))
 refine ly_call2 ent_Row (RW.out _ p0) rfl rfl (by rfl) (fun v w1 hR=>?_)
 obtain⟨hR1,hR2⟩:=hR
 have p1:=hR2.out
 obtain⟨vp,vc,rfl,vN⟩:=hR1.out.shape
 refine⟨fun V=>∃ θ:CW p,V=θ.w,fun _ h=>h,⟨⟨_,p1⟩,rfl⟩,?_⟩
 simp only[pts]
 repeat (refine ly_one rfl ?_;(first|go_big_quiet_skip|(go_big_quiet_want;go_big_quiet_op;go_big_quiet_on));refine wpQuiet_nil ?_)
 refine ly_done ?_
 obtain⟨rr,rfl,hrl,hrc⟩:=vN d.next q hq'.out
 have hrb:w.heap.size+1<=rr:=Nat.le_trans (Nat.le_of_eq (show w.heap.size+1=(w.alloc (caO cl)).drew.heap.size from (World.size_alloc w (caO cl)).symm)) (hR1.out.lt rr rfl).1
 have nr1:¬ rr=b:=(by have:=H.out.lt.1;omega)
 have nr2:¬ rr=go:=(by have:=H.out.lt.2;omega)
 have nr3:¬ b=rr:=fun e=>nr1 e.symm
 have nr4:¬ go=rr:=fun e=>nr2 e.symm
 have nX1:¬ w.heap.size=b:=(by have:=H.out.lt.1;omega)
 have nX2:¬ w.heap.size=go:=(by have:=H.out.lt.2;omega)
 have nX3:¬ b=w.heap.size:=fun e=>nX1 e.symm
 have nX4:¬ go=w.heap.size:=fun e=>nX2 e.symm
 clear RW b13 hR1 hR2 k0 vN hrb
 have zc14:=HC.out.c14 ⟨w1,p1⟩
 have zx0:=HC.out.x0 ⟨w1,p1⟩
 have zk1:=HC.out.k1 ⟨w1,p1⟩
 go_wp2_with fail
 have pd:p w1.drew:=HC.out.pI _ (HC.out.pB _ p1).drew
 obtain⟨q2,qI,q2p,qN,r1,r2,r3,LT2⟩:∃ q2:World->Prop,(∀ W,p W->Below w1.heap.size w1 W->q2 W)/\(∀ W,q2 W->p W)/\Nonempty (CW q2)/\(∀ θ:CW q2,θ.w.cell? ⟨b,12,none⟩=some (.slice (some ⟨gt,ot,none⟩) f.toks.length cp))/\(∀ θ:CW q2,θ.w.cell? ⟨go,ys.length*4+1,none⟩=some (.int .i64 (d.next:Int)))/\(∀ θ:CW q2,θ.w.cell? ⟨rr,d.next,none⟩=some (.int .i64 (q:Int)))/\(∀ W,(∃ θ:CW q2,W=θ.w)->(Instr.loadAt 83 (.pointer (some ⟨gt,ot+q*21,none⟩))).run Tryz.prog W = .ok (tkV u pu cu) W) :=
  ⟨fun W=>p W/\Below w1.heap.size w1 W,fun W h1 h2=>⟨h1,h2⟩,fun W h=>h.1,⟨⟨w1,p1,Below.refl _ _⟩⟩,fun θ=>HC.out.c12 ⟨θ.w,θ.h.1⟩,fun θ=>HC.out.k1 ⟨θ.w,θ.h.1⟩,fun θ=>(θ.h.2.cell (p:=⟨rr,d.next,none⟩) hrl).trans hrc,by
   rintro _ ⟨θ,rfl⟩
   exact LT _ ⟨⟨θ.w,θ.h.1⟩,rfl⟩⟩
 refine wp_region_lw 15 (fun V=>∃ θ:CW q2,V=θ.w) (by kernel_rfl) (by kernel_rfl) (fun _ _ d _ _ h=>by cases d<;>exact h) ⟨⟨_,qI _ pd (Below.refl _ _).drew⟩,rfl⟩ ?_
 repeat (first|(refine lw_ld LT2 rfl (by rfl) ?_;simp only[pts])|(refine lw_one rfl ?_;(first|go_big_quiet_skip|(go_big_quiet_want;go_big_quiet_op;go_big_quiet_on));refine wpQuiet_nil ?_))
 have pz:=HC.out.pI _ ((HC.out.pB _ pd).trans ((bel1 w1.drew zTkD).mono (HC.out.pB _ pd).size))
 refine lw_al (al_tk w1.drew) ⟨⟨_,qI _ pz ((Below.refl _ _).drew.trans (bel1 w1.drew zTkD))⟩,rfl⟩ (by rfl) ?_
 simp only[pts]
 refine lw_st (st_new w1.drew zTa rfl u pu cu) rfl rfl (by rfl) ?_
 simp only[pts]
 have pt:p (w1.drew.alloc (tkO u pu cu)):=HC.out.pI _ ((HC.out.pB _ pd).trans ((bel1 w1.drew (tkO u pu cu)).mono (HC.out.pB _ pd).size))
 have hTK:=tk_of (heap_al w1.drew (tkO u pu cu))
 have tk0:(w1.drew.alloc (tkO u pu cu)).cell? ⟨w1.drew.heap.size,0,none⟩=some (.int .i64 u.op):=hTK.c0
 have tk1:(w1.drew.alloc (tkO u pu cu)).cell? ⟨w1.drew.heap.size,1,none⟩=some (.string u.name):=hTK.c1
 have y0:=HC.out.x0 ⟨_,pt⟩
 have y1:=HC.out.x1 ⟨_,pt⟩
 have y3:=HC.out.x3 ⟨_,pt⟩
 have yk1:=HC.out.k1 ⟨_,pt⟩
 have yk3:=HC.out.k3 ⟨_,pt⟩
 have yb4:=HC.out.c14 ⟨_,pt⟩
 have yb5:=HC.out.c15 ⟨_,pt⟩
 have yr:(w1.drew.alloc (tkO u pu cu)).cell? ⟨rr,d.next,none⟩=some (.int .i64 (q:Int)):=(((Below.refl w1.heap.size w1).drew.trans (bel1 w1.drew (tkO u pu cu))).cell (p:=⟨rr,d.next,none⟩) hrl).trans hrc
 have yf1:∀ i,(w1.drew.alloc (tkO u pu cu)).frozen? ⟨go,i,none⟩=false:=fun i=>(H.out.below (HC.out.bel pt)).o.frz i
 have yf2:∀ i,(w1.drew.alloc (tkO u pu cu)).frozen? ⟨b,i,none⟩=false:=fun i=>froz_of (H.out.below (HC.out.bel pt)).c
 generalize hV:w1.drew.alloc (tkO u pu cu)=V at *
 dsimp only [World.drew] at tk0 tk1
 clear hV hTK pz r1 r2 r3 LT2 qI q2p qN LT zc14 zx0 zk1 hrc
 go_wp2_with fail
 go_ret
 exact FIN.out _ pt
theorem here_9a (h:DS w b go cap f pp cp (ys++[d]) g c a) (tl:TkL w pp w.heap.size f.toks) (hB:∃ n t ks,Bgn f.toks d.at_ n t ks) (cl:Cl) (hg:g=0) (hk:cl.k=1\/cl.k=3) (q:Nat) (hq:(rowZ f.toks d.at_)[d.next]?=some q) (u:Tk) (hu:f.toks[q]?=some u) (hn:isD f.toks q cl.k cl.nm=true) (hc1:cl.k=1/\¬ 0<cl.cnt) :
  Calls Tryz.prog 49 #[.pointer (some ⟨b,0,none⟩),caV cl] w (HrP b go f pp cp (ys++[d]) g c a cl.k cl.cnt cl.nm w):=by
 obtain⟨n,t,ks,hBg⟩:=hB
 obtain⟨p,hC⟩:=hrC h cl
 have RW:=hrRW hC tl hBg
 obtain⟨b13,zl,lK⟩:=hrB h cl
 have p0:=hC.p0
 have pN:=hC.pN
 have LF:=hC.LF
 have k0:=hC.k0
 have HC:=Hid.mk hC
 have H:=Hid.mk h
 have ne1:¬ b=go:=h.ne
 have ne2:¬ go=b:=fun e=>ne1 e.symm
 have hE:hereD f.toks ⟨(ys++[d]).reverse,g,c,a⟩ cl.k cl.cnt cl.nm=some ⟨(ys++[(⟨d.at_,d.next+1,d.left,false⟩:DL)]).reverse,0,c,a⟩:=by rw[rev1,hereD_m rfl hg hk];simp only[hq,hn,if_true];rw[if_neg (by omega)];simp
 have FIN:Hid (∀ W,p W->HrP b go f pp cp (ys++[d]) g c a cl.k cl.cnt cl.nm w (.returned (.bool true)) ((W.setCell ⟨go,ys.length*4+3,none⟩ (.bool false)).setCell ⟨go,ys.length*4+1,none⟩ (.int .i64 ((d.next:Int)+1)))):=⟨fun W hp=>by
  have hD:=h.below (hC.bel hp)
  refine hr_yes (go':=go) (cap':=cap) hE ?_ (.inl rfl) ((Kb.of_below (hC.bel hp)).set (by simp) _ |>.set (by simp) _)
  have s0:=hD.o.set (i:=ys.length) (d:=d) (d':=⟨d.at_,d.next,d.left,false⟩) (by simp) 3 (.bool false) (by decide) (by simp[dlC])
  have s1:=s0.set (i:=ys.length) (d:=⟨d.at_,d.next,d.left,false⟩) (d':=⟨d.at_,d.next+1,d.left,false⟩) (by simp) 1 (.int .i64 ((d.next:Int)+1)) (by decide) (by simp[dlC])
  refine⟨?_,?_,h.ne,by have:=h.zl;simpa using this,by simp⟩
  ·rw[set_oth (Ne.symm h.ne),set_oth (Ne.symm h.ne)]
   have:=hD.c
   rw[hg] at this
   simpa using this
  ·simpa using s1⟩
 have hdl:d.next<(rowZ f.toks d.at_).length:=(List.getElem?_eq_some_iff.1 hq).1
 have m2:decide (((rowZ f.toks d.at_).length:Int)<=(d.next:Int))=false:=decide_eq_false (by omega)
 have m3:decide ((rowZ f.toks d.at_).length<=d.next)=false:=decide_eq_false (by omega)
 have m4:(d.next:Int)<((rowZ f.toks d.at_).length:Int):=by omega
 have hql:q<f.toks.length:=(List.getElem?_eq_some_iff.1 hu).1
 have m5:(q:Int)<(f.toks.length:Int):=by omega
 obtain⟨gt,ot,pu,cu,rfl,hgt,hT0,-⟩:=tl.at hu
 have LT:∀ W,(∃ θ:CW p,W=θ.w)->(Instr.loadAt 83 (.pointer (some ⟨gt,ot+q*21,none⟩))).run Tryz.prog W = .ok (tkV u pu cu) W:=by
  rintro _ ⟨θ,rfl⟩
  exact(hT0.below hgt (hC.bel θ.h)).load
 have hd0:Hid ((d.next:Int)<=1000000000000):=⟨by have:=rowZ_le' f.toks d.at_;have:=tl.len;omega⟩
 have hq':Hid ((rowZ f.toks d.at_)[d.next]?=some q):=⟨hq⟩
 have g1:((g:Int) != 0)=false:=by rw[hg];rfl
 have g2:(cl.k==2)=false:=by rcases hk with e|e<;>rw[e]<;>rfl
 have g3:(cl.k==0)=false:=by rcases hk with e|e<;>rw[e]<;>rfl
 have e:isD f.toks q cl.k cl.nm=(decide (u.name=cl.nm)&&((u.op==4)==(cl.k==1))&&((u.op==6)==(cl.k==3))):=by unfold isD;rw[opAt_some hu,nmAt_some hu];rfl
 rw[e] at hn
 simp only[Bool.and_eq_true,beq_iff_eq,decide_eq_true_eq] at hn
 obtain⟨⟨hn1,hn2⟩,hn3⟩:=hn
 have e1:(u.name.toList==cl.nm.toList)=true:=by rw[hn1];simp
 have e3:(cl.k==1)=true:=by rw[hc1.1];rfl
 have e5:(cl.k==3)=false:=by rw[hc1.1];rfl
 have e2:(u.op==4)=true:=by rw[hn2,e3]
 have e4:(u.op==6)=false:=by rw[hn3,e5]
 have e6:decide (0<cl.cnt)=false:=decide_eq_false hc1.2
 clear e hn1 hn2 hn3 h tl hBg hC hg hk hu hq hdl hE hc1
 go_enter Tryz.func49,Tryz.ntmps49
 go_wp2_with fail
 refine wp_region_ly (fun V=>∃ θ:CW p,V=θ.w) (by kernel_rfl) (by kernel_rfl) (fun _ _ d _ _ h=>by cases d<;>exact h) ⟨⟨_,p0⟩,rfl⟩ ?_
 repeat (first|(refine ly_ld LF rfl (by rfl) ?_;simp only[pts])|(refine ly_one rfl ?_;(first|go_big_quiet_skip|(go_big_quiet_want;go_big_quiet_op;go_big_quiet_on));refine wpQuiet_nil ?_))
 refine ly_call2 ent_Row (RW.out _ p0) rfl rfl (by rfl) (fun v w1 hR=>?_)
 obtain⟨hR1,hR2⟩:=hR
 have p1:=hR2.out
 obtain⟨vp,vc,rfl,vN⟩:=hR1.out.shape
 refine⟨fun V=>∃ θ:CW p,V=θ.w,fun _ h=>h,⟨⟨_,p1⟩,rfl⟩,?_⟩
 simp only[pts]
 repeat (refine ly_one rfl ?_;(first|go_big_quiet_skip|(go_big_quiet_want;go_big_quiet_op;go_big_quiet_on));refine wpQuiet_nil ?_)
 refine ly_done ?_
 obtain⟨rr,rfl,hrl,hrc⟩:=vN d.next q hq'.out
 have hrb:w.heap.size+1<=rr:=Nat.le_trans (Nat.le_of_eq (show w.heap.size+1=(w.alloc (caO cl)).drew.heap.size from (World.size_alloc w (caO cl)).symm)) (hR1.out.lt rr rfl).1
 have nr1:¬ rr=b:=(by have:=H.out.lt.1;omega)
 have nr2:¬ rr=go:=(by have:=H.out.lt.2;omega)
 have nr3:¬ b=rr:=fun e=>nr1 e.symm
 have nr4:¬ go=rr:=fun e=>nr2 e.symm
 have nX1:¬ w.heap.size=b:=(by have:=H.out.lt.1;omega)
 have nX2:¬ w.heap.size=go:=(by have:=H.out.lt.2;omega)
 have nX3:¬ b=w.heap.size:=fun e=>nX1 e.symm
 have nX4:¬ go=w.heap.size:=fun e=>nX2 e.symm
 clear RW b13 hR1 hR2 k0 vN hrb
 have zc14:=HC.out.c14 ⟨w1,p1⟩
 have zx0:=HC.out.x0 ⟨w1,p1⟩
 have zk1:=HC.out.k1 ⟨w1,p1⟩
 go_wp2_with fail
 have pd:p w1.drew:=HC.out.pI _ (HC.out.pB _ p1).drew
 obtain⟨q2,qI,q2p,qN,r1,r2,r3,LT2⟩:∃ q2:World->Prop,(∀ W,p W->Below w1.heap.size w1 W->q2 W)/\(∀ W,q2 W->p W)/\Nonempty (CW q2)/\(∀ θ:CW q2,θ.w.cell? ⟨b,12,none⟩=some (.slice (some ⟨gt,ot,none⟩) f.toks.length cp))/\(∀ θ:CW q2,θ.w.cell? ⟨go,ys.length*4+1,none⟩=some (.int .i64 (d.next:Int)))/\(∀ θ:CW q2,θ.w.cell? ⟨rr,d.next,none⟩=some (.int .i64 (q:Int)))/\(∀ W,(∃ θ:CW q2,W=θ.w)->(Instr.loadAt 83 (.pointer (some ⟨gt,ot+q*21,none⟩))).run Tryz.prog W = .ok (tkV u pu cu) W) :=
  ⟨fun W=>p W/\Below w1.heap.size w1 W,fun W h1 h2=>⟨h1,h2⟩,fun W h=>h.1,⟨⟨w1,p1,Below.refl _ _⟩⟩,fun θ=>HC.out.c12 ⟨θ.w,θ.h.1⟩,fun θ=>HC.out.k1 ⟨θ.w,θ.h.1⟩,fun θ=>(θ.h.2.cell (p:=⟨rr,d.next,none⟩) hrl).trans hrc,by
   rintro _ ⟨θ,rfl⟩
   exact LT _ ⟨⟨θ.w,θ.h.1⟩,rfl⟩⟩
 refine wp_region_lw 15 (fun V=>∃ θ:CW q2,V=θ.w) (by kernel_rfl) (by kernel_rfl) (fun _ _ d _ _ h=>by cases d<;>exact h) ⟨⟨_,qI _ pd (Below.refl _ _).drew⟩,rfl⟩ ?_
 repeat (first|(refine lw_ld LT2 rfl (by rfl) ?_;simp only[pts])|(refine lw_one rfl ?_;(first|go_big_quiet_skip|(go_big_quiet_want;go_big_quiet_op;go_big_quiet_on));refine wpQuiet_nil ?_))
 have pz:=HC.out.pI _ ((HC.out.pB _ pd).trans ((bel1 w1.drew zTkD).mono (HC.out.pB _ pd).size))
 refine lw_al (al_tk w1.drew) ⟨⟨_,qI _ pz ((Below.refl _ _).drew.trans (bel1 w1.drew zTkD))⟩,rfl⟩ (by rfl) ?_
 simp only[pts]
 refine lw_st (st_new w1.drew zTa rfl u pu cu) rfl rfl (by rfl) ?_
 simp only[pts]
 have pt:p (w1.drew.alloc (tkO u pu cu)):=HC.out.pI _ ((HC.out.pB _ pd).trans ((bel1 w1.drew (tkO u pu cu)).mono (HC.out.pB _ pd).size))
 have hTK:=tk_of (heap_al w1.drew (tkO u pu cu))
 have tk0:(w1.drew.alloc (tkO u pu cu)).cell? ⟨w1.drew.heap.size,0,none⟩=some (.int .i64 u.op):=hTK.c0
 have tk1:(w1.drew.alloc (tkO u pu cu)).cell? ⟨w1.drew.heap.size,1,none⟩=some (.string u.name):=hTK.c1
 have y0:=HC.out.x0 ⟨_,pt⟩
 have y1:=HC.out.x1 ⟨_,pt⟩
 have y3:=HC.out.x3 ⟨_,pt⟩
 have yk1:=HC.out.k1 ⟨_,pt⟩
 have yk3:=HC.out.k3 ⟨_,pt⟩
 have yb4:=HC.out.c14 ⟨_,pt⟩
 have yb5:=HC.out.c15 ⟨_,pt⟩
 have yr:(w1.drew.alloc (tkO u pu cu)).cell? ⟨rr,d.next,none⟩=some (.int .i64 (q:Int)):=(((Below.refl w1.heap.size w1).drew.trans (bel1 w1.drew (tkO u pu cu))).cell (p:=⟨rr,d.next,none⟩) hrl).trans hrc
 have yf1:∀ i,(w1.drew.alloc (tkO u pu cu)).frozen? ⟨go,i,none⟩=false:=fun i=>(H.out.below (HC.out.bel pt)).o.frz i
 have yf2:∀ i,(w1.drew.alloc (tkO u pu cu)).frozen? ⟨b,i,none⟩=false:=fun i=>froz_of (H.out.below (HC.out.bel pt)).c
 generalize hV:w1.drew.alloc (tkO u pu cu)=V at *
 dsimp only [World.drew] at tk0 tk1
 clear hV hTK pz r1 r2 r3 LT2 qI q2p qN LT zc14 zx0 zk1 hrc
 have hdN:=hd0.out
 go_wp2_with fail
 go_ret
 exact FIN.out _ pt
theorem here_9b (h:DS w b go cap f pp cp (ys++[d]) g c a) (tl:TkL w pp w.heap.size f.toks) (hB:∃ n t ks,Bgn f.toks d.at_ n t ks) (cl:Cl) (hg:g=0) (hk:cl.k=1\/cl.k=3) (q:Nat) (hq:(rowZ f.toks d.at_)[d.next]?=some q) (u:Tk) (hu:f.toks[q]?=some u) (hn:isD f.toks q cl.k cl.nm=true) (hc1:cl.k=3) :
  Calls Tryz.prog 49 #[.pointer (some ⟨b,0,none⟩),caV cl] w (HrP b go f pp cp (ys++[d]) g c a cl.k cl.cnt cl.nm w):=by
 obtain⟨n,t,ks,hBg⟩:=hB
 obtain⟨p,hC⟩:=hrC h cl
 have RW:=hrRW hC tl hBg
 obtain⟨b13,zl,lK⟩:=hrB h cl
 have p0:=hC.p0
 have pN:=hC.pN
 have LF:=hC.LF
 have k0:=hC.k0
 have HC:=Hid.mk hC
 have H:=Hid.mk h
 have ne1:¬ b=go:=h.ne
 have ne2:¬ go=b:=fun e=>ne1 e.symm
 have hE:hereD f.toks ⟨(ys++[d]).reverse,g,c,a⟩ cl.k cl.cnt cl.nm=some ⟨(ys++[(⟨d.at_,d.next+1,d.left,false⟩:DL)]).reverse,0,c,a⟩:=by rw[rev1,hereD_m rfl hg hk];simp only[hq,hn,if_true];rw[if_neg (by omega)];simp
 have FIN:Hid (∀ W,p W->HrP b go f pp cp (ys++[d]) g c a cl.k cl.cnt cl.nm w (.returned (.bool true)) ((W.setCell ⟨go,ys.length*4+3,none⟩ (.bool false)).setCell ⟨go,ys.length*4+1,none⟩ (.int .i64 ((d.next:Int)+1)))):=⟨fun W hp=>by
  have hD:=h.below (hC.bel hp)
  refine hr_yes (go':=go) (cap':=cap) hE ?_ (.inl rfl) ((Kb.of_below (hC.bel hp)).set (by simp) _ |>.set (by simp) _)
  have s0:=hD.o.set (i:=ys.length) (d:=d) (d':=⟨d.at_,d.next,d.left,false⟩) (by simp) 3 (.bool false) (by decide) (by simp[dlC])
  have s1:=s0.set (i:=ys.length) (d:=⟨d.at_,d.next,d.left,false⟩) (d':=⟨d.at_,d.next+1,d.left,false⟩) (by simp) 1 (.int .i64 ((d.next:Int)+1)) (by decide) (by simp[dlC])
  refine⟨?_,?_,h.ne,by have:=h.zl;simpa using this,by simp⟩
  ·rw[set_oth (Ne.symm h.ne),set_oth (Ne.symm h.ne)]
   have:=hD.c
   rw[hg] at this
   simpa using this
  ·simpa using s1⟩
 have hdl:d.next<(rowZ f.toks d.at_).length:=(List.getElem?_eq_some_iff.1 hq).1
 have m2:decide (((rowZ f.toks d.at_).length:Int)<=(d.next:Int))=false:=decide_eq_false (by omega)
 have m3:decide ((rowZ f.toks d.at_).length<=d.next)=false:=decide_eq_false (by omega)
 have m4:(d.next:Int)<((rowZ f.toks d.at_).length:Int):=by omega
 have hql:q<f.toks.length:=(List.getElem?_eq_some_iff.1 hu).1
 have m5:(q:Int)<(f.toks.length:Int):=by omega
 obtain⟨gt,ot,pu,cu,rfl,hgt,hT0,-⟩:=tl.at hu
 have LT:∀ W,(∃ θ:CW p,W=θ.w)->(Instr.loadAt 83 (.pointer (some ⟨gt,ot+q*21,none⟩))).run Tryz.prog W = .ok (tkV u pu cu) W:=by
  rintro _ ⟨θ,rfl⟩
  exact(hT0.below hgt (hC.bel θ.h)).load
 have hd0:Hid ((d.next:Int)<=1000000000000):=⟨by have:=rowZ_le' f.toks d.at_;have:=tl.len;omega⟩
 have hq':Hid ((rowZ f.toks d.at_)[d.next]?=some q):=⟨hq⟩
 have g1:((g:Int) != 0)=false:=by rw[hg];rfl
 have g2:(cl.k==2)=false:=by rcases hk with e|e<;>rw[e]<;>rfl
 have g3:(cl.k==0)=false:=by rcases hk with e|e<;>rw[e]<;>rfl
 have e:isD f.toks q cl.k cl.nm=(decide (u.name=cl.nm)&&((u.op==4)==(cl.k==1))&&((u.op==6)==(cl.k==3))):=by unfold isD;rw[opAt_some hu,nmAt_some hu];rfl
 rw[e] at hn
 simp only[Bool.and_eq_true,beq_iff_eq,decide_eq_true_eq] at hn
 obtain⟨⟨hn1,hn2⟩,hn3⟩:=hn
 have e1:(u.name.toList==cl.nm.toList)=true:=by rw[hn1];simp
 have e3:(cl.k==1)=false:=by rw[hc1];rfl
 have e5:(cl.k==3)=true:=by rw[hc1];rfl
 have e2:(u.op==4)=false:=by rw[hn2,e3]
 have e4:(u.op==6)=true:=by rw[hn3,e5]
 clear e hn1 hn2 hn3 h tl hBg hC hg hk hu hq hdl hE hc1
 go_enter Tryz.func49,Tryz.ntmps49
 go_wp2_with fail
 refine wp_region_ly (fun V=>∃ θ:CW p,V=θ.w) (by kernel_rfl) (by kernel_rfl) (fun _ _ d _ _ h=>by cases d<;>exact h) ⟨⟨_,p0⟩,rfl⟩ ?_
 repeat (first|(refine ly_ld LF rfl (by rfl) ?_;simp only[pts])|(refine ly_one rfl ?_;(first|go_big_quiet_skip|(go_big_quiet_want;go_big_quiet_op;go_big_quiet_on));refine wpQuiet_nil ?_))
 refine ly_call2 ent_Row (RW.out _ p0) rfl rfl (by rfl) (fun v w1 hR=>?_)
 obtain⟨hR1,hR2⟩:=hR
 have p1:=hR2.out
 obtain⟨vp,vc,rfl,vN⟩:=hR1.out.shape
 refine⟨fun V=>∃ θ:CW p,V=θ.w,fun _ h=>h,⟨⟨_,p1⟩,rfl⟩,?_⟩
 simp only[pts]
 repeat (refine ly_one rfl ?_;(first|go_big_quiet_skip|(go_big_quiet_want;go_big_quiet_op;go_big_quiet_on));refine wpQuiet_nil ?_)
 refine ly_done ?_
 obtain⟨rr,rfl,hrl,hrc⟩:=vN d.next q hq'.out
 have hrb:w.heap.size+1<=rr:=Nat.le_trans (Nat.le_of_eq (show w.heap.size+1=(w.alloc (caO cl)).drew.heap.size from (World.size_alloc w (caO cl)).symm)) (hR1.out.lt rr rfl).1
 have nr1:¬ rr=b:=(by have:=H.out.lt.1;omega)
 have nr2:¬ rr=go:=(by have:=H.out.lt.2;omega)
 have nr3:¬ b=rr:=fun e=>nr1 e.symm
 have nr4:¬ go=rr:=fun e=>nr2 e.symm
 have nX1:¬ w.heap.size=b:=(by have:=H.out.lt.1;omega)
 have nX2:¬ w.heap.size=go:=(by have:=H.out.lt.2;omega)
 have nX3:¬ b=w.heap.size:=fun e=>nX1 e.symm
 have nX4:¬ go=w.heap.size:=fun e=>nX2 e.symm
 clear RW b13 hR1 hR2 k0 vN hrb
 have zc14:=HC.out.c14 ⟨w1,p1⟩
 have zx0:=HC.out.x0 ⟨w1,p1⟩
 have zk1:=HC.out.k1 ⟨w1,p1⟩
 go_wp2_with fail
 have pd:p w1.drew:=HC.out.pI _ (HC.out.pB _ p1).drew
 obtain⟨q2,qI,q2p,qN,r1,r2,r3,LT2⟩:∃ q2:World->Prop,(∀ W,p W->Below w1.heap.size w1 W->q2 W)/\(∀ W,q2 W->p W)/\Nonempty (CW q2)/\(∀ θ:CW q2,θ.w.cell? ⟨b,12,none⟩=some (.slice (some ⟨gt,ot,none⟩) f.toks.length cp))/\(∀ θ:CW q2,θ.w.cell? ⟨go,ys.length*4+1,none⟩=some (.int .i64 (d.next:Int)))/\(∀ θ:CW q2,θ.w.cell? ⟨rr,d.next,none⟩=some (.int .i64 (q:Int)))/\(∀ W,(∃ θ:CW q2,W=θ.w)->(Instr.loadAt 83 (.pointer (some ⟨gt,ot+q*21,none⟩))).run Tryz.prog W = .ok (tkV u pu cu) W) :=
  ⟨fun W=>p W/\Below w1.heap.size w1 W,fun W h1 h2=>⟨h1,h2⟩,fun W h=>h.1,⟨⟨w1,p1,Below.refl _ _⟩⟩,fun θ=>HC.out.c12 ⟨θ.w,θ.h.1⟩,fun θ=>HC.out.k1 ⟨θ.w,θ.h.1⟩,fun θ=>(θ.h.2.cell (p:=⟨rr,d.next,none⟩) hrl).trans hrc,by
   rintro _ ⟨θ,rfl⟩
   exact LT _ ⟨⟨θ.w,θ.h.1⟩,rfl⟩⟩
 refine wp_region_lw 15 (fun V=>∃ θ:CW q2,V=θ.w) (by kernel_rfl) (by kernel_rfl) (fun _ _ d _ _ h=>by cases d<;>exact h) ⟨⟨_,qI _ pd (Below.refl _ _).drew⟩,rfl⟩ ?_
 repeat (first|(refine lw_ld LT2 rfl (by rfl) ?_;simp only[pts])|(refine lw_one rfl ?_;(first|go_big_quiet_skip|(go_big_quiet_want;go_big_quiet_op;go_big_quiet_on));refine wpQuiet_nil ?_))
 have pz:=HC.out.pI _ ((HC.out.pB _ pd).trans ((bel1 w1.drew zTkD).mono (HC.out.pB _ pd).size))
 refine lw_al (al_tk w1.drew) ⟨⟨_,qI _ pz ((Below.refl _ _).drew.trans (bel1 w1.drew zTkD))⟩,rfl⟩ (by rfl) ?_
 simp only[pts]
 refine lw_st (st_new w1.drew zTa rfl u pu cu) rfl rfl (by rfl) ?_
 simp only[pts]
 have pt:p (w1.drew.alloc (tkO u pu cu)):=HC.out.pI _ ((HC.out.pB _ pd).trans ((bel1 w1.drew (tkO u pu cu)).mono (HC.out.pB _ pd).size))
 have hTK:=tk_of (heap_al w1.drew (tkO u pu cu))
 have tk0:(w1.drew.alloc (tkO u pu cu)).cell? ⟨w1.drew.heap.size,0,none⟩=some (.int .i64 u.op):=hTK.c0
 have tk1:(w1.drew.alloc (tkO u pu cu)).cell? ⟨w1.drew.heap.size,1,none⟩=some (.string u.name):=hTK.c1
 have y0:=HC.out.x0 ⟨_,pt⟩
 have y1:=HC.out.x1 ⟨_,pt⟩
 have y3:=HC.out.x3 ⟨_,pt⟩
 have yk1:=HC.out.k1 ⟨_,pt⟩
 have yk3:=HC.out.k3 ⟨_,pt⟩
 have yb4:=HC.out.c14 ⟨_,pt⟩
 have yb5:=HC.out.c15 ⟨_,pt⟩
 have yr:(w1.drew.alloc (tkO u pu cu)).cell? ⟨rr,d.next,none⟩=some (.int .i64 (q:Int)):=(((Below.refl w1.heap.size w1).drew.trans (bel1 w1.drew (tkO u pu cu))).cell (p:=⟨rr,d.next,none⟩) hrl).trans hrc
 have yf1:∀ i,(w1.drew.alloc (tkO u pu cu)).frozen? ⟨go,i,none⟩=false:=fun i=>(H.out.below (HC.out.bel pt)).o.frz i
 have yf2:∀ i,(w1.drew.alloc (tkO u pu cu)).frozen? ⟨b,i,none⟩=false:=fun i=>froz_of (H.out.below (HC.out.bel pt)).c
 generalize hV:w1.drew.alloc (tkO u pu cu)=V at *
 dsimp only [World.drew] at tk0 tk1
 clear hV hTK pz r1 r2 r3 LT2 qI q2p qN LT zc14 zx0 zk1 hrc
 have hdN:=hd0.out
 go_wp2_with fail
 go_ret
 exact FIN.out _ pt
structure RM (f:Fm) (s:Ms) (m:DM):Prop where
 ok:MsOk f.toks s
 i:InF f.toks s
 r:Rel s m
structure DLk (f:Fm) (d:DL):Prop where
 b:∃ n t ks,Blk f d.at_ n t ks
 l0:0<=d.left
 l1:d.left<=65536
 nx:d.next<=f.toks.length
theorem rls_lv (hz:chkZ f=none):∀ {r:List Lv} {ds:List DL},RLs r ds->(∀ x∈r,LvOk f.toks x/\x.p<f.toks.length)->∀ d∈ds,DLk f d
 | [],[],_,_,d,hd=>by cases hd
 | x::r,e::ds,h,hx,d,hd=>by
  rcases List.mem_cons.1 hd with rfl|hd
  ·obtain⟨h1,h2⟩:=hx x (List.mem_cons_self ..)
   have hn:=h.1.n
   have hle:=h1.le
   have:=rowZ_le' f.toks x.p
   exact⟨by rw[h.1.a];exact h1.blk hz h2,by rw[h.1.f];exact h1.l0,by rw[h.1.f];exact h1.l1,by omega⟩
  ·exact rls_lv hz h.2 (fun y hy=>hx y (List.mem_cons_of_mem _ hy)) d hd
 | [],_::_,h,_,_,_=>h.elim
 | _::_,[],h,_,_,_=>h.elim
theorem RM.lv (hz:chkZ f=none) {m:DM} (h:RM f s m):(∀ d∈m.op,DLk f d)/\m.op≠[]/\m.op.length<=65537/\(m.group≠0->1<=m.count/\m.count<=65536)/\(m.group≠0->m.op.length<=65536):=by
 obtain⟨hok,hi,hr⟩:=h
 obtain⟨op,ent⟩:=s
 have hlen:=hok.len
 have he:ent<=65536:=hok.e1
 cases op with
 | nil=>exact absurd rfl hok.ne
 | cons x r =>
  have hx:∀ y∈x::r,LvOk f.toks y/\y.p<f.toks.length:=fun y hy=>⟨hok.all y hy,hi y hy⟩
  cases hb : x.begun with
  | true =>
   obtain⟨_,hg,d,ds,hop,hd,hds⟩:=(rel_b hb).1 hr
   have hl:=RLs_len hds
   refine⟨fun e he=>?_,by rw[hop];simp,?_,fun h=>absurd hg h,fun h=>absurd hg h⟩
   ·rw[hop] at he
    rcases List.mem_cons.1 he with rfl|he
    ·obtain⟨h1,h2⟩:=hx x (List.mem_cons_self ..)
     have hn:=hd.n
     have hle:=h1.le
     have:=rowZ_le' f.toks x.p
     exact⟨by rw[hd.a];exact h1.blk hz h2,by rw[hd.f];exact h1.l0,by rw[hd.f];exact h1.l1,by omega⟩
    ·exact rls_lv hz hds (fun y hy=>hx y (List.mem_cons_of_mem _ hy)) e he
   ·rw[hop,List.length_cons]
    simp only[List.length_cons] at hlen
    omega
  | false =>
   obtain⟨_,hg,h0,hc,hl,hrs,hne⟩:=(rel_n hb).1 hr
   have hlr:=RLs_len hrs
   have hx1:=(hx x (List.mem_cons_self ..)).1
   simp only[List.length_cons] at hlen
   refine⟨rls_lv hz hrs (fun y hy=>hx y (List.mem_cons_of_mem _ hy)),fun e=>?_,by omega,fun _=>⟨by omega,by rw[hc];exact hx1.l1⟩,fun _=>by omega⟩
   rw[e] at hlr
   exact hne (List.eq_nil_of_length_eq_zero hlr)
theorem dHere_any {zs:List DL} (hz:chkZ f=none) (h:DS w b go cap f pp cp zs g c a) (tl:TkL w pp w.heap.size f.toks) (rm:RM f s ⟨zs.reverse,g,c,a⟩) (cl:Cl) (hk:0<=cl.k/\cl.k<=3) :
  Calls Tryz.prog 49 #[.pointer (some ⟨b,0,none⟩),caV cl] w (HrP b go f pp cp zs g c a cl.k cl.cnt cl.nm w):=by
 obtain⟨hlv,hne,hlen,hgc,hgl⟩:=rm.lv hz
 have hne':zs≠[]:=fun e=>hne (by show zs.reverse=[];rw[e];rfl)
 obtain⟨ys,d,rfl⟩:∃ ys d,zs=ys++[d]:=⟨zs.dropLast,zs.getLast hne',(List.dropLast_concat_getLast hne').symm⟩
 have hdk:=hlv d (by show d∈(ys++[d]).reverse;simp)
 obtain⟨n,t,ks,hblk⟩:=hdk.b
 have hB:∃ n t ks,Bgn f.toks d.at_ n t ks:=⟨n,t,ks,hblk.bg⟩
 have hlen':ys.length+1<=65537:=by simpa using hlen
 have hl0:=hdk.l0
 have hl1:=hdk.l1
 by_cases hg:g=0
 ·have hk4:cl.k=0\/cl.k=2\/(cl.k=1\/cl.k=3):=by omega
  rcases hk4 with hk|hk|hk
  ·exact here_3 h tl hB cl hz hg hk
  ·by_cases hn:ys=[]\/d.left=0\/d.next<(rowZ f.toks d.at_).length
   ·exact here_4 h tl hB cl hg hk hn
   ·exact here_5 h tl hB cl hg hk (fun e=>hn (.inl e)) (fun e=>hn (.inr (.inl e))) (fun e=>hn (.inr (.inr e))) (by unfold i64ok;omega)
  ·cases hq:(rowZ f.toks d.at_)[d.next]? with
   | none =>
    have:=List.getElem?_eq_none_iff.1 hq
    exact here_6 h tl hB cl hg hk (by omega)
   | some q =>
    obtain⟨u,hu,_⟩:=hblk.row (List.mem_of_getElem? hq)
    cases hD:isD f.toks q cl.k cl.nm with
    | false=>exact here_7 h tl hB cl hg hk q hq u hu hD
    | true =>
     rcases hk with hk1|hk3
     ·by_cases hc:0<cl.cnt
      ·exact here_8 h tl hB cl hg (.inl hk1) q hq u hu hD ⟨hk1,hc⟩
      ·exact here_9a h tl hB cl hg (.inl hk1) q hq u hu hD ⟨hk1,hc⟩
     ·exact here_9b h tl hB cl hg (.inr hk3) q hq u hu hD hk3
 ·have hcb:=hgc hg
  by_cases hk2:cl.k=2
  ·exact here_2 h tl hB cl hg hk2 (by have:1<=c/\c<=65536:=hcb;unfold i64ok;omega) (by omega)
  ·exact here_1 h tl hB cl hg hk2
end Go.Proofs.YtbhmciieiilcfaaGreatDoor
