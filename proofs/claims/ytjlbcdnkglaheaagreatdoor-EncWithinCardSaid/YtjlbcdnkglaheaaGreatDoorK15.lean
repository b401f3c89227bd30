import Derived.Test.YtjlbcdnkglaheaaGreatDoorK14
namespace Go.Proofs.YtjlbcdnkglaheaaGreatDoor
set_option maxRecDepth 1000000
set_option maxHeartbeats 16000000
open Go.ChangeShapes Go.WideShapes Go.ChangeAt Go.RowKit Go.Shelf Go.Maps
theorem ent_isInBlock:∀ ag w,(callFunc 110 ag).run Tryz.prog w = .ok (.enter 110 ag) w:=enters_of Tryz.func110 (by kernel_rfl) rfl
theorem ent_isInRow:∀ ag w,(callFunc 111 ag).run Tryz.prog w = .ok (.enter 111 ag) w:=enters_of Tryz.func111 (by kernel_rfl) rfl
structure Lfn (E:List Nat) (w w':World) (b:Bool) (C:Prop):Prop where
 kb:Kb E w w'
 ct:b=true->C
 nb:b=false->Below w.heap.size w w'
def inT (x:Sv) (xt t u:Tk):Bool:=decide (t.cst.length=0)&&decide (t.siz=u.siz)&&(if t.siz=0 then decide (t.off=0) else decide (0<t.siz)&&bet t.off x.en (xt.blk-t.siz))
theorem isInBlock_any (c:Cf) (f:Fm) (L:List Sv) (x:Sv) (xt t:Tk) (rl:Value) (dep:Nat->Int) (wh:Bool) (w:World) (h:Ct w c f L x xt t rl dep wh) (u:Tk) (hu:f.toks[c.i+1]?=some u) (b1:0<=xt.blk/\xt.blk<=65535) :
  Calls Tryz.prog 110 #[.pointer (some ⟨c.B,0,none⟩),.pointer (some ⟨c.g,c.o+c.i*21,none⟩)] w fun r w'=>r = .returned (.bool (inT x xt t u))/\Lfn [c.go] w w' (inT x xt t u) (Ct w' c f L (memX x t) xt t rl dep wh):=by
 have hll:=h.ll
 have hul:c.i+1<f.toks.length:=(List.getElem?_eq_some_iff.1 hu).1
 obtain⟨pc,cc,hT,hU,hcc,kT⟩:=h.tk
 obtain⟨px,cx,hX,kX⟩:=h.xk
 have hS:=h.sc
 have hC:=h.ck
 have hF:=h.fm
 have hlg:=h.lg
 have hlo:=h.op.lt
 have hlf:=h.fl
 obtain⟨_,_,pu,cu,eu,_,hUc,_⟩:=h.tl.at hu
 cases eu
 have u4:=hUc.c4
 have t12:=hT.c12
 have t4:=hT.c4
 have t3:=hT.c3
 have k1:=hC.c1
 have k2:=hC.c2
 have m12:w.cell? ⟨c.gf,12,none⟩=some (.slice (some ⟨c.g,c.o,none⟩) f.toks.length c.cp):=by simpa using hF.c12
 have cT:=fun W (hW:Below w.heap.size w W)=>top_any c.B c.go L.length c.cap W (h.below hW).ck.c0 h.ln
 have hY:∀ W,Below w.heap.size w W->W.cell? ⟨c.go,L.length*8,none⟩=some (.pointer (some ⟨c.g,c.o+x.at_*21,none⟩))/\W.cell? ⟨c.go,L.length*8+6,none⟩=some (.int .i64 x.en)/\W.cell? ⟨c.g,c.o+x.at_*21+14,none⟩=some (.int .i64 xt.blk)/\W.cell? ⟨c.g,c.o+c.i*21+3,none⟩=some (.int .i64 t.off)/\W.cell? ⟨c.g,c.o+c.i*21+4,none⟩=some (.int .i64 t.siz):=fun W hW=>by
  obtain⟨pc,cc,hT,_⟩:=(h.below hW).tk
  obtain⟨px,cx,hX,_⟩:=(h.below hW).xk
  exact⟨(h.below hW).sc.c0,(h.below hW).sc.c6,hX.c14,hT.c3,hT.c4⟩
 obtain⟨k,hk⟩:∃ k:Nat,k=c.i+1:=⟨_,rfl⟩
 rw[<- hk] at u4
 have e1:IntKind.i64.wrap ((c.i:Int)+1)=(k:Int):=by rw[IntKind.wrap_i64];omega
 have e2:(k:Int)<(f.toks.length:Int):=by omega
 clear hk hul hu
 have hsz:=kT.siz
 have hof:=kT.off
 clear hT hX hS hC hF hU hcc hlg hlo hlf hUc kT kX
 replace h:=Hid.mk h
 unfold inT memX
 obtain⟨nc,hnc⟩:∃ n,t.cst.length=n:=⟨_,rfl⟩
 rw[hnc] at t12 ⊢
 clear hnc
 rcases nc with _|nc
 rotate_left
 ·rw[decide_eq_false (show ¬ nc+1=0 by omega)]
  have d1:decide ((0:Int)<((nc+1:Nat):Int))=true:=decide_eq_true (by omega)
  go_enter Tryz.func110,Tryz.ntmps110
  go_wp2_with fail
  go_quiet (fail)
  go_wp2_with fail
  all_goals
   go_ret
   exact⟨rfl,Kb.of_below (tdr (Below.refl _ _)),fun e=>by simp at e,fun _=>tdr (Below.refl _ _)⟩
 rw[show decide ((0:Nat)=0)=true from rfl]
 by_cases q2:t.siz=u.siz
 rotate_left
 ·have d2:(t.siz != u.siz)=true:=bne_iff_ne.2 q2
  rw[decide_eq_false q2]
  replace q2:=Hid.mk q2
  go_enter Tryz.func110,Tryz.ntmps110
  go_wp2_with fail
  go_quiet (fail)
  go_wp2_with fail
  all_goals
   go_ret
   exact⟨rfl,Kb.of_below (tdr (Below.refl _ _)),fun e=>by simp at e,fun _=>tdr (Below.refl _ _)⟩
 have d2:(t.siz != u.siz)=false:=by simp[bne,q2]
 rw[decide_eq_true q2]
 clear q2
 by_cases q3:t.siz=0
 ·have d3:(t.siz==0)=true:=beq_iff_eq.2 q3
  rw[if_pos q3,if_pos q3,<- beqD]
  clear q3
  go_enter Tryz.func110,Tryz.ntmps110
  go_wp2_with fail
  go_quiet (fail)
  go_wp2_with fail
  all_goals
   go_ret
   exact⟨rb (by simp),Kb.of_below (tdr (Below.refl _ _)),fun _=>h.out.below (tdr (Below.refl _ _)),fun _=>tdr (Below.refl _ _)⟩
 have d3:(t.siz==0)=false:=beqN q3
 rw[if_neg q3,if_neg q3]
 by_cases q4:t.siz<0
 ·have d4:decide (t.siz<0)=true:=decide_eq_true q4
  rw[decide_eq_false (show ¬ 0<t.siz by omega)]
  clear q3 q4
  go_enter Tryz.func110,Tryz.ntmps110
  go_wp2_with fail
  go_quiet (fail)
  go_wp2_with (go_at_call 92;refine(cT _ (tdr (Below.refl _ _))).mono ?_;rintro _ w1 ⟨rfl,hb⟩;have hb1:Below w.heap.size w w1:=(tdr (Below.refl _ _)).trans (hb.mono (Nat.le_refl _));obtain⟨y0,y6,y14,y3,y4⟩:=hY _ hb1;clear hY cT)
  go_quiet (fail)
  go_wp2_with fail
  all_goals
   go_ret
   exact⟨rfl,(Kb.of_below hb1).trans (Kb.of_below (tdr (Below.refl _ _))),fun e=>by simp at e,fun _=>tdr hb1⟩
 have d4:decide (t.siz<0)=false:=decide_eq_false q4
 rw[decide_eq_true (show 0<t.siz by omega)]
 have hsz2:=hsz.2
 have e5:IntKind.i64.wrap (xt.blk-t.siz)=xt.blk-t.siz:=by rw[IntKind.wrap_i64];omega
 obtain⟨q5,hq5⟩:∃ q,bet t.off x.en (xt.blk-t.siz)=q:=⟨_,rfl⟩
 have e6:q5=true->IntKind.i64.wrap (t.off+t.siz)=t.off+t.siz:=fun e=>by
  have:=betT (hq5.trans e)
  have:=hof.1
  rw[IntKind.wrap_i64];omega
 have cB:=isBetween_any t.off x.en (xt.blk-t.siz)
 rw[hq5] at cB ⊢
 clear hq5 q3 q4 hsz hof hsz2
 cases q5 with
 | false =>
  clear e6
  go_enter Tryz.func110,Tryz.ntmps110
  go_wp2_with fail
  go_quiet (fail)
  go_wp2_with (go_at_call 92;refine(cT _ (tdr (Below.refl _ _))).mono ?_;rintro _ w1 ⟨rfl,hb⟩;have hb1:Below w.heap.size w w1:=(tdr (Below.refl _ _)).trans (hb.mono (Nat.le_refl _));obtain⟨y0,y6,y14,y3,y4⟩:=hY _ hb1;clear hY cT)
  go_quiet ((go_at_call 74;exact Calls.quiet_of_same (cB _)))
  go_wp2_with fail
  all_goals
   go_ret
   exact⟨rfl,(Kb.of_below hb1).trans (Kb.of_below (tdr (Below.refl _ _))),fun e=>by simp at e,fun _=>tdr hb1⟩
 | true =>
  have e6:=e6 rfl
  go_enter Tryz.func110,Tryz.ntmps110
  go_wp2_with fail
  go_quiet (fail)
  go_wp2_with (go_at_call 92;refine(cT _ (tdr (Below.refl _ _))).mono ?_;rintro _ w1 ⟨rfl,hb⟩;have hb1:Below w.heap.size w w1:=(tdr (Below.refl _ _)).trans (hb.mono (Nat.le_refl _));obtain⟨y0,y6,y14,y3,y4⟩:=hY _ hb1;clear hY cT)
  go_quiet ((go_at_call 74;exact Calls.quiet_of_same (cB _)))
  go_wp2_with fail
  have hW:Below w.heap.size w (w1.drewN nq):=tdr hb1
  generalize w1.drewN nq=w3 at hW ⊢
  have h2:=h.out.below hW
  have z6:=h2.sc.c6
  have zf:=h2.op.frz (L.length*8+6)
  clear u4 t12 t4 t3 k1 k2 m12 y0 y6 y14 y3 y4 cB e1 e2 e5 b1
  try go_wp2_with fail
  obtain⟨pc,cc,hT,hU,hcc,kT⟩:=h2.tk
  obtain⟨px,cx,hX,kX⟩:=h2.xk
  have hS:=h2.sc
  have hC:=h2.ck
  have hF:=h2.fm
  have hlg:=h2.lg
  have hlo:=h2.op.lt
  have hlf:=h2.fl
  have ho:c.g≠c.go:=by have:=h2.ap.g;have:=h2.ap.go;omega
  obtain⟨p,pB,pK,hN,t3,t4⟩:∃ p:World->Prop,(∀ W,p W->Kb [c.go] w3 W) /\
   (∀ W,Kb [c.go] w3 W->p W) /\
   Nonempty (CW p) /\
   (∀ θ:CW p,θ.w.cell? ⟨c.g,c.o+c.i*21+3,none⟩=some (.int .i64 t.off)) /\
   (∀ θ:CW p,θ.w.cell? ⟨c.g,c.o+c.i*21+4,none⟩=some (.int .i64 t.siz)) :=
   ⟨Kb [c.go] w3,
   fun _ h=>h,
   fun _ h=>h,
   ⟨⟨_,Kb.refl _ _⟩⟩,
   fun θ=>(θ.h.cell hlg (notin1 ho)).trans hT.c3,
   fun θ=>(θ.h.cell hlg (notin1 ho)).trans hT.c4⟩
  clear hT hX hS hC hF hU hcc hlg hlo hlf ho
  replace h2:=Hid.mk h2
  refine wp_region_lx p (by kernel_rfl) (by kernel_rfl) (fun _ _ d _ _ h=>by cases d<;>exact h) (pK _ (Kb.refl _ _).drew) ?_
  repeat (first|(refine lx_one rfl ?_;(first|go_big_quiet_skip|(go_big_quiet_want;go_big_quiet_op;go_big_quiet_on));refine wpQuiet_nil ?_)|(refine lx_skip (by rfl) ?_;simp only[pts]))
  refine lx_act (by rfl) (by rfl) ?_
  intro K hK
  go_simp
  refine hK _ _ ⟨⟨_,pK _ ((Kb.refl _ _).set (List.mem_singleton.2 rfl) _).drew⟩,rfl⟩ ?_
  clear hK K
  try simp only[pts]
  have h3:Ct (w3.setCell ⟨c.go,L.length*8+6,none⟩ (.int .i64 (t.off+t.siz))).drew c f L { x with en:=t.off+t.siz } xt t rl dep wh:=(h2.out.wrote (x':={ x with en:=t.off+t.siz }) (j:=6) (v:=.int .i64 (t.off+t.siz)) (by decide) rfl rfl).below (tdr1 (Below.refl _ _))
  have hk3:Kb [c.go] w (w3.setCell ⟨c.go,L.length*8+6,none⟩ (.int .i64 (t.off+t.siz))).drew:=((Kb.of_below hW).set (List.mem_singleton.2 rfl) _).drew
  generalize (w3.setCell ⟨c.go,L.length*8+6,none⟩ (.int .i64 (t.off+t.siz))).drew=w4 at h3 hk3 ⊢
  refine lx_done ?_
  replace h3:=Hid.mk h3
  go_wp2_with fail
  go_ret
  exact⟨rfl,hk3,fun _=>h3.out,fun e=>by simp at e⟩
def rowT (f:Fm) (x:Sv) (xt t:Tk):Bool:=if xt.op=4 then decide (t.since=xt.since) else bet t.since x.row f.ver
def rowX (x:Sv) (xt t:Tk):Sv:=if xt.op=4 then x else { x with row:=t.since }
theorem isInRow_any (c:Cf) (f:Fm) (L:List Sv) (x:Sv) (xt t:Tk) (rl:Value) (dep:Nat->Int) (wh:Bool) (w:World) (h:Ct w c f L x xt t rl dep wh) :
  Calls Tryz.prog 111 #[.pointer (some ⟨c.B,0,none⟩),.pointer (some ⟨c.g,c.o+c.i*21,none⟩)] w fun r w'=>r = .returned (.bool (rowT f x xt t))/\Lft [c.go] w w' (rowT f x xt t) (Ct w' c f L (rowX x xt t) xt t rl dep wh):=by
 have cT:=top_any c.B c.go L.length c.cap w h.ck.c0 h.ln
 have hY:∀ W,Below w.heap.size w W->W.cell? ⟨c.go,L.length*8,none⟩=some (.pointer (some ⟨c.g,c.o+x.at_*21,none⟩))/\W.cell? ⟨c.go,L.length*8+5,none⟩=some (.int .i64 x.row)/\W.frozen? ⟨c.go,L.length*8+5,none⟩=false/\W.cell? ⟨c.g,c.o+x.at_*21,none⟩=some (.int .i64 xt.op)/\W.cell? ⟨c.g,c.o+x.at_*21+5,none⟩=some (.int .i64 xt.since)/\W.cell? ⟨c.g,c.o+c.i*21+5,none⟩=some (.int .i64 t.since):=fun W hW=>by
  obtain⟨pc,cc,hT,_⟩:=(h.below hW).tk
  obtain⟨px,cx,hX,_⟩:=(h.below hW).xk
  exact⟨(h.below hW).sc.c0,(h.below hW).sc.c5,(h.below hW).op.frz _,hX.c0,hX.c5,hT.c5⟩
 have hZ:∀ W,Ct W c f L { x with row:=t.since } xt t rl dep wh->W.cell? ⟨c.g,c.o+c.i*21+5,none⟩=some (.int .i64 t.since)/\W.cell? ⟨c.B,1,none⟩=some (.pointer (some ⟨c.gf,0,none⟩))/\W.cell? ⟨c.gf,2,none⟩=some (.int .i64 f.ver):=fun W hW=>by
  obtain⟨pc,cc,hT,_⟩:=hW.tk
  exact⟨hT.c5,hW.ck.c1,by simpa using hW.fm.c2⟩
 replace h:=Hid.mk h
 have cB:=isBetween_any t.since x.row f.ver
 unfold rowT rowX
 by_cases e:xt.op=4
 ·have d4:(xt.op==4)=true:=beq_iff_eq.2 e
  rw[if_pos e,if_pos e,<- beqD]
  clear e hZ
  go_enter Tryz.func111,Tryz.ntmps111
  go_wp2_with (go_at_call 92;refine cT.mono ?_;rintro _ w1 ⟨rfl,hb⟩;obtain⟨y0,y5,yf,x0,x5,t5⟩:=hY _ hb;clear hY)
  go_quiet (fail)
  go_wp2_with fail
  go_ret
  exact⟨rfl,Kb.of_below (tdr hb),fun _=>h.out.below (tdr hb)⟩
 ·have d4:(xt.op==4)=false:=beqN e
  rw[if_neg e,if_neg e]
  clear e
  go_enter Tryz.func111,Tryz.ntmps111
  go_wp2_with (go_at_call 92;refine cT.mono ?_;rintro _ w1 ⟨rfl,hb⟩;obtain⟨y0,y5,yf,x0,x5,t5⟩:=hY _ hb;clear hY)
  have h3:Ct (w1.setCell ⟨c.go,L.length*8+5,none⟩ (.int .i64 t.since)) c f L { x with row:=t.since } xt t rl dep wh:=(h.out.below hb).wrote (x':={ x with row:=t.since }) (j:=5) (v:=.int .i64 t.since) (by decide) rfl rfl
  have hk3:Kb [c.go] w (w1.setCell ⟨c.go,L.length*8+5,none⟩ (.int .i64 t.since)):=(Kb.of_below hb).set (List.mem_singleton.2 rfl) _
  generalize w1.setCell ⟨c.go,L.length*8+5,none⟩ (.int .i64 t.since)=w4 at h3 hk3 ⊢
  obtain⟨z5,z1,z2⟩:=hZ _ h3
  clear hZ y0 y5 yf x0 x5 t5
  replace h3:=Hid.mk h3
  go_quiet ((go_at_call 74;exact Calls.quiet_of_same (cB _)))
  go_wp2_with fail
  go_ret
  exact⟨rfl,hk3.trans (Kb.of_below (tdr (Below.refl _ _))),fun _=>h3.out.below (tdr (Below.refl _ _))⟩
structure Cm (w:World) (c:Cf) (n:Nat) (h1 h2 h3:Value->Prop):Prop where
 m1:MHas w 3 c.m1 n h1
 m2:MHas w 205 c.m2 n h2
 m3:MHas w 191 c.m3 n h3
 n:n<17592186044000
theorem MHas.mono {W:World} {k:TypeId} {m n n':Nat} {hs:Value->Prop} (h:MHas W k m n hs) (hn:n<=n'):MHas W k m n' hs:=by
 obtain⟨D,h1,h2⟩:=h
 exact⟨D,h1.mono hn,h2⟩
theorem Cm.kept {w w':World} {c:Cf} {n:Nat} {h1 h2 h3:Value->Prop} {E:List Nat} (h:Cm w c n h1 h2 h3) (hb:Kb E w w') (e1:c.m1∉E) (e2:c.m2∉E) (e3:c.m3∉E):Cm w' c n h1 h2 h3 :=
 ⟨h.m1.same (hb.block _ h.m1.lt e1),h.m2.same (hb.block _ h.m2.lt e2),h.m3.same (hb.block _ h.m3.lt e3),h.n⟩
theorem Cm.below {w w':World} {c:Cf} {n:Nat} {h1 h2 h3:Value->Prop} (h:Cm w c n h1 h2 h3) (hb:Below w.heap.size w w'):Cm w' c n h1 h2 h3:=h.kept (E:=[]) (Kb.of_below hb) List.not_mem_nil List.not_mem_nil List.not_mem_nil
def nwT (t:Tk) (b1 b2:Bool):Bool:=bet t.id 0 65535&&b1&&b2
theorem newPart_ct (c:Cf) (f:Fm) (L:List Sv) (x:Sv) (xt t:Tk) (rl:Value) (dep:Nat->Int) (wh:Bool) (n:Nat) (h1 h2 h3:Value->Prop) (b1 b2:Bool) (w:World) (h:Ct w c f L x xt t rl dep wh) (hm:Cm w c n h1 h2 h3) (hn:n<17592186043000) (hb1:b1=true↔¬ h1 (.int .i64 t.id)) (hb2:b2=true↔¬ h2 (nmK x.at_ t.name)) :
  Calls Tryz.prog 109 #[.pointer (some ⟨c.B,0,none⟩),.pointer (some ⟨c.g,c.o+c.i*21,none⟩)] w fun r w'=>r = .returned (.bool (nwT t b1 b2))/\Lft [c.m1,c.m2] w w' (nwT t b1 b2) (Ct w' c f L x xt t rl dep wh/\Cm w' c (n+1) (fun v=>v = .int .i64 t.id\/h1 v) (fun v=>v=nmK x.at_ t.name\/h2 v) h3):=by
 obtain⟨pc,cc,hT,_,_,kT⟩:=h.tk
 have a:=h.ap
 have hll:=h.ll
 have hxl:=h.xl
 have hil:=h.il
 have ag:=a.g
 have am1:=a.m1
 have am2:=a.m2
 refine(isNewPart_any c.B c.gf c.go L.length c.cap c.g c.o c.g (c.o+c.i*21) c.m1 c.m2 c.m3 n n c.i rl dep wh t x pc cc h1 h2 b1 b2 w h.ck h.sc h.op.lt hT h.lg hm.m1 hm.m2 a.B2 a.o2 (by omega) a.B1 a.o1 (by omega) a.m12 h.ln (by omega) (by omega) (by omega) kT (by unfold i64ok;omega) hb1 hb2).mono ?_
 rintro r w' ⟨hr,hk,hc⟩
 refine⟨hr,hk,fun e=>?_⟩
 obtain⟨q1,q2⟩:=hc e
 exact⟨h.kept hk (by simp),q1,q2,(hm.m3.same (hk.block _ hm.m3.lt (notin2 (Ne.symm a.m13) (Ne.symm a.m23)))).mono (Nat.le_succ _),by omega⟩
theorem all_drop {p:Int} {l:List Int} {j:Nat} {x:Int} (h:l[j]?=some x):(l.drop j).all (fitsP p)=(fitsP p x&&(l.drop (j+1)).all (fitsP p)):=by
 obtain⟨h1,h2⟩:=List.getElem?_eq_some_iff.1 h
 rw[List.drop_eq_getElem_cons h1,h2,List.all_cons]
theorem fit_any (p:Int) (l:List Int) (pp:Option Addr) (cp:Nat) (w:World) (h:KT w) (hr:URow w pp w.heap.size l) (hl:l.length*8<=140737488355328) (hu:∀ x∈l,u64ok x) :
  Calls Tryz.prog 115 #[.int .i64 p,.slice pp l.length cp] w fun r w'=>r = .returned (.bool (l.all (fitsP p)))/\Below w.heap.size w w':=by
 obtain⟨Z,hZ⟩:∃ Z,l.all (fitsP p)=Z:=⟨_,rfl⟩
 rw[hZ]
 go_enter Tryz.func115,Tryz.ntmps115
 go_wp2_with fail
 go_loopw [9] (fun n wr=>∃ j:Nat,j<=l.length/\n = .int .i64 j/\Below w.heap.size w wr/\(l.drop j).all (fitsP p)=Z) (fun n _=>l.length-(RowKit.intOf n).toNat)
 case atStart=>exact⟨0,Nat.zero_le _,rfl,Below.refl _ _,hZ⟩
 case round =>
  obtain⟨j,hj,rfl,hB,hR⟩:=hrel
  by_cases hlt:j<l.length
  ·obtain⟨x,hx⟩:∃ x,l[j]?=some x:=⟨l[j],List.getElem?_eq_getElem hlt⟩
   obtain⟨g,o,rfl,hg,c0⟩:=(hr.below hB).c j x hx
   obtain⟨u1,u2⟩:=hu x (List.mem_of_getElem? hx)
   have hlti:(j:Int)<l.length:=by omega
   have cF:=Fits_any p x wr (h.up hB) u1 (by omega)
   rw[all_drop hx] at hR
   by_cases hf:fitsP p x=true
   ·rw[hf,Bool.true_and] at hR
    have hf2:fitsF (sz p) (rd p) x=true:=hf
    rw[hf2] at cF
    go_wp2_with (go_at_call 35;refine cF.mono ?_;rintro _ w1 ⟨rfl,hb1⟩)
    go_roundw
    case rel=>exact⟨j+1,by omega,by go_num,hB.trans (hb1.mono hB.size),hR⟩
    case measure=>simp[RowKit.intOf];omega
   ·rw[Bool.not_eq_true] at hf
    rw[hf,Bool.false_and] at hR
    subst hR
    have hf2:fitsF (sz p) (rd p) x=false:=hf
    rw[hf2] at cF
    go_wp2_with (go_at_call 35;refine cF.mono ?_;rintro _ w1 ⟨rfl,hb1⟩)
    go_ret
    exact⟨rfl,hB.trans (hb1.mono hB.size)⟩
  ·obtain rfl:j=l.length:=by omega
   rw[List.drop_length] at hR
   subst hR
   go_wp2_with fail
   go_ret
   exact⟨rfl,hB⟩
theorem ent_isData:∀ ag w,(callFunc 80 ag).run Tryz.prog w = .ok (.enter 80 ag) w:=enters_of Tryz.func80 (by kernel_rfl) rfl
theorem ent_isGroup:∀ ag w,(callFunc 79 ag).run Tryz.prog w = .ok (.enter 79 ag) w:=enters_of Tryz.func79 (by kernel_rfl) rfl
theorem notin3 {a b c d:Nat} (h:a≠b) (h':a≠c) (h'':a≠d):a∉[b,c,d]:=fun e=>by simp at e;omega
def datT (f:Fm) (x:Sv) (xt t:Tk) (b1 b2:Bool):Bool:=nwT t b1 b2&&rowT f x xt t&&(t.a.o==0)&&numB t.a.p&&(t.siz==sz t.a.p)&&((t.prim==0)||(t.prim==5))
theorem isData_any (c:Cf) (f:Fm) (L:List Sv) (x:Sv) (xt t:Tk) (rl:Value) (dep:Nat->Int) (wh:Bool) (w:World) (h:Ct w c f L x xt t rl dep wh) (n:Nat) (h1 h2 h3:Value->Prop) (b1 b2:Bool) (hm:Cm w c n h1 h2 h3) (hn:n<17592186043000) (hb1:b1=true↔¬ h1 (.int .i64 t.id)) (hb2:b2=true↔¬ h2 (nmK x.at_ t.name)) :
  Calls Tryz.prog 80 #[.pointer (some ⟨c.B,0,none⟩),.pointer (some ⟨c.g,c.o+c.i*21,none⟩)] w fun r w'=>r = .returned (.bool (datT f x xt t b1 b2))/\Lft [c.m1,c.m2,c.go] w w' (datT f x xt t b1 b2) (Ct w' c f L (rowX x xt t) xt t rl dep wh/\Cm w' c (n+1) (fun v=>v = .int .i64 t.id\/h1 v) (fun v=>v=nmK x.at_ t.name\/h2 v) h3):=by
 have a:=h.ap
 have ng:c.g∉[c.m1,c.m2,c.go]:=by
  have:=a.g;have:=a.m1;have:=a.m2;have:=a.go
  exact notin3 (by omega) (by omega) (by omega)
 have nB:c.B∉[c.m1,c.m2,c.go]:=notin3 a.B1 a.B2 a.Bo
 have cP:=newPart_ct c f L x xt t rl dep wh n h1 h2 h3 b1 b2 w.drew (h.below (tdr1 (Below.refl _ _))) (hm.below (tdr1 (Below.refl _ _))) hn hb1 hb2
 have cR:=fun W (hW:Ct W c f L x xt t rl dep wh)=>isInRow_any c f L x xt t rl dep wh W hW
 obtain⟨pc,cc,hT,hU,hcc,kT⟩:=h.tk
 obtain⟨px,cx,hX,kX⟩:=h.xk
 have hS:=h.sc
 have hC:=h.ck
 have hF:=h.fm
 have hlg:=h.lg
 have hlo:=h.op.lt
 have hlf:=h.fl
 obtain⟨p,pB,pK,hN,t4,t6,t16,t17,cN,cS⟩:∃ p:World->Prop,(∀ W,p W->Kb [c.m1,c.m2,c.go] w W) /\
   (∀ W,Kb [c.m1,c.m2,c.go] w W->p W) /\
   Nonempty (CW p) /\
   (∀ θ:CW p,θ.w.cell? ⟨c.g,c.o+c.i*21+4,none⟩=some (.int .i64 t.siz)) /\
   (∀ θ:CW p,θ.w.cell? ⟨c.g,c.o+c.i*21+6,none⟩=some (.int .i64 t.prim)) /\
   (∀ θ:CW p,θ.w.cell? ⟨c.g,c.o+c.i*21+16,none⟩=some (.int .i64 t.a.p)) /\
   (∀ θ:CW p,θ.w.cell? ⟨c.g,c.o+c.i*21+17,none⟩=some (.int .i64 t.a.o)) /\
   (∀ W,p W->Calls Tryz.prog 112 #[.int .i64 t.a.p] W fun e w'=>e = .returned (.bool (numB t.a.p))/\p w') /\
   (∀ W,KT W->Calls Tryz.prog 59 #[.int .i64 t.a.p] W fun e w'=>e = .returned (.int .i64 (sz t.a.p))/\Below W.heap.size W w') :=
  ⟨Kb [c.m1,c.m2,c.go] w,
   fun _ h=>h,
   fun _ h=>h,
   ⟨⟨_,Kb.refl _ _⟩⟩,
   fun θ=>(θ.h.cell hlg ng).trans hT.c4,
   fun θ=>(θ.h.cell hlg ng).trans hT.c6,
   fun θ=>(θ.h.cell hlg ng).trans hT.c16,
   fun θ=>(θ.h.cell hlg ng).trans hT.c17,
   callS (isNumber_any t.a.p),
   fun W hW=>size_any t.a.p W hW⟩
 have cN2:=isNumber_any t.a.p
 have am:=a.m1
 have hmk:∀ W1 W2,Lft [c.go] W1 W2 true (Ct W2 c f L (rowX x xt t) xt t rl dep wh)->Cm W1 c (n+1) (fun v=>v = .int .i64 t.id\/h1 v) (fun v=>v=nmK x.at_ t.name\/h2 v) h3->Cm W2 c (n+1) (fun v=>v = .int .i64 t.id\/h1 v) (fun v=>v=nmK x.at_ t.name\/h2 v) h3:=fun W1 W2 hl hc=>hc.kept hl.kb (notin1 (Ne.symm a.o1)) (notin1 (Ne.symm a.o2)) (notin1 (Ne.symm a.o3))
 clear hT hX hS hC hF hU hcc hlg hlo hlf kT kX am a ng nB hm hn hb1 hb2
 replace h:=Hid.mk h
 unfold datT
 obtain⟨q1,hq1⟩:∃ q,nwT t b1 b2=q:=⟨_,rfl⟩
 obtain⟨q2,hq2⟩:∃ q,rowT f x xt t=q:=⟨_,rfl⟩
 obtain⟨q4,hq4⟩:∃ q,numB t.a.p=q:=⟨_,rfl⟩
 rw[hq1] at cP ⊢
 rw[hq2] at cR ⊢
 rw[hq4] at cN2 ⊢
 clear cN
 clear hq1 hq2 hq4
 rcases ch5 q1 q2 (t.a.o==0) q4 (t.siz==sz t.a.p) with e1|⟨e1,e2⟩|⟨e1,e2,e3⟩|⟨e1,e2,e3,e4⟩|⟨e1,e2,e3,e4,e5⟩|⟨e1,e2,e3,e4,e5⟩
 ·subst e1
  go_enter Tryz.func80,Tryz.ntmps80
  go_wp2_with fail
  refine wp_region_lx p (by kernel_rfl) (by kernel_rfl) (fun _ _ d _ _ h=>by cases d<;>exact h) (pK _ (Kb.refl _ _).drew) ?_
  repeat (first|(refine lx_one rfl ?_;(first|go_big_quiet_skip|(go_big_quiet_want;go_big_quiet_op;go_big_quiet_on));refine wpQuiet_nil ?_)|(refine lx_call2 ent_isNewPart cP rfl rfl (by rfl) ?_;intro W1 hP;have k1:Kb [c.m1,c.m2,c.go] w W1:=(Kb.refl _ _).drew.trans (hP.kb.mono (by simp));refine⟨⟨⟨_,pK _ k1⟩,rfl⟩,?_⟩;simp only[pts])|(refine lx_skip (by rfl) ?_;simp only[pts]))
  refine lx_done ?_
  go_wp2_with fail
  go_ret
  exact⟨rb (by simp),k1,fun e=>by simp at e⟩
 ·subst e1 e2
  go_enter Tryz.func80,Tryz.ntmps80
  go_wp2_with fail
  refine wp_region_lx p (by kernel_rfl) (by kernel_rfl) (fun _ _ d _ _ h=>by cases d<;>exact h) (pK _ (Kb.refl _ _).drew) ?_
  repeat (first|(refine lx_one rfl ?_;(first|go_big_quiet_skip|(go_big_quiet_want;go_big_quiet_op;go_big_quiet_on));refine wpQuiet_nil ?_)|(refine lx_call2 ent_isNewPart cP rfl rfl (by rfl) ?_;intro W1 hP;have k1:Kb [c.m1,c.m2,c.go] w W1:=(Kb.refl _ _).drew.trans (hP.kb.mono (by simp));refine⟨⟨⟨_,pK _ k1⟩,rfl⟩,?_⟩;simp only[pts])|(refine lx_call2 ent_isInRow (cR W1 (hP.ct rfl).1) rfl rfl (by rfl) ?_;intro W2 hR;have k2:Kb [c.m1,c.m2,c.go] w W2:=k1.trans (hR.kb.mono (by simp));refine⟨⟨⟨_,pK _ k2⟩,rfl⟩,?_⟩;simp only[pts])|(refine lx_skip (by rfl) ?_;simp only[pts]))
  refine lx_done ?_
  go_wp2_with fail
  go_ret
  exact⟨rb (by simp),k2,fun e=>by simp at e⟩
 ·subst e1 e2
  go_enter Tryz.func80,Tryz.ntmps80
  go_wp2_with fail
  refine wp_region_lx p (by kernel_rfl) (by kernel_rfl) (fun _ _ d _ _ h=>by cases d<;>exact h) (pK _ (Kb.refl _ _).drew) ?_
  repeat (first|(refine lx_one rfl ?_;(first|go_big_quiet_skip|(go_big_quiet_want;go_big_quiet_op;go_big_quiet_on));refine wpQuiet_nil ?_)|(refine lx_call2 ent_isNewPart cP rfl rfl (by rfl) ?_;intro W1 hP;have k1:Kb [c.m1,c.m2,c.go] w W1:=(Kb.refl _ _).drew.trans (hP.kb.mono (by simp));refine⟨⟨⟨_,pK _ k1⟩,rfl⟩,?_⟩;simp only[pts])|(refine lx_call2 ent_isInRow (cR W1 (hP.ct rfl).1) rfl rfl (by rfl) ?_;intro W2 hR;have k2:Kb [c.m1,c.m2,c.go] w W2:=k1.trans (hR.kb.mono (by simp));refine⟨⟨⟨_,pK _ k2⟩,rfl⟩,?_⟩;simp only[pts])|(refine lx_skip (by rfl) ?_;simp only[pts]))
  refine lx_done ?_
  go_wp2_with fail
  go_ret
  exact⟨rb (by simp[e3]),k2,fun e=>by simp[e3] at e⟩
 ·subst e1 e2 e4
  go_enter Tryz.func80,Tryz.ntmps80
  go_wp2_with fail
  refine wp_region_lx p (by kernel_rfl) (by kernel_rfl) (fun _ _ d _ _ h=>by cases d<;>exact h) (pK _ (Kb.refl _ _).drew) ?_
  repeat (first|(refine lx_one rfl ?_;(first|go_big_quiet_skip|(go_big_quiet_want;go_big_quiet_op;go_big_quiet_on));refine wpQuiet_nil ?_)|(refine lx_call2 ent_isNewPart cP rfl rfl (by rfl) ?_;intro W1 hP;have k1:Kb [c.m1,c.m2,c.go] w W1:=(Kb.refl _ _).drew.trans (hP.kb.mono (by simp));refine⟨⟨⟨_,pK _ k1⟩,rfl⟩,?_⟩;simp only[pts])|(refine lx_call2 ent_isInRow (cR W1 (hP.ct rfl).1) rfl rfl (by rfl) ?_;intro W2 hR;have k2:Kb [c.m1,c.m2,c.go] w W2:=k1.trans (hR.kb.mono (by simp));refine⟨⟨⟨_,pK _ k2⟩,rfl⟩,?_⟩;simp only[pts])|(refine lx_call1 ent_isNumber (cN2 W2) rfl (by rfl) ?_;intro w' hw';obtain rfl:W2=w':=hw'.symm;refine⟨⟨⟨_,pK _ k2⟩,rfl⟩,?_⟩;simp only[pts])|(refine lx_skip (by rfl) ?_;simp only[pts]))
  refine lx_done ?_
  go_wp2_with fail
  go_ret
  exact⟨rb (by simp),k2,fun e=>by simp at e⟩
 ·subst e1 e2 e4
  go_enter Tryz.func80,Tryz.ntmps80
  go_wp2_with fail
  refine wp_region_lx p (by kernel_rfl) (by kernel_rfl) (fun _ _ d _ _ h=>by cases d<;>exact h) (pK _ (Kb.refl _ _).drew) ?_
  repeat (first|(refine lx_one rfl ?_;(first|go_big_quiet_skip|(go_big_quiet_want;go_big_quiet_op;go_big_quiet_on));refine wpQuiet_nil ?_)|(refine lx_call2 ent_isNewPart cP rfl rfl (by rfl) ?_;intro W1 hP;have k1:Kb [c.m1,c.m2,c.go] w W1:=(Kb.refl _ _).drew.trans (hP.kb.mono (by simp));refine⟨⟨⟨_,pK _ k1⟩,rfl⟩,?_⟩;simp only[pts])|(refine lx_call2 ent_isInRow (cR W1 (hP.ct rfl).1) rfl rfl (by rfl) ?_;intro W2 hR;have k2:Kb [c.m1,c.m2,c.go] w W2:=k1.trans (hR.kb.mono (by simp));refine⟨⟨⟨_,pK _ k2⟩,rfl⟩,?_⟩;simp only[pts])|(refine lx_call1 ent_isNumber (cN2 W2) rfl (by rfl) ?_;intro w' hw';obtain rfl:W2=w':=hw'.symm;refine⟨⟨⟨_,pK _ k2⟩,rfl⟩,?_⟩;simp only[pts])|(refine lx_call1 ent_size (cS W2 (hR.ct rfl).kt) rfl (by rfl) ?_;intro W3 hb3;have k3:Kb [c.m1,c.m2,c.go] w W3:=k2.trans (Kb.of_below hb3);refine⟨⟨⟨_,pK _ k3⟩,rfl⟩,?_⟩;simp only[pts])|(refine lx_skip (by rfl) ?_;simp only[pts]))
  refine lx_done ?_
  go_wp2_with fail
  go_ret
  exact⟨rb (by simp),k3,fun e=>by simp at e⟩
 ·subst e1 e2 e4
  rcases Bool.eq_false_or_eq_true (t.prim==0) with e6|e6
  all_goals
   go_enter Tryz.func80,Tryz.ntmps80
   go_wp2_with fail
   refine wp_region_lx p (by kernel_rfl) (by kernel_rfl) (fun _ _ d _ _ h=>by cases d<;>exact h) (pK _ (Kb.refl _ _).drew) ?_
   repeat (first|(refine lx_one rfl ?_;(first|go_big_quiet_skip|(go_big_quiet_want;go_big_quiet_op;go_big_quiet_on));refine wpQuiet_nil ?_)|(refine lx_call2 ent_isNewPart cP rfl rfl (by rfl) ?_;intro W1 hP;have k1:Kb [c.m1,c.m2,c.go] w W1:=(Kb.refl _ _).drew.trans (hP.kb.mono (by simp));refine⟨⟨⟨_,pK _ k1⟩,rfl⟩,?_⟩;simp only[pts])|(refine lx_call2 ent_isInRow (cR W1 (hP.ct rfl).1) rfl rfl (by rfl) ?_;intro W2 hR;have k2:Kb [c.m1,c.m2,c.go] w W2:=k1.trans (hR.kb.mono (by simp));refine⟨⟨⟨_,pK _ k2⟩,rfl⟩,?_⟩;simp only[pts])|(refine lx_call1 ent_isNumber (cN2 W2) rfl (by rfl) ?_;intro w' hw';obtain rfl:W2=w':=hw'.symm;refine⟨⟨⟨_,pK _ k2⟩,rfl⟩,?_⟩;simp only[pts])|(refine lx_call1 ent_size (cS W2 (hR.ct rfl).kt) rfl (by rfl) ?_;intro W3 hb3;have k3:Kb [c.m1,c.m2,c.go] w W3:=k2.trans (Kb.of_below hb3);refine⟨⟨⟨_,pK _ k3⟩,rfl⟩,?_⟩;simp only[pts])|(refine lx_skip (by rfl) ?_;simp only[pts]))
   refine lx_done ?_
   go_wp2_with fail
   go_ret
   exact⟨rb (by simp),k3,fun _=>⟨(hR.ct rfl).below hb3,(hmk _ _ hR (hP.ct rfl).2).below hb3⟩⟩
end Go.Proofs.YtjlbcdnkglaheaaGreatDoor
