import Derived.Test.YtjnafpefolgcoaaGreatDoorK11
namespace Go.Proofs.YtjnafpefolgcoaaGreatDoor
set_option maxRecDepth 1000000
set_option maxHeartbeats 16000000
open Go.ChangeShapes Go.WideShapes Go.ChangeAt Go.RowKit Go.Shelf Go.Maps
structure Cf where
 B:Nat
 gf:Nat
 go:Nat
 cap:Nat
 g:Nat
 o:Nat
 cp:Nat
 m1:Nat
 m2:Nat
 m3:Nat
 H:Nat
 i:Nat
structure Apart (c:Cf):Prop where
 g:c.g<c.H
 gf:c.H<=c.gf
 B:c.H<=c.B
 go:c.H<=c.go
 m1:c.H<=c.m1
 m2:c.H<=c.m2
 m3:c.H<=c.m3
 fB:c.gf≠c.B
 fo:c.gf≠c.go
 f1:c.gf≠c.m1
 f2:c.gf≠c.m2
 f3:c.gf≠c.m3
 Bo:c.B≠c.go
 B1:c.B≠c.m1
 B2:c.B≠c.m2
 B3:c.B≠c.m3
 o1:c.go≠c.m1
 o2:c.go≠c.m2
 o3:c.go≠c.m3
 m12:c.m1≠c.m2
 m13:c.m1≠c.m3
 m23:c.m2≠c.m3
structure Ct (w:World) (c:Cf) (f:Fm) (L:List Sv) (x:Sv) (xt t:Tk) (rl:Value) (dep:Nat->Int) (wh:Bool):Prop where
 ck:CkC w c.B c.gf (.slice (some ⟨c.go,0,none⟩) (L.length+1) c.cap) (c.i:Int) rl c.m1 c.m2 c.m3 dep wh
 op:OpR w c.g c.o c.go c.cap (L++[x])
 fm:FmC w c.gf 0 f (some ⟨c.g,c.o,none⟩) c.cp
 tl:TkL w (some ⟨c.g,c.o,none⟩) c.H f.toks
 hx:f.toks[x.at_]?=some xt
 ht:f.toks[c.i]?=some t
 ap:Apart c
 kt:KT w
 sz:c.H<=w.heap.size
 fl:c.gf<w.heap.size
 k0:3<c.H
 ln:L.length<1000000000000
theorem KT.same {w w':World} (h:KT w) (hs:w.heap.size<=w'.heap.size) (hb:w'.heap[3]?=w.heap[3]?):KT w' :=
 ⟨Nat.lt_of_lt_of_le h.pos hs,fun p hp=>(cell_blk hb).trans (h.size p hp),fun p hp=>(cell_blk hb).trans (h.reading p hp),fun p hp=>(cell_blk hb).trans (h.null p hp),fun p hp=>(cell_blk hb).trans (h.least p hp),fun p hp=>(cell_blk hb).trans (h.most p hp)⟩
section
variable {w w':World} {c:Cf} {f:Fm} {L:List Sv} {x x':Sv} {xt t:Tk} {rl:Value} {dep:Nat->Int} {wh:Bool}
theorem Ct.lg (h:Ct w c f L x xt t rl dep wh):c.g<w.heap.size:=Nat.lt_of_lt_of_le h.ap.g h.sz
theorem Ct.ll (h:Ct w c f L x xt t rl dep wh):f.toks.length<=733007751850:=by have:=h.tl.len;omega
theorem Ct.il (h:Ct w c f L x xt t rl dep wh):c.i<f.toks.length:=(List.getElem?_eq_some_iff.1 h.ht).1
theorem Ct.xl (h:Ct w c f L x xt t rl dep wh):x.at_<f.toks.length:=(List.getElem?_eq_some_iff.1 h.hx).1
theorem Ct.kept {E:List Nat} (h:Ct w c f L x xt t rl dep wh) (hb:Kb E w w') (hE:∀ k∈E,k=c.m1\/k=c.m2\/k=c.m3):Ct w' c f L x xt t rl dep wh:=by
 have a:=h.ap
 have nB:c.B∉E:=fun e=>(hE _ e).elim a.B1 fun e=>e.elim a.B2 a.B3
 have no:c.go∉E:=fun e=>(hE _ e).elim a.o1 fun e=>e.elim a.o2 a.o3
 have nf:c.gf∉E:=fun e=>(hE _ e).elim a.f1 fun e=>e.elim a.f2 a.f3
 have nl:∀ k,k<c.H->k∉E:=fun k hk e=>by have:=a.m1;have:=a.m2;have:=a.m3;rcases hE _ e with e|e|e<;>omega
 exact⟨h.ck.same hb.size (hb.block _ h.ck.lt nB),h.op.same (hb.block _ h.op.lt no),h.fm.same (hb.block _ h.fl nf),⟨h.tl.row.same fun k hk=>hb.block k (Nat.lt_of_lt_of_le hk h.sz) (nl k hk),h.tl.len,h.tl.ok⟩,h.hx,h.ht,h.ap,h.kt.same hb.size (hb.block _ (Nat.lt_of_lt_of_le h.k0 h.sz) (nl _ h.k0)),Nat.le_trans h.sz hb.size,Nat.lt_of_lt_of_le h.fl hb.size,h.k0,h.ln⟩
theorem Ct.below (h:Ct w c f L x xt t rl dep wh) (hb:Below w.heap.size w w'):Ct w' c f L x xt t rl dep wh:=h.kept (E:=[]) (Kb.of_below hb) (fun _ e=>absurd e List.not_mem_nil)
theorem Ct.tk (h:Ct w c f L x xt t rl dep wh):∃ pc cc,TkC w c.g (c.o+c.i*21) t pc cc/\URow w pc c.H t.cst/\t.cst.length<=cc/\TkOk t:=by
 obtain⟨g,o,pc,cc,e,_,h1,h2,h3,h4⟩:=h.tl.at h.ht
 cases e
 exact⟨pc,cc,h1,h2,h3,h4⟩
theorem Ct.xk (h:Ct w c f L x xt t rl dep wh):∃ pc cc,TkC w c.g (c.o+x.at_*21) xt pc cc/\TkOk xt:=by
 obtain⟨g,o,pc,cc,e,_,h1,_,_,h4⟩:=h.tl.at h.hx
 cases e
 exact⟨pc,cc,h1,h4⟩
theorem Ct.sc (h:Ct w c f L x xt t rl dep wh):ScC w c.g c.o c.go (L.length*8) x:=h.op.last
theorem OpR.frz {g o go cap:Nat} {l:List Sv} (h:OpR w g o go cap l) (j:Nat):w.frozen? ⟨go,j,none⟩=false:=by
 obtain⟨cur,h1,_⟩:=h.ex
 simp[World.frozen?,h1]
theorem Ct.wrote (h:Ct w c f L x xt t rl dep wh) {j:Nat} {v:Value} (hj:j<8) (hx:svC c.g c.o x'=(svC c.g c.o x).set j v) (ha:x'.at_=x.at_):Ct (w.setCell ⟨c.go,L.length*8+j,none⟩ v) c f L x' xt t rl dep wh:=by
 have hb:Kb [c.go] w (w.setCell ⟨c.go,L.length*8+j,none⟩ v):=(Kb.refl _ _).set (List.mem_singleton.2 rfl) v
 have a:=h.ap
 have nl:∀ k,k<c.H->k∉[c.go]:=fun k hk e=>by have:=a.go;have:=List.mem_singleton.1 e;omega
 exact⟨h.ck.same hb.size (hb.block _ h.ck.lt (notin1 a.Bo)),h.op.set hj hx,h.fm.same (hb.block _ h.fl (notin1 a.fo)),⟨h.tl.row.same fun k hk=>hb.block k (Nat.lt_of_lt_of_le hk h.sz) (nl k hk),h.tl.len,h.tl.ok⟩,by rw[ha];exact h.hx,h.ht,h.ap,h.kt.same hb.size (hb.block _ (Nat.lt_of_lt_of_le h.k0 h.sz) (nl _ h.k0)),Nat.le_trans h.sz hb.size,Nat.lt_of_lt_of_le h.fl hb.size,h.k0,h.ln⟩
end
theorem ent_isPlaced:∀ ag w,(callFunc 69 ag).run Tryz.prog w = .ok (.enter 69 ag) w:=enters_of Tryz.func69 (by kernel_rfl) rfl
def codT (xt t:Tk):Bool:=decide (t.off=xt.off)&&decide (t.siz=xt.siz)&&decide (t.pres=xt.pres)&&decide (t.len=1)
theorem isCoding_any (c:Cf) (f:Fm) (L:List Sv) (x:Sv) (xt t:Tk) (rl:Value) (dep:Nat->Int) (wh:Bool) (w:World) (h:Ct w c f L x xt t rl dep wh) :
  Calls Tryz.prog 106 #[.pointer (some ⟨c.B,0,none⟩),.pointer (some ⟨c.g,c.o+c.i*21,none⟩)] w fun r w'=>r = .returned (.bool (codT xt t))/\Ct w' c f L { x with cod:=t.prim } xt t rl dep wh/\Kb [c.go] w w':=by
 have cT:=top_any c.B c.go L.length c.cap w h.ck.c0 h.ln
 have hY:∀ W,Below w.heap.size w W->W.cell? ⟨c.g,c.o+c.i*21+6,none⟩=some (.int .i64 t.prim)/\W.cell? ⟨c.go,L.length*8+7,none⟩=some (.int .i64 x.cod)/\W.frozen? ⟨c.go,L.length*8+7,none⟩=false:=fun W hW=>by
  obtain⟨pc,cc,hT,_⟩:=(h.below hW).tk
  exact⟨hT.c6,(h.below hW).sc.c7,(h.below hW).op.frz _⟩
 replace h:=Hid.mk h
 unfold codT
 rw[<- beqD,<- beqD,<- beqD,<- beqD]
 rcases ch3 (t.off==xt.off) (t.siz==xt.siz) (t.pres==xt.pres) with q1|⟨q1,q2⟩|⟨q1,q2,q3⟩|⟨q1,q2,q3⟩
 all_goals
  go_enter Tryz.func106,Tryz.ntmps106
  go_wp2_with (go_at_call 78;refine cT.mono ?_;rintro _ w1 ⟨rfl,hb⟩;obtain⟨y0,y1,y2⟩:=hY _ hb;clear hY)
  obtain⟨w2,hw2⟩:∃ w2,w2=w1.setCell ⟨c.go,L.length*8+7,none⟩ (.int .i64 t.prim):=⟨_,rfl⟩
  rw[<- hw2]
  have h2:Ct w2 c f L { x with cod:=t.prim } xt t rl dep wh:=by rw[hw2];exact(h.out.below hb).wrote (by decide) rfl rfl
  have hk2:Kb [c.go] w w2:=by rw[hw2];exact(Kb.of_below hb).set (List.mem_singleton.2 rfl) _
  clear hw2 y0 y1 y2 cT
  obtain⟨pc,cc,hT,hU,hcc,kT⟩:=h2.tk
  obtain⟨px,cx,hX,kX⟩:=h2.xk
  have hS:=h2.sc
  have hC:=h2.ck
  have hF:=h2.fm
  have hlg:=h2.lg
  have hlo:=h2.op.lt
  have hlf:=h2.fl
  obtain⟨p,pB,pK,hN,t3,t4,t7,t8,x3,x4,x8,s0⟩:∃ p:World->Prop,(∀ W,p W->Kb [] w2 W) /\
   (∀ W,Kb [] w2 W->p W) /\
   Nonempty (CW p) /\
   (∀ θ:CW p,θ.w.cell? ⟨c.g,c.o+c.i*21+3,none⟩=some (.int .i64 t.off)) /\
   (∀ θ:CW p,θ.w.cell? ⟨c.g,c.o+c.i*21+4,none⟩=some (.int .i64 t.siz)) /\
   (∀ θ:CW p,θ.w.cell? ⟨c.g,c.o+c.i*21+7,none⟩=some (.int .i64 t.len)) /\
   (∀ θ:CW p,θ.w.cell? ⟨c.g,c.o+c.i*21+8,none⟩=some (.int .i64 t.pres)) /\
   (∀ θ:CW p,θ.w.cell? ⟨c.g,c.o+x.at_*21+3,none⟩=some (.int .i64 xt.off)) /\
   (∀ θ:CW p,θ.w.cell? ⟨c.g,c.o+x.at_*21+4,none⟩=some (.int .i64 xt.siz)) /\
   (∀ θ:CW p,θ.w.cell? ⟨c.g,c.o+x.at_*21+8,none⟩=some (.int .i64 xt.pres)) /\
   (∀ θ:CW p,θ.w.cell? ⟨c.go,L.length*8,none⟩=some (.pointer (some ⟨c.g,c.o+x.at_*21,none⟩))) :=
   ⟨Kb [] w2,
   fun _ h=>h,
   fun _ h=>h,
   ⟨⟨_,Kb.refl _ _⟩⟩,
   fun θ=>(θ.h.cell hlg List.not_mem_nil).trans hT.c3,
   fun θ=>(θ.h.cell hlg List.not_mem_nil).trans hT.c4,
   fun θ=>(θ.h.cell hlg List.not_mem_nil).trans hT.c7,
   fun θ=>(θ.h.cell hlg List.not_mem_nil).trans hT.c8,
   fun θ=>(θ.h.cell hlg List.not_mem_nil).trans hX.c3,
   fun θ=>(θ.h.cell hlg List.not_mem_nil).trans hX.c4,
   fun θ=>(θ.h.cell hlg List.not_mem_nil).trans hX.c8,
   fun θ=>(θ.h.cell hlo List.not_mem_nil).trans hS.c0⟩
  clear hT hX hS hC hF hU hcc hlg hlo hlf
  replace h2:=Hid.mk h2
  replace hk2:=Hid.mk hk2
  refine wp_region_lx p (by kernel_rfl) (by kernel_rfl) (fun _ _ d _ _ h=>by cases d<;>exact h) (pK _ (Kb.refl _ _).drew) ?_
  repeat (first|(refine lx_one rfl ?_;(first|go_big_quiet_skip|(go_big_quiet_want;go_big_quiet_op;go_big_quiet_on));refine wpQuiet_nil ?_)|(refine lx_skip (by rfl) ?_;simp only[pts]))
  refine lx_done ?_
  go_wp2_with fail
  go_ret
  exact⟨rb (by simp[*]),h2.out.below (tdr1 (Below.refl _ _)),hk2.out.drew⟩
def memT (x:Sv) (xt t:Tk):Bool:=bet t.off xt.off (xt.off+xt.siz-t.siz)&&(decide (t.siz=0)||decide (x.en<=t.off))
def memX (x:Sv) (t:Tk):Sv:=if t.siz=0 then x else { x with en:=t.off+t.siz }
theorem isMember_any (c:Cf) (f:Fm) (L:List Sv) (x:Sv) (xt t:Tk) (rl:Value) (dep:Nat->Int) (wh:Bool) (w:World) (h:Ct w c f L x xt t rl dep wh) (b1:0<=xt.off/\xt.off<=65535) (b2:0<=xt.siz/\xt.siz<=65535) (b3:0<=t.siz/\t.siz<=65535) :
  Calls Tryz.prog 107 #[.pointer (some ⟨c.B,0,none⟩),.pointer (some ⟨c.g,c.o+c.i*21,none⟩)] w fun r w'=>r = .returned (.bool (memT x xt t))/\Kb [c.go] w w'/\(memT x xt t=true->Ct w' c f L (memX x t) xt t rl dep wh):=by
 have cT:=top_any c.B c.go L.length c.cap w h.ck.c0 h.ln
 have u1:IntKind.i64.wrap (xt.off+xt.siz)=xt.off+xt.siz:=by rw[IntKind.wrap_i64];omega
 have u2:IntKind.i64.wrap (xt.off+xt.siz-t.siz)=xt.off+xt.siz-t.siz:=by rw[IntKind.wrap_i64];omega
 replace h:=Hid.mk h
 obtain⟨q,hq⟩:∃ q,bet t.off xt.off (xt.off+xt.siz-t.siz)=q:=⟨_,rfl⟩
 have u3:q=true->IntKind.i64.wrap (t.off+t.siz)=t.off+t.siz:=fun e=>by
  rw[e] at hq
  have:=betT hq
  rw[IntKind.wrap_i64];omega
 unfold memT memX
 rw[hq]
 rcases(show q=false\/(q=true/\t.siz=0)\/(q=true/\t.siz≠0) from by cases q<;>simp<;>omega) with e0|⟨e0,e1⟩|⟨e0,e1⟩
 ·rw[e0]
  go_enter Tryz.func107,Tryz.ntmps107
  go_wp2_with (go_at_call 78;refine cT.mono ?_;rintro _ w1 ⟨rfl,hb⟩)
  have h1:=h.out.below hb
  obtain⟨pc,cc,hT,hU,hcc,kT⟩:=h1.tk
  obtain⟨px,cx,hX,kX⟩:=h1.xk
  have hS:=h1.sc
  have hC:=h1.ck
  have hF:=h1.fm
  have hlg:=h1.lg
  have hlo:=h1.op.lt
  have hlf:=h1.fl
  obtain⟨p,pB,pK,hN,t3,t4,x3,x4,s0,cN⟩:∃ p:World->Prop,(∀ W,p W->Kb [] w1 W) /\
   (∀ W,Kb [] w1 W->p W) /\
   Nonempty (CW p) /\
   (∀ θ:CW p,θ.w.cell? ⟨c.g,c.o+c.i*21+3,none⟩=some (.int .i64 t.off)) /\
   (∀ θ:CW p,θ.w.cell? ⟨c.g,c.o+c.i*21+4,none⟩=some (.int .i64 t.siz)) /\
   (∀ θ:CW p,θ.w.cell? ⟨c.g,c.o+x.at_*21+3,none⟩=some (.int .i64 xt.off)) /\
   (∀ θ:CW p,θ.w.cell? ⟨c.g,c.o+x.at_*21+4,none⟩=some (.int .i64 xt.siz)) /\
   (∀ θ:CW p,θ.w.cell? ⟨c.go,L.length*8,none⟩=some (.pointer (some ⟨c.g,c.o+x.at_*21,none⟩))) /\
   (∀ W,p W->Calls Tryz.prog 61 #[.int .i64 t.off,.int .i64 xt.off,.int .i64 (xt.off+xt.siz-t.siz)] W fun e w'=>e = .returned (.bool (bet t.off xt.off (xt.off+xt.siz-t.siz)))/\p w') :=
   ⟨Kb [] w1,
   fun _ h=>h,
   fun _ h=>h,
   ⟨⟨_,Kb.refl _ _⟩⟩,
   fun θ=>(θ.h.cell hlg List.not_mem_nil).trans hT.c3,
   fun θ=>(θ.h.cell hlg List.not_mem_nil).trans hT.c4,
   fun θ=>(θ.h.cell hlg List.not_mem_nil).trans hX.c3,
   fun θ=>(θ.h.cell hlg List.not_mem_nil).trans hX.c4,
   fun θ=>(θ.h.cell hlo List.not_mem_nil).trans hS.c0,
   callS (isBetween_any _ _ _)⟩
  clear hT hX hS hC hF hU hcc hlg hlo hlf
  replace h1:=Hid.mk h1
  rw[hq,e0] at cN
  refine wp_region_lp p (by kernel_rfl) (by kernel_rfl) (fun _ _ d _ _ h=>by cases d<;>exact h) (pK _ (Kb.refl _ _).drew) fun W hp=>?_
  repeat (first|(refine lx_one rfl ?_;(first|go_big_quiet_skip|(go_big_quiet_want;go_big_quiet_op;go_big_quiet_on));refine wpQuiet_nil ?_)|(refine lx_p3 ent_isBetween cN hp rfl rfl rfl (by rfl) ?_;intro W hp;simp only[pts])|(refine lx_skip (by rfl) ?_;simp only[pts]))
  refine lx_done ?_
  have hW:Below w1.heap.size w1 W:=Kb0 (pB _ hp)
  go_wp2_with fail
  all_goals
   go_ret
   exact⟨rfl,Kb.of_below (hb.trans (hW.mono hb.size))⟩
 ·have d1:(t.siz==0)=true:=beq_iff_eq.2 e1
  rw[e0,decide_eq_true e1,if_pos e1]
  clear e1
  go_enter Tryz.func107,Tryz.ntmps107
  go_wp2_with (go_at_call 78;refine cT.mono ?_;rintro _ w1 ⟨rfl,hb⟩)
  have h1:=h.out.below hb
  obtain⟨pc,cc,hT,hU,hcc,kT⟩:=h1.tk
  obtain⟨px,cx,hX,kX⟩:=h1.xk
  have hS:=h1.sc
  have hC:=h1.ck
  have hF:=h1.fm
  have hlg:=h1.lg
  have hlo:=h1.op.lt
  have hlf:=h1.fl
  obtain⟨p,pB,pK,hN,t3,t4,x3,x4,s0,cN⟩:∃ p:World->Prop,(∀ W,p W->Kb [] w1 W) /\
   (∀ W,Kb [] w1 W->p W) /\
   Nonempty (CW p) /\
   (∀ θ:CW p,θ.w.cell? ⟨c.g,c.o+c.i*21+3,none⟩=some (.int .i64 t.off)) /\
   (∀ θ:CW p,θ.w.cell? ⟨c.g,c.o+c.i*21+4,none⟩=some (.int .i64 t.siz)) /\
   (∀ θ:CW p,θ.w.cell? ⟨c.g,c.o+x.at_*21+3,none⟩=some (.int .i64 xt.off)) /\
   (∀ θ:CW p,θ.w.cell? ⟨c.g,c.o+x.at_*21+4,none⟩=some (.int .i64 xt.siz)) /\
   (∀ θ:CW p,θ.w.cell? ⟨c.go,L.length*8,none⟩=some (.pointer (some ⟨c.g,c.o+x.at_*21,none⟩))) /\
   (∀ W,p W->Calls Tryz.prog 61 #[.int .i64 t.off,.int .i64 xt.off,.int .i64 (xt.off+xt.siz-t.siz)] W fun e w'=>e = .returned (.bool (bet t.off xt.off (xt.off+xt.siz-t.siz)))/\p w') :=
   ⟨Kb [] w1,
   fun _ h=>h,
   fun _ h=>h,
   ⟨⟨_,Kb.refl _ _⟩⟩,
   fun θ=>(θ.h.cell hlg List.not_mem_nil).trans hT.c3,
   fun θ=>(θ.h.cell hlg List.not_mem_nil).trans hT.c4,
   fun θ=>(θ.h.cell hlg List.not_mem_nil).trans hX.c3,
   fun θ=>(θ.h.cell hlg List.not_mem_nil).trans hX.c4,
   fun θ=>(θ.h.cell hlo List.not_mem_nil).trans hS.c0,
   callS (isBetween_any _ _ _)⟩
  clear hT hX hS hC hF hU hcc hlg hlo hlf
  replace h1:=Hid.mk h1
  rw[hq,e0] at cN
  refine wp_region_lp p (by kernel_rfl) (by kernel_rfl) (fun _ _ d _ _ h=>by cases d<;>exact h) (pK _ (Kb.refl _ _).drew) fun W hp=>?_
  repeat (first|(refine lx_one rfl ?_;(first|go_big_quiet_skip|(go_big_quiet_want;go_big_quiet_op;go_big_quiet_on));refine wpQuiet_nil ?_)|(refine lx_p3 ent_isBetween cN hp rfl rfl rfl (by rfl) ?_;intro W hp;simp only[pts])|(refine lx_skip (by rfl) ?_;simp only[pts]))
  refine lx_done ?_
  have hW:Below w1.heap.size w1 W:=Kb0 (pB _ hp)
  have y4:W.cell? ⟨c.g,c.o+c.i*21+4,none⟩=some (.int .i64 t.siz):=t4 ⟨W,hp⟩
  go_wp2_with fail
  go_ret
  exact⟨rfl,Kb.of_below (hb.trans (hW.mono hb.size)),fun _=>h1.out.below hW⟩
 ·have d1:(t.siz==0)=false:=beq_eq_false_iff_ne.2 e1
  rw[e0,decide_eq_false e1,if_neg e1]
  clear e1
  go_enter Tryz.func107,Tryz.ntmps107
  go_wp2_with (go_at_call 78;refine cT.mono ?_;rintro _ w1 ⟨rfl,hb⟩)
  have h1:=h.out.below hb
  obtain⟨pc,cc,hT,hU,hcc,kT⟩:=h1.tk
  obtain⟨px,cx,hX,kX⟩:=h1.xk
  have hS:=h1.sc
  have hC:=h1.ck
  have hF:=h1.fm
  have hlg:=h1.lg
  have hlo:=h1.op.lt
  have hlf:=h1.fl
  obtain⟨p,pB,pK,hN,t3,t4,x3,x4,s0,cN⟩:∃ p:World->Prop,(∀ W,p W->Kb [] w1 W) /\
   (∀ W,Kb [] w1 W->p W) /\
   Nonempty (CW p) /\
   (∀ θ:CW p,θ.w.cell? ⟨c.g,c.o+c.i*21+3,none⟩=some (.int .i64 t.off)) /\
   (∀ θ:CW p,θ.w.cell? ⟨c.g,c.o+c.i*21+4,none⟩=some (.int .i64 t.siz)) /\
   (∀ θ:CW p,θ.w.cell? ⟨c.g,c.o+x.at_*21+3,none⟩=some (.int .i64 xt.off)) /\
   (∀ θ:CW p,θ.w.cell? ⟨c.g,c.o+x.at_*21+4,none⟩=some (.int .i64 xt.siz)) /\
   (∀ θ:CW p,θ.w.cell? ⟨c.go,L.length*8,none⟩=some (.pointer (some ⟨c.g,c.o+x.at_*21,none⟩))) /\
   (∀ W,p W->Calls Tryz.prog 61 #[.int .i64 t.off,.int .i64 xt.off,.int .i64 (xt.off+xt.siz-t.siz)] W fun e w'=>e = .returned (.bool (bet t.off xt.off (xt.off+xt.siz-t.siz)))/\p w') :=
   ⟨Kb [] w1,
   fun _ h=>h,
   fun _ h=>h,
   ⟨⟨_,Kb.refl _ _⟩⟩,
   fun θ=>(θ.h.cell hlg List.not_mem_nil).trans hT.c3,
   fun θ=>(θ.h.cell hlg List.not_mem_nil).trans hT.c4,
   fun θ=>(θ.h.cell hlg List.not_mem_nil).trans hX.c3,
   fun θ=>(θ.h.cell hlg List.not_mem_nil).trans hX.c4,
   fun θ=>(θ.h.cell hlo List.not_mem_nil).trans hS.c0,
   callS (isBetween_any _ _ _)⟩
  clear hT hX hS hC hF hU hcc hlg hlo hlf
  replace h1:=Hid.mk h1
  rw[hq,e0] at cN
  refine wp_region_lp p (by kernel_rfl) (by kernel_rfl) (fun _ _ d _ _ h=>by cases d<;>exact h) (pK _ (Kb.refl _ _).drew) fun W hp=>?_
  repeat (first|(refine lx_one rfl ?_;(first|go_big_quiet_skip|(go_big_quiet_want;go_big_quiet_op;go_big_quiet_on));refine wpQuiet_nil ?_)|(refine lx_p3 ent_isBetween cN hp rfl rfl rfl (by rfl) ?_;intro W hp;simp only[pts])|(refine lx_skip (by rfl) ?_;simp only[pts]))
  refine lx_done ?_
  have hW:Below w1.heap.size w1 W:=Kb0 (pB _ hp)
  have y4:W.cell? ⟨c.g,c.o+c.i*21+4,none⟩=some (.int .i64 t.siz):=t4 ⟨W,hp⟩
  have h2:=h1.out.below hW
  have z6:=h2.sc.c6
  have zf:=h2.op.frz (L.length*8+6)
  have z6:=z6
  clear hN t3 t4 x3 x4 s0 cN pB pK hp
  have u3:=u3 e0
  obtain⟨w3,hw3⟩:∃ w3,w3=W:=⟨_,rfl⟩
  subst hw3
  go_wp2_with fail
  obtain⟨pc,cc,hT,hU,hcc,kT⟩:=h2.tk
  obtain⟨px,cx,hX,kX⟩:=h2.xk
  have hS:=h2.sc
  have hC:=h2.ck
  have hF:=h2.fm
  have hlg:=h2.lg
  have hlo:=h2.op.lt
  have hlf:=h2.fl
  have ho:c.g≠c.go:=by have:=h2.ap.g;have:=h2.ap.go;omega
  obtain⟨p,pB,pK,hN,t3,t4⟩:∃ p:World->Prop,(∀ W,p W->Kb [c.go] w3 W) /\
   (∀ W,Kb [c.go] w3 W->p W) /\
   Nonempty (CW p) /\
   (∀ θ:CW p,θ.w.cell? ⟨c.g,c.o+c.i*21+3,none⟩=some (.int .i64 t.off)) /\
   (∀ θ:CW p,θ.w.cell? ⟨c.g,c.o+c.i*21+4,none⟩=some (.int .i64 t.siz)) :=
   ⟨Kb [c.go] w3,
   fun _ h=>h,
   fun _ h=>h,
   ⟨⟨_,Kb.refl _ _⟩⟩,
   fun θ=>(θ.h.cell hlg (notin1 ho)).trans hT.c3,
   fun θ=>(θ.h.cell hlg (notin1 ho)).trans hT.c4⟩
  clear hT hX hS hC hF hU hcc hlg hlo hlf ho
  replace h2:=Hid.mk h2
  refine wp_region_lx p (by kernel_rfl) (by kernel_rfl) (fun _ _ d _ _ h=>by cases d<;>exact h) (pK _ (Kb.refl _ _).drew) ?_
  repeat (first|(refine lx_one rfl ?_;(first|go_big_quiet_skip|(go_big_quiet_want;go_big_quiet_op;go_big_quiet_on));refine wpQuiet_nil ?_)|(refine lx_skip (by rfl) ?_;simp only[pts]))
  refine lx_act (by rfl) (by rfl) ?_
  intro K hK
  go_simp
  refine hK _ _ ⟨⟨_,pK _ ((Kb.refl _ _).set (List.mem_singleton.2 rfl) _).drew⟩,rfl⟩ ?_
  clear hK K
  try simp only[pts]
  have h3:Ct (w3.setCell ⟨c.go,L.length*8+6,none⟩ (.int .i64 (t.off+t.siz))).drew c f L { x with en:=t.off+t.siz } xt t rl dep wh:=(h2.out.wrote (x':={ x with en:=t.off+t.siz }) (j:=6) (v:=.int .i64 (t.off+t.siz)) (by decide) rfl rfl).below (tdr1 (Below.refl _ _))
  have hk3:Kb [c.go] w (w3.setCell ⟨c.go,L.length*8+6,none⟩ (.int .i64 (t.off+t.siz))).drew:=((Kb.of_below (hb.trans (hW.mono hb.size))).set (List.mem_singleton.2 rfl) _).drew
  generalize (w3.setCell ⟨c.go,L.length*8+6,none⟩ (.int .i64 (t.off+t.siz))).drew=w4 at h3 hk3 ⊢
  refine lx_done ?_
  obtain⟨_,_,hT3,_⟩:=h3.tk
  have y3:=hT3.c3
  clear hT3
  replace h3:=Hid.mk h3
  go_wp2_with fail
  go_ret
  exact⟨rb (by simp),hk3,fun _=>h3.out⟩
structure Lft (E:List Nat) (w w':World) (b:Bool) (C:Prop):Prop where
 kb:Kb E w w'
 ct:b=true->C
def plcT (x:Sv) (xt t:Tk):Bool:=bet t.siz 0 65535&&bet t.pres 0 2&&(if xt.op=2 then decide (t.off=0) else if xt.op=10 then codT xt t&&decide (t.prim≠9)&&decide (t.prim≠10) else if xt.op=12 then codT xt t&&bet t.prim 5 8 else memT x xt t)
def plcX (x:Sv) (xt t:Tk):Sv:=if xt.op=2 then x else if xt.op=10\/xt.op=12 then { x with cod:=t.prim } else memX x t
theorem isPlaced_any (c:Cf) (f:Fm) (L:List Sv) (x:Sv) (xt t:Tk) (rl:Value) (dep:Nat->Int) (wh:Bool) (w:World) (h:Ct w c f L x xt t rl dep wh) (b0:xt.op=2\/xt.op=8\/xt.op=10\/xt.op=12) (b1:0<=xt.off/\xt.off<=65535) (b2:0<=xt.siz/\xt.siz<=65535) :
  Calls Tryz.prog 69 #[.pointer (some ⟨c.B,0,none⟩),.pointer (some ⟨c.g,c.o+c.i*21,none⟩)] w fun r w'=>r = .returned (.bool (plcT x xt t))/\Lft [c.go] w w' (plcT x xt t) (Ct w' c f L (plcX x xt t) xt t rl dep wh):=by
 have cT:=top_any c.B c.go L.length c.cap w h.ck.c0 h.ln
 have cC:=fun W (hW:Below w.heap.size w W)=>isCoding_any c f L x xt t rl dep wh W (h.below hW)
 have cM:=fun W (hW:Below w.heap.size w W) b3=>isMember_any c f L x xt t rl dep wh W (h.below hW) b1 b2 b3
 have hY:∀ W,Below w.heap.size w W->W.cell? ⟨c.go,L.length*8,none⟩=some (.pointer (some ⟨c.g,c.o+x.at_*21,none⟩))/\W.cell? ⟨c.g,c.o+x.at_*21,none⟩=some (.int .i64 xt.op)/\W.cell? ⟨c.g,c.o+c.i*21+3,none⟩=some (.int .i64 t.off):=fun W hW=>by
  obtain⟨pc,cc,hT,_⟩:=(h.below hW).tk
  obtain⟨px,cx,hX,_⟩:=(h.below hW).xk
  exact⟨(h.below hW).sc.c0,hX.c0,hT.c3⟩
 have hZ:∀ W,Ct W c f L { x with cod:=t.prim } xt t rl dep wh->W.cell? ⟨c.g,c.o+c.i*21+6,none⟩=some (.int .i64 t.prim):=fun W hW=>by
  obtain⟨pc,cc,hT,_⟩:=hW.tk
  exact hT.c6
 obtain⟨pc,cc,hT,_⟩:=h.tk
 have t4:=hT.c4
 have t8:=hT.c8
 clear hT
 replace h:=Hid.mk h
 have cB1:=isBetween_any t.siz 0 65535
 have cB2:=isBetween_any t.pres 0 2
 have cB3:=isBetween_any t.prim 5 8
 unfold plcT plcX
 obtain⟨q1,hq1⟩:∃ q,bet t.siz 0 65535=q:=⟨_,rfl⟩
 obtain⟨q2,hq2⟩:∃ q,bet t.pres 0 2=q:=⟨_,rfl⟩
 have b3:q1=true->0<=t.siz/\t.siz<=65535:=fun e=>betT (hq1.trans e)
 rw[hq1] at cB1 ⊢
 rw[hq2] at cB2 ⊢
 clear hq1 hq2
 rcases ch2 q1 q2 with e1|⟨e1,e2⟩|⟨e1,e2⟩
 ·subst e1
  go_enter Tryz.func69,Tryz.ntmps69
  go_wp2_with (first|(go_at_call_of 61 (Value.int .i64 t.siz);refine(cB1 _).mono ?_;rintro _ _ ⟨rfl,rfl⟩))
  all_goals
   go_ret
   exact⟨rfl,Kb.refl _ _,fun e=>by simp at e⟩
 ·subst e1 e2
  go_enter Tryz.func69,Tryz.ntmps69
  go_wp2_with (first|(go_at_call_of 61 (Value.int .i64 t.siz);refine(cB1 _).mono ?_;rintro _ _ ⟨rfl,rfl⟩)|(go_at_call_of 61 (Value.int .i64 t.pres);refine(cB2 _).mono ?_;rintro _ _ ⟨rfl,rfl⟩))
  all_goals
   go_ret
   exact⟨rfl,Kb.refl _ _,fun e=>by simp at e⟩
 ·subst e1 e2
  have b4:=b3 rfl
  clear b3
  rcases b0 with e|e|e|e
  ·have d2:(xt.op==2)=true:=beq_iff_eq.2 e
   rw[if_pos e,if_pos e,<- beqD]
   clear e
   go_enter Tryz.func69,Tryz.ntmps69
   go_wp2_with (first|(go_at_call_of 61 (Value.int .i64 t.siz);refine(cB1 _).mono ?_;rintro _ _ ⟨rfl,rfl⟩)|(go_at_call_of 61 (Value.int .i64 t.pres);refine(cB2 _).mono ?_;rintro _ _ ⟨rfl,rfl⟩)|(go_at_call 78;refine cT.mono ?_;rintro _ w1 ⟨rfl,hb⟩;obtain⟨y0,y1,y3⟩:=hY _ hb;clear hY))
   all_goals
    go_ret
    exact⟨rb (by simp),Kb.of_below hb,fun _=>h.out.below hb⟩
  ·have d2:(xt.op==2)=false:=beqN (by omega)
   have d10:(xt.op==10)=false:=beqN (by omega)
   have d12:(xt.op==12)=false:=beqN (by omega)
   rw[if_neg (by omega),if_neg (by omega),if_neg (by omega),if_neg (by omega),if_neg (by omega)]
   clear e
   go_enter Tryz.func69,Tryz.ntmps69
   go_wp2_with (first|(go_at_call_of 61 (Value.int .i64 t.siz);refine(cB1 _).mono ?_;rintro _ _ ⟨rfl,rfl⟩)|(go_at_call_of 61 (Value.int .i64 t.pres);refine(cB2 _).mono ?_;rintro _ _ ⟨rfl,rfl⟩)|(go_at_call 78;refine cT.mono ?_;rintro _ w1 ⟨rfl,hb⟩;obtain⟨y0,y1,y3⟩:=hY _ hb;clear hY)|(go_at_call 107;refine(cM _ hb b4).mono ?_;rintro _ w2 ⟨rfl,hk2,h2⟩))
   all_goals
    go_ret
    exact⟨rb (by simp),(Kb.of_below hb).trans hk2,fun e=>h2 (by simpa using e)⟩
  ·have d2:(xt.op==2)=false:=beqN (by omega)
   have d10:(xt.op==10)=true:=beq_iff_eq.2 e
   rw[if_neg (by omega),if_pos e,if_neg (by omega),if_pos (.inl e)]
   clear e
   obtain⟨q3,hq3⟩:∃ q,codT xt t=q:=⟨_,rfl⟩
   rw[hq3] at cC ⊢
   clear hq3
   rcases Bool.eq_false_or_eq_true q3 with e3|e3
   ·subst e3
    by_cases e9:t.prim=9
    ·have d9:(t.prim==9)=true:=beq_iff_eq.2 e9
     replace e9:=Hid.mk e9
     go_enter Tryz.func69,Tryz.ntmps69
     go_wp2_with (first|(go_at_call_of 61 (Value.int .i64 t.siz);refine(cB1 _).mono ?_;rintro _ _ ⟨rfl,rfl⟩)|(go_at_call_of 61 (Value.int .i64 t.pres);refine(cB2 _).mono ?_;rintro _ _ ⟨rfl,rfl⟩)|(go_at_call 78;refine cT.mono ?_;rintro _ w1 ⟨rfl,hb⟩;obtain⟨y0,y1,y3⟩:=hY _ hb;clear hY)|(go_at_call 106;refine(cC _ hb).mono ?_;rintro _ w2 ⟨rfl,h2,hk2⟩;have y6:=hZ _ h2;clear hZ))
     all_goals
      go_ret
      exact⟨rb (by simp[e9.out]),(Kb.of_below hb).trans hk2,fun e=>by simp[e9.out] at e⟩
    ·have d9:(t.prim==9)=false:=beqN e9
     have d9n:(t.prim != 9)=true:=bne_iff_ne.2 e9
     by_cases e10:t.prim=10
     ·have d10p:(t.prim==10)=true:=beq_iff_eq.2 e10
      replace e9:=Hid.mk e9
      replace e10:=Hid.mk e10
      go_enter Tryz.func69,Tryz.ntmps69
      go_wp2_with (first|(go_at_call_of 61 (Value.int .i64 t.siz);refine(cB1 _).mono ?_;rintro _ _ ⟨rfl,rfl⟩)|(go_at_call_of 61 (Value.int .i64 t.pres);refine(cB2 _).mono ?_;rintro _ _ ⟨rfl,rfl⟩)|(go_at_call 78;refine cT.mono ?_;rintro _ w1 ⟨rfl,hb⟩;obtain⟨y0,y1,y3⟩:=hY _ hb;clear hY)|(go_at_call 106;refine(cC _ hb).mono ?_;rintro _ w2 ⟨rfl,h2,hk2⟩;have y6:=hZ _ h2;clear hZ))
      all_goals
       go_ret
       exact⟨rb (by simp[e10.out]),(Kb.of_below hb).trans hk2,fun e=>by simp[e10.out] at e⟩
     ·have d10p:(t.prim==10)=false:=beqN e10
      have d10n:(t.prim != 10)=true:=bne_iff_ne.2 e10
      replace e9:=Hid.mk e9
      replace e10:=Hid.mk e10
      go_enter Tryz.func69,Tryz.ntmps69
      go_wp2_with (first|(go_at_call_of 61 (Value.int .i64 t.siz);refine(cB1 _).mono ?_;rintro _ _ ⟨rfl,rfl⟩)|(go_at_call_of 61 (Value.int .i64 t.pres);refine(cB2 _).mono ?_;rintro _ _ ⟨rfl,rfl⟩)|(go_at_call 78;refine cT.mono ?_;rintro _ w1 ⟨rfl,hb⟩;obtain⟨y0,y1,y3⟩:=hY _ hb;clear hY)|(go_at_call 106;refine(cC _ hb).mono ?_;rintro _ w2 ⟨rfl,h2,hk2⟩;have y6:=hZ _ h2;clear hZ))
      all_goals
       go_ret
       exact⟨rb (by simp[e9.out,e10.out]),(Kb.of_below hb).trans hk2,fun _=>h2⟩
   ·subst e3
    go_enter Tryz.func69,Tryz.ntmps69
    go_wp2_with (first|(go_at_call_of 61 (Value.int .i64 t.siz);refine(cB1 _).mono ?_;rintro _ _ ⟨rfl,rfl⟩)|(go_at_call_of 61 (Value.int .i64 t.pres);refine(cB2 _).mono ?_;rintro _ _ ⟨rfl,rfl⟩)|(go_at_call 78;refine cT.mono ?_;rintro _ w1 ⟨rfl,hb⟩;obtain⟨y0,y1,y3⟩:=hY _ hb;clear hY)|(go_at_call 106;refine(cC _ hb).mono ?_;rintro _ w2 ⟨rfl,h2,hk2⟩;have y6:=hZ _ h2;clear hZ))
    all_goals
     go_ret
     exact⟨rb (by simp),(Kb.of_below hb).trans hk2,fun e=>by simp at e⟩
  ·have d2:(xt.op==2)=false:=beqN (by omega)
   have d10:(xt.op==10)=false:=beqN (by omega)
   have d12:(xt.op==12)=true:=beq_iff_eq.2 e
   rw[if_neg (by omega),if_neg (by omega),if_pos e,if_neg (by omega),if_pos (.inr e)]
   clear e
   obtain⟨q3,hq3⟩:∃ q,codT xt t=q:=⟨_,rfl⟩
   rw[hq3] at cC ⊢
   clear hq3
   rcases Bool.eq_false_or_eq_true q3 with e3|e3
   ·subst e3
    go_enter Tryz.func69,Tryz.ntmps69
    go_wp2_with (first|(go_at_call_of 61 (Value.int .i64 t.siz);refine(cB1 _).mono ?_;rintro _ _ ⟨rfl,rfl⟩)|(go_at_call_of 61 (Value.int .i64 t.pres);refine(cB2 _).mono ?_;rintro _ _ ⟨rfl,rfl⟩)|(go_at_call 78;refine cT.mono ?_;rintro _ w1 ⟨rfl,hb⟩;obtain⟨y0,y1,y3⟩:=hY _ hb;clear hY)|(go_at_call 106;refine(cC _ hb).mono ?_;rintro _ w2 ⟨rfl,h2,hk2⟩;have y6:=hZ _ h2;clear hZ)|(go_at_call_of 61 (Value.int .i64 t.prim);refine(cB3 _).mono ?_;rintro _ _ ⟨rfl,rfl⟩))
    all_goals
     go_ret
     exact⟨rb (by simp),(Kb.of_below hb).trans hk2,fun _=>h2⟩
   ·subst e3
    go_enter Tryz.func69,Tryz.ntmps69
    go_wp2_with (first|(go_at_call_of 61 (Value.int .i64 t.siz);refine(cB1 _).mono ?_;rintro _ _ ⟨rfl,rfl⟩)|(go_at_call_of 61 (Value.int .i64 t.pres);refine(cB2 _).mono ?_;rintro _ _ ⟨rfl,rfl⟩)|(go_at_call 78;refine cT.mono ?_;rintro _ w1 ⟨rfl,hb⟩;obtain⟨y0,y1,y3⟩:=hY _ hb;clear hY)|(go_at_call 106;refine(cC _ hb).mono ?_;rintro _ w2 ⟨rfl,h2,hk2⟩;have y6:=hZ _ h2;clear hZ))
    all_goals
     go_ret
     exact⟨rb (by simp),(Kb.of_below hb).trans hk2,fun e=>by simp at e⟩
end Go.Proofs.YtjnafpefolgcoaaGreatDoor
