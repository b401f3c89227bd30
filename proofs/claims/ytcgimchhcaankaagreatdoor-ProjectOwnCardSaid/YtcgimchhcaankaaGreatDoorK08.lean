import Derived.Test.YtcgimchhcaankaaGreatDoorK07
namespace Go.Proofs.YtcgimchhcaankaaGreatDoor
set_option maxRecDepth 1000000
set_option maxHeartbeats 16000000
open Go.ChangeShapes Go.WideShapes Go.ChangeAt Go.RowKit Go.Shelf Go.Maps
theorem frz_at {W:World} {h i:Nat} {cs:Array Value} {ty:TypeId} (h1:W.heap[h]?=some (.cells cs ty)):W.frozen? ⟨h,i,none⟩=false:=by simp[World.frozen?,h1]
theorem set_at {W:World} {h i:Nat} {cs:Array Value} {ty:TypeId} (h1:W.heap[h]?=some (.cells cs ty)) (v:Value):(W.setCell ⟨h,i,none⟩ v).heap[h]?=some (.cells (cs.setIfInBounds i v) ty):=by
 show (W.heap.modify h _)[h]?=_
 rw[Array.getElem?_modify,if_pos rfl,h1]
 rfl
theorem set_off {W:World} {h i k:Nat} {v:Value} (hk:k≠h):(W.setCell ⟨h,i,none⟩ v).heap[k]?=W.heap[k]?:=by
 show (W.heap.modify h _)[k]?=_
 rw[Array.getElem?_modify,if_neg (Ne.symm hk)]
theorem st_il {W:World} {b i:Nat} {v:Value} {p:Option Addr} {n k:Nat} (h:W.cell? ⟨b,i,none⟩=some v) (hf:W.frozen? ⟨b,i,none⟩=false):(Instr.storeAt 41 (.pointer (some ⟨b,i,none⟩)) (.slice p n k)).run Tryz.prog W = .ok () (W.setCell ⟨b,i,none⟩ (.slice p n k)):=by
 simp[go_sem,h,hf]
theorem Hs.setO {W:World} {B h tb:Nat} {st' cs:List Nat} {vo vc v':Value} (hb:B<=h) (h1:W.heap[h]?=some (.cells #[vo,vc] 86)) (h2:NRow W B v' st'.reverse) (h3:NRow W B vc cs) (h4:∀ k,v'.ownBlock=some k->k≠h/\vc.ownBlock≠some k) (h5:∀ k,vc.ownBlock=some k->k≠h) (h6:tb≠h) (h7:v'.ownBlock≠some tb):Hs (W.setCell ⟨h,0,none⟩ v') B h tb st' cs vc :=
 ⟨⟨v',set_at h1 v',h2.keepP fun k hk=>set_off (h4 k hk).1,h3.keepP fun k hk=>set_off (h5 k hk),h4,h5,h6,h7⟩,hb⟩
theorem Hs.setC {W:World} {B h tb:Nat} {st cs':List Nat} {vo vc v':Value} (hb:B<=h) (h1:W.heap[h]?=some (.cells #[vo,vc] 86)) (h2:NRow W B vo st.reverse) (h3:NRow W B v' cs') (h4:∀ k,vo.ownBlock=some k->k≠h/\v'.ownBlock≠some k) (h5:∀ k,v'.ownBlock=some k->k≠h) (h6:tb≠h) (h7:vo.ownBlock≠some tb):Hs (W.setCell ⟨h,1,none⟩ v') B h tb st cs' v' :=
 ⟨⟨vo,set_at h1 v',h2.keepP fun k hk=>set_off (h4 k hk).1,h3.keepP fun k hk=>set_off (h5 k hk),h4,h5,h6,h7⟩,hb⟩
theorem pPush_any {W:World} {B h tb:Nat} {st cs:List Nat} {vc:Value} (H:Hs W B h tb st cs vc) (c:Nat) (hl:st.length+1<=1000000000000) (hB:B<=W.heap.size) (htb:tb<W.heap.size) :
  Calls Tryz.prog 62 #[.pointer (some ⟨h,0,none⟩),.int .i64 (c:Int)] W fun e w'=>e = .returned (.tuple #[])/\Hs w' B h tb (c::st) cs vc/\Below B W w'/\w'.heap[tb]?=W.heap[tb]?:=by
 have hlt:=H.lt
 have hBh:=H.b
 obtain⟨vo,h1,h2,h3,h4,h5,h6,h7⟩:=H.c
 have hap:Hid _:=⟨i_apP c h2 (by rw[List.length_reverse];exact hl) hB⟩
 have c0:W.cell? ⟨h,0,none⟩=some vo:=cell_at h1 0
 have c0':∀ o,(W.alloc o).cell? ⟨h,0,none⟩=some vo:=fun o=>((bel1 W o).cell (p:=⟨h,0,none⟩) hlt).trans c0
 have FIN:Hid (∀ v' w',NRow w' B v' (st.reverse++[c])->Below B W w'->(∀ j,j<W.heap.size->vo.ownBlock≠some j->w'.heap[j]?=W.heap[j]?)->(∀ k,v'.ownBlock=some k->vo.ownBlock=some k\/W.heap.size<=k)->w'.heap[h]?=some (.cells #[vo,vc] 86)/\Hs (w'.setCell ⟨h,0,none⟩ v') B h tb (c::st) cs vc/\Below B W (w'.setCell ⟨h,0,none⟩ v')/\(w'.setCell ⟨h,0,none⟩ v').heap[tb]?=W.heap[tb]?):=⟨fun v' w' q1 q2 q3 q4=>by
  have e1:w'.heap[h]?=some (.cells #[vo,vc] 86):=(q3 h hlt fun e=>(h4 h e).1 rfl).trans h1
  refine⟨e1,Hs.setO hBh e1 (by rw[List.reverse_cons];exact q1) (h3.keepP fun k hk=>q3 k (h3.ltP k hk).2 fun e=>(h4 k e).2 hk) (fun k hk=>?_) h5 h6 (fun e=>by rcases q4 tb e with e|e;exact h7 e;omega),q2.setCell (p:=⟨h,0,none⟩) hBh _,(set_off h6).trans (q3 tb htb h7)⟩
  rcases q4 k hk with e|e
  ·exact h4 k e
  ·exact⟨by omega,fun e2=>by have:=(h3.ltP k e2).2;omega⟩⟩
 obtain⟨po,co,rfl,-⟩:=h2.shape
 clear h1 h2 h3 h4 h5 h6 h7 H
 rw[List.length_reverse] at hap c0 c0' FIN
 go_enter Tryz.func62,Tryz.ntmps62
 go_wp2_with (at_builtin;go_must (refine(ap_step (by rfl) _ _ _ _ (by rfl) _ _ (by rfl) (by rfl) _ hap.out ?_));rintro v' w' ⟨q1,q2,q3,q4⟩;obtain⟨e1,hf⟩:=FIN.out v' w' q1 q2 q3 q4;obtain⟨pv,cv,rfl,-⟩:=q1.shape;have x1:w'.cell? ⟨h,0,none⟩=_:=cell_at e1 0;have x2:w'.frozen? ⟨h,0,none⟩=false:=frz_at e1;replace hf:=Hid.mk hf;clear q1 q2 q3 q4 e1)
 go_end0
 have hf':=hf.out
 simp only[List.length_append,List.length_reverse,List.length_singleton] at hf'
 exact⟨rfl,hf'⟩
theorem pPop_any {W:World} {B h tb:Nat} {c:Nat} {st cs:List Nat} {vc:Value} (H:Hs W B h tb (c::st) cs vc) (hl:st.length+1<=1000000000000) (hB:B<=W.heap.size) (htb:tb<W.heap.size) :
  Calls Tryz.prog 59 #[.pointer (some ⟨h,0,none⟩)] W fun e w'=>e = .returned (.int .i64 (c:Int))/\Hs w' B h tb st cs vc/\Below B W w'/\w'.heap[tb]?=W.heap[tb]?:=by
 have cT:=pTop_any H (by simpa using hl)
 have hd:(List.headD (c::st) 0:Nat)=c:=rfl
 rw[hd] at cT
 have FIN:Hid (∀ W1,Below W.heap.size W W1->∃ g co,co≥st.length+1/\W1.heap[h]?≠none/\W1.cell? ⟨h,0,none⟩=some (.slice (some ⟨g,0,none⟩) (st.length+1) co)/\W1.frozen? ⟨h,0,none⟩=false/\h<W1.heap.size/\Hid (∀ W2,Below W1.heap.size W1 W2->Hs (W2.setCell ⟨h,0,none⟩ (.slice (some ⟨g,0,none⟩) st.length co)) B h tb st cs vc/\Below B W (W2.setCell ⟨h,0,none⟩ (.slice (some ⟨g,0,none⟩) st.length co))/\(W2.setCell ⟨h,0,none⟩ (.slice (some ⟨g,0,none⟩) st.length co)).heap[tb]?=W.heap[tb]?)):=⟨fun W1 hb=>by
  have H1:=H.below hb
  have hlt:=H1.lt
  obtain⟨vo,h1,h2,h3,h4,h5,h6,h7⟩:=H1.c
  obtain⟨po,co,rfl,-⟩:=h2.shape
  rw[List.reverse_cons] at h2
  obtain⟨p1,p2,p3,g,rfl⟩:=h2.pop
  rw[List.length_reverse] at p1 p3
  refine⟨g,co,p3,by rw[h1];simp,by have:=cell_at h1 0;simpa using this,frz_at h1,hlt,⟨fun W2 hb2=>?_⟩⟩
  have e1:=(hb2.block _ hlt).trans h1
  exact⟨Hs.setO H.b e1 (p1.below hb2) (h3.below hb2) (fun k hk=>h4 k hk) h5 h6 h7,((hb.mono hB).trans (hb2.mono (Nat.le_trans hB hb.size))).setCell (p:=⟨h,0,none⟩) H.b _,(set_off h6).trans ((hb2.block tb (Nat.lt_of_lt_of_le htb hb.size)).trans (hb.block tb htb))⟩⟩
 clear H hd
 generalize st.length=n at *
 have lK:(n:Int)<(n:Int)+1:=by omega
 have hw1:IntKind.i64.wrap ((n:Int)+1-1)=(n:Int):=by rw[IntKind.wrap_i64];omega
 go_enter Tryz.func59,Tryz.ntmps59
 go_wp2_with (go_at_call 60;refine cT.mono ?_;rintro _ w1 ⟨rfl,hb1⟩;obtain⟨g,co,hco,-,x0,x1,xl,hf⟩:=FIN.out w1 hb1)
 obtain⟨p,p0,pB,pN,k0⟩:∃ p:World->Prop,p w1.drew/\(∀ V,p V->Below w1.heap.size w1 V)/\Nonempty (CW p)/\(∀ θ:CW p,θ.w.cell? ⟨h,0,none⟩=some (.slice (some ⟨g,0,none⟩) (n+1) co)) :=
  ⟨Below w1.heap.size w1,(Below.refl _ _).drew,fun _ h=>h,⟨⟨w1,Below.refl _ _⟩⟩,fun θ=>(θ.h.cell (p:=⟨h,0,none⟩) xl).trans x0⟩
 have z1:(n:Int)<=(co:Int):=by omega
 have z2:n<=co:=by omega
 clear FIN cT hb1
 refine wp_region_lw 14 (fun V=>∃ θ:CW p,V=θ.w) (by kernel_rfl) (by kernel_rfl) (fun _ _ d _ _ h=>by cases d<;>exact h) ⟨⟨_,p0⟩,rfl⟩ ?_
 repeat (refine lw_one rfl ?_;(first|go_big_quiet_skip|(go_big_quiet_want;go_big_quiet_op;go_big_quiet_on));refine wpQuiet_nil ?_)
 have y0:w1.drew.cell? ⟨h,0,none⟩=_:=x0
 have y1:w1.drew.frozen? ⟨h,0,none⟩=false:=x1
 refine lw_st (st_il y0 y1) rfl rfl (by rfl) ?_
 have F:=hf.out _ (pB _ p0)
 replace F:=Hid.mk F
 go_wp2_with fail
 go_ret
 exact⟨rfl,F.out⟩
theorem val_op {f:Fm} (hz:chkZ f=none) {i:Nat} {t:Tk} (ht:f.toks[i]?=some t):0<=t.op/\t.op<=15:=by
 obtain⟨hok,H⟩:=val_ok hz ht
 revert hok H
 generalize stA f i=s
 intro hok H
 obtain⟨o,ids⟩:=s
 cases o with
 | nil =>
  obtain⟨_,ho,_⟩:=okZ_nil hok
  omega
 | cons x o =>
  have h:inOk f (x::o) ids i x t=true:=hok
  have hx:=H.all x (List.mem_cons_self ..)
  cases he:edO t.op with
  | true =>
   unfold edO at he
   have:=decT he
   omega
  | false =>
   obtain⟨hm,_⟩:=inOk_in h he
   rcases may_typ hm he hx.beg with h|h|h|h
   ·have:=decT h.2.1;omega
   ·have:=decT h.2.2;omega
   ·have:=decT h.2;omega
   ·obtain⟨_,h|h⟩:=h<;>omega
theorem pPass_any {W:World} {B h tb:Nat} {st cs:List Nat} {vc:Value} (H:Hs W B h tb st cs vc) (t:Tk) (pc:Option Addr) (cc:Nat) (hl:st.length+1<=1000000000000) (hB:B<=W.heap.size) (htb:tb<W.heap.size) (hop:0<=t.op/\t.op<=15) (hs:0<=t.since) (he:edO t.op=true->st≠[]) :
  Calls Tryz.prog 46 #[.pointer (some ⟨h,0,none⟩),tkV t pc cc] W fun e w'=>e = .returned (.int .i64 (((camS st t).1:Nat):Int))/\Hs w' B h tb (camS st t).2 cs vc/\Below B W w'/\w'.heap[tb]?=W.heap[tb]?:=by
 have HB:=bel1 W (tkO t pc cc)
 have hA:=tk_of (heap_al W (tkO t pc cc))
 have HS:W.heap.size<(W.alloc (tkO t pc cc)).heap.size:=by simp
 generalize hW:W.alloc (tkO t pc cc)=W1 at hA HB HS
 have H1:=H.below HB
 have hB1:B<=W1.heap.size:=Nat.le_trans hB HB.size
 have c0:=hA.c0
 have cE:=pEnds_any t.op W1 hop
 have hT:Hid (TkC W1 W.heap.size 0 t pc cc):=⟨hA⟩
 simp only[tkO,tkC] at hW
 clear hA
 unfold camS
 cases hE:edO t.op with
 | true =>
  rw[hE] at cE
  obtain⟨c,r,rfl⟩:∃ c r,st=c::r:=by
   cases st with
   | nil=>exact absurd rfl (he hE)
   | cons c r=>exact⟨c,r,rfl⟩
  have cP:=pPop_any H1 (by simp at hl;omega) hB1 (Nat.lt_of_lt_of_le htb HB.size)
  have HT:Hid (W1.heap[tb]?=W.heap[tb]?):=⟨HB.block tb htb⟩
  rw[if_pos rfl]
  clear H H1 he
  go_enter Tryz.func46,Tryz.ntmps46
  go_wp2_with (first
   | (go_at_call 58;refine cE.mono ?_;rintro _ w1 ⟨rfl,e⟩;obtain rfl:W1=w1:=e.symm)
   | (go_at_call 59;refine cP.mono ?_;rintro _ w2 ⟨rfl,q1,q2⟩;replace q1:=Hid.mk q1;replace q2:=Hid.mk q2))
  go_ret
  exact⟨rfl,q1.out,(HB.mono hB).trans q2.out.1,q2.out.2.trans HT.out⟩
 | false =>
  rw[hE] at cE
  rw[if_neg (by decide)]
  obtain⟨s,hsn⟩:∃ s:Nat,t.since=s:=⟨t.since.toNat,by omega⟩
  have e1:t.since.toNat=s:=by omega
  rw[e1]
  have cT:=pTop_any (H1.below (Below.refl _ _).drew) (by omega)
  generalize st.headD 0=q at cT ⊢
  generalize hst2:(if bgO t.op=true then max q s::st else st)=st2
  replace hst2:=Hid.mk hst2
  have hsz:W.heap.size<W1.heap.size:=HS
  obtain⟨p,p0,pB,pI,pN,k5⟩:∃ p:World->Prop,p W1.drew/\(∀ V,p V->Below W1.heap.size W1 V)/\(∀ V,Below W1.heap.size W1 V->p V)/\Nonempty (CW p)/\(∀ θ:CW p,θ.w.cell? ⟨W.heap.size,5,none⟩=some (.int .i64 (s:Int))) :=
   ⟨Below W1.heap.size W1,(Below.refl _ _).drew,fun _ h=>h,fun _ h=>h,⟨⟨W1,Below.refl _ _⟩⟩,fun θ=>(θ.h.cell (p:=⟨W.heap.size,5,none⟩) hsz).trans (by have:=hT.out.c5;rw[hsn] at this;simpa using this)⟩
  have CB:Hid (∀ V,Below W1.heap.size W1 V->Calls Tryz.prog 61 #[.int .i64 t.op] V fun r w'=>r = .returned (.bool (bgO t.op))/\w'=V):=⟨fun V _=>pBegins_any t.op V hop⟩
  have CC:Hid (∀ V,Below W1.heap.size W1 V->V.cell? ⟨W.heap.size,0,none⟩=some (.int .i64 t.op)):=⟨fun V hV=>(hV.cell (p:=⟨W.heap.size,0,none⟩) hsz).trans hT.out.c0⟩
  have CP:Hid (∀ V,Below W1.heap.size W1 V->Calls Tryz.prog 62 #[.pointer (some ⟨h,0,none⟩),.int .i64 ((max q s:Nat):Int)] V fun e w'=>e = .returned (.tuple #[])/\Hs w' B h tb (max q s::st) cs vc/\Below B W w'/\w'.heap[tb]?=W.heap[tb]?):=⟨fun V hV=>(pPush_any (H1.below hV) (max q s) hl (Nat.le_trans hB1 hV.size) (Nat.lt_of_lt_of_le (Nat.lt_of_lt_of_le htb HB.size) hV.size)).mono fun e w' hP=>⟨hP.1,hP.2.1,((HB.mono hB).trans (hV.mono hB1)).trans hP.2.2.1,hP.2.2.2.trans ((hV.block tb (Nat.lt_of_lt_of_le htb HB.size)).trans (HB.block tb htb))⟩⟩
  have FN:Hid (∀ V,Below W1.heap.size W1 V->Hs V B h tb st cs vc/\Below B W V/\V.heap[tb]?=W.heap[tb]?):=⟨fun V hV=>⟨H1.below hV,(HB.mono hB).trans (hV.mono hB1),(hV.block tb (Nat.lt_of_lt_of_le htb HB.size)).trans (HB.block tb htb)⟩⟩
  clear H H1 he hsn e1 HB
  go_enter Tryz.func46,Tryz.ntmps46
  go_wp2_with (go_at_call 58;refine cE.mono ?_;rintro _ w1 ⟨rfl,e⟩;obtain rfl:W1=w1:=e.symm)
  refine wp_region_lz (fun V=>∃ θ:CW p,V=θ.w) [0,1,2,4,5,3,6,7] (by kernel_rfl) (by kernel_rfl) (fun _ _ d _ _ h=>by cases d<;>exact h) ⟨⟨_,p0⟩,rfl⟩ ?_
  repeat (refine ly_one rfl ?_;(first|go_big_quiet_skip|(go_big_quiet_want;go_big_quiet_op;go_big_quiet_on));refine wpQuiet_nil ?_)
  refine ly_call1 (R:=fun v w'=>v = .int .i64 (q:Int)/\Below W1.drew.heap.size W1.drew w') ent_pTop (cT.mono fun e w' hP=>⟨_,hP.1,rfl,hP.2⟩) rfl (by rfl) (fun v w2 hR=>?_)
  obtain⟨rfl,hb2⟩:=hR
  have hb3:Below W1.heap.size W1 w2:=(pB _ p0).trans (hb2.mono (pB _ p0).size)
  refine⟨_,fun _ h=>h,⟨⟨_,pI _ hb3⟩,rfl⟩,?_⟩
  simp only[pts]
  refine ly_max (m:=q) (n:=s) rfl rfl ⟨⟨_,pI _ hb3⟩,rfl⟩ (by rfl) ?_
  simp only[pts]
  repeat (refine ly_one rfl ?_;(first|go_big_quiet_skip|(go_big_quiet_want;go_big_quiet_op;go_big_quiet_on));refine wpQuiet_nil ?_)
  refine ly_done ?_
  have z0:=CC.out w2 hb3
  have cB:=CB.out w2 hb3
  have cP:=CP.out w2 hb3
  have hF:Hid _:=⟨FN.out w2 hb3⟩
  clear CB CC CP FN cT cE hb2
  cases hG:bgO t.op with
  | true =>
   rw[hG] at cB
   have e2:Hid (st2=max q s::st):=⟨by rw[<- hst2.out,if_pos hG]⟩
   go_wp2_with (first
    | (go_at_call 61;refine cB.mono ?_;rintro _ w3 ⟨rfl,e⟩;obtain rfl:w2=w3:=e.symm)
    | (go_at_call 62;refine cP.mono ?_;rintro _ w4 ⟨rfl,q1,q2⟩;replace q1:=Hid.mk q1;replace q2:=Hid.mk q2))
   go_ret
   rw[e2.out]
   exact⟨rfl,q1.out,q2.out⟩
  | false =>
   rw[hG] at cB
   have e2:Hid (st2=st):=⟨by rw[<- hst2.out,if_neg (by rw[hG];decide)]⟩
   go_wp2_with (go_at_call 61;refine cB.mono ?_;rintro _ w3 ⟨rfl,e⟩;obtain rfl:w2=w3:=e.symm)
   go_ret
   rw[e2.out]
   exact⟨rfl,hF.out⟩
theorem laidOut:laidOutB Tryz.prog=true:=by kernel_rfl
theorem lawI:Keyed Tryz.prog 3:=int_keyed Tryz.underlying3
theorem lawN:Keyed Tryz.prog 169:=Keyed.of_law (deep_law_laid laidOut (m:=3) (by omega) (of_decide_eq_true (by kernel_rfl)) (by kernel_rfl) (by kernel_rfl))
theorem lawV:Keyed Tryz.prog 152:=Keyed.of_law (deep_law_laid laidOut (m:=3) (by omega) (of_decide_eq_true (by kernel_rfl)) (by kernel_rfl) (by kernel_rfl))
theorem zeroI (w:World):(zeroValue 3).run Tryz.prog w = .ok (.int .i64 0) w:=by kernel_rfl
def MHas (W:World) (k:TypeId) (m n:Nat) (hs:Value->Prop):Prop:=∃ D:DataW Unit,W.ownsMap Tryz.prog k (plainElem Tryz.prog 3) m n D/\∀ v kl,keyOf Tryz.prog k v=some kl->(Maps.has D kl=true↔hs v)
theorem MHas.same {W W':World} {k:TypeId} {m n:Nat} {hs:Value->Prop} (h:MHas W k m n hs) (hb:W'.heap[m]?=W.heap[m]?):MHas W' k m n hs:=by
 obtain⟨D,⟨es,ck,e,r⟩,h2⟩:=h
 exact⟨D,⟨es,ck,hb.trans e,r⟩,h2⟩
theorem MHas.lt {W:World} {k:TypeId} {m n:Nat} {hs:Value->Prop} (h:MHas W k m n hs):m<W.heap.size:=by
 obtain⟨D,h1,h2⟩:=h
 exact h1.lt
theorem has_nil (kl:Lit):Maps.has (DataW.map []:DataW Unit) kl=false:=rfl
theorem MHas.made (w:World) (k:TypeId):MHas (w.alloc (.map #[] 0)) k w.heap.size 0 (fun _=>False) :=
 ⟨_,World.ownsMap_made w _ _ _,fun v kl _=>by rw[has_nil];simp⟩
theorem MHas.put {W W':World} {k:TypeId} {m n:Nat} {hs:Value->Prop} (K:Keyed Tryz.prog k) {D:DataW Unit} (hD:W.ownsMap Tryz.prog k (plainElem Tryz.prog 3) m n D) (h:∀ v kl,keyOf Tryz.prog k v=some kl->(Maps.has D kl=true↔hs v)) {v0:Value} {k0:Lit} (hk:keyOf Tryz.prog k v0=some k0) {d:DataW Unit} (h':W'.ownsMap Tryz.prog k (plainElem Tryz.prog 3) m (n+1) (D.put k0 d)) :
  MHas W' k m (n+1) (fun v=>v=v0\/hs v):=by
 refine⟨_,h',fun v kl hv=>?_⟩
 by_cases e:kl=k0
 ·subst e
  rw[has_put_same hD.isMap (K.key hk)]
  have:=K.inj hv hk
  simp[this]
 ·rw[has_put_other e,h v kl hv]
  constructor
  ·exact .inr
  ·rintro(rfl|h)
   ·rw[hk] at hv;cases hv;exact absurd rfl e
   ·exact h
theorem isNewI_any (m n:Nat) (x i:Int) (hs:Value->Prop) (b:Bool) (w:World) (hM:MHas w 3 m n hs) (hn:n<17592186044416) (hx:i64ok x) (hi:i64ok i) (hb:b=true↔¬ hs (.int .i64 x)) :
  Calls Tryz.prog 135 #[.map (some m),.int .i64 x,.int .i64 i] w fun r w'=>r = .returned (.bool b)/\MHas w' 3 m (n+1) (fun v=>v = .int .i64 x\/hs v)/\w.grownBy w' (some m):=by
 obtain⟨D,hD,hh⟩:=hM
 have hkey:keyOf Tryz.prog 3 (.int .i64 x)=some (.int .i64 x):=keyOf_int_mk Tryz.underlying3 (WalkArith.wf_i64 hx)
 have e:Maps.has D (.int .i64 x) = !b:=by
  have:=hh _ _ hkey
  cases b<;>simp_all
 go_enter Tryz.func135,Tryz.ntmps135
 go_wp2_with (first|(at_lookup;refine wpList_lookup_own_ok_int _ rfl _ _ 75 rfl 3 3 .i64 lawI Tryz.underlying75 Tryz.underlying3 (zeroI _) m n D rfl hD _ _ rfl hkey ?_;intro c hat hwc)|(at_mapUpdate;refine wpList_mapUpdate_own _ rfl _ _ _ 75 rfl 3 3 lawI Tryz.underlying75 _ m n D rfl hD (by unfold maxLen;omega) _ _ _ rfl rfl hkey _ [] (plainElem_int Tryz.underlying3 (WalkArith.wf_i64 hi)) ?_;intro w1 hown1 hturn1))
 go_ret
 exact⟨rfl,MHas.put lawI hD hh hkey hown1,hturn1⟩
theorem tySize:∃ m,Tryz.prog.types.size=m+1:=⟨Tryz.prog.types.size-1,by kernel_rfl⟩
theorem ktN:Tryz.prog.keyType 169=true:=by kernel_rfl
theorem ktV:Tryz.prog.keyType 152=true:=by kernel_rfl
theorem clN:Tryz.prog.cellsOf 169=2:=by kernel_rfl
theorem clV:Tryz.prog.cellsOf 152=2:=by kernel_rfl
theorem clI:Tryz.prog.cellsOf 3=1:=by kernel_rfl
theorem clS:Tryz.prog.cellsOf 9=1:=by kernel_rfl
theorem clU:Tryz.prog.cellsOf 37=1:=by kernel_rfl
theorem keyN (a:Int) (s:ByteArray) (ha:i64ok a) (hs:s.size<=maxLen):∃ kl,keyOf Tryz.prog 169 (.agg #[.int .i64 a,.string s])=some kl:=by
 obtain⟨m,hm⟩:=tySize
 have wa:(Lit.int .i64 a).wf=true:=WalkArith.wf_i64 ha
 have hf:(Value.agg #[.int .i64 a,.string s]).formed Tryz.prog 169=true:=by simp[Value.formed,Tryz.underlying169,clN]
 unfold keyOf
 rw[Tryz.underlying169]
 simp only[ktN,hf,Bool.and_self,if_true,Value.cells]
 rw[hm]
 simp[Program.keyLits,Tryz.underlying169,Tryz.underlying3,Tryz.underlying9,clN,clI,clS,wa,hs]
theorem keyV (a b:Int) (ha:i64ok a) (hb:u64ok b):∃ kl,keyOf Tryz.prog 152 (.agg #[.int .i64 a,.int .u64 b])=some kl:=by
 obtain⟨m,hm⟩:=tySize
 have wa:(Lit.int .i64 a).wf=true:=WalkArith.wf_i64 ha
 have wb:(Lit.int .u64 b).wf=true:=WalkArith.wf_u64 hb
 have hf:(Value.agg #[.int .i64 a,.int .u64 b]).formed Tryz.prog 152=true:=by simp[Value.formed,Tryz.underlying152,clV]
 unfold keyOf
 rw[Tryz.underlying152]
 simp only[ktV,hf,Bool.and_self,if_true,Value.cells]
 rw[hm]
 simp[Program.keyLits,Tryz.underlying152,Tryz.underlying3,Tryz.underlying37,clV,clI,clU,wa,wb]
theorem isNewN_any (m n:Nat) (a i:Int) (s:ByteArray) (hs:Value->Prop) (b:Bool) (w:World) (hM:MHas w 169 m n hs) (hn:n<17592186044416) (ha:i64ok a) (hl:s.size<=maxLen) (hi:i64ok i) (hb:b=true↔¬ hs (.agg #[.int .i64 a,.string s])) :
  Calls Tryz.prog 136 #[.map (some m),.agg #[.int .i64 a,.string s],.int .i64 i] w fun r w'=>r = .returned (.bool b)/\MHas w' 169 m (n+1) (fun v=>v = .agg #[.int .i64 a,.string s]\/hs v)/\w.grownBy w' (some m):=by
 obtain⟨D,hD,hh⟩:=hM
 obtain⟨kl,hkey⟩:=keyN a s ha hl
 have e:Maps.has D kl = !b:=by
  have:=hh _ _ hkey
  cases b<;>simp_all
 go_enter Tryz.func136,Tryz.ntmps136
 go_wp2_with (first|(at_lookup;refine wpList_lookup_own_ok_int _ rfl _ _ 112 rfl 169 3 .i64 lawN Tryz.underlying112 Tryz.underlying3 (zeroI _) m n D rfl (hD.alloc _) _ _ rfl hkey ?_;intro c hat hwc)|(at_mapUpdate;refine wpList_mapUpdate_own _ rfl _ _ _ 112 rfl 169 3 lawN Tryz.underlying112 _ m n D rfl (hD.alloc _) (by unfold maxLen;omega) _ _ _ rfl rfl hkey _ [] (plainElem_int Tryz.underlying3 (WalkArith.wf_i64 hi)) ?_;intro w1 hown1 hturn1))
 go_ret
 exact⟨rfl,MHas.put lawN hD hh hkey hown1,(World.grownBy_alloc w _ _).trans hturn1⟩
theorem isNewV_any (m n:Nat) (a i x:Int) (hs:Value->Prop) (b:Bool) (w:World) (hM:MHas w 152 m n hs) (hn:n<17592186044416) (ha:i64ok a) (hx:u64ok x) (hi:i64ok i) (hb:b=true↔¬ hs (.agg #[.int .i64 a,.int .u64 x])) :
  Calls Tryz.prog 124 #[.map (some m),.agg #[.int .i64 a,.int .u64 x],.int .i64 i] w fun r w'=>r = .returned (.bool b)/\MHas w' 152 m (n+1) (fun v=>v = .agg #[.int .i64 a,.int .u64 x]\/hs v)/\w.grownBy w' (some m):=by
 obtain⟨D,hD,hh⟩:=hM
 obtain⟨kl,hkey⟩:=keyV a x ha hx
 have e:Maps.has D kl = !b:=by
  have:=hh _ _ hkey
  cases b<;>simp_all
 go_enter Tryz.func124,Tryz.ntmps124
 go_wp2_with (first|(at_lookup;refine wpList_lookup_own_ok_int _ rfl _ _ 113 rfl 152 3 .i64 lawV Tryz.underlying113 Tryz.underlying3 (zeroI _) m n D rfl (hD.alloc _) _ _ rfl hkey ?_;intro c hat hwc)|(at_mapUpdate;refine wpList_mapUpdate_own _ rfl _ _ _ 113 rfl 152 3 lawV Tryz.underlying113 _ m n D rfl (hD.alloc _) (by unfold maxLen;omega) _ _ _ rfl rfl hkey _ [] (plainElem_int Tryz.underlying3 (WalkArith.wf_i64 hi)) ?_;intro w1 hown1 hturn1))
 go_ret
 exact⟨rfl,MHas.put lawV hD hh hkey hown1,(World.grownBy_alloc w _ _).trans hturn1⟩
structure Kb (E:List Nat) (w W:World):Prop where
 os:W.os=w.os
 tape:W.tape=w.tape
 output:W.output=w.output
 size:w.heap.size<=W.heap.size
 block:∀ k,k<w.heap.size->k∉E->W.heap[k]?=w.heap[k]?
theorem Kb.refl (E:List Nat) (w:World):Kb E w w:=⟨rfl,rfl,rfl,Nat.le_refl _,fun _ _ _=>rfl⟩
theorem Kb.trans {E:List Nat} {a b c:World} (h:Kb E a b) (h':Kb E b c):Kb E a c :=
 ⟨h'.os.trans h.os,h'.tape.trans h.tape,h'.output.trans h.output,Nat.le_trans h.size h'.size,fun k hk he=>(h'.block k (Nat.lt_of_lt_of_le hk h.size) he).trans (h.block k hk he)⟩
theorem Kb.mono {E E':List Nat} {a b:World} (h:Kb E a b) (hE:∀ x∈E,x∈E'):Kb E' a b:=⟨h.os,h.tape,h.output,h.size,fun k hk he=>h.block k hk fun hx=>he (hE k hx)⟩
theorem Kb.of_below {E:List Nat} {a b:World} (h:Below a.heap.size a b):Kb E a b:=⟨h.os,h.tape,h.output,h.size,fun k hk _=>h.block k hk⟩
theorem Kb.of_grown {E:List Nat} {a b:World} {m:Nat} (h:a.grownBy b (some m)) (hm:m∈E):Kb E a b:=⟨h.os,h.tape,h.output,h.size,fun k hk he=>h.block k hk fun e=>he (by cases e;exact hm)⟩
theorem Kb.drew {E:List Nat} {a b:World} (h:Kb E a b):Kb E a b.drew:=⟨h.os,h.tape,h.output,h.size,h.block⟩
theorem Kb.alloc {E:List Nat} {a b:World} (h:Kb E a b) (o:Obj):Kb E a (b.alloc o):=h.trans (Kb.of_below (bel1 _ _))
theorem Kb.set {E:List Nat} {a b:World} (h:Kb E a b) {g o:Nat} (hg:g∈E) (v:Value):Kb E a (b.setCell ⟨g,o,none⟩ v):=by
 refine⟨h.os,h.tape,h.output,?_,fun k hk he=>?_⟩
 ·show a.heap.size<=(b.heap.modify g _).size
  rw[Array.size_modify];exact h.size
 ·show (b.heap.modify g _)[k]?=_
  rw[Array.getElem?_modify,if_neg (fun e=>he (by subst e;exact hg))]
  exact h.block k hk he
theorem Kb.below {E:List Nat} {a b:World} {B:Nat} (h:Kb E a b) (hB:B<=a.heap.size) (hE:∀ x∈E,B<=x):Below B a b:=⟨h.os,h.tape,h.output,h.size,fun k hk=>h.block k (by omega) fun hx=>by have:=hE k hx;omega⟩
theorem Kb.cell {E:List Nat} {a b:World} (h:Kb E a b) {g o:Nat} (hg:g<a.heap.size) (hE:g∉E):b.cell? ⟨g,o,none⟩=a.cell? ⟨g,o,none⟩:=cell_blk (h.block g hg hE)
theorem Kb0 {w W:World} (h:Kb [] w W):Below w.heap.size w W:=⟨h.os,h.tape,h.output,h.size,fun k hk=>h.block k hk List.not_mem_nil⟩
theorem tdr1 {B:Nat} {a w:World} (h:Below B a w):Below B a w.drew:=⟨h.os,h.tape,h.output,h.size,h.block⟩
structure Sv where
 at_:Nat
 cnt:Int
 last:Int
 fld:Int
 row:Int
 en:Int
 cod:Int
def svC (g o:Nat) (s:Sv):List Value:=[.pointer (some ⟨g,o+s.at_*21,none⟩),.int .i64 (s.at_:Int),.int .i64 s.cnt,.int .i64 s.last,.int .i64 s.fld,.int .i64 s.row,.int .i64 s.en,.int .i64 s.cod]
def svCs (g o:Nat) (l:List Sv):List Value:=l.flatMap (svC g o)
theorem svCs_length (g o:Nat) (l:List Sv):(svCs g o l).length=l.length*8:=by
 induction l with
 | nil=>rfl
 | cons a r ih =>
  unfold svCs at ih ⊢
  rw[List.flatMap_cons,List.length_append,ih,List.length_cons]
  show 8+_=_
  omega
theorem svCs_append (g o:Nat) (a b:List Sv):svCs g o (a++b)=svCs g o a++svCs g o b:=by unfold svCs;rw[List.flatMap_append]
structure ScC (w:World) (g o go k:Nat) (x:Sv):Prop where
 c0:w.cell? ⟨go,k,none⟩=some (.pointer (some ⟨g,o+x.at_*21,none⟩))
 c1:w.cell? ⟨go,k+1,none⟩=some (.int .i64 (x.at_:Int))
 c2:w.cell? ⟨go,k+2,none⟩=some (.int .i64 x.cnt)
 c3:w.cell? ⟨go,k+3,none⟩=some (.int .i64 x.last)
 c4:w.cell? ⟨go,k+4,none⟩=some (.int .i64 x.fld)
 c5:w.cell? ⟨go,k+5,none⟩=some (.int .i64 x.row)
 c6:w.cell? ⟨go,k+6,none⟩=some (.int .i64 x.en)
 c7:w.cell? ⟨go,k+7,none⟩=some (.int .i64 x.cod)
structure OpR (w:World) (g o go cap:Nat) (l:List Sv):Prop where
 ex:∃ cur:Array Value,w.heap[go]?=some (.cells cur 137 (0,0))/\l.length<=cap/\cap<=maxLen/\cur.size=cap*8/\cur.toList.take (l.length*8)=svCs g o l
theorem OpR.same {w w':World} {g o go cap:Nat} {l:List Sv} (h:OpR w g o go cap l) (hb:w'.heap[go]?=w.heap[go]?):OpR w' g o go cap l:=by
 obtain⟨cur,h1,r⟩:=h.ex
 exact⟨cur,hb.trans h1,r⟩
theorem OpR.lt {w:World} {g o go cap:Nat} {l:List Sv} (h:OpR w g o go cap l):go<w.heap.size:=by
 obtain⟨cur,h1,_⟩:=h.ex
 exact(Array.getElem?_eq_some_iff.1 h1).1
theorem OpR.owns {w:World} {g o go cap:Nat} {l:List Sv} (h:OpR w g o go cap l) {base:Nat} (hb:base<=go):w.ownsRow base 137 8 (.slice (some ⟨go,0,none⟩) l.length cap) l.length (svCs g o l):=by
 obtain⟨cur,h1,h2,h3,h4,h5⟩:=h.ex
 exact⟨svCs_length g o l,.inr ⟨go,cap,cur,rfl,hb,h1,h2,h3,h4,h5⟩⟩
theorem OpR.cell {w:World} {g o go cap:Nat} {l:List Sv} (h:OpR w g o go cap l) {j:Nat} {u:Value} (hu:(svCs g o l)[j]?=some u):w.cell? ⟨go,j,none⟩=some u:=by
 obtain⟨cur,h1,h2,h3,h4,h5⟩:=h.ex
 rw[<- h5,List.getElem?_take] at hu
 split at hu
 ·simp only[World.cell?,h1]
  simpa using hu
 ·cases hu
theorem svCs_last (g o:Nat) (L:List Sv) (x:Sv) (j:Nat) (hj:j<8):(svCs g o (L++[x]))[L.length*8+j]?=(svC g o x)[j]?:=by
 rw[svCs_append,List.getElem?_append_right (by rw[svCs_length];omega),svCs_length]
 rw[show L.length*8+j-L.length*8=j by omega]
 unfold svCs
 rw[List.flatMap_cons,List.flatMap_nil,List.append_nil]
theorem OpR.last {w:World} {g o go cap:Nat} {L:List Sv} {x:Sv} (h:OpR w g o go cap (L++[x])):ScC w g o go (L.length*8) x :=
 have c:=fun j u (hj:j<8) (hu:(svC g o x)[j]?=some u)=>h.cell ((svCs_last g o L x j hj).trans hu)
 ⟨c 0 _ (by decide) rfl,c 1 _ (by decide) rfl,c 2 _ (by decide) rfl,c 3 _ (by decide) rfl,c 4 _ (by decide) rfl,c 5 _ (by decide) rfl,c 6 _ (by decide) rfl,c 7 _ (by decide) rfl⟩
theorem OpR.set {w:World} {g o go cap:Nat} {L:List Sv} {x x':Sv} {j:Nat} {v:Value} (h:OpR w g o go cap (L++[x])) (hj:j<8) (hx:svC g o x'=(svC g o x).set j v):OpR (w.setCell ⟨go,L.length*8+j,none⟩ v) g o go cap (L++[x']):=by
 obtain⟨cur,h1,h2,h3,h4,h5⟩:=h.ex
 have hl:(L++[x]).length=(L++[x']).length:=by simp
 have hx8:(svC g o x).length=8:=rfl
 refine⟨cur.setIfInBounds (L.length*8+j) v,?_,by rw[<- hl];exact h2,h3,by rw[Array.size_setIfInBounds];exact h4,?_⟩
 ·show (w.heap.modify go _)[go]?=_
  rw[Array.getElem?_modify,if_pos rfl,h1]
  rfl
 ·rw[Array.toList_setIfInBounds,List.take_set,<- hl,h5,svCs_append,svCs_append,List.set_append_right _ _ (by rw[svCs_length];omega),svCs_length]
  rw[show L.length*8+j-L.length*8=j by omega]
  congr 1
  unfold svCs
  rw[List.flatMap_cons,List.flatMap_nil,List.append_nil,List.flatMap_cons,List.flatMap_nil,List.append_nil,hx]
theorem tdr {B n:Nat} {a w:World} (h:Below B a w):Below B a (w.drewN n):=⟨h.os,h.tape,h.output,h.size,h.block⟩
theorem top_any (B go n cap:Nat) (w:World) (hc:w.cell? ⟨B,0,none⟩=some (.slice (some ⟨go,0,none⟩) (n+1) cap)) (hn:n<1000000000000) :
  Calls Tryz.prog 102 #[.pointer (some ⟨B,0,none⟩)] w fun r w'=>r = .returned (.pointer (some ⟨go,n*8,none⟩))/\Below w.heap.size w w':=by
 have e1:((n+1:Nat):Int)-1=(n:Int):=by omega
 have e2:(n:Int)<((n+1:Nat):Int):=by omega
 go_enter Tryz.func102,Tryz.ntmps102
 go_wp2_with fail
 go_quiet (fail)
 go_wp2_with fail
 go_ret
 exact⟨rfl,tdr (Below.refl _ _)⟩
theorem isEmpty_any (B n cap:Nat) (p:Option Addr) (w:World) (hc:w.cell? ⟨B,0,none⟩=some (.slice p n cap)) :
  Calls Tryz.prog 101 #[.pointer (some ⟨B,0,none⟩)] w fun r w'=>r = .returned (.bool (decide (n=0)))/\w'=w:=by
 go_enter Tryz.func101,Tryz.ntmps101
 go_wp2_with fail
 go_ret
 exact⟨rb (by rw[Bool.eq_iff_iff];simp),rfl⟩
structure CkC (w:World) (B gf:Nat) (op:Value) (i:Int) (rl:Value) (m1 m2 m3:Nat) (dep:Nat->Int) (wh:Bool):Prop where
 lt:B<w.heap.size
 c0:w.cell? ⟨B,0,none⟩=some op
 c1:w.cell? ⟨B,1,none⟩=some (.pointer (some ⟨gf,0,none⟩))
 c2:w.cell? ⟨B,2,none⟩=some (.int .i64 i)
 c3:w.cell? ⟨B,3,none⟩=some rl
 cd:∀ q,q<16->w.cell? ⟨B,4+q,none⟩=some (.int .i64 (dep q))
 c20:w.cell? ⟨B,20,none⟩=some (.map (some m1))
 c21:w.cell? ⟨B,21,none⟩=some (.map (some m2))
 c22:w.cell? ⟨B,22,none⟩=some (.map (some m3))
 c23:w.cell? ⟨B,23,none⟩=some (.bool wh)
theorem CkC.same {w w':World} {B gf:Nat} {op:Value} {i:Int} {rl:Value} {m1 m2 m3:Nat} {dep:Nat->Int} {wh:Bool} (h:CkC w B gf op i rl m1 m2 m3 dep wh) (hs:w.heap.size<=w'.heap.size) (hb:w'.heap[B]?=w.heap[B]?):CkC w' B gf op i rl m1 m2 m3 dep wh :=
 ⟨Nat.lt_of_lt_of_le h.lt hs,(cell_blk hb).trans h.c0,(cell_blk hb).trans h.c1,(cell_blk hb).trans h.c2,(cell_blk hb).trans h.c3,fun q hq=>(cell_blk hb).trans (h.cd q hq),(cell_blk hb).trans h.c20,(cell_blk hb).trans h.c21,(cell_blk hb).trans h.c22,(cell_blk hb).trans h.c23⟩
theorem ScC.same {w w':World} {g o go k:Nat} {x:Sv} (h:ScC w g o go k x) (hb:w'.heap[go]?=w.heap[go]?):ScC w' g o go k x :=
 ⟨(cell_blk hb).trans h.c0,(cell_blk hb).trans h.c1,(cell_blk hb).trans h.c2,(cell_blk hb).trans h.c3,(cell_blk hb).trans h.c4,(cell_blk hb).trans h.c5,(cell_blk hb).trans h.c6,(cell_blk hb).trans h.c7⟩
end Go.Proofs.YtcgimchhcaankaaGreatDoor
