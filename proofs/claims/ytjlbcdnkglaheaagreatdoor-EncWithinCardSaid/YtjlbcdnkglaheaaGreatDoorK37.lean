import Derived.Test.YtjlbcdnkglaheaaGreatDoorK36
namespace Go.Proofs.YtjlbcdnkglaheaaGreatDoor
set_option maxRecDepth 1000000
set_option maxHeartbeats 16000000
open Go.ChangeShapes Go.WideShapes Go.ChangeAt Go.RowKit Go.Shelf Go.Maps
structure E0 (f:Fm) (n:Pn) (S0 S1 pa pm e ma cu:Nat) (bg:Bool) (wt bl:Int) (W:World):Prop where
 ev:Ev f S0 S1 pa pm W
 eo:W.heap[e]?=some (enO f n pa pm e ma cu bg wt bl)
 ne:S1<=e
 kt:KT W
 kp:0<S1
theorem E0.below {f:Fm} {n:Pn} {S0 S1 pa pm e ma cu:Nat} {bg:Bool} {wt bl:Int} {W W':World} (h:E0 f n S0 S1 pa pm e ma cu bg wt bl W) (hb:Below W.heap.size W W'):E0 f n S0 S1 pa pm e ma cu bg wt bl W' :=
 ⟨h.ev.below (hb.mono h.ev.le),(hb.block _ (Array.getElem?_eq_some_iff.1 h.eo).1).trans h.eo,h.ne,h.kt.below h.kt.pos hb,h.kp⟩
def hdF (f:Fm):C.Hd:=⟨f.hsz,⟨f.hb.p,f.hb.o⟩,⟨f.ht.p,f.ht.o⟩,⟨f.hs.p,f.hs.o⟩,⟨f.hv.p,f.hv.o⟩⟩
def nuF (n:Pn):C.Four:=⟨n.a,n.b,n.c,n.d⟩
theorem nuF_ok (f:Fm) (t:Tk):C.FourOk (nuF (numZ f t)):=by
 have h:∀ x:Int,0<=IntKind.u64.wrap x/\IntKind.u64.wrap x<18446744073709551616:=fun x=>by
  rw[IntKind.wrap_u64]
  omega
 exact⟨h _,h _,h _,h _⟩
theorem ld_hdE {f:Fm} {n:Pn} {pa pm e ma cu:Nat} {bg:Bool} {wt bl:Int} {W:World} (h:W.heap[e]?=some (enO f n pa pm e ma cu bg wt bl)):(Instr.loadAt 27 (.pointer (some ⟨e,3,none⟩))).run Tryz.prog W = .ok (C.hdV (hdF f)) W :=
 ld_mid h 3 27 (hdCs f) _ (fun j u hj=>match j,hj with
  | 0,hj=>hj
  | 1,hj=>hj
  | 2,hj=>hj
  | 3,hj=>hj
  | 4,hj=>hj
  | 5,hj=>hj
  | 6,hj=>hj
  | 7,hj=>hj
  | 8,hj=>hj
  | k+9,hj=>by simp[hdCs] at hj) Tryz.underlying27 rfl infoHdE
theorem ld_nuE {f:Fm} {n:Pn} {pa pm e ma cu:Nat} {bg:Bool} {wt bl:Int} {W:World} (h:W.heap[e]?=some (enO f n pa pm e ma cu bg wt bl)):(Instr.loadAt 54 (.pointer (some ⟨e,12,none⟩))).run Tryz.prog W = .ok (C.fourV (nuF n)) W :=
 ld_mid h 12 54 [.int .u64 n.a,.int .u64 n.b,.int .u64 n.c,.int .u64 n.d] _ (fun j u hj=>match j,hj with
  | 0,hj=>hj
  | 1,hj=>hj
  | 2,hj=>hj
  | 3,hj=>hj
  | k+4,hj=>by simp at hj) Tryz.underlying54 rfl infoNuE
def wrpZ (f:Fm) (n:Pn) (t:Tk) (hi:Bool) (len:Nat) (fb:Nat->Int) (a:Int):Int×(Nat->Int)×Nat×Int×Int :=
 if a<0\/(len:Int)<a then (170,fb,0,0,0)
 else if 1048576<wrap64 (f.hsz+t.full) then (165,fb,0,0,0)
 else if (len:Int)-a<wrap64 (f.hsz+t.blk) then (11,fb,0,0,0)
 else (0,C.pwF (C.headG (hdF f)) hi len a.toNat a.toNat fb f.hsz (C.hdN (hdF f) (nuF n)),
  C.clN len (C.pwN (C.headG (hdF f)) len a.toNat f.hsz (C.hdN (hdF f) (nuF n))) t.blk,wrap64 (f.hsz+t.full),
  C.clP len (C.pwN (C.headG (hdF f)) len a.toNat f.hsz (C.hdN (hdF f) (nuF n))) t.blk)
theorem ent_put2:∀ ag w,(callFunc 23 ag).run Tryz.prog w = .ok (.enter 23 ag) w:=enters_of Tryz.func23 (by kernel_rfl) rfl
theorem ent_room:∀ ag w,(callFunc 22 ag).run Tryz.prog w = .ok (.enter 22 ag) w:=enters_of Tryz.func22 (by kernel_rfl) rfl
theorem Wrap_no {f:Fm} {n:Pn} {S0 S1 pa pm e ma cu:Nat} {bg:Bool} {wt bl:Int} {W:World} (hE:E0 f n S0 S1 pa pm e ma cu bg wt bl W) (hi:Bool) (ho:f.ord=C.ordV hi) (p:Option Addr) (len cap:Nat) (a:Int) (ha:a<0\/(len:Int)<a) :
  Calls Tryz.prog 6 #[pV e,.slice p len cap,.int .i64 a] W fun r w'=>r = .returned (.int .i64 170)/\Below W.heap.size W w':=by
 have k2:W.cell? ⟨e,2,none⟩=some (.int .i64 (C.ordV hi)):=by rw[<- ho];exact cell_at hE.eo 2
 have cN:=C.New_none (w:=W) (p:=p) (len:=len) (cap:=cap) a (C.ordV hi) ⟨by cases hi;exact .inl rfl;exact .inr rfl,ha⟩
 clear hE ha ho
 go_enter Tryz.func6,Tryz.ntmps6
 go_wp2_with (go_at_call 21;refine cN.mono ?_;clear cN;rintro _ w1 ⟨rfl,b1⟩;replace b1:=Hid.mk b1)
 go_ret
 exact⟨rfl,b1.out⟩
theorem Wrap_any {f:Fm} {n:Pn} {S0 S1 pa pm e ma cu:Nat} {bg:Bool} {wt bl:Int} {W:World} (hE:E0 f n S0 S1 pa pm e ma cu bg wt bl W) (hi:Bool) (ho:f.ord=C.ordV hi) (_hl:f.toks.length<=733007751850) (t:Tk) (ht:f.toks[0]?=some t) (ht0:t.op=0) (hnn:n=numZ f t)
  (g len cap:Nat) (fb:Nat->Int) (row:C.RowM W g 5 cap (fun j=>.int .u8 (fb j))) (bd:∀ j,0<=fb j/\fb j<=255) (h3:len<=cap) (h4:len<=140737488355328) (hg1:S1<=g) (hge:g≠e) (a:Nat) (ha:a<=len) :
  Calls Tryz.prog 6 #[pV e,.slice (some ⟨g,0,none⟩) len cap,.int .i64 (a:Int)] W fun r w'=>r = .returned (.int .i64 (wrpZ f n t hi len fb (a:Int)).1)/\(((wrpZ f n t hi len fb (a:Int)).1≠0/\Below W.heap.size W w') \/
   ((wrpZ f n t hi len fb (a:Int)).1=0/\∃ c ma2 U2,En f n S0 S1 pa pm e ma2 c newZ U2 g len cap a (wrpZ f n t hi len fb (a:Int)).2.2.1 hi (wrpZ f n t hi len fb (a:Int)).2.1 (wrpZ f n t hi len fb (a:Int)).2.2.2.1 (wrpZ f n t hi len fb (a:Int)).2.2.2.2 w'/\(∀ k,U2 k->W.heap.size<=k)/\W.heap.size<=c/\Frm (fun k=>k=e\/k=g) W w')):=by
 have k2:W.cell? ⟨e,2,none⟩=some (.int .i64 (C.ordV hi)):=by rw[<- ho];exact cell_at hE.eo 2
 have cN:=C.New_ok row bd h3 h4 a ha hi
 obtain⟨p1,p2,jj,hs,q3,q4,q5⟩:=hE.ev.pl
 have hil:=(List.getElem?_eq_some_iff.1 ht).1
 obtain⟨gb,e1,e2⟩:=q5 0 t hil ht (.inl ht0)
 obtain⟨s0,sS,mm,j2,hs2,gbo,-⟩:=e2
 have lk:Hid (∀ V,Below W.heap.size W V->(Instr.lookup 56 (.map (some pm)) (.int .i64 0) false).run Tryz.prog V = .ok (pV gb) V):=⟨fun V hb=>by
  have:=(q4.same (hb.block pm (by have:=hE.ev.le;omega))).look lawI Tryz.underlying56 (zeroEb V) (keyI 0 (by omega))
  rw[e1] at this
  exact this⟩
 have hSz:=hE.ev.le
 have heW:=(Array.getElem?_eq_some_iff.1 hE.eo).1
 obtain⟨Z,hZ⟩:∃ Z,Hid (Z=wrpZ f n t hi len fb (a:Int)):=⟨_,⟨rfl⟩⟩
 rw[<- hZ.out]
 replace hE:=Hid.mk hE
 replace gbo:=Hid.mk gbo
 clear ho q3 q4 q5 e1 p1 p2 row bd
 go_enter Tryz.func6,Tryz.ntmps6
 go_upto_region 4 with (go_at_call 21;refine cN.mono ?_;clear cN;rintro _ w1 ⟨c,rfl,hc,hcs,b1⟩;have lk1:=lk.out w1 b1;have k17:w1.cell? ⟨e,17,none⟩=some (.map (some pm)):=cell_at ((b1.block e heW).trans hE.out.eo) 17)
 go_upto_region 5 with fail
 have E1:=hE.out.below b1
 have gb1:=(b1.block gb (by omega)).trans gbo.out
 clear lk1 k17 k2
 obtain⟨p,q,pN,y3,yg0,yg1⟩:∃ p:World->Prop,(∀ V,p V↔Below w1.heap.size w1 V)/\Nonempty (CW p)/\(∀ θ:CW p,θ.w.cell? ⟨e,3,none⟩=some (.int .i64 f.hsz))/\(∀ θ:CW p,θ.w.cell? ⟨gb,0,none⟩=some (.int .i64 t.blk))/\(∀ θ:CW p,θ.w.cell? ⟨gb,1,none⟩=some (.int .i64 t.full)) :=
  ⟨_,fun _=>Iff.rfl,⟨⟨w1,Below.refl _ _⟩⟩,fun θ=>cell_at ((θ.h.block e (Array.getElem?_eq_some_iff.1 E1.eo).1).trans E1.eo) 3,fun θ=>cell_at ((θ.h.block gb (Array.getElem?_eq_some_iff.1 gb1).1).trans gb1) 0,fun θ=>cell_at ((θ.h.block gb (Array.getElem?_eq_some_iff.1 gb1).1).trans gb1) 1⟩
 have hp:p w1.drew:=(q _).2 (Below.refl _ _).drew
 have hd:Below w1.heap.size w1 w1.drew:=(Below.refl _ _).drew
 have zl:=hcs.row.lt
 replace E1:=Hid.mk E1
 replace hcs:=Hid.mk hcs
 replace b1:=Hid.mk b1
 replace q:=Hid.mk q
 replace gb1:=Hid.mk gb1
 refine wp_region_ly (fun V=>∃ θ:CW p,V=θ.w) (by kernel_rfl) (by kernel_rfl) (fun _ _ d _ _ h=>by cases d<;>exact h) ⟨⟨_,hp⟩,rfl⟩ ?_
 generalize w1.drew=V at hp hd ⊢
 repeat (first|(guard_target =~ Ly _ _ _ _ (Oper.mk _ (Op.call { callee:=.value _,args:=_,argTypes:=_ }) _ _ _ _::_) _ _;fail)|(guard_target =~ Ly _ _ _ _ (Oper.mk _ (Op.load 27 _) _ _ _ _::_) _ _;fail)|(guard_target =~ Ly _ _ _ _ (Oper.mk _ (Op.load 54 _) _ _ _ _::_) _ _;fail)|(refine ly_one rfl ?_;(first|go_big_quiet_skip|(go_big_quiet_want;go_big_quiet_op;go_big_quiet_on));refine wpQuiet_nil ?_))
 refine ly_done ?_
 replace hd:=Hid.mk hd
 replace hp:=Hid.mk hp
 have ha0:¬ ((a:Int)<0\/(len:Int)<(a:Int)):=by omega
 by_cases hw:1048576<wrap64 (f.hsz+t.full)
 ·have hzz:Hid (Z=(165,fb,0,0,0)):=⟨by rw[hZ.out];unfold wrpZ;rw[if_neg ha0,if_pos hw]⟩
  have hd1:decide (1048576<wrap64 (f.hsz+t.full))=true:=decide_eq_true hw
  clear hw ha0 hZ
  go_wp2_with fail
  go_ret
  rw[hzz.out]
  exact⟨rfl,.inl ⟨by show (165:Int)≠0;decide,b1.out.trans (hd.out.mono b1.out.size)⟩⟩
 ·have hd1:decide (1048576<wrap64 (f.hsz+t.full))=false:=decide_eq_false hw
  replace hw:=Hid.mk hw
  replace ha0:=Hid.mk ha0
  go_upto_region 8 with fail
  have cs2:=hcs.out.below hd.out
  have hd2:Below V.heap.size V V.drew:=(Below.refl _ _).drew
  have hp2:p V.drew:=(q.out _).2 (hd.out.trans (hd2.mono hd.out.size))
  have cR:=C.Room_any (cs2.below hd2)
  replace hd2:=Hid.mk hd2
  refine wp_region_ly (fun V=>∃ θ:CW p,V=θ.w) (by kernel_rfl) (by kernel_rfl) (fun _ _ d _ _ h=>by cases d<;>exact h) ⟨⟨_,hp2⟩,rfl⟩ ?_
  generalize V.drew=V2 at hp2 hd2 cR ⊢
  repeat (first|(guard_target =~ Ly _ _ _ _ (Oper.mk _ (Op.call { callee:=.value _,args:=_,argTypes:=_ }) _ _ _ _::_) _ _;fail)|(guard_target =~ Ly _ _ _ _ (Oper.mk _ (Op.load 27 _) _ _ _ _::_) _ _;fail)|(guard_target =~ Ly _ _ _ _ (Oper.mk _ (Op.load 54 _) _ _ _ _::_) _ _;fail)|(refine ly_one rfl ?_;(first|go_big_quiet_skip|(go_big_quiet_want;go_big_quiet_op;go_big_quiet_on));refine wpQuiet_nil ?_))
  refine ly_call1 (R:=fun v w'=>v = .int .i64 ((len:Int)-a)/\Below V2.heap.size V2 w') ent_room (cR.mono fun r w' h=>⟨_,h.1,rfl,by obtain⟨m,hm⟩:=h.2;rw[hm];exact⟨rfl,rfl,rfl,Nat.le_refl _,fun _ _=>rfl⟩⟩) rfl (by rfl) ?_
  rintro _ V3 ⟨rfl,b3⟩
  have bV3:=hd2.out.trans (b3.mono hd2.out.size)
  have p3:p V3:=(q.out _).2 (hd.out.trans (bV3.mono hd.out.size))
  refine⟨fun V=>∃ θ:CW p,V=θ.w,fun _ h=>h,⟨⟨_,p3⟩,rfl⟩,?_⟩
  simp only[pts]
  replace b3:=Hid.mk b3
  replace bV3:=Hid.mk bV3
  clear hp2 hp cs2 cR
  by_cases hs5:(len:Int)-a<wrap64 (f.hsz+t.blk)
  ·have hzz:Hid (Z=(11,fb,0,0,0)):=⟨by rw[hZ.out];unfold wrpZ;rw[if_neg ha0.out,if_neg hw.out,if_pos hs5]⟩
   have hd5:decide ((len:Int)-a<wrap64 (f.hsz+t.blk))=true:=decide_eq_true hs5
   clear hs5 hZ
   repeat (first|(guard_target =~ Ly _ _ _ _ (Oper.mk _ (Op.call { callee:=.value _,args:=_,argTypes:=_ }) _ _ _ _::_) _ _;fail)|(guard_target =~ Ly _ _ _ _ (Oper.mk _ (Op.load 27 _) _ _ _ _::_) _ _;fail)|(guard_target =~ Ly _ _ _ _ (Oper.mk _ (Op.load 54 _) _ _ _ _::_) _ _;fail)|(refine ly_one rfl ?_;(first|go_big_quiet_skip|(go_big_quiet_want;go_big_quiet_op;go_big_quiet_on));refine wpQuiet_nil ?_))
   refine ly_done ?_
   clear p3
   go_wp2_with fail
   go_ret
   rw[hzz.out]
   exact⟨rfl,.inl ⟨by show (11:Int)≠0;decide,b1.out.trans ((hd.out.trans (bV3.out.mono hd.out.size)).mono b1.out.size)⟩⟩
  ·have hzz:Hid (Z=(0,C.pwF (C.headG (hdF f)) hi len a a fb f.hsz (C.hdN (hdF f) (nuF n)),C.clN len (C.pwN (C.headG (hdF f)) len a f.hsz (C.hdN (hdF f) (nuF n))) t.blk,wrap64 (f.hsz+t.full),C.clP len (C.pwN (C.headG (hdF f)) len a f.hsz (C.hdN (hdF f) (nuF n))) t.blk)):=⟨by rw[hZ.out];unfold wrpZ;rw[if_neg ha0.out,if_neg hw.out,if_neg hs5,Int.toNat_natCast]⟩
   have hd5:decide ((len:Int)-a<wrap64 (f.hsz+t.blk))=false:=decide_eq_false hs5
   clear hs5 hZ
   repeat (first|(guard_target =~ Ly _ _ _ _ (Oper.mk _ (Op.call { callee:=.value _,args:=_,argTypes:=_ }) _ _ _ _::_) _ _;fail)|(guard_target =~ Ly _ _ _ _ (Oper.mk _ (Op.load 27 _) _ _ _ _::_) _ _;fail)|(guard_target =~ Ly _ _ _ _ (Oper.mk _ (Op.load 54 _) _ _ _ _::_) _ _;fail)|(refine ly_one rfl ?_;(first|go_big_quiet_skip|(go_big_quiet_want;go_big_quiet_op;go_big_quiet_on));refine wpQuiet_nil ?_))
   refine ly_done ?_
   clear y3 yg0 yg1 pN p3
   go_upto_region 10 with fail
   have B3:Hid (Below w1.heap.size w1 V3):=⟨hd.out.trans (bV3.out.mono hd.out.size)⟩
   have E3:=E1.out.below B3.out
   have cs3:=hcs.out.below B3.out
   obtain⟨p,q,pN,yh⟩:∃ p:World->Prop,(∀ V,p V↔V.heap[e]?=V3.heap[e]?)/\Nonempty (CW p)/\(∀ V,p V->V.heap[e]?=some (enO f n pa pm e ma cu bg wt bl)) :=
    ⟨_,fun _=>Iff.rfl,⟨⟨V3,rfl⟩⟩,fun V h=>h.trans E3.eo⟩
   have hp:p V3.drew:=(q _).2 rfl
   have hd3:Below V3.heap.size V3 V3.drew:=(Below.refl _ _).drew
   have kp:=E3.kp
   have cP:=C.PutHead_any (cs3.below hd3) ((E3.below hd3).kt) (by omega) (by omega) (hdF f) (nuF n) (by rw[hnn];exact nuF_ok f t)
   replace q:=Hid.mk q
   replace E3:=Hid.mk E3
   replace cs3:=Hid.mk cs3
   replace hd3:=Hid.mk hd3
   refine wp_region_ly (fun V=>∃ θ:CW p,V=θ.w) (by kernel_rfl) (by kernel_rfl) (fun _ _ d _ _ h=>by cases d<;>exact h) ⟨⟨_,hp⟩,rfl⟩ ?_
   generalize V3.drew=V4 at hp hd3 cP ⊢
   repeat (first|(guard_target =~ Ly _ _ _ _ (Oper.mk _ (Op.call { callee:=.value _,args:=_,argTypes:=_ }) _ _ _ _::_) _ _;fail)|(guard_target =~ Ly _ _ _ _ (Oper.mk _ (Op.load 27 _) _ _ _ _::_) _ _;fail)|(guard_target =~ Ly _ _ _ _ (Oper.mk _ (Op.load 54 _) _ _ _ _::_) _ _;fail)|(refine ly_one rfl ?_;(first|go_big_quiet_skip|(go_big_quiet_want;go_big_quiet_op;go_big_quiet_on));refine wpQuiet_nil ?_))
   refine ly_ld (fun X hX=>by obtain⟨θ,rfl⟩:=hX;exact ld_hdE (yh _ θ.h)) rfl (by rfl) ?_
   simp only[pts]
   repeat (first|(guard_target =~ Ly _ _ _ _ (Oper.mk _ (Op.call { callee:=.value _,args:=_,argTypes:=_ }) _ _ _ _::_) _ _;fail)|(guard_target =~ Ly _ _ _ _ (Oper.mk _ (Op.load 27 _) _ _ _ _::_) _ _;fail)|(guard_target =~ Ly _ _ _ _ (Oper.mk _ (Op.load 54 _) _ _ _ _::_) _ _;fail)|(refine ly_one rfl ?_;(first|go_big_quiet_skip|(go_big_quiet_want;go_big_quiet_op;go_big_quiet_on));refine wpQuiet_nil ?_))
   refine ly_ld (fun X hX=>by obtain⟨θ,rfl⟩:=hX;exact ld_nuE (yh _ θ.h)) rfl (by rfl) ?_
   simp only[pts]
   refine ely_call3 (R:=fun v w5=>v = .int .i64 (C.pwE (C.headG (hdF f)) len a f.hsz (C.hdN (hdF f) (nuF n)))/\C.Cs w5 c 0 g len cap a (C.pwN (C.headG (hdF f)) len a f.hsz (C.hdN (hdF f) (nuF n))) hi (C.pwF (C.headG (hdF f)) hi len a a fb f.hsz (C.hdN (hdF f) (nuF n)))/\C.Cb c 0 g V4 w5) ent_put2 (cP.mono fun r w' h=>⟨_,h.1,rfl,h.2⟩) rfl rfl rfl (by rfl) ?_
   rintro _ w5 ⟨rfl,cs5,cb5⟩
   have ec:e≠c:=by omega
   have gc:g≠c:=fun h=>cs5.ne h.symm
   have z1:=b1.out.size
   have z3:=B3.out.size
   have z4:=hd3.out.size
   have z5:=cb5.size
   have E5:E0 f n S0 S1 pa pm e ma cu bg wt bl w5:=by
    have E4:=E3.out.below hd3.out
    exact⟨E4.ev.same cb5.size fun k _ hk=>cb5.block k (by omega) (by omega) (by omega),(cb5.block e (by omega) ec (Ne.symm hge)).trans E4.eo,E4.ne,cb5.kt E4.kt (by omega) (by omega),E4.kp⟩
   refine⟨fun V=>∃ θ:CW p,V=θ.w,fun _ h=>h,⟨⟨_,(q.out _).2 (E5.eo.trans E3.out.eo.symm)⟩,rfl⟩,?_⟩
   refine ly_done ?_
   have F5:Frm (fun k=>k=g) W w5:=by
    have h:=b1.out.trans ((B3.out.trans (hd3.out.mono B3.out.size)).mono b1.out.size)
    exact⟨cb5.os.trans h.os,cb5.tape.trans h.tape,cb5.output.trans h.output,by omega,fun k hk hn=>(cb5.block k (by omega) (by omega) hn).trans (h.block k hk)⟩
   have gb5:=(F5.block gb (by omega) (by omega)).trans gbo.out
   have kb5:w5.cell? ⟨gb,0,none⟩=some (.int .i64 t.blk):=cell_at gb5 0
   have cC:=C.Claim_any cs5 t.blk
   clear cP q hp p pN yh cs3
   replace E5:=Hid.mk E5
   replace F5:=Hid.mk F5
   replace cb5:=Hid.mk cb5
   replace cs5:=Hid.mk cs5
   replace gb5:=Hid.mk gb5
   generalize hen1:C.pwN (C.headG (hdF f)) len a f.hsz (C.hdN (hdF f) (nuF n))=en1 at *
   generalize hfb1:C.pwF (C.headG (hdF f)) hi len a a fb f.hsz (C.hdN (hdF f) (nuF n))=fb1 at *
   clear hen1 hfb1
   go_upto_region 12 with (go_at_call 24;refine cC.mono ?_;clear cC;rintro _ w6 ⟨rfl,cs6,cb6⟩;have e6:=(cb6.block e (Array.getElem?_eq_some_iff.1 E5.out.eo).1 ec (Ne.symm hge)).trans E5.out.eo;have k624:w6.cell? ⟨e,24,none⟩=some (.int .i64 bl):=cell_at e6 24;have f624:w6.frozen? ⟨e,24,none⟩=false:=efrz e6)
   have he6:=(Array.getElem?_eq_some_iff.1 e6).1
   have z6:=cb6.size
   have hz7:(w6.setCell ⟨e,24,none⟩ (.int .i64 (C.clP len en1 t.blk))).heap.size=w6.heap.size:=by simp
   have e7:(w6.setCell ⟨e,24,none⟩ (.int .i64 (C.clP len en1 t.blk))).heap[e]?=some (enO f n pa pm e ma cu bg wt (C.clP len en1 t.blk)):=(eset_at e6 _).trans rfl
   have cs7:C.Cs (w6.setCell ⟨e,24,none⟩ (.int .i64 (C.clP len en1 t.blk))) c 0 g len cap a (C.clN len en1 t.blk) hi fb1:=C_blk cs6 (by omega) (eset_off (Ne.symm ec)) (eset_off hge)
   have E7:E0 f n S0 S1 pa pm e ma cu bg wt (C.clP len en1 t.blk) (w6.setCell ⟨e,24,none⟩ (.int .i64 (C.clP len en1 t.blk))):=by
    have ne5:=E5.out.ne
    exact⟨E5.out.ev.same (by omega) fun k _ hk=>(eset_off (by omega)).trans (cb6.block k (by omega) (by omega) (by omega)),e7,ne5,E5.out.kt.same (by omega) ((eset_off (by omega)).trans (cb6.block _ (by omega) (by omega) (by omega))),kp⟩
   have F7:Frm (fun k=>k=e\/k=g) W (w6.setCell ⟨e,24,none⟩ (.int .i64 (C.clP len en1 t.blk))) :=
    ⟨cb6.os.trans F5.out.os,cb6.tape.trans F5.out.tape,cb6.output.trans F5.out.output,by omega,fun k hk hn=>(eset_off fun h=>hn (.inl h)).trans ((cb6.block k (by omega) (by omega) fun h=>hn (.inr h)).trans (F5.out.block k hk fun h=>hn (.inr h)))⟩
   have k16:(w6.setCell ⟨e,24,none⟩ (.int .i64 (C.clP len en1 t.blk))).cell? ⟨e,16,none⟩=some (pV pa):=cell_at e7 16
   clear k624 f624 cs6 cb6 e6 kb5
   generalize w6.setCell ⟨e,24,none⟩ (.int .i64 (C.clP len en1 t.blk))=w7 at *
   obtain⟨lo,hi',U0,mf,l0,l1,l2⟩:=E7.ev.fr
   have cK:=Copy_mk mf
   have hW7:=F7.size
   replace E7:=Hid.mk E7
   replace F7:=Hid.mk F7
   replace cs7:=Hid.mk cs7
   clear mf l0
   generalize hP:C.clP len en1 t.blk=P at *
   replace hP:=Hid.mk hP
   go_wp2_with (go_at_call 20;refine cK.mono ?_;clear cK;rintro _ w8 ⟨a2,U2,rfl,m8,u8,b8⟩;have e8:=(b8.block e (Array.getElem?_eq_some_iff.1 e7).1).trans e7;have j0:w8.cell? ⟨e,0,none⟩=some (pV ma):=cell_at e8 0;have j1:w8.cell? ⟨e,1,none⟩=some (pV cu):=cell_at e8 1;have j22:w8.cell? ⟨e,22,none⟩=some (.bool bg):=cell_at e8 22;have j23:w8.cell? ⟨e,23,none⟩=some (.int .i64 wt):=cell_at e8 23;have h0:w8.frozen? ⟨e,0,none⟩=false:=efrz e8;have h1:w8.frozen? ⟨e,1,none⟩=false:=efrz e8;have h22:w8.frozen? ⟨e,22,none⟩=false:=efrz e8;have h23:w8.frozen? ⟨e,23,none⟩=false:=efrz e8)
   go_ret
   have hz9:((((w8.setCell ⟨e,0,none⟩ (pV a2)).setCell ⟨e,1,none⟩ (pV c)).setCell ⟨e,22,none⟩ (.bool true)).setCell ⟨e,23,none⟩ (.int .i64 (wrap64 (f.hsz+t.full)))).heap.size=w8.heap.size:=by simp
   have o9:∀ k,k≠e->((((w8.setCell ⟨e,0,none⟩ (pV a2)).setCell ⟨e,1,none⟩ (pV c)).setCell ⟨e,22,none⟩ (.bool true)).setCell ⟨e,23,none⟩ (.int .i64 (wrap64 (f.hsz+t.full)))).heap[k]?=w8.heap[k]?:=fun k hk=>(eset_off hk).trans ((eset_off hk).trans ((eset_off hk).trans (eset_off hk)))
   have e9:((((w8.setCell ⟨e,0,none⟩ (pV a2)).setCell ⟨e,1,none⟩ (pV c)).setCell ⟨e,22,none⟩ (.bool true)).setCell ⟨e,23,none⟩ (.int .i64 (wrap64 (f.hsz+t.full)))).heap[e]?=some (enO f n pa pm e a2 c true (wrap64 (f.hsz+t.full)) P):=(eset_at ((eset_at ((eset_at ((eset_at e8 _).trans rfl) _).trans rfl) _).trans rfl) _).trans rfl
   have F9:Frm (fun k=>k=e) w8 ((((w8.setCell ⟨e,0,none⟩ (pV a2)).setCell ⟨e,1,none⟩ (pV c)).setCell ⟨e,22,none⟩ (.bool true)).setCell ⟨e,23,none⟩ (.int .i64 (wrap64 (f.hsz+t.full)))):=⟨rfl,rfl,rfl,by omega,fun k _ hk=>o9 k hk⟩
   generalize ((((w8.setCell ⟨e,0,none⟩ (pV a2)).setCell ⟨e,1,none⟩ (pV c)).setCell ⟨e,22,none⟩ (.bool true)).setCell ⟨e,23,none⟩ (.int .i64 (wrap64 (f.hsz+t.full))))=w9 at *
   have E8:=E7.out.below b8
   have s8:=b8.size
   have le8:=E8.ev.le
   have hh:=m8.hi_lt
   have hcl:=cs7.out.lt
   have hgl:=cs7.out.row.lt
   have ne5:=E5.out.ne
   have hel:=(Array.getElem?_eq_some_iff.1 e7).1
   have hup:∀ k,U2 k->S1<=k/\k≠e/\k≠c/\k≠g:=fun k hk=>by have:=u8 k hk;have:=E7.out.ev.le;omega
   have EN:En f n S0 S1 pa pm e a2 c newZ U2 g len cap a (C.clN len en1 t.blk) hi fb1 (wrap64 (f.hsz+t.full)) P w9 :=
    ⟨E8.ev.same (by omega) fun k _ hk=>o9 k (by omega),e9,⟨lo,hi',m8.same (by omega) (fun k hk=>o9 k (hup k hk).2.1) (fun k k1 k2=>o9 k (by omega)),l1,l2⟩,C_blk (cs7.out.below b8) (by omega) (o9 _ (Ne.symm ec)) (o9 _ hge),hup,⟨ne5,by omega,hg1,ec,Ne.symm hge⟩,E8.kt.same (by omega) (o9 _ (by omega)),kp⟩
   rw[hzz.out]
   refine⟨rfl,.inr ⟨rfl,c,a2,U2,EN,fun k hk=>by have:=u8 k hk;omega,hc,⟨F9.os.trans (b8.os.trans F7.out.os),F9.tape.trans (b8.tape.trans F7.out.tape),F9.output.trans (b8.output.trans F7.out.output),by omega,fun k hk hn=>(o9 k fun h=>hn (.inl h)).trans ((b8.block k (by omega)).trans (F7.out.block k hk hn))⟩⟩⟩
theorem eNew_no {f:Fm} {pp:Option Addr} {cp:Nat} {w:World} (hz:errZ (chkZ f)≠0) (hc:ChkC w f pp cp):Calls Tryz.prog 5 #[fmV f pp cp] w fun r w'=>r = .returned (.tuple #[.pointer none,.int .i64 121])/\Below w.heap.size w w':=by
 have hF:=fm_new w f pp cp
 have HB:Below w.heap.size w (w.alloc (fmO f pp cp)):=nbel _ _
 have cC:=hc _ HB
 have lF:Hid _:=⟨hF.load⟩
 generalize errZ (chkZ f)=er at *
 have hb1:(er==0)=false:=beq_eq_false_iff_ne.2 hz
 have hb2:(er != 0)=true:=by rw[bne,hb1];rfl
 replace HB:=Hid.mk HB
 clear hz hF hc
 go_enter Tryz.func5,Tryz.ntmps5
 go_wp2_with (first
  | (guard_target =~ wpList _ _ _ (Oper.mk _ (Op.load 30 _) _ _ _ _::_) _ _;go_must (refine wpList_ld 30 (.tmp 1) rfl rfl _ _ rfl lF.out ?_);simp only[pts])
  | (go_at_call 14;refine cC.mono ?_;clear cC;rintro _ w1 ⟨rfl,b1⟩;replace b1:=Hid.mk b1))
 go_ret2
 exact⟨rfl,HB.out.trans (b1.out.mono HB.out.size)⟩
abbrev nK:List Value:=[.nilFunc,.nilFunc,.nilFunc,.nilFunc]
abbrev enN (f:Fm) (n:Pn) (pa pm:Nat) (ma cu:Value) (ks:List Value):Obj:=.cells (enCs f n pa pm ma cu ks false 0 0).toArray 63
theorem bd_en (f:Fm) (n:Pn) (pa pm:Nat) (w:World):(Instr.build 63 #[(2,.agg (plCs f n (some pa) (some pm)).toArray)]).run Tryz.prog w = .ok (.agg (enCs f n pa pm (.pointer none) (.pointer none) nK false 0 0).toArray) w:=by kernel_rfl
theorem bx_en (f:Fm) (n:Pn) (pa pm:Nat) (w:World):(Instr.box 63 (.agg (enCs f n pa pm (.pointer none) (.pointer none) nK false 0 0).toArray)).run Tryz.prog w = .ok (pV w.heap.size) (w.alloc (enN f n pa pm (.pointer none) (.pointer none) nK)):=by
 simp only[Instr.box,newVar,newRow,run_newObj_alloc,Sem.run_bind,Sem.run_pure,Result.andThen_ok]
 rfl
theorem bd_ks (e:Nat) (w:World):(Instr.build 61 #[(0,fnB 16 e),(1,fnB 17 e),(2,fnB 18 e),(3,fnB 19 e)]).run Tryz.prog w = .ok (.agg (kindF e).toArray) w:=by kernel_rfl
theorem infoKs:(Tryz.prog.info? 61).map (·.size)=some 4:=by kernel_rfl
theorem st_ks {W:World} {b e:Nat} {cs:Array Value} {ty:TypeId} (h:W.heap[b]?=some (.cells cs ty)) (hcs:cs.size=25):(Instr.storeAt 61 (.pointer (some ⟨b,18,none⟩)) (.agg (kindF e).toArray)).run Tryz.prog W = .ok () (W.setCells b 18 (kindF e)) :=
 run_storeAt_mid W b 18 61 (kindF e).toArray (fun j hj=>by
  have hj:j<4:=hj
  have hl:18+j<cs.size:=by omega
  exact⟨by rw[cell_at h,Array.getElem?_eq_getElem hl];rfl,efrz h⟩) infoKs (by simp[Value.oneCell'])
theorem ks_at {W:World} {f:Fm} {n:Pn} {pa pm e:Nat} {ma cu:Value} (h:W.heap[e]?=some (enN f n pa pm ma cu nK)):(W.setCells e 18 (kindF e)).heap[e]?=some (enN f n pa pm ma cu (kindF e)):=by
 show ((((W.setCell ⟨e,18,none⟩ _).setCell ⟨e,19,none⟩ _).setCell ⟨e,20,none⟩ _).setCell ⟨e,21,none⟩ _).heap[e]?=_
 exact(eset_at ((eset_at ((eset_at ((eset_at h _).trans rfl) _).trans rfl) _).trans rfl) _).trans rfl
theorem cNew_nil (w:World) (hi:Bool):Calls Tryz.prog 21 #[.slice none 0 0,.int .i64 0,.int .i64 (C.ordV hi)] w fun e w'=>∃ c,e = .returned (.tuple #[pV c,.int .i64 0])/\w.heap.size<=c/\w'.cell? ⟨c,2,none⟩=some (.int .i64 0)/\Below w.heap.size w w':=by
 have h1:(C.ordV hi != 0&&C.ordV hi != 1)=false:=by cases hi<;>rfl
 have FIN:Hid (∀ o ty,(w.alloc (.cells #[.slice none 0 0,.int .i64 0,.int .i64 0,.int .i64 o] ty)).cell? ⟨w.heap.size,2,none⟩=some (.int .i64 0)):=⟨fun o ty=>cell_at (heap_al w _) 2⟩
 cases hi
 ·have o0:C.ordV false=0:=rfl
  rw[o0]
  go_enter Tryz.func21,Tryz.ntmps21
  go_wp2_with fail
  go_ret2
  exact⟨_,rfl,Nat.le_refl _,FIN.out _ _,nbel _ _⟩
 ·have o0:C.ordV true=1:=rfl
  rw[o0]
  go_enter Tryz.func21,Tryz.ntmps21
  go_wp2_with fail
  go_ret2
  exact⟨_,rfl,Nat.le_refl _,FIN.out _ _,nbel _ _⟩
theorem eNew_yes (f:Fm) (hz:chkZ f=none) (pp:Option Addr) (cp:Nat) (hcp:f.toks.length<=cp) (w:World) (hc:ChkC w f pp cp) (tl:TkL w pp w.heap.size f.toks) (kt:KT w) (hi:Bool) (ho:f.ord=C.ordV hi) :
  Calls Tryz.prog 5 #[fmV f pp cp] w fun r w'=>∃ e n S0 S1 pa pm ma cu,r = .returned (.tuple #[pV e,.int .i64 0])/\E0 f n S0 S1 pa pm e ma cu false 0 0 w'/\(∃ t,f.toks[0]?=some t/\n=numZ f t)/\w.heap.size<=S0/\S1<=cu/\cu≠e/\w'.cell? ⟨cu,2,none⟩=some (.int .i64 0)/\Below w.heap.size w w':=by
 have hF:=fm_new w f pp cp
 have HB:Below w.heap.size w (w.alloc (fmO f pp cp)):=nbel _ _
 have cC:=hc _ HB
 rw[hz] at cC
 have lF:Hid _:=⟨hF.load⟩
 clear hF
 obtain⟨W1,hW1⟩:∃ W1,w.alloc (fmO f pp cp)=W1:=⟨_,rfl⟩
 have c1:W1.heap[w.heap.size]?=some (fmO f pp cp):=by rw[<- hW1];exact thnK _ _
 rw[hW1] at HB cC lF
 have hCC:Hid (∀ V,Below W1.heap.size W1 V->ChkC V f pp cp/\TkL V pp V.heap.size f.toks/\V.heap[w.heap.size]?=some (fmO f pp cp)):=⟨fun V hb=>by
  have h:=HB.trans (hb.mono HB.size)
  exact⟨fun X hx=>hc X (h.trans (hx.mono h.size)),(tl.below h).mono h.size,(hb.block _ (Array.getElem?_eq_some_iff.1 c1).1).trans c1⟩⟩
 replace HB:=Hid.mk HB
 replace cC:=Hid.mk cC
 replace hz:=Hid.mk hz
 replace tl:=Hid.mk tl
 replace c1:=Hid.mk c1
 replace ho:=Hid.mk ho
 clear hc
 have hmf:=mkfE
 go_enter Tryz.func5,Tryz.ntmps5
 go_upto_region 1 with fail
 generalize hX:World.alloc w _=X
 obtain rfl:X=W1:=hX.symm.trans hW1
 clear hX hW1
 go_upto_region 4 with (first
  | (guard_target =~ wpList _ _ _ (Oper.mk _ (Op.load 30 _) _ _ _ _::_) _ _;go_must (refine wpList_ld 30 (.tmp 1) rfl rfl _ _ rfl lF.out ?_);simp only[pts])
  | (go_at_call 14;refine cC.out.mono ?_;clear cC;rintro _ w1 ⟨rfl,b1⟩))
 obtain⟨q1,q2,q3⟩:=hCC.out w1 b1
 have cP:=planOf_any f hz.out pp cp hcp w1 q1 q2
 have lF2:Hid _:=⟨(FmC.of q3).load⟩
 replace b1:=Hid.mk b1
 clear q1 q2 q3 lF
 have bE:Hid _:=⟨fun n pa pm W=>bd_en f n pa pm W⟩
 have bX:Hid _:=⟨fun n pa pm W=>bx_en f n pa pm W⟩
 go_upto_region 5 with (first
  | (guard_target =~ wpList _ _ _ (Oper.mk _ (Op.load 30 _) _ _ _ _::_) _ _;go_must (refine wpList_ld 30 (.tmp 1) rfl rfl _ _ rfl lF2.out ?_);simp only[pts])
  | (go_at_call 15;refine cP.mono ?_;clear cP;rintro _ w2 ⟨n,pa,pm,lo,hi',U,rfl,p1,p2,p3,p4,p5,p6⟩;replace p1:=Hid.mk p1;replace p2:=Hid.mk p2;replace p3:=Hid.mk p3;replace p4:=Hid.mk p4;replace p5:=Hid.mk p5;replace p6:=Hid.mk p6)
  | (guard_target =~ wpList _ _ _ (Oper.mk _ (Op.build 63 _) _ _ _ _::_) _ _;go_must (refine wpList_bd 63 _ rfl rfl #[(2,.agg (plCs f n (some pa) (some pm)).toArray)] _ (by simp only[List.map_toArray,List.map_cons,List.map_nil];rfl) (bE.out n pa pm _) ?_);simp only[pts])
  | (guard_target =~ wpList _ _ _ (Oper.mk _ (Op.box 63 _) _ _ _ _::_) _ _;go_must (refine wpList_bx 63 _ rfl rfl (.agg (enCs f n pa pm (.pointer none) (.pointer none) nK false 0 0).toArray) _ rfl (bX.out n pa pm _) ?_);simp only[pts]))
 have b3:=nbel w2 (enN f n pa pm (.pointer none) (.pointer none) nK)
 have e3:=thnK w2 (enN f n pa pm (.pointer none) (.pointer none) nK)
 clear bE bX lF2
 generalize w2.alloc (enN f n pa pm (.pointer none) (.pointer none) nK)=w3 at *
 have sK:Hid _:=⟨st_ks (e:=w2.heap.size) e3 rfl⟩
 have e4:=ks_at e3
 have bK:Hid _:=⟨fun W=>bd_ks w2.heap.size W⟩
 have B4:Below w2.heap.size w2 (w3.setCells w2.heap.size 18 (kindF w2.heap.size)):=by
  show Below w2.heap.size w2 ((((w3.setCell ⟨w2.heap.size,18,none⟩ _).setCell ⟨w2.heap.size,19,none⟩ _).setCell ⟨w2.heap.size,20,none⟩ _).setCell ⟨w2.heap.size,21,none⟩ _)
  exact(((b3.setCell (p:=⟨w2.heap.size,18,none⟩) (Nat.le_refl _) _).setCell (p:=⟨w2.heap.size,19,none⟩) (Nat.le_refl _) _).setCell (p:=⟨w2.heap.size,20,none⟩) (Nat.le_refl _) _).setCell (p:=⟨w2.heap.size,21,none⟩) (Nat.le_refl _) _
 replace e3:=Hid.mk e3
 replace e4:=Hid.mk e4
 replace B4:=Hid.mk B4
 generalize hE:w2.heap.size=e at *
 replace hE:=Hid.mk hE
 go_upto_region 6 with (first
  | (guard_target =~ wpList _ _ _ (Oper.mk _ (Op.build 61 _) _ _ _ _::_) _ _;go_must (refine wpList_bd 61 _ rfl rfl #[(0,fnB 16 e),(1,fnB 17 e),(2,fnB 18 e),(3,fnB 19 e)] _ (by simp only[List.map_toArray,List.map_cons,List.map_nil];rfl) (bK.out w3) ?_);simp only[pts])
  | (guard_target =~ wpList _ _ _ (Oper.mk _ (Op.store 61 _ _) _ _ _ _::_) _ _;go_must (refine wpList_st 61 (.tmp 29) (.tmp 27) rfl rfl _ _ rfl rfl sK.out ?_);simp only[pts]))
 clear bK sK
 generalize w3.setCells e 18 (kindF e)=w4 at *
 have B4':Below w2.heap.size w2 w4:=by rw[hE.out];exact B4.out
 have cK:=Copy_mk (p2.out.below B4')
 have k16:w4.cell? ⟨e,16,none⟩=some (pV pa):=cell_at e4.out 16
 replace B4':=Hid.mk B4'
 go_upto_region 7 with (go_at_call 20;refine cK.mono ?_;clear cK;rintro _ w5 ⟨a1,U1,rfl,m5,u5,b5⟩;have e5:=(b5.block e (Array.getElem?_eq_some_iff.1 e4.out).1).trans e4.out;have j0:w5.cell? ⟨e,0,none⟩=some (.pointer none):=cell_at e5 0;have h0:w5.frozen? ⟨e,0,none⟩=false:=efrz e5)
 have e6:(w5.setCell ⟨e,0,none⟩ (pV a1)).heap[e]?=some (enN f n pa pm (pV a1) (.pointer none) (kindF e)):=(eset_at e5 _).trans rfl
 have B6:Below e w2 (w5.setCell ⟨e,0,none⟩ (pV a1)):=(B4.out.trans (b5.mono (by have:=(Array.getElem?_eq_some_iff.1 e4.out).1;omega))).setCell (p:=⟨e,0,none⟩) (Nat.le_refl _) _
 have k2:(w5.setCell ⟨e,0,none⟩ (pV a1)).cell? ⟨e,2,none⟩=some (.int .i64 (C.ordV hi)):=by rw[<- ho.out];exact cell_at e6 2
 clear j0 h0 e5 m5 u5 k16
 generalize w5.setCell ⟨e,0,none⟩ (pV a1)=w6 at *
 have cN:=cNew_nil w6 hi
 replace e6:=Hid.mk e6
 replace B6:=Hid.mk B6
 replace b5:=Hid.mk b5
 go_upto_region 8 with (go_at_call 21;refine cN.mono ?_;clear cN;rintro _ w7 ⟨c,rfl,hc,hc2,b7⟩;have e7:=(b7.block e (Array.getElem?_eq_some_iff.1 e6.out).1).trans e6.out;have j1:w7.cell? ⟨e,1,none⟩=some (.pointer none):=cell_at e7 1;have h1:w7.frozen? ⟨e,1,none⟩=false:=efrz e7)
 have le6:=(Array.getElem?_eq_some_iff.1 e6.out).1
 have e8:(w7.setCell ⟨e,1,none⟩ (pV c)).heap[e]?=some (enO f n pa pm e a1 c false 0 0):=(eset_at e7 _).trans rfl
 have B8:Below e w2 (w7.setCell ⟨e,1,none⟩ (pV c)):=(B6.out.trans (b7.mono (by omega))).setCell (p:=⟨e,1,none⟩) (Nat.le_refl _) _
 have hc8:(w7.setCell ⟨e,1,none⟩ (pV c)).cell? ⟨c,2,none⟩=some (.int .i64 0):=(World.cell?_of_block (w:=w7) (eset_off (show c≠e by omega))).trans hc2
 generalize w7.setCell ⟨e,1,none⟩ (pV c)=w8 at *
 clear j1 h1 e7
 replace e8:=Hid.mk e8
 replace B8:=Hid.mk B8
 replace hc8:=Hid.mk hc8
 go_wp2_with fail
 go_ret2
 have hE':=hE.out
 have B8':Below w2.heap.size w2 w8:=by rw[hE'];exact B8.out
 have Bw1:=HB.out.trans (b1.out.mono HB.out.size)
 have Bw2:=Bw1.trans (p5.out.mono Bw1.size)
 have Bw8:=Bw2.trans (B8'.mono Bw2.size)
 have hlt:=p2.out.hi_lt
 refine⟨e,n,w1.heap.size,e,pa,pm,a1,c,rfl,⟨⟨p1.out.same fun k _ hk=>B8.out.block k hk,⟨lo,hi',U,p2.out.below B8',fun k hk=>⟨p3.out k hk,by have:=p2.out.lt k hk;omega⟩,p4.out,by omega⟩,by have:=B8'.size;omega⟩,e8.out,by omega,kt.below kt.pos Bw8,by have:=kt.pos;have:=Bw1.size;have:=p5.out.size;omega⟩,p6.out,Bw1.size,by omega,by omega,hc8.out,Bw8⟩
end Go.Proofs.YtjlbcdnkglaheaaGreatDoor
