import Derived.Test.YtjnafpefolgcoaaGreatDoorK23
namespace Go.Proofs.YtjnafpefolgcoaaGreatDoor
set_option maxRecDepth 1000000
set_option maxHeartbeats 16000000
open Go.ChangeShapes Go.WideShapes Go.ChangeAt Go.RowKit Go.Shelf Go.Maps
def fltV (z:Option Int):Value:=match z with
 | none=>.agg #[.int .i64 0,.int .i64 0]
 | some a=>.agg #[.int .i64 121,.int .i64 a]
theorem runZ_at {f:Fm} {i:Nat} {t:Tk} {s:St} (ht:f.toks[i]?=some t):runZ f (f.toks.drop i) i s=if okZ f s i t then runZ f (f.toks.drop (i+1)) (i+1) (nxt s i t) else some (i:Int):=by
 rw[drop_at ht,runZ]
theorem keys_nil (l:List Tk):KeysV l [] 0 [] (fun _=>False) (fun _=>False) (fun _=>False) :=
 ⟨fun d=>by simp,fun s hs=>(by cases hs),fun s hs=>(by cases hs),fun s hs=>(by cases hs),fun k hk=>⟨fun n e=>e,fun v e=>e⟩⟩
theorem inv_nil (f:Fm):Inv f 0 ⟨[],[]⟩:=⟨fun x hx=>(by cases hx),trivial,fun _=>rfl,Nat.le_refl _⟩
theorem dep_nil:depOk [] (fun _=>0):=fun _ _=>rfl
theorem lp_start {f:Fm} {g o cp H:Nat} {w1 w':World} (hck:CkH w' (w1.heap.size+3) H (.slice none 0 0) 0 (.slice (some ⟨w1.heap.size+4,0,none⟩) 16 16) w1.heap.size (w1.heap.size+1) (w1.heap.size+2) (fun _=>0) false) (hrl:∀ q:Nat,w'.cell? ⟨w1.heap.size+4,q,none⟩=(rulA (w1.heap.size+3))[q]?) (m1:MHas w' 3 w1.heap.size 0 (fun _=>False)) (m2:MHas w' 159 (w1.heap.size+1) 0 (fun _=>False)) (m3:MHas w' 138 (w1.heap.size+2) 0 (fun _=>False)) (hs:w'.heap.size=w1.heap.size+5)
  (hH:H<w1.heap.size) (fm:FmC w' H 0 f (some ⟨g,o,none⟩) cp) (tl:TkL w' (some ⟨g,o,none⟩) H f.toks) (hg:g<H) (kt:KT w') (mt:MT w') (k0:3<H) (k1:1<H) :
  LpS w' ⟨w1.heap.size+3,H,w1.heap.size+5,0,g,o,cp,w1.heap.size,w1.heap.size+1,w1.heap.size+2,H,0⟩ (w1.heap.size+4) f ⟨[],[]⟩ (.slice none 0 0) (fun _=>0) false 0 (fun _=>False) (fun _=>False) (fun _=>False):=by
 refine⟨⟨fm,tl,⟨hg,Nat.le_refl _,by show H<=w1.heap.size+3;omega,by show H<=w1.heap.size+5;omega,Nat.le_of_lt hH,by show H<=w1.heap.size+1;omega,by show H<=w1.heap.size+2;omega,by show H≠w1.heap.size+3;omega,by show H≠w1.heap.size+5;omega,by show H≠w1.heap.size;omega,by show H≠w1.heap.size+1;omega,by show H≠w1.heap.size+2;omega,by show w1.heap.size+3≠w1.heap.size+5;omega,by show w1.heap.size+3≠w1.heap.size;omega,by show w1.heap.size+3≠w1.heap.size+1;omega,by show w1.heap.size+3≠w1.heap.size+2;omega,by show w1.heap.size+5≠w1.heap.size;omega,by show w1.heap.size+5≠w1.heap.size+1;omega,by show w1.heap.size+5≠w1.heap.size+2;omega,by show w1.heap.size≠w1.heap.size+1;omega,by show w1.heap.size≠w1.heap.size+2;omega,by show w1.heap.size+1≠w1.heap.size+2;omega⟩,kt,mt,by show H<=_;omega,by show H<_;omega,k0,k1,⟨by show w1.heap.size+4<_;omega,by show w1.heap.size+4≠w1.heap.size;omega,by show w1.heap.size+4≠w1.heap.size+1;omega,by show w1.heap.size+4≠w1.heap.size+2;omega,by show w1.heap.size+4≠w1.heap.size+5;omega,hrl⟩,⟨by show H<=w1.heap.size+4;omega,by show w1.heap.size+4≠w1.heap.size+3;omega,by show w1.heap.size+4≠H;omega⟩,⟨by show w1.heap.size<_;omega,by show w1.heap.size+1<_;omega,by show w1.heap.size+2<_;omega⟩,⟨m1,m2,m3,by decide⟩⟩,
  hck,fun e=>absurd rfl e,fun _=>⟨none,0,rfl⟩,fun _=>rfl,keys_nil _,dep_nil,rfl,inv_nil f,Nat.le_refl _,fun a ha=>(by cases ha)⟩
theorem cell_set {w:World} {X:Nat} {cs:Array Value} {ty:TypeId} (h:w.heap[X]?=some (.cells cs ty)) (k:Nat) (u:Value):(w.setCell ⟨X,k,none⟩ u).heap[X]?=some (.cells (cs.setIfInBounds k u) ty):=by
 show (w.heap.modify X _)[X]?=_
 rw[Array.getElem?_modify,if_pos rfl,h]
 rfl
theorem flt_set {w:World} {X:Nat} {a b:Value} (u0 u1:Value) (h:w.heap[X]?=some (.cells #[a,b] 63)):((w.setCell ⟨X,0,none⟩ u0).setCell ⟨X,1,none⟩ u1).heap[X]?=some (.cells #[u0,u1] 63):=cell_set (cell_set h 0 u0) 1 u1
theorem infoFt:(Tryz.prog.info? 63).map (·.size)=some 2:=by kernel_rfl
theorem LpS.off {w:World} {c:Cf} {gr:Nat} {f:Fm} {s:St} {v:Value} {dep:Nat->Int} {wh:Bool} {n:Nat} {h1 h2 h3:Value->Prop} {X:Nat} {cs:Array Value} (h:LpS w c gr f s v dep wh n h1 h2 h3) (hX:w.heap[X]?=some (.cells cs 63)) :
  ∃ go,go≠X/\LpS w { c with go:=go } gr f s v dep wh n h1 h2 h3:=by
 by_cases ho:s.open_=[]
 ·have hXl:=(Array.getElem?_eq_some_iff.1 hX).1
  have hsz:=h.b.sz
  have hml:=h.b.ml
  have hfl:=h.b.fl
  have hrt:=h.b.rl.lt
  have hBl:=h.ck.lt
  refine⟨w.heap.size+1,by omega,⟨h.b.moved (go:=w.heap.size+1) (cap:=c.cap) (i:=c.i) (.inr ⟨by omega,by omega,by omega,by omega,by omega,by omega,by omega⟩),h.ck,fun e=>absurd ho e,h.no,h.zr,h.ky,h.dp,h.wl,h.iv,h.nn,h.kl⟩⟩
 ·refine⟨c.go,fun e=>?_,h⟩
  obtain⟨cur,h1,_⟩:=(h.op ho).2.ex
  rw[e,hX] at h1
  have:=Option.some.inj h1
  injection this with _ h3
  revert h3
  decide
theorem check_some (f:Fm) (g o cp:Nat) (w:World) (tl:TkL w (some ⟨g,o,none⟩) w.heap.size f.toks) (hg:g<w.heap.size) (kt:KT w) (mt:MT w) :
  Calls Tryz.prog 21 #[fmV f (some ⟨g,o,none⟩) cp] w fun r w'=>r = .returned (fltV (chkZ f))/\Below w.heap.size w w':=by
 have hX:((w.alloc (fmO f (some ⟨g,o,none⟩) cp)).alloc (.cells #[.int .i64 0,.int .i64 0] 63)).heap[w.heap.size]?=some (fmO f (some ⟨g,o,none⟩) cp):=by
  show ((w.heap.push _).push _)[w.heap.size]?=_
  rw[Array.getElem?_push,if_neg (by simp),Array.getElem?_push,if_pos rfl]
 have hY:((w.alloc (fmO f (some ⟨g,o,none⟩) cp)).alloc (.cells #[.int .i64 0,.int .i64 0] 63)).heap[w.heap.size+1]?=some (.cells #[.int .i64 0,.int .i64 0] 63):=by
  show ((w.heap.push _).push _)[w.heap.size+1]?=_
  rw[Array.getElem?_push,if_pos (by simp)]
 have HB:Below w.heap.size w ((w.alloc (fmO f (some ⟨g,o,none⟩) cp)).alloc (.cells #[.int .i64 0,.int .i64 0] 63)):=(bel1 w _).alloc (by simp) _
 have HS:((w.alloc (fmO f (some ⟨g,o,none⟩) cp)).alloc (.cells #[.int .i64 0,.int .i64 0] 63)).heap.size=w.heap.size+2:=by simp
 generalize hW:(w.alloc (fmO f (some ⟨g,o,none⟩) cp)).alloc (.cells #[.int .i64 0,.int .i64 0] 63)=W at hX hY HB HS
 simp only[fmO] at hW
 have hF:FmC W w.heap.size 0 f (some ⟨g,o,none⟩) cp:=⟨cell_at hX 0,cell_at hX 1,cell_at hX 2,cell_at hX 3,cell_at hX 4,cell_at hX 5,cell_at hX 6,cell_at hX 7,cell_at hX 8,cell_at hX 9,cell_at hX 10,cell_at hX 11,cell_at hX 12⟩
 have cH:=isHeaded_any f w.heap.size 0 (some ⟨g,o,none⟩) cp W (kt.up HB) (by omega) hF
 replace cH:=Hid.mk cH
 replace hX:=Hid.mk hX
 replace hY:=Hid.mk hY
 replace hF:=Hid.mk hF
 replace HB:=Hid.mk HB
 cases hhd:headB f with
 | false =>
  have hz:chkZ f=some (-1):=by unfold chkZ;rw[hhd];rfl
  rw[hz]
  rw[hhd] at cH
  clear hhd hz
  go_enter Tryz.func21,Tryz.ntmps21
  go_wp2_with (go_at_call 42;refine cH.out.mono ?_;rintro _ w1 ⟨rfl,hb⟩;have y1:=(hb.block (w.heap.size+1) (by omega)).trans hY.out;have y10:=cell_at y1 0;have y11:=cell_at y1 1;have yf:∀ k,w1.frozen? ⟨w.heap.size+1,k,none⟩=false:=(fun k=>by simp[World.frozen?,y1]);replace y1:=Hid.mk y1;replace hb:=Hid.mk hb)
  refine bodyPost_ret (results_cell_row rfl _ _ (w.heap.size+1) 63 #[.int .i64 121,.int .i64 (-1)] (0,0) _ rfl (flt_set _ _ y1.out) Tryz.underlying63 rfl infoFt) rfl ⟨rfl,?_⟩
  exact((HB.out.trans (hb.out.mono HB.out.size)).setCell (p:=⟨w.heap.size+1,0,none⟩) (by show w.heap.size<=w.heap.size+1;omega) _).setCell (p:=⟨w.heap.size+1,1,none⟩) (by show w.heap.size<=w.heap.size+1;omega) _
 | true =>
  have hz:chkZ f=runZ f f.toks 0 ⟨[],[]⟩:=by unfold chkZ;rw[hhd];rfl
  rw[hz]
  rw[hhd] at cH
  clear hhd hz
  obtain⟨Z,hZ⟩:∃ Z,runZ f f.toks 0 ⟨[],[]⟩=Z:=⟨_,rfl⟩
  rw[hZ]
  replace hZ:=Hid.mk hZ
  replace kt:=Hid.mk kt
  replace mt:=Hid.mk mt
  replace tl:=Hid.mk tl
  go_enter Tryz.func21,Tryz.ntmps21
  go_wp2_with (first
   | (go_at_call 42;refine cH.out.mono ?_;rintro _ w1 ⟨rfl,hb⟩;replace hb:=Hid.mk hb)
   | (go_at_call 43;refine(newChecker_any w.heap.size w1).mono ?_;rintro _ w2 ⟨rfl,hck,hrl,hm1,hm2,hm3,hs2,hb2⟩;replace hck:=Hid.mk hck;replace hrl:=Hid.mk hrl;replace hm1:=Hid.mk hm1;replace hm2:=Hid.mk hm2;replace hm3:=Hid.mk hm3;replace hs2:=Hid.mk hs2;replace hb2:=Hid.mk hb2))
  have hw1:=hb.out.size
  have hb02:Below w.heap.size w w2:=HB.out.trans ((hb.out.trans (hb2.out.mono hw1)).mono HB.out.size)
  have hF2:=(hF.out.below (by omega) hb.out).below (Nat.lt_of_lt_of_le (by omega:w.heap.size<W.heap.size) hw1) hb2.out
  have hS:=lp_start (H:=w.heap.size) hck.out hrl.out hm1.out hm2.out hm3.out hs2.out (by omega) hF2 (tl.out.below hb02) hg (kt.out.up hb02) (mt.out.below mt.out.pos hb02) kt.out.pos mt.out.pos
  have hY2:=(hb2.out.block (w.heap.size+1) (by omega)).trans ((hb.out.block (w.heap.size+1) (by omega)).trans hY.out)
  have hs22:=hs2.out
  go_loopw [4] (fun u wr=>∃ go cap m1 m2 m3 i s v dep wh n h1 h2 h3,Hid (LpS wr ⟨w1.heap.size+3,w.heap.size,go,cap,g,o,cp,m1,m2,m3,w.heap.size,i⟩ (w1.heap.size+4) f s v dep wh n h1 h2 h3)/\Hid (runZ f (f.toks.drop i) i s=Z)/\i<=f.toks.length/\Hid (Below w.heap.size w wr)/\Hid (wr.heap[w.heap.size+1]?=some (.cells #[.int .i64 0,.int .i64 0] 63))/\Hid (w.heap.size+1<m1/\w.heap.size+1<m2/\w.heap.size+1<m3)/\u=u) (fun _ wr=>f.toks.length-(RowKit.intOf ((wr.cell? ⟨w1.heap.size+3,2,none⟩).getD (.int .i64 0))).toNat)
  case atStart=>exact⟨_,_,_,_,_,0,_,_,_,_,_,_,_,_,⟨hS⟩,⟨by rw[List.drop_zero];exact hZ.out⟩,Nat.zero_le _,⟨hb02⟩,⟨hY2⟩,⟨by omega,by omega,by omega⟩,rfl⟩
  case round =>
   obtain⟨go,cap,m1,m2,m3,i,s,v,dep,wh,n,h1,h2,h3,hS,hR,hi,hB,hY,hm,-⟩:=hrel
   have k2:=hS.out.ck.ck.c2
   have m12:wr.cell? ⟨w.heap.size,12,none⟩=some (.slice (some ⟨g,o,none⟩) f.toks.length cp):=hS.out.b.fm.c12
   have hlen:=hS.out.b.tl.len
   by_cases hlt:i<f.toks.length
   ·obtain⟨t,ht⟩:∃ t,f.toks[i]?=some t:=⟨f.toks[i],List.getElem?_eq_getElem hlt⟩
    obtain⟨go2,hgo,hS2⟩:=hS.out.off hY.out
    have hlti:(i:Int)<f.toks.length:=by omega
    have hr:=hR.out
    rw[runZ_at ht] at hr
    have hT2:=hS2
    have cT:∀ W',Below wr.heap.size wr W'->_:=fun W' hb'=>lp_takes (t:=t) (hT2.below hb') ht
    replace cT:=Hid.mk cT
    replace hr:=Hid.mk hr
    replace hS2:=Hid.mk hS2
    clear hT2
    have hBl:w1.heap.size+3<wr.heap.size:=hS.out.ck.lt
    go_wp2_with fail
    go_quiet (fail)
    go_wp2_with fail
    go_quiet (fail)
    go_wp2_with fail
    refine(cT.out _ (tdr (Below.refl _ _))).mono ?_
    rintro _ w3 ⟨rfl,hk3,hb3,hP⟩
    have hap:=hS2.out.b.ap
    have hE:∀ k∈[w1.heap.size+3,m1,m2,m3,go2],w.heap.size<=k:=fun k hk=>by
     have b1:w.heap.size<=w1.heap.size+3:=hap.B
     have b2:w.heap.size<=m1:=hap.m1
     have b3:w.heap.size<=m2:=hap.m2
     have b4:w.heap.size<=m3:=hap.m3
     have b5:w.heap.size<=go2:=hap.go
     simp at hk
     omega
    have hXE:w.heap.size+1∉[w1.heap.size+3,m1,m2,m3,go2]:=by have:=hm.out;simp;omega
    have hwr:w.heap.size+1<wr.heap.size:=(Array.getElem?_eq_some_iff.1 hY.out).1
    replace hap:=Hid.mk hap
    replace hE:=Hid.mk hE
    replace hXE:=Hid.mk hXE
    cases hok:okZ f s i t with
    | true =>
     have hr1:runZ f (f.toks.drop (i+1)) (i+1) (nxt s i t)=Z:=by
      have h5:=hr.out
      rwa [if_pos hok] at h5
     have hP1:=hP hok
     replace hr1:=Hid.mk hr1
     replace hP1:=Hid.mk hP1
     replace hk3:=Hid.mk hk3
     clear hok hP hb3 cT hr
     go_wp2_with (go_at_call 45;refine hP1.out.mono ?_;rintro _ w4 ⟨rfl,hk4,⟨q2,qf⟩,go',cap',v',dep',wh',n',g1,g2,g3,hL⟩;replace hk4:=Hid.mk hk4;replace hL:=Hid.mk hL)
     have hL5:=hL.out
     have k5:=hL5.ck.ck.c2
     go_roundw
     case rel=>exact⟨go',cap',m1,m2,m3,i+1,nxt s i t,v',dep',wh',n',g1,g2,g3,hL,hr1,by omega,⟨((tdr hB.out).trans (hk4.out.below hB.out.size hE.out)).setCell (p:=⟨w1.heap.size+3,2,none⟩) (by show w.heap.size<=w1.heap.size+3;omega) _⟩,⟨(set_oth (by omega)).trans ((hk4.out.block _ hwr hXE.out).trans hY.out)⟩,hm,trivial⟩
     case measure =>
      rw[k2,show (w4.setCell ⟨w1.heap.size+3,2,none⟩ (.int .i64 ((i:Int)+1))).cell? ⟨w1.heap.size+3,2,none⟩=some (.int .i64 ((i+1:Nat):Int)) from k5]
      simp[RowKit.intOf]
      omega
    | false =>
     have hz:Z=some (i:Int):=by
      have h5:=hr.out
      rw[if_neg (by rw[hok];decide)] at h5
      exact h5.symm
     subst hz
     have q2:=(cell_blk (o:=2) hb3).trans k2
     have y3:=(hk3.block _ hwr hXE.out).trans hY.out
     have y30:=cell_at y3 0
     have y31:=cell_at y3 1
     have yf:∀ k,w3.frozen? ⟨w.heap.size+1,k,none⟩=false:=fun k=>by simp[World.frozen?,y3]
     have hb5:∀ u0 u1,Below w.heap.size w ((w3.setCell ⟨w.heap.size+1,0,none⟩ u0).setCell ⟨w.heap.size+1,1,none⟩ u1):=fun u0 u1=>(((tdr hB.out).trans (hk3.below hB.out.size hE.out)).setCell (p:=⟨w.heap.size+1,0,none⟩) (by show w.heap.size<=w.heap.size+1;omega) _).setCell (p:=⟨w.heap.size+1,1,none⟩) (by show w.heap.size<=w.heap.size+1;omega) _
     replace hb5:=Hid.mk hb5
     replace y3:=Hid.mk y3
     clear hok hP hb3 cT hr hk3
     go_wp2_with fail
     refine bodyPost_ret (results_cell_row rfl _ _ (w.heap.size+1) 63 #[.int .i64 121,.int .i64 (i:Int)] (0,0) _ rfl (flt_set _ _ y3.out) Tryz.underlying63 rfl infoFt) rfl ⟨rfl,?_⟩
     exact hb5.out _ _
   ·obtain rfl:i=f.toks.length:=by omega
    have hr:=hR.out
    rw[List.drop_length,runZ] at hr
    have hwl:=hS.out.wl
    have k23:=hS.out.ck.ck.c23
    have hY0:=cell_at hY.out 0
    have hY1:=cell_at hY.out 1
    have yf:∀ k,wr.frozen? ⟨w.heap.size+1,k,none⟩=false:=fun k=>by simp[World.frozen?,hY.out]
    have hb5:∀ u0 u1,Below w.heap.size w ((wr.setCell ⟨w.heap.size+1,0,none⟩ u0).setCell ⟨w.heap.size+1,1,none⟩ u1):=fun u0 u1=>(hB.out.setCell (p:=⟨w.heap.size+1,0,none⟩) (by show w.heap.size<=w.heap.size+1;omega) _).setCell (p:=⟨w.heap.size+1,1,none⟩) (by show w.heap.size<=w.heap.size+1;omega) _
    replace hb5:=Hid.mk hb5
    cases wh with
    | true =>
     have hz:Z=none:=by
      rw[<- hr,if_neg]
      intro e
      have h5:(decide (s.open_=[])&&decide (f.toks.length≠0))=true:=hwl.symm
      simp only[Bool.and_eq_true,decide_eq_true_eq] at h5
      rcases e with e|e
      ·exact h5.2 e
      ·exact e h5.1
     subst hz
     clear hr hwl
     go_wp2_with fail
     go_quiet (fail)
     go_wp2_with fail
     refine bodyPost_ret (results_cell_row rfl _ _ (w.heap.size+1) 63 #[.int .i64 0,.int .i64 0] (0,0) _ rfl (flt_set (w:=wr.drewN nq) _ _ hY.out) Tryz.underlying63 rfl infoFt) rfl ⟨rfl,?_⟩
     exact tdr (hb5.out _ _)
    | false =>
     have hz:Z=some (f.toks.length:Int):=by
      rw[<- hr,if_pos]
      have h5:(decide (s.open_=[])&&decide (f.toks.length≠0))=false:=hwl.symm
      by_cases e:f.toks.length=0
      ·exact .inl e
      ·refine .inr (fun e2=>?_)
       rw[e2] at h5
       simp at h5
       exact e (by rw[h5];rfl)
     subst hz
     clear hr hwl
     go_wp2_with fail
     go_quiet (fail)
     go_wp2_with fail
     refine bodyPost_ret (results_cell_row rfl _ _ (w.heap.size+1) 63 #[.int .i64 121,.int .i64 (f.toks.length:Int)] (0,0) _ rfl (flt_set (w:=wr.drewN nq) _ _ hY.out) Tryz.underlying63 rfl infoFt) rfl ⟨rfl,?_⟩
     exact tdr (hb5.out _ _)
def stgO (l:List Tk) (s:Sc):Int:=if s.tk.op=0\/s.tk.op=4 then (if lastOp l s=4 then 1 else if lastOp l s=6 then 2 else 0) else if s.tk.op=10\/s.tk.op=12 then (if s.kids.length=0 then 0 else 1) else (s.kids.length:Int)
def mayD (xo stage op:Int):Bool :=
 if xo=0\/xo=4 then decide ((op=2/\stage=0)\/(op=4/\stage<=1)\/op=6)
 else if xo=2 then decide (stage=0)&&tyO op
 else if xo=8 then tyO op
 else if xo=10\/xo=12 then decide ((stage=0/\op=14)\/(0<stage/\op=15))
 else false
theorem last_par {l:List Tk} {i:Nat} {s:Sc} (h:ScOk l i s) (ho:s.tk.op=0\/s.tk.op=4):lastOp l s=0\/lastOp l s=2\/lastOp l s=4\/lastOp l s=6:=by
 unfold lastOp
 cases hk:s.kids.getLast? with
 | none=>exact .inl rfl
 | some k =>
  obtain⟨t,ht,hp⟩:=h.par ho k (List.mem_of_getLast? hk)
  dsimp only
  rw[ht]
  unfold ptO at hp
  have:=decT hp
  show t.op=0\/t.op=2\/t.op=4\/t.op=6
  omega
theorem may_doc {l:List Tk} {i:Nat} {s:Sc} {op:Int} (h:ScOk l i s) (he:edO op=false):mayD s.tk.op (stgO l s) op=mayB l s op:=by
 have hne:¬ op=s.tk.op+1:=fun e=>by rw[e,edO_succ h.beg] at he;cases he
 have hb:=h.beg
 unfold bgO at hb
 have hb:=decT hb
 rw[Bool.eq_iff_iff]
 unfold mayD mayB stgO
 by_cases h0:s.tk.op=0\/s.tk.op=4
 ·rw[if_pos h0,if_pos h0,if_pos h0]
  have hl:=last_par h h0
  unfold ptO
  simp only[decide_eq_true_eq,Bool.or_eq_true,Bool.and_eq_true]
  rcases hl with e|e|e|e<;>rw[e]<;>simp<;>omega
 rw[if_neg h0,if_neg h0,if_neg h0]
 by_cases h10:s.tk.op=10\/s.tk.op=12
 ·have n2:¬ s.tk.op=2:=by omega
  have n8:¬ s.tk.op=8:=by omega
  rw[if_neg n2,if_neg n2,if_neg n8,if_pos h10,if_pos h10,if_pos h10]
  by_cases hk:s.kids.length=0
  ·simp[hk]
  ·simp[hk,hne]
 rw[if_neg h10,if_neg h10,if_neg h10]
 by_cases h2:s.tk.op=2
 ·rw[if_pos h2,if_pos h2]
  simp only[decide_eq_true_eq,Bool.or_eq_true,Bool.and_eq_true]
  constructor
  ·rintro⟨h5,h6⟩;exact .inl ⟨by omega,h6⟩
  ·rintro(⟨h5,h6⟩|⟨_,h6⟩)
   ·exact⟨by omega,h6⟩
   ·exact absurd h6 hne
 rw[if_neg h2,if_neg h2]
 by_cases h8:s.tk.op=8
 ·rw[if_pos h8,if_pos h8]
  simp only[decide_eq_true_eq,Bool.or_eq_true]
  exact⟨.inl,fun e=>e.elim id (fun e=>absurd e hne)⟩
 ·rw[if_neg h8,if_neg h8]
  simp[hne]
structure Od where
 at_:Nat
 stg:Int
 en:Int
 snc:Int
 row:Int
def odOf (l:List Tk) (s:Sc):Od:=⟨s.at_,stgO l s,s.e0,s.fld,s.row⟩
def odC (s:Od):List Value:=[.int .i64 (s.at_:Int),.int .i64 s.stg,.int .i64 s.en,.int .i64 s.snc,.int .i64 s.row]
def odCs (l:List Od):List Value:=l.flatMap odC
theorem odCs_length (l:List Od):(odCs l).length=l.length*5:=by
 induction l with
 | nil=>rfl
 | cons a r ih =>
  unfold odCs at ih ⊢
  rw[List.flatMap_cons,List.length_append,ih,List.length_cons]
  show 5+_=_
  omega
theorem odCs_append (a b:List Od):odCs (a++b)=odCs a++odCs b:=by unfold odCs;rw[List.flatMap_append]
structure OdC (w:World) (go k:Nat) (x:Od):Prop where
 c0:w.cell? ⟨go,k,none⟩=some (.int .i64 (x.at_:Int))
 c1:w.cell? ⟨go,k+1,none⟩=some (.int .i64 x.stg)
 c2:w.cell? ⟨go,k+2,none⟩=some (.int .i64 x.en)
 c3:w.cell? ⟨go,k+3,none⟩=some (.int .i64 x.snc)
 c4:w.cell? ⟨go,k+4,none⟩=some (.int .i64 x.row)
theorem OdC.same {w w':World} {go k:Nat} {x:Od} (h:OdC w go k x) (hb:w'.heap[go]?=w.heap[go]?):OdC w' go k x :=
 ⟨(cell_blk hb).trans h.c0,(cell_blk hb).trans h.c1,(cell_blk hb).trans h.c2,(cell_blk hb).trans h.c3,(cell_blk hb).trans h.c4⟩
structure OdR (w:World) (go cap:Nat) (l:List Od):Prop where
 ex:∃ cur:Array Value,w.heap[go]?=some (.cells cur 58 (0,0))/\l.length<=cap/\cap<=maxLen/\cur.size=cap*5/\cur.toList.take (l.length*5)=odCs l
theorem OdR.same {w w':World} {go cap:Nat} {l:List Od} (h:OdR w go cap l) (hb:w'.heap[go]?=w.heap[go]?):OdR w' go cap l:=by
 obtain⟨cur,h1,r⟩:=h.ex
 exact⟨cur,hb.trans h1,r⟩
theorem OdR.lt {w:World} {go cap:Nat} {l:List Od} (h:OdR w go cap l):go<w.heap.size:=by
 obtain⟨cur,h1,_⟩:=h.ex
 exact(Array.getElem?_eq_some_iff.1 h1).1
theorem OdR.cap {w:World} {go cap:Nat} {l:List Od} (h:OdR w go cap l):l.length<=cap:=by
 obtain⟨cur,_,h1,_⟩:=h.ex
 exact h1
theorem OdR.owns {w:World} {go cap:Nat} {l:List Od} (h:OdR w go cap l) {base:Nat} (hb:base<=go):w.ownsRow base 58 5 (.slice (some ⟨go,0,none⟩) l.length cap) l.length (odCs l):=by
 obtain⟨cur,h1,h2,h3,h4,h5⟩:=h.ex
 exact⟨odCs_length l,.inr ⟨go,cap,cur,rfl,hb,h1,h2,h3,h4,h5⟩⟩
theorem OdR.cell {w:World} {go cap:Nat} {l:List Od} (h:OdR w go cap l) {j:Nat} {u:Value} (hu:(odCs l)[j]?=some u):w.cell? ⟨go,j,none⟩=some u:=by
 obtain⟨cur,h1,h2,h3,h4,h5⟩:=h.ex
 rw[<- h5,List.getElem?_take] at hu
 split at hu
 ·simp only[World.cell?,h1]
  simpa using hu
 ·cases hu
theorem OdR.less {w:World} {go cap:Nat} {L M:List Od} (h:OdR w go cap (L++M)):OdR w go cap L:=by
 obtain⟨cur,h1,h2,h3,h4,h5⟩:=h.ex
 rw[List.length_append] at h2
 refine⟨cur,h1,by omega,h3,h4,?_⟩
 have:=congrArg (List.take (L.length*5)) h5
 rw[List.take_take,odCs_append,List.take_left' (odCs_length L)] at this
 rw[<- this,List.length_append]
 congr 1
 omega
theorem odCs_last (L:List Od) (x:Od) (j:Nat) (hj:j<5):(odCs (L++[x]))[L.length*5+j]?=(odC x)[j]?:=by
 rw[odCs_append,List.getElem?_append_right (by rw[odCs_length];omega),odCs_length]
 rw[show L.length*5+j-L.length*5=j by omega]
 unfold odCs
 rw[List.flatMap_cons,List.flatMap_nil,List.append_nil]
theorem OdR.last {w:World} {go cap:Nat} {L:List Od} {x:Od} (h:OdR w go cap (L++[x])):OdC w go (L.length*5) x :=
 have c:=fun j u (hj:j<5) (hu:(odC x)[j]?=some u)=>h.cell ((odCs_last L x j hj).trans hu)
 ⟨c 0 _ (by decide) rfl,c 1 _ (by decide) rfl,c 2 _ (by decide) rfl,c 3 _ (by decide) rfl,c 4 _ (by decide) rfl⟩
theorem OdR.at {w:World} {go cap:Nat} {l:List Od} (h:OdR w go cap l) {k:Nat} {x:Od} (hk:l[k]?=some x):OdC w go (k*5) x:=by
 obtain⟨h1,h2⟩:=List.getElem?_eq_some_iff.1 hk
 have e:l=(l.take k++[x])++l.drop (k+1):=by
  rw[<- take_at hk,List.take_append_drop]
 rw[e] at h
 have:=h.less.last
 rwa [List.length_take,Nat.min_eq_left (by omega)] at this
theorem OdR.set {w:World} {go cap:Nat} {L:List Od} {x x':Od} {j:Nat} {v:Value} (h:OdR w go cap (L++[x])) (hj:j<5) (hx:odC x'=(odC x).set j v):OdR (w.setCell ⟨go,L.length*5+j,none⟩ v) go cap (L++[x']):=by
 obtain⟨cur,h1,h2,h3,h4,h5⟩:=h.ex
 have hl:(L++[x]).length=(L++[x']).length:=by simp
 refine⟨cur.setIfInBounds (L.length*5+j) v,?_,by rw[<- hl];exact h2,h3,by rw[Array.size_setIfInBounds];exact h4,?_⟩
 ·show (w.heap.modify go _)[go]?=_
  rw[Array.getElem?_modify,if_pos rfl,h1]
  rfl
 ·rw[Array.toList_setIfInBounds,List.take_set,<- hl,h5,odCs_append,odCs_append,List.set_append_right _ _ (by rw[odCs_length];omega),odCs_length]
  rw[show L.length*5+j-L.length*5=j by omega]
  congr 1
  unfold odCs
  rw[List.flatMap_cons,List.flatMap_nil,List.append_nil,List.flatMap_cons,List.flatMap_nil,List.append_nil,hx]
theorem OdR.frz {w:World} {go cap:Nat} {l:List Od} (h:OdR w go cap l) (j:Nat):w.frozen? ⟨go,j,none⟩=false:=by
 obtain⟨cur,h1,_⟩:=h.ex
 simp[World.frozen?,h1]
def dsA (f:Fm) (pp:Option Addr) (cp:Nat) (vo vi:Value):Array Value:=#[.int .i64 f.ord,.int .i64 f.sch,.int .i64 f.ver,.int .i64 f.hsz,.int .i64 f.hb.p,.int .i64 f.hb.o,.int .i64 f.ht.p,.int .i64 f.ht.o,.int .i64 f.hs.p,.int .i64 f.hs.o,.int .i64 f.hv.p,.int .i64 f.hv.o,.slice pp f.toks.length cp,vo,vi]
def DsH (w:World) (B:Nat) (f:Fm) (pp:Option Addr) (cp:Nat) (vo vi:Value):Prop:=w.heap[B]?=some (.cells (dsA f pp cp vo vi) 47 (0,0))
section
variable {w:World} {B:Nat} {f:Fm} {pp:Option Addr} {cp:Nat} {vo vi:Value}
theorem DsH.lt (h:DsH w B f pp cp vo vi):B<w.heap.size:=(Array.getElem?_eq_some_iff.1 h).1
theorem DsH.cell (h:DsH w B f pp cp vo vi) (k:Nat):w.cell? ⟨B,k,none⟩=(dsA f pp cp vo vi)[k]?:=cell_at h k
theorem DsH.fm (h:DsH w B f pp cp vo vi):FmC w B 0 f pp cp:=⟨h.cell 0,h.cell 1,h.cell 2,h.cell 3,h.cell 4,h.cell 5,h.cell 6,h.cell 7,h.cell 8,h.cell 9,h.cell 10,h.cell 11,h.cell 12⟩
theorem DsH.c12 (h:DsH w B f pp cp vo vi):w.cell? ⟨B,12,none⟩=some (.slice pp f.toks.length cp):=h.cell 12
theorem DsH.c13 (h:DsH w B f pp cp vo vi):w.cell? ⟨B,13,none⟩=some vo:=h.cell 13
theorem DsH.c14 (h:DsH w B f pp cp vo vi):w.cell? ⟨B,14,none⟩=some vi:=h.cell 14
theorem DsH.frz (h:DsH w B f pp cp vo vi) (k:Nat):w.frozen? ⟨B,k,none⟩=false:=by
 unfold DsH at h
 simp[World.frozen?,h]
theorem DsH.same {w':World} (h:DsH w B f pp cp vo vi) (hb:w'.heap[B]?=w.heap[B]?):DsH w' B f pp cp vo vi:=hb.trans h
theorem DsH.put (h:DsH w B f pp cp vo vi) (k:Nat) (v:Value):(w.setCell ⟨B,k,none⟩ v).heap[B]?=some (.cells ((dsA f pp cp vo vi).setIfInBounds k v) 47 (0,0)):=by
 show (w.heap.modify B _)[B]?=_
 unfold DsH at h
 rw[Array.getElem?_modify,if_pos rfl,h]
 rfl
theorem DsH.setO (h:DsH w B f pp cp vo vi) (v:Value):DsH (w.setCell ⟨B,13,none⟩ v) B f pp cp v vi:=h.put 13 v
theorem DsH.setI (h:DsH w B f pp cp vo vi) (v:Value):DsH (w.setCell ⟨B,14,none⟩ v) B f pp cp vo v:=h.put 14 v
end
def idC (l:List Int):List Value:=l.map (Value.int .i64 ·)
structure Df where
 B:Nat
 go:Nat
 cap:Nat
 g:Nat
 o:Nat
 cp:Nat
 H:Nat
 i:Nat
structure Dap (c:Df) (vi:Value):Prop where
 g:c.g<c.H
 B:c.H<=c.B
 go:c.H<=c.go
 Bo:c.B≠c.go
 iB:vi.ownBlock≠some c.B
 io:vi.ownBlock≠some c.go
structure Dt (w:World) (c:Df) (f:Fm) (L:List Od) (x:Od) (xt t:Tk) (ids:List Int) (vi:Value):Prop where
 ds:DsH w c.B f (some ⟨c.g,c.o,none⟩) c.cp (.slice (some ⟨c.go,0,none⟩) (L.length+1) c.cap) vi
 op:OdR w c.go c.cap (L++[x])
 ir:w.ownsRow c.H 3 1 vi ids.length (idC ids)
 tl:TkL w (some ⟨c.g,c.o,none⟩) c.H f.toks
 hx:f.toks[x.at_]?=some xt
 ht:f.toks[c.i]?=some t
 ap:Dap c vi
 sz:c.H<=w.heap.size
 ln:L.length<1000000000000
section
variable {w w':World} {c:Df} {f:Fm} {L:List Od} {x x':Od} {xt t:Tk} {ids:List Int} {vi:Value}
theorem Dt.lg (h:Dt w c f L x xt t ids vi):c.g<w.heap.size:=Nat.lt_of_lt_of_le h.ap.g h.sz
theorem Dt.ll (h:Dt w c f L x xt t ids vi):f.toks.length<=733007751850:=by have:=h.tl.len;omega
theorem Dt.il (h:Dt w c f L x xt t ids vi):c.i<f.toks.length:=(List.getElem?_eq_some_iff.1 h.ht).1
theorem Dt.xl (h:Dt w c f L x xt t ids vi):x.at_<f.toks.length:=(List.getElem?_eq_some_iff.1 h.hx).1
theorem Dt.below (h:Dt w c f L x xt t ids vi) (hb:Below w.heap.size w w'):Dt w' c f L x xt t ids vi :=
 ⟨h.ds.same (hb.block _ h.ds.lt),h.op.same (hb.block _ h.op.lt),own_alloc2 h.ir hb,h.tl.below (hb.mono h.sz),h.hx,h.ht,h.ap,Nat.le_trans h.sz hb.size,h.ln⟩
theorem Dt.tk (h:Dt w c f L x xt t ids vi):∃ pc cc,TkC w c.g (c.o+c.i*21) t pc cc/\URow w pc c.H t.cst/\t.cst.length<=cc/\TkOk t:=by
 obtain⟨g,o,pc,cc,e,_,h1,h2,h3,h4⟩:=h.tl.at h.ht
 cases e
 exact⟨pc,cc,h1,h2,h3,h4⟩
theorem Dt.xk (h:Dt w c f L x xt t ids vi):∃ pc cc,TkC w c.g (c.o+x.at_*21) xt pc cc/\TkOk xt:=by
 obtain⟨g,o,pc,cc,e,_,h1,_,_,h4⟩:=h.tl.at h.hx
 cases e
 exact⟨pc,cc,h1,h4⟩
theorem Dt.sc (h:Dt w c f L x xt t ids vi):OdC w c.go (L.length*5) x:=h.op.last
theorem Dt.wrote (h:Dt w c f L x xt t ids vi) {j:Nat} {v:Value} (hj:j<5) (hx:odC x'=(odC x).set j v) (ha:x'.at_=x.at_):Dt (w.setCell ⟨c.go,L.length*5+j,none⟩ v) c f L x' xt t ids vi:=by
 have hb:Kb [c.go] w (w.setCell ⟨c.go,L.length*5+j,none⟩ v):=(Kb.refl _ _).set (List.mem_singleton.2 rfl) v
 have a:=h.ap
 have nl:∀ k,k<c.H->k∉[c.go]:=fun k hk e=>by have:=a.go;have:=List.mem_singleton.1 e;omega
 refine⟨h.ds.same (hb.block _ h.ds.lt (notin1 a.Bo)),h.op.set hj hx,?_,⟨h.tl.row.same fun k hk=>hb.block k (Nat.lt_of_lt_of_le hk h.sz) (nl k hk),h.tl.len,h.tl.ok⟩,by rw[ha];exact h.hx,h.ht,h.ap,Nat.le_trans h.sz hb.size,h.ln⟩
 refine⟨h.ir.1,?_⟩
 rcases h.ir.2 with h0|⟨g,cap,cur,e,hb',hg,r⟩
 ·exact .inl h0
 ·refine .inr ⟨g,cap,cur,e,hb',(hb.block g (Array.getElem?_eq_some_iff.1 hg).1 (notin1 fun e'=>?_)).trans hg,r⟩
  apply a.io
  rw[e,e']
  rfl
end
end Go.Proofs.YtjnafpefolgcoaaGreatDoor
