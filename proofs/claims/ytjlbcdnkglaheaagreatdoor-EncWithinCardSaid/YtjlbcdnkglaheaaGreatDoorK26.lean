import Derived.Test.YtjlbcdnkglaheaaGreatDoorK25
namespace Go.Proofs.YtjlbcdnkglaheaaGreatDoor
set_option maxRecDepth 1000000
set_option maxHeartbeats 16000000
open Go.ChangeShapes Go.WideShapes Go.ChangeAt Go.RowKit Go.Shelf Go.Maps
def fltV (z:Option Int):Value:=match z with
 | none=>.agg #[.int .i64 0,.int .i64 0]
 | some a=>.agg #[.int .i64 121,.int .i64 a]
theorem runZ_at {f:Fm} {i:Nat} {t:Tk} {s:St} (ht:f.toks[i]?=some t):runZ f (f.toks.drop i) i s=if okZ f s i t then runZ f (f.toks.drop (i+1)) (i+1) (nxt s i t) else some (i:Int):=by
 rw[drop_at ht,runZ]
theorem keys_nil (l:List Tk):KeysV l [] 0 [] (fun _=>False) (fun _=>False) (fun _=>False) :=
 ⟨fun d=>by simp,fun s hs=>(by cases hs),fun s hs=>(by cases hs),fun s hs=>(by cases hs),fun k hk=>⟨fun n e=>e,fun v e=>e⟩⟩
theorem inv_nil (f:Fm):Inv f 0 ⟨[],[]⟩:=⟨fun x hx=>(by cases hx),trivial,fun _=>rfl,Nat.le_refl _⟩
theorem dep_nil:depOk [] (fun _=>0):=fun _ _=>rfl
theorem lp_start {f:Fm} {g o cp H:Nat} {w1 w':World} (hck:CkH w' (w1.heap.size+3) H (.slice none 0 0) 0 (.slice (some ⟨w1.heap.size+4,0,none⟩) 16 16) w1.heap.size (w1.heap.size+1) (w1.heap.size+2) (fun _=>0) false) (hrl:∀ q:Nat,w'.cell? ⟨w1.heap.size+4,q,none⟩=(rulA (w1.heap.size+3))[q]?) (m1:MHas w' 3 w1.heap.size 0 (fun _=>False)) (m2:MHas w' 205 (w1.heap.size+1) 0 (fun _=>False)) (m3:MHas w' 191 (w1.heap.size+2) 0 (fun _=>False)) (hs:w'.heap.size=w1.heap.size+5)
  (hH:H<w1.heap.size) (fm:FmC w' H 0 f (some ⟨g,o,none⟩) cp) (tl:TkL w' (some ⟨g,o,none⟩) H f.toks) (hg:g<H) (kt:KT w') (mt:MT w') (k0:0<H) (k1:1<H) :
  LpS w' ⟨w1.heap.size+3,H,w1.heap.size+5,0,g,o,cp,w1.heap.size,w1.heap.size+1,w1.heap.size+2,H,0⟩ (w1.heap.size+4) f ⟨[],[]⟩ (.slice none 0 0) (fun _=>0) false 0 (fun _=>False) (fun _=>False) (fun _=>False):=by
 refine⟨⟨fm,tl,⟨hg,Nat.le_refl _,by show H<=w1.heap.size+3;omega,by show H<=w1.heap.size+5;omega,Nat.le_of_lt hH,by show H<=w1.heap.size+1;omega,by show H<=w1.heap.size+2;omega,by show H≠w1.heap.size+3;omega,by show H≠w1.heap.size+5;omega,by show H≠w1.heap.size;omega,by show H≠w1.heap.size+1;omega,by show H≠w1.heap.size+2;omega,by show w1.heap.size+3≠w1.heap.size+5;omega,by show w1.heap.size+3≠w1.heap.size;omega,by show w1.heap.size+3≠w1.heap.size+1;omega,by show w1.heap.size+3≠w1.heap.size+2;omega,by show w1.heap.size+5≠w1.heap.size;omega,by show w1.heap.size+5≠w1.heap.size+1;omega,by show w1.heap.size+5≠w1.heap.size+2;omega,by show w1.heap.size≠w1.heap.size+1;omega,by show w1.heap.size≠w1.heap.size+2;omega,by show w1.heap.size+1≠w1.heap.size+2;omega⟩,kt,mt,by show H<=_;omega,by show H<_;omega,k0,k1,⟨by show w1.heap.size+4<_;omega,by show w1.heap.size+4≠w1.heap.size;omega,by show w1.heap.size+4≠w1.heap.size+1;omega,by show w1.heap.size+4≠w1.heap.size+2;omega,by show w1.heap.size+4≠w1.heap.size+5;omega,hrl⟩,⟨by show H<=w1.heap.size+4;omega,by show w1.heap.size+4≠w1.heap.size+3;omega,by show w1.heap.size+4≠H;omega⟩,⟨by show w1.heap.size<_;omega,by show w1.heap.size+1<_;omega,by show w1.heap.size+2<_;omega⟩,⟨m1,m2,m3,by decide⟩⟩,
  hck,fun e=>absurd rfl e,fun _=>⟨none,0,rfl⟩,fun _=>rfl,keys_nil _,dep_nil,rfl,inv_nil f,Nat.le_refl _,fun a ha=>(by cases ha)⟩
theorem cell_set {w:World} {X:Nat} {cs:Array Value} {ty:TypeId} (h:w.heap[X]?=some (.cells cs ty)) (k:Nat) (u:Value):(w.setCell ⟨X,k,none⟩ u).heap[X]?=some (.cells (cs.setIfInBounds k u) ty):=by
 show (w.heap.modify X _)[X]?=_
 rw[Array.getElem?_modify,if_pos rfl,h]
 rfl
theorem flt_set {w:World} {X:Nat} {a b:Value} (u0 u1:Value) (h:w.heap[X]?=some (.cells #[a,b] 80)):((w.setCell ⟨X,0,none⟩ u0).setCell ⟨X,1,none⟩ u1).heap[X]?=some (.cells #[u0,u1] 80):=cell_set (cell_set h 0 u0) 1 u1
theorem infoFt:(Tryz.prog.info? 80).map (·.size)=some 2:=by kernel_rfl
theorem LpS.off {w:World} {c:Cf} {gr:Nat} {f:Fm} {s:St} {v:Value} {dep:Nat->Int} {wh:Bool} {n:Nat} {h1 h2 h3:Value->Prop} {X:Nat} {cs:Array Value} (h:LpS w c gr f s v dep wh n h1 h2 h3) (hX:w.heap[X]?=some (.cells cs 80)) :
  ∃ go,go≠X/\LpS w { c with go:=go } gr f s v dep wh n h1 h2 h3:=by
 by_cases ho:s.open_=[]
 ·have hXl:=(Array.getElem?_eq_some_iff.1 hX).1
  have hsz:=h.b.sz
  have hml:=h.b.ml
  have hfl:=h.b.fl
  have hrt:=h.b.rl.lt
  have hBl:=h.ck.lt
  refine⟨w.heap.size+1,by omega,⟨h.b.moved (go:=w.heap.size+1) (cap:=c.cap) (i:=c.i) (.inr ⟨by omega,by omega,by omega,by omega,by omega,by omega,by omega⟩),h.ck,fun e=>absurd ho e,h.no,h.zr,h.ky,h.dp,h.wl,h.iv,h.nn,h.kl⟩⟩
 ·refine⟨c.go,fun e=>?_,h⟩
  obtain⟨cur,h1,_⟩:=(h.op ho).2.ex
  rw[e,hX] at h1
  have:=Option.some.inj h1
  injection this with _ h3
  revert h3
  decide
theorem check_some (f:Fm) (g o cp:Nat) (w:World) (tl:TkL w (some ⟨g,o,none⟩) w.heap.size f.toks) (hg:g<w.heap.size) (kt:KT w) (mt:MT w) :
  Calls Tryz.prog 30 #[fmV f (some ⟨g,o,none⟩) cp] w fun r w'=>r = .returned (fltV (chkZ f))/\Below w.heap.size w w':=by
 have hX:((w.alloc (fmO f (some ⟨g,o,none⟩) cp)).alloc (.cells #[.int .i64 0,.int .i64 0] 80)).heap[w.heap.size]?=some (fmO f (some ⟨g,o,none⟩) cp):=by
  show ((w.heap.push _).push _)[w.heap.size]?=_
  rw[Array.getElem?_push,if_neg (by simp),Array.getElem?_push,if_pos rfl]
 have hY:((w.alloc (fmO f (some ⟨g,o,none⟩) cp)).alloc (.cells #[.int .i64 0,.int .i64 0] 80)).heap[w.heap.size+1]?=some (.cells #[.int .i64 0,.int .i64 0] 80):=by
  show ((w.heap.push _).push _)[w.heap.size+1]?=_
  rw[Array.getElem?_push,if_pos (by simp)]
 have HB:Below w.heap.size w ((w.alloc (fmO f (some ⟨g,o,none⟩) cp)).alloc (.cells #[.int .i64 0,.int .i64 0] 80)):=(bel1 w _).alloc (by simp) _
 have HS:((w.alloc (fmO f (some ⟨g,o,none⟩) cp)).alloc (.cells #[.int .i64 0,.int .i64 0] 80)).heap.size=w.heap.size+2:=by simp
 generalize hW:(w.alloc (fmO f (some ⟨g,o,none⟩) cp)).alloc (.cells #[.int .i64 0,.int .i64 0] 80)=W at hX hY HB HS
 simp only[fmO] at hW
 have hF:FmC W w.heap.size 0 f (some ⟨g,o,none⟩) cp:=⟨cell_at hX 0,cell_at hX 1,cell_at hX 2,cell_at hX 3,cell_at hX 4,cell_at hX 5,cell_at hX 6,cell_at hX 7,cell_at hX 8,cell_at hX 9,cell_at hX 10,cell_at hX 11,cell_at hX 12⟩
 have cH:=isHeaded_any f w.heap.size 0 (some ⟨g,o,none⟩) cp W (kt.up HB) (by omega) hF
 replace cH:=Hid.mk cH
 replace hX:=Hid.mk hX
 replace hY:=Hid.mk hY
 replace hF:=Hid.mk hF
 replace HB:=Hid.mk HB
 cases hhd:headB f with
 | false =>
  have hz:chkZ f=some (-1):=by unfold chkZ;rw[hhd];rfl
  rw[hz]
  rw[hhd] at cH
  clear hhd hz
  go_enter Tryz.func30,Tryz.ntmps30
  go_wp2_with (go_at_call 49;refine cH.out.mono ?_;rintro _ w1 ⟨rfl,hb⟩;have y1:=(hb.block (w.heap.size+1) (by omega)).trans hY.out;have y10:=cell_at y1 0;have y11:=cell_at y1 1;have yf:∀ k,w1.frozen? ⟨w.heap.size+1,k,none⟩=false:=(fun k=>by simp[World.frozen?,y1]);replace y1:=Hid.mk y1;replace hb:=Hid.mk hb)
  refine bodyPost_ret (results_cell_row rfl _ _ (w.heap.size+1) 80 #[.int .i64 121,.int .i64 (-1)] (0,0) _ rfl (flt_set _ _ y1.out) Tryz.underlying80 rfl infoFt) rfl ⟨rfl,?_⟩
  exact((HB.out.trans (hb.out.mono HB.out.size)).setCell (p:=⟨w.heap.size+1,0,none⟩) (by show w.heap.size<=w.heap.size+1;omega) _).setCell (p:=⟨w.heap.size+1,1,none⟩) (by show w.heap.size<=w.heap.size+1;omega) _
 | true =>
  have hz:chkZ f=runZ f f.toks 0 ⟨[],[]⟩:=by unfold chkZ;rw[hhd];rfl
  rw[hz]
  rw[hhd] at cH
  clear hhd hz
  obtain⟨Z,hZ⟩:∃ Z,runZ f f.toks 0 ⟨[],[]⟩=Z:=⟨_,rfl⟩
  rw[hZ]
  replace hZ:=Hid.mk hZ
  replace kt:=Hid.mk kt
  replace mt:=Hid.mk mt
  replace tl:=Hid.mk tl
  go_enter Tryz.func30,Tryz.ntmps30
  go_wp2_with (first
   | (go_at_call 49;refine cH.out.mono ?_;rintro _ w1 ⟨rfl,hb⟩;replace hb:=Hid.mk hb)
   | (go_at_call 50;refine(newChecker_any w.heap.size w1).mono ?_;rintro _ w2 ⟨rfl,hck,hrl,hm1,hm2,hm3,hs2,hb2⟩;replace hck:=Hid.mk hck;replace hrl:=Hid.mk hrl;replace hm1:=Hid.mk hm1;replace hm2:=Hid.mk hm2;replace hm3:=Hid.mk hm3;replace hs2:=Hid.mk hs2;replace hb2:=Hid.mk hb2))
  have hw1:=hb.out.size
  have hb02:Below w.heap.size w w2:=HB.out.trans ((hb.out.trans (hb2.out.mono hw1)).mono HB.out.size)
  have hF2:=(hF.out.below (by omega) hb.out).below (Nat.lt_of_lt_of_le (by omega:w.heap.size<W.heap.size) hw1) hb2.out
  have hS:=lp_start (H:=w.heap.size) hck.out hrl.out hm1.out hm2.out hm3.out hs2.out (by omega) hF2 (tl.out.below hb02) hg (kt.out.up hb02) (mt.out.below mt.out.pos hb02) kt.out.pos mt.out.pos
  have hY2:=(hb2.out.block (w.heap.size+1) (by omega)).trans ((hb.out.block (w.heap.size+1) (by omega)).trans hY.out)
  have hs22:=hs2.out
  go_loopw [4] (fun u wr=>∃ go cap m1 m2 m3 i s v dep wh n h1 h2 h3,Hid (LpS wr ⟨w1.heap.size+3,w.heap.size,go,cap,g,o,cp,m1,m2,m3,w.heap.size,i⟩ (w1.heap.size+4) f s v dep wh n h1 h2 h3)/\Hid (runZ f (f.toks.drop i) i s=Z)/\i<=f.toks.length/\Hid (Below w.heap.size w wr)/\Hid (wr.heap[w.heap.size+1]?=some (.cells #[.int .i64 0,.int .i64 0] 80))/\Hid (w.heap.size+1<m1/\w.heap.size+1<m2/\w.heap.size+1<m3)/\u=u) (fun _ wr=>f.toks.length-(RowKit.intOf ((wr.cell? ⟨w1.heap.size+3,2,none⟩).getD (.int .i64 0))).toNat)
  case atStart=>exact⟨_,_,_,_,_,0,_,_,_,_,_,_,_,_,⟨hS⟩,⟨by rw[List.drop_zero];exact hZ.out⟩,Nat.zero_le _,⟨hb02⟩,⟨hY2⟩,⟨by omega,by omega,by omega⟩,rfl⟩
  case round =>
   obtain⟨go,cap,m1,m2,m3,i,s,v,dep,wh,n,h1,h2,h3,hS,hR,hi,hB,hY,hm,-⟩:=hrel
   have k2:=hS.out.ck.ck.c2
   have m12:wr.cell? ⟨w.heap.size,12,none⟩=some (.slice (some ⟨g,o,none⟩) f.toks.length cp):=hS.out.b.fm.c12
   have hlen:=hS.out.b.tl.len
   by_cases hlt:i<f.toks.length
   ·obtain⟨t,ht⟩:∃ t,f.toks[i]?=some t:=⟨f.toks[i],List.getElem?_eq_getElem hlt⟩
    obtain⟨go2,hgo,hS2⟩:=hS.out.off hY.out
    have hlti:(i:Int)<f.toks.length:=by omega
    have hr:=hR.out
    rw[runZ_at ht] at hr
    have hT2:=hS2
    have cT:∀ W',Below wr.heap.size wr W'->_:=fun W' hb'=>lp_takes (t:=t) (hT2.below hb') ht
    replace cT:=Hid.mk cT
    replace hr:=Hid.mk hr
    replace hS2:=Hid.mk hS2
    clear hT2
    have hBl:w1.heap.size+3<wr.heap.size:=hS.out.ck.lt
    go_wp2_with fail
    go_quiet (fail)
    go_wp2_with fail
    go_quiet (fail)
    go_wp2_with fail
    refine(cT.out _ (tdr (Below.refl _ _))).mono ?_
    rintro _ w3 ⟨rfl,hk3,hb3,hP⟩
    have hap:=hS2.out.b.ap
    have hE:∀ k∈[w1.heap.size+3,m1,m2,m3,go2],w.heap.size<=k:=fun k hk=>by
     have b1:w.heap.size<=w1.heap.size+3:=hap.B
     have b2:w.heap.size<=m1:=hap.m1
     have b3:w.heap.size<=m2:=hap.m2
     have b4:w.heap.size<=m3:=hap.m3
     have b5:w.heap.size<=go2:=hap.go
     simp at hk
     omega
    have hXE:w.heap.size+1∉[w1.heap.size+3,m1,m2,m3,go2]:=by have:=hm.out;simp;omega
    have hwr:w.heap.size+1<wr.heap.size:=(Array.getElem?_eq_some_iff.1 hY.out).1
    replace hap:=Hid.mk hap
    replace hE:=Hid.mk hE
    replace hXE:=Hid.mk hXE
    cases hok:okZ f s i t with
    | true =>
     have hr1:runZ f (f.toks.drop (i+1)) (i+1) (nxt s i t)=Z:=by
      have h5:=hr.out
      rwa [if_pos hok] at h5
     have hP1:=hP hok
     replace hr1:=Hid.mk hr1
     replace hP1:=Hid.mk hP1
     replace hk3:=Hid.mk hk3
     clear hok hP hb3 cT hr
     go_wp2_with (go_at_call 52;refine hP1.out.mono ?_;rintro _ w4 ⟨rfl,hk4,⟨q2,qf⟩,go',cap',v',dep',wh',n',g1,g2,g3,hL⟩;replace hk4:=Hid.mk hk4;replace hL:=Hid.mk hL)
     have hL5:=hL.out
     have k5:=hL5.ck.ck.c2
     go_roundw
     case rel=>exact⟨go',cap',m1,m2,m3,i+1,nxt s i t,v',dep',wh',n',g1,g2,g3,hL,hr1,by omega,⟨((tdr hB.out).trans (hk4.out.below hB.out.size hE.out)).setCell (p:=⟨w1.heap.size+3,2,none⟩) (by show w.heap.size<=w1.heap.size+3;omega) _⟩,⟨(set_oth (by omega)).trans ((hk4.out.block _ hwr hXE.out).trans hY.out)⟩,hm,trivial⟩
     case measure =>
      rw[k2,show (w4.setCell ⟨w1.heap.size+3,2,none⟩ (.int .i64 ((i:Int)+1))).cell? ⟨w1.heap.size+3,2,none⟩=some (.int .i64 ((i+1:Nat):Int)) from k5]
      simp[RowKit.intOf]
      omega
    | false =>
     have hz:Z=some (i:Int):=by
      have h5:=hr.out
      rw[if_neg (by rw[hok];decide)] at h5
      exact h5.symm
     subst hz
     have q2:=(cell_blk (o:=2) hb3).trans k2
     have y3:=(hk3.block _ hwr hXE.out).trans hY.out
     have y30:=cell_at y3 0
     have y31:=cell_at y3 1
     have yf:∀ k,w3.frozen? ⟨w.heap.size+1,k,none⟩=false:=fun k=>by simp[World.frozen?,y3]
     have hb5:∀ u0 u1,Below w.heap.size w ((w3.setCell ⟨w.heap.size+1,0,none⟩ u0).setCell ⟨w.heap.size+1,1,none⟩ u1):=fun u0 u1=>(((tdr hB.out).trans (hk3.below hB.out.size hE.out)).setCell (p:=⟨w.heap.size+1,0,none⟩) (by show w.heap.size<=w.heap.size+1;omega) _).setCell (p:=⟨w.heap.size+1,1,none⟩) (by show w.heap.size<=w.heap.size+1;omega) _
     replace hb5:=Hid.mk hb5
     replace y3:=Hid.mk y3
     clear hok hP hb3 cT hr hk3
     go_wp2_with fail
     refine bodyPost_ret (results_cell_row rfl _ _ (w.heap.size+1) 80 #[.int .i64 121,.int .i64 (i:Int)] (0,0) _ rfl (flt_set _ _ y3.out) Tryz.underlying80 rfl infoFt) rfl ⟨rfl,?_⟩
     exact hb5.out _ _
   ·obtain rfl:i=f.toks.length:=by omega
    have hr:=hR.out
    rw[List.drop_length,runZ] at hr
    have hwl:=hS.out.wl
    have k23:=hS.out.ck.ck.c23
    have hY0:=cell_at hY.out 0
    have hY1:=cell_at hY.out 1
    have yf:∀ k,wr.frozen? ⟨w.heap.size+1,k,none⟩=false:=fun k=>by simp[World.frozen?,hY.out]
    have hb5:∀ u0 u1,Below w.heap.size w ((wr.setCell ⟨w.heap.size+1,0,none⟩ u0).setCell ⟨w.heap.size+1,1,none⟩ u1):=fun u0 u1=>(hB.out.setCell (p:=⟨w.heap.size+1,0,none⟩) (by show w.heap.size<=w.heap.size+1;omega) _).setCell (p:=⟨w.heap.size+1,1,none⟩) (by show w.heap.size<=w.heap.size+1;omega) _
    replace hb5:=Hid.mk hb5
    cases wh with
    | true =>
     have hz:Z=none:=by
      rw[<- hr,if_neg]
      intro e
      have h5:(decide (s.open_=[])&&decide (f.toks.length≠0))=true:=hwl.symm
      simp only[Bool.and_eq_true,decide_eq_true_eq] at h5
      rcases e with e|e
      ·exact h5.2 e
      ·exact e h5.1
     subst hz
     clear hr hwl
     go_wp2_with fail
     go_quiet (fail)
     go_wp2_with fail
     refine bodyPost_ret (results_cell_row rfl _ _ (w.heap.size+1) 80 #[.int .i64 0,.int .i64 0] (0,0) _ rfl (flt_set (w:=wr.drewN nq) _ _ hY.out) Tryz.underlying80 rfl infoFt) rfl ⟨rfl,?_⟩
     exact tdr (hb5.out _ _)
    | false =>
     have hz:Z=some (f.toks.length:Int):=by
      rw[<- hr,if_pos]
      have h5:(decide (s.open_=[])&&decide (f.toks.length≠0))=false:=hwl.symm
      by_cases e:f.toks.length=0
      ·exact .inl e
      ·refine .inr (fun e2=>?_)
       rw[e2] at h5
       simp at h5
       exact e (by rw[h5];rfl)
     subst hz
     clear hr hwl
     go_wp2_with fail
     go_quiet (fail)
     go_wp2_with fail
     refine bodyPost_ret (results_cell_row rfl _ _ (w.heap.size+1) 80 #[.int .i64 121,.int .i64 (f.toks.length:Int)] (0,0) _ rfl (flt_set (w:=wr.drewN nq) _ _ hY.out) Tryz.underlying80 rfl infoFt) rfl ⟨rfl,?_⟩
     exact tdr (hb5.out _ _)
theorem check_none (f:Fm) (pp:Option Addr) (cp:Nat) (w:World) (hf:f.toks=[]) (kt:KT w) :
  Calls Tryz.prog 30 #[fmV f pp cp] w fun r w'=>r = .returned (fltV (chkZ f))/\Below w.heap.size w w':=by
 replace hf:=Hid.mk hf
 have hX:((w.alloc (fmO f pp cp)).alloc (.cells #[.int .i64 0,.int .i64 0] 80)).heap[w.heap.size]?=some (fmO f pp cp):=by
  show ((w.heap.push _).push _)[w.heap.size]?=_
  rw[Array.getElem?_push,if_neg (by simp),Array.getElem?_push,if_pos rfl]
 have hY:((w.alloc (fmO f pp cp)).alloc (.cells #[.int .i64 0,.int .i64 0] 80)).heap[w.heap.size+1]?=some (.cells #[.int .i64 0,.int .i64 0] 80):=by
  show ((w.heap.push _).push _)[w.heap.size+1]?=_
  rw[Array.getElem?_push,if_pos (by simp)]
 have HB:Below w.heap.size w ((w.alloc (fmO f pp cp)).alloc (.cells #[.int .i64 0,.int .i64 0] 80)):=(bel1 w _).alloc (by simp) _
 have HS:((w.alloc (fmO f pp cp)).alloc (.cells #[.int .i64 0,.int .i64 0] 80)).heap.size=w.heap.size+2:=by simp
 generalize hW:(w.alloc (fmO f pp cp)).alloc (.cells #[.int .i64 0,.int .i64 0] 80)=W at hX hY HB HS
 simp only[fmO] at hW
 have hF:FmC W w.heap.size 0 f pp cp:=⟨cell_at hX 0,cell_at hX 1,cell_at hX 2,cell_at hX 3,cell_at hX 4,cell_at hX 5,cell_at hX 6,cell_at hX 7,cell_at hX 8,cell_at hX 9,cell_at hX 10,cell_at hX 11,cell_at hX 12⟩
 have cH:=isHeaded_any f w.heap.size 0 pp cp W (kt.up HB) (by omega) hF
 replace cH:=Hid.mk cH
 replace hX:=Hid.mk hX
 replace hY:=Hid.mk hY
 replace hF:=Hid.mk hF
 replace HB:=Hid.mk HB
 cases hhd:headB f with
 | false =>
  have hz:chkZ f=some (-1):=by unfold chkZ;rw[hhd];rfl
  rw[hz]
  rw[hhd] at cH
  clear hhd hz
  go_enter Tryz.func30,Tryz.ntmps30
  go_wp2_with (go_at_call 49;refine cH.out.mono ?_;rintro _ w1 ⟨rfl,hb⟩;have y1:=(hb.block (w.heap.size+1) (by omega)).trans hY.out;have y10:=cell_at y1 0;have y11:=cell_at y1 1;have yf:∀ k,w1.frozen? ⟨w.heap.size+1,k,none⟩=false:=(fun k=>by simp[World.frozen?,y1]);replace y1:=Hid.mk y1;replace hb:=Hid.mk hb)
  refine bodyPost_ret (results_cell_row rfl _ _ (w.heap.size+1) 80 #[.int .i64 121,.int .i64 (-1)] (0,0) _ rfl (flt_set _ _ y1.out) Tryz.underlying80 rfl infoFt) rfl ⟨rfl,?_⟩
  exact((HB.out.trans (hb.out.mono HB.out.size)).setCell (p:=⟨w.heap.size+1,0,none⟩) (by show w.heap.size<=w.heap.size+1;omega) _).setCell (p:=⟨w.heap.size+1,1,none⟩) (by show w.heap.size<=w.heap.size+1;omega) _
 | true =>
  have hz:chkZ f=runZ f f.toks 0 ⟨[],[]⟩:=by unfold chkZ;rw[hhd];rfl
  rw[hz]
  rw[hhd] at cH
  clear hhd hz
  have hZ:runZ f f.toks 0 ⟨[],[]⟩=some 0:=by rw[hf.out,runZ,if_pos (.inl rfl)];rfl
  rw[hZ]
  clear hZ
  replace kt:=Hid.mk kt
  go_enter Tryz.func30,Tryz.ntmps30
  go_wp2_with (first
   | (go_at_call 49;refine cH.out.mono ?_;rintro _ w1 ⟨rfl,hb⟩;replace hb:=Hid.mk hb)
   | (go_at_call 50;refine(newChecker_any w.heap.size w1).mono ?_;rintro _ w2 ⟨rfl,hck,hrl,hm1,hm2,hm3,hs2,hb2⟩;replace hck:=Hid.mk hck;replace hrl:=Hid.mk hrl;replace hm1:=Hid.mk hm1;replace hm2:=Hid.mk hm2;replace hm3:=Hid.mk hm3;replace hs2:=Hid.mk hs2;replace hb2:=Hid.mk hb2))
  have hw1:=hb.out.size
  have hb02:Below w.heap.size w w2:=HB.out.trans ((hb.out.trans (hb2.out.mono hw1)).mono HB.out.size)
  have hF2:=(hF.out.below (by omega) hb.out).below (Nat.lt_of_lt_of_le (by omega:w.heap.size<W.heap.size) hw1) hb2.out
  have hY2:=(hb2.out.block (w.heap.size+1) (by omega)).trans ((hb.out.block (w.heap.size+1) (by omega)).trans hY.out)
  have k2:=hck.out.ck.c2
  have k23:=hck.out.ck.c23
  have m12:w2.cell? ⟨w.heap.size,12,none⟩=some (.slice pp 0 cp):=by have:=hF2.c12;rw[hf.out] at this;exact this
  have hY0:=cell_at hY2 0
  have hY1:=cell_at hY2 1
  have yf:∀ k,w2.frozen? ⟨w.heap.size+1,k,none⟩=false:=fun k=>by simp[World.frozen?,hY2]
  replace hF2:=Hid.mk hF2
  replace hY2:=Hid.mk hY2
  replace hb02:=Hid.mk hb02
  go_loopw [4] (fun u wr=>wr=w2/\u=u) (fun _ _=>0)
  case atStart=>exact⟨rfl,rfl⟩
  case round =>
   obtain⟨hwr,-⟩:=hrel
   obtain rfl:w2=wr:=hwr.symm
   go_wp2_with fail
   go_quiet (fail)
   go_wp2_with fail
   refine bodyPost_ret (results_cell_row rfl _ _ (w.heap.size+1) 80 #[.int .i64 121,.int .i64 0] (0,0) _ rfl (flt_set (w:=w2.drewN nq) _ _ hY2.out) Tryz.underlying80 rfl infoFt) rfl ⟨rfl,?_⟩
   exact tdr ((hb02.out.setCell (p:=⟨w.heap.size+1,0,none⟩) (by show w.heap.size<=w.heap.size+1;omega) _).setCell (p:=⟨w.heap.size+1,1,none⟩) (by show w.heap.size<=w.heap.size+1;omega) _)
theorem check_any (f:Fm) (pp:Option Addr) (cp:Nat) (w:World) (tl:TkL w pp w.heap.size f.toks) (kt:KT w) (mt:MT w) :
  Calls Tryz.prog 30 #[fmV f pp cp] w fun r w'=>r = .returned (fltV (chkZ f))/\Below w.heap.size w w':=by
 cases hf:f.toks with
 | nil=>exact check_none f pp cp w hf kt
 | cons t r =>
  obtain⟨g,o,pc,cc,rfl,hg,_⟩:=tl.at (i:=0) (by rw[hf];rfl)
  exact check_some f g o cp w tl hg kt mt
def errZ (z:Option Int):Int:=match z with
 | none=>0
 | some _=>121
def atZ (z:Option Int):Int:=match z with
 | none=>0
 | some a=>a
theorem flt_eq (z:Option Int):fltV z = .agg #[.int .i64 (errZ z),.int .i64 (atZ z)]:=by cases z<;>rfl
theorem Check_any (f:Fm) (pp:Option Addr) (cp:Nat) (w:World) (tl:TkL w pp w.heap.size f.toks) (kt:KT w) (mt:MT w) :
  Calls Tryz.prog 14 #[fmV f pp cp] w fun r w'=>r = .returned (.tuple #[.int .i64 (errZ (chkZ f)),.int .i64 (atZ (chkZ f))])/\Below w.heap.size w w':=by
 have c:∀ W,Below w.heap.size w W->Calls Tryz.prog 30 #[fmV f pp cp] W fun r w'=>r = .returned (.agg #[.int .i64 (errZ (chkZ f)),.int .i64 (atZ (chkZ f))])/\Below W.heap.size W w':=fun W hb=>by
  have:=check_any f pp cp W ((tl.below hb).mono hb.size) (kt.up hb) (mt.below mt.pos hb)
  rwa [flt_eq] at this
 replace c:=Hid.mk c
 clear tl kt mt
 generalize errZ (chkZ f)=e at c ⊢
 generalize atZ (chkZ f)=a at c ⊢
 go_enter Tryz.func14,Tryz.ntmps14
 go_wp2_with (go_at_call 30;refine(c.out _ (bel1 _ _)).mono ?_;rintro _ w1 ⟨rfl,hb⟩;replace hb:=Hid.mk hb)
 have v0:=cell_at (heap_al w1 (.cells #[.int .i64 e,.int .i64 a] 80)) 0
 have v1:=cell_at (heap_al w1 (.cells #[.int .i64 e,.int .i64 a] 80)) 1
 go_quiet (fail)
 go_wp2_with fail
 go_ret2
 exact⟨rfl,tdr (((bel1 w _).trans (hb.out.mono (bel1 w _).size)).alloc (Nat.le_trans (bel1 w _).size hb.out.size) _)⟩
def ChkC (w:World) (f:Fm) (pp:Option Addr) (cp:Nat):Prop:=∀ W,Below w.heap.size w W->Calls Tryz.prog 14 #[fmV f pp cp] W fun r w'=>r = .returned (.tuple #[.int .i64 (errZ (chkZ f)),.int .i64 (atZ (chkZ f))])/\Below W.heap.size W w'
theorem chkC_of (f:Fm) (pp:Option Addr) (cp:Nat) (w:World) (tl:TkL w pp w.heap.size f.toks) (kt:KT w) (mt:MT w):ChkC w f pp cp:=fun W hb=>Check_any f pp cp W ((tl.below hb).mono hb.size) (kt.up hb) (mt.below mt.pos hb)
structure NewM (f:Fm) (w w':World) (a:Nat):Prop where
 m:∃ go cap lo hi zs,MaF f.toks w' a go cap lo hi zs 0/\tops zs zs.length=newZ.op/\w.heap.size<=lo/\zs.length=1
 ge:w.heap.size<=a
 b:Below w.heap.size w w'
theorem New_ok (f:Fm) (pp:Option Addr) (cp:Nat) (w:World) (hc:ChkC w f pp cp) (tl:TkL w pp w.heap.size f.toks) (hz:chkZ f=none) :
  Calls Tryz.prog 31 #[fmV f pp cp] w fun r w'=>∃ a,r = .returned (.tuple #[.pointer (some ⟨a,0,none⟩),.int .i64 0])/\NewM f w w' a:=by
 have hF:=fm_new w f pp cp
 have HB:Below w.heap.size w (w.alloc (fmO f pp cp)):=nbel _ _
 have HS:(w.alloc (fmO f pp cp)).heap.size=w.heap.size+1:=World.size_alloc _ _
 have cK:=hc _ HB
 generalize hW:w.alloc (fmO f pp cp)=W at hF HB HS cK
 simp only[fmO] at hW
 have F0:=hF.c0
 have F1:=hF.c1
 have F2:=hF.c2
 have F3:=hF.c3
 have F4:=hF.c4
 have F5:=hF.c5
 have F6:=hF.c6
 have F7:=hF.c7
 have F8:=hF.c8
 have F9:=hF.c9
 have F10:=hF.c10
 have F11:=hF.c11
 have F12:=hF.c12
 simp only[Nat.zero_add] at F1 F2 F3 F4 F5 F6 F7 F8 F9 F10 F11 F12
 rw[hz] at cK
 simp only[errZ,atZ] at cK
 obtain⟨t,ht,ho⟩:=first_msg hz
 obtain⟨n,ks,hPb⟩:=pb_of hz ht (.inl ho)
 have hll:f.toks.length<=733007751850:=by have:=tl.len;omega
 have hrl:(rowZ f.toks 0).length<=733007751850:=by
  obtain⟨n',ks',hb⟩:=blk_of hz ht (.inl ho)
  have h1:=rowZ_length hb
  have h2:=hb.bg.nl
  omega
 have hnew:=(new_ok hz).1
 have cP:Hid (∀ X,Below w.heap.size w X->Calls Tryz.prog 54 #[.slice pp f.toks.length cp,.int .i64 0] X fun r w'=>∃ g,r = .returned (.pointer (some ⟨g,0,none⟩))/\PtC f.toks w' X.heap.size w'.heap.size n g 0/\Below X.heap.size X w'):=⟨fun X hb=>partAt_any f hz pp cp n 0 n t ks hPb (by omega) X ((tl.below hb).mono hb.size)⟩
 have FIN:Hid (∀ (w1 w3 w4:World) (g' go' cap':Nat),Below W.heap.size W w1->PtC f.toks w3 (w1.heap.size+1) w3.heap.size n g' 0->Below (w1.heap.size+1) (w1.alloc (.cells #[.slice none 0 0,.int .i64 0] 103)) w3->SM w4 w1.heap.size go' cap' 1 [(g',⟨0,0,true,0⟩)] 0->w3.heap.size<=go'->Kb [w1.heap.size] w3 w4->NewM f w w4 w1.heap.size):=⟨fun w1 w3 w4 g' go' cap' hb1 hP3 hb3 hS hgo hK=>by
  have hs1:=hb1.size
  have hs2:=HB.size
  have hs3:=hb3.size
  rw[World.size_alloc] at hs3
  refine⟨⟨go',cap',w1.heap.size+1,w3.heap.size,[(g',⟨0,0,true,0⟩)],⟨hS,fun y hy=>?_,.inl (by omega),hgo,hnew,fun y hy=>?_⟩,rfl,by omega,rfl⟩,by omega,?_⟩
  ·cases List.mem_singleton.1 hy
   exact⟨n,hP3.same fun k h1 h2=>hK.block k h2 (by simp;omega)⟩
  ·cases List.mem_singleton.1 hy
   exact hrl
  ·have q1:Below w.heap.size w w3:=(HB.trans (hb1.mono hs2)).trans (((bel1 w1 (.cells #[.slice none 0 0,.int .i64 0] 103)).mono (by omega)).trans (hb3.mono (by omega)))
   exact⟨hK.os.trans q1.os,hK.tape.trans q1.tape,hK.output.trans q1.output,Nat.le_trans q1.size hK.size,fun k hk=>(hK.block k (by have:=q1.size;omega) (by simp;omega)).trans (q1.block k hk)⟩⟩
 replace HB:=Hid.mk HB
 replace HS:=Hid.mk HS
 have F12':Hid (∀ X,Below W.heap.size W X->X.cell? ⟨w.heap.size,12,none⟩=some (.slice pp f.toks.length cp)):=⟨fun X hb=>(hb.cell (p:=⟨w.heap.size,12,none⟩) (by have:=HS.out;show w.heap.size<W.heap.size;omega)).trans F12⟩
 clear hF hc tl hPb ht ho hnew hrl
 go_enter Tryz.func31,Tryz.ntmps31
 go_upto_region 5 with (go_at_call 14;refine cK.mono ?_;rintro _ w1 ⟨rfl,hb1⟩;have k12:=F12'.out w1 hb1;have k13:=F12'.out (w1.alloc (.cells #[.slice none 0 0,.int .i64 0] 103)) (hb1.trans ((bel1 w1 _).mono hb1.size));replace hb1:=Hid.mk hb1)
 have hb2:Below w.heap.size w (w1.alloc (.cells #[.slice none 0 0,.int .i64 0] 103)):=(HB.out.trans (hb1.out.mono HB.out.size)).trans ((bel1 w1 _).mono (HB.out.trans (hb1.out.mono HB.out.size)).size)
 have cP2:=fun X (hb:Below (w1.alloc (.cells #[.slice none 0 0,.int .i64 0] 103)).heap.size (w1.alloc (.cells #[.slice none 0 0,.int .i64 0] 103)) X)=>cP.out X (hb2.trans (hb.mono hb2.size))
 have hm2:=heap_al w1 (.cells #[.slice none 0 0,.int .i64 0] 103)
 have hs2:(w1.alloc (.cells #[.slice none 0 0,.int .i64 0] 103)).heap.size=w1.heap.size+1:=World.size_alloc _ _
 have K3:Hid (∀ w3,Below (w1.alloc (.cells #[.slice none 0 0,.int .i64 0] 103)).heap.size (w1.alloc (.cells #[.slice none 0 0,.int .i64 0] 103)) w3->w3.cell? ⟨w.heap.size,12,none⟩=some (.slice pp f.toks.length cp)/\∀ g':Nat,Calls Tryz.prog 53 #[.pointer (some ⟨w1.heap.size,0,none⟩),.agg #[.pointer (some ⟨g',0,none⟩),.int .i64 0,.bool true,.int .i64 0]] w3 fun r w4=>r = .returned (.tuple #[])/\w4.cell? ⟨w.heap.size,12,none⟩=some (.slice pp f.toks.length cp)/\Hid (∃ go' cap',SM w4 w1.heap.size go' cap' 1 [(g',⟨0,0,true,0⟩)] 0/\w3.heap.size<=go'/\Kb [w1.heap.size] w3 w4)):=⟨fun w3 hb3=>by
  have hl:=hb3.size
  have hlW:=hb1.out.size
  have hW1:=HS.out
  have q12:=F12'.out w3 ((hb1.out.trans ((bel1 w1 _).mono hb1.out.size)).trans (hb3.mono (by omega)))
  refine⟨q12,fun g'=>?_⟩
  refine(opush_any w1.heap.size w3.heap.size 0 (.slice none 0 0) [] (g',⟨0,0,true,0⟩) w3 ((hb3.block _ (by omega)).trans hm2) (World.ownsRow_nil _ _ _ 4) (by simp) (Nat.le_refl _) (fun e=>by cases e)).mono ?_
  rintro r w4 ⟨rfl,go',cap',h1,h2,-,h4⟩
  exact⟨rfl,(h4.cell (by omega) (by simp[Value.ownBlock];omega)).trans q12,⟨go',cap',h1,h2,h4⟩⟩⟩
 go_region_held3 (fun X=>X.cell? ⟨w.heap.size,12,none⟩=some (.slice pp f.toks.length cp)) (first|assumption|go_keep) (first
  | (go_at_call 54;refine(cP2 _ (by first|exact Below.refl _ _|exact drw (Below.refl _ _))).mono ?_;rintro _ w3 ⟨g',rfl,hP3,hb3⟩;have hb3':Below (w1.alloc (.cells #[.slice none 0 0,.int .i64 0] 103)).heap.size (w1.alloc (.cells #[.slice none 0 0,.int .i64 0] 103)) w3:=(by first|exact hb3|exact(drw (Below.refl _ _)).trans hb3);obtain⟨x12,cPu⟩:=K3.out w3 hb3';replace hP3:=Hid.mk hP3;replace hb3:=Hid.mk hb3;replace hb3':=Hid.mk hb3')
  | (go_at_call 53;refine(cPu g').mono ?_;rintro _ w4 ⟨rfl,z12,HX⟩))
 all_goals
  go_wp2_with fail
  obtain⟨go',cap',s1,s2,s3⟩:=HX.out
  exact bodyPost_ret (res2 rfl _ _) rfl ⟨w1.heap.size,rfl,FIN.out w1 w3 w4 g' go' cap' hb1.out (by rw[<- hs2];exact hP3.out) (by rw[<- hs2];exact hb3'.out) s1 s2 s3⟩
structure Frm (U:Nat->Prop) (w W:World):Prop where
 os:W.os=w.os
 tape:W.tape=w.tape
 output:W.output=w.output
 size:w.heap.size<=W.heap.size
 block:∀ k,k<w.heap.size->¬ U k->W.heap[k]?=w.heap[k]?
theorem Frm.of_below {U:Nat->Prop} {w W:World} (h:Below w.heap.size w W):Frm U w W:=⟨h.os,h.tape,h.output,h.size,fun k hk _=>h.block k hk⟩
theorem Frm.of_kb {U:Nat->Prop} {E:List Nat} {w W:World} (h:Kb E w W) (hE:∀ k∈E,U k):Frm U w W:=⟨h.os,h.tape,h.output,h.size,fun k hk hn=>h.block k hk fun hm=>hn (hE k hm)⟩
def grw (U:Nat->Prop) (w W:World):Nat->Prop:=fun k=>U k\/(w.heap.size<=k/\k<W.heap.size)
structure Mc (f:Fm) (w:World) (a:Nat) (s:Ms) (U:Nat->Prop):Prop where
 m:∃ go cap lo hi zs,MaF f.toks w a go cap lo hi zs s.ent/\tops zs zs.length=s.op/\U go/\∀ k,lo<=k->k<hi->U k
 i:InF f.toks s
 ua:U a
 lt:∀ k,U k->k<w.heap.size
theorem MaF.same {l:List Tk} {w w':World} {a go cap lo hi:Nat} {zs:List (Nat×Lv)} {ent:Int} (h:MaF l w a go cap lo hi zs ent) (h1:w'.heap[a]?=w.heap[a]?) (h2:w'.heap[go]?=w.heap[go]?) (h3:∀ k,lo<=k->k<hi->w'.heap[k]?=w.heap[k]?):MaF l w' a go cap lo hi zs ent :=
 ⟨h.s.same h1 h2,fun y hy=>(h.p y hy).same h3,h.al,h.gl,h.ok,h.rl⟩
theorem kidF_le (l:List Tk) (n:Nat):∀ m k,(kidF l n m k).length<=m
 | 0,_=>Nat.le_refl _
 | m+1,k=>by
  rw[kidF]
  split
  ·rw[List.length_cons]
   exact Nat.succ_le_succ (kidF_le l n m _)
  ·exact Nat.zero_le _
theorem rowZ_le (l:List Tk) (p:Nat):(rowZ l p).length<=l.length:=by
 refine Nat.le_trans (List.length_filter_le _ _) ?_
 unfold kidsZ
 split
 ·exact kidF_le _ _ _ _
 ·exact Nat.zero_le _
theorem tops_length (zs:List (Nat×Lv)):(tops zs zs.length).length=zs.length:=by
 unfold tops
 rw[List.take_length,List.length_map,List.length_reverse]
structure Mk (f:Fm) (lo hi:Nat) (w:World) (a:Nat) (s:Ms) (U:Nat->Prop):Prop where
 m:∃ go cap zs,MaF f.toks w a go cap lo hi zs s.ent/\tops zs zs.length=s.op/\U go
 i:InF f.toks s
 ua:U a
 lt:∀ k,U k->k<w.heap.size
 np:∀ k,U k->k<lo\/hi<=k
theorem Mk.hi_lt {f:Fm} {lo hi:Nat} {w:World} {a:Nat} {s:Ms} {U:Nat->Prop} (h:Mk f lo hi w a s U):hi<w.heap.size:=by
 obtain⟨go,cap,zs,h1,-⟩:=h.m
 have:=h1.gl
 have:=h1.s.lt.2
 omega
theorem Mk.same {f:Fm} {lo hi:Nat} {w w':World} {a:Nat} {s:Ms} {U:Nat->Prop} (h:Mk f lo hi w a s U) (hs:w.heap.size<=w'.heap.size) (hb:∀ k,U k->w'.heap[k]?=w.heap[k]?) (hp:∀ k,lo<=k->k<hi->w'.heap[k]?=w.heap[k]?):Mk f lo hi w' a s U:=by
 obtain⟨go,cap,zs,h1,h2,h3⟩:=h.m
 exact⟨⟨go,cap,zs,h1.same (hb _ h.ua) (hb _ h3) hp,h2,h3⟩,h.i,h.ua,fun k hk=>Nat.lt_of_lt_of_le (h.lt k hk) hs,h.np⟩
theorem Mk.frm {f:Fm} {lo hi:Nat} {w w':World} {a:Nat} {s:Ms} {U V:Nat->Prop} (h:Mk f lo hi w a s U) (hb:Frm V w w') (hd:∀ k,U k->¬ V k) (hp:∀ k,V k->k<lo\/hi<=k):Mk f lo hi w' a s U:=by
 have hh:=h.hi_lt
 exact h.same hb.size (fun k hk=>hb.block k (h.lt k hk) (hd k hk)) fun k h1 h2=>hb.block k (by omega) fun hv=>by have:=hp k hv;omega
theorem Mk.below {f:Fm} {lo hi:Nat} {w w':World} {a:Nat} {s:Ms} {U:Nat->Prop} (h:Mk f lo hi w a s U) (hb:Below w.heap.size w w'):Mk f lo hi w' a s U:=by
 have hh:=h.hi_lt
 exact h.same hb.size (fun k hk=>hb.block k (h.lt k hk)) fun k h1 h2=>hb.block k (by omega)
theorem Mk.ok {f:Fm} {lo hi:Nat} {w:World} {a:Nat} {s:Ms} {U:Nat->Prop} (h:Mk f lo hi w a s U):MsOk f.toks s:=by
 obtain⟨go,cap,zs,h1,h2,-⟩:=h.m
 have:=h1.ok
 rw[h2] at this
 exact this
theorem New_mk (f:Fm) (pp:Option Addr) (cp:Nat) (w:World) (hc:ChkC w f pp cp) (tl:TkL w pp w.heap.size f.toks) (hz:chkZ f=none) :
  Calls Tryz.prog 31 #[fmV f pp cp] w fun r w'=>∃ a lo hi U,r = .returned (.tuple #[.pointer (some ⟨a,0,none⟩),.int .i64 0])/\Mk f lo hi w' a newZ U/\(∀ k,U k->w.heap.size<=k)/\w.heap.size<=lo/\Below w.heap.size w w':=by
 refine(New_ok f pp cp w hc tl hz).mono ?_
 rintro _ w' ⟨a,rfl,⟨go,cap,lo,hi,zs,h1,h2,h3,h4⟩,h5,h6⟩
 have g1:=h1.s.lt
 have g2:=h1.gl
 have g4:=h1.al
 have g3:lo<=go:=by
  rcases Nat.lt_or_ge go lo with h|h
  ·obtain⟨y,hy⟩:∃ y,zs[0]?=some y:=⟨zs[0]'(by omega),List.getElem?_eq_getElem (by omega)⟩
   obtain⟨d,hd⟩:=h1.p y (List.mem_of_getElem? hy)
   cases d with
   | zero=>exact hd.elim
   | succ d=>have:=hd.1;omega
  ·exact h
 exact⟨a,lo,hi,fun k=>k=a\/k=go,rfl,⟨⟨go,cap,zs,h1,h2,.inr rfl⟩,(new_ok hz).2,.inl rfl,fun k hk=>by rcases hk with rfl|rfl;exact g1.1;exact g1.2,fun k hk=>by rcases hk with rfl|rfl;exact g4;exact .inr g2⟩,fun k hk=>by rcases hk with rfl|rfl;exact h5;omega,h3,h6⟩
theorem Step_mk (f:Fm) (hz:chkZ f=none) (hl:f.toks.length<=733007751850) (lo hi a:Nat) (s:Ms) (U:Nat->Prop) (c:Cl) (w:World) (h:Mk f lo hi w a s U) (hco:i64ok c.cnt) (hnm:c.nm.size<=maxLen) :
  Calls Tryz.prog 27 #[.pointer (some ⟨a,0,none⟩),caV c] w fun r w'=>r = .returned (.int .i64 (stepZ f.toks s c.k c.cnt c.nm).1)/\Mk f lo hi w' a (stepZ f.toks s c.k c.cnt c.nm).2 (grw U w w')/\Frm U w w':=by
 obtain⟨go,cap,zs,h1,h2,h3⟩:=h.m
 have hhi:=h.hi_lt
 have ho:=h.ok
 have hlen:=ho.len
 have he:=ho.e1
 have ht:=tops_length zs
 rw[h2] at ht
 refine(step_any f.toks a go cap lo hi zs s.ent c w h1 hco hnm (by omega)).mono ?_
 have hs:(⟨tops zs zs.length,s.ent⟩:Ms)=s:=by rw[h2]
 rw[hs]
 obtain⟨hn,hin⟩:=step_ok hz ho h.i c.k c.cnt c.nm
 generalize stepZ f.toks s c.k c.cnt c.nm=R at hn hin
 rintro r w' ⟨rfl,go',cap',zs',q1,q2,q3,q4,q5⟩
 have g1:=h1.s.lt
 have g2:=h1.gl
 have g3:=q1.lt
 refine⟨rfl,⟨⟨go',cap',zs',⟨q1,q2,h1.al,?_,by rw[q3];exact hn,fun y _=>Nat.le_trans (rowZ_le _ _) hl⟩,q3,?_⟩,hin,.inl h.ua,fun k hk=>?_,fun k hk=>?_⟩,Frm.of_kb q5 fun k hk=>?_⟩
 ·rcases q4 with rfl|q4
  ·exact g2
  ·omega
 ·rcases q4 with rfl|q4
  ·exact .inl h3
  ·exact .inr ⟨q4,g3.2⟩
 ·rcases hk with hk|hk
  ·exact Nat.lt_of_lt_of_le (h.lt k hk) q5.size
  ·exact hk.2
 ·rcases hk with hk|hk
  ·exact h.np k hk
  ·exact .inr (by omega)
 ·simp only[List.mem_cons,List.not_mem_nil,or_false] at hk
  rcases hk with rfl|rfl
  ·exact h.ua
  ·exact h3
theorem Done_mk {f:Fm} {lo hi a:Nat} {s:Ms} {U:Nat->Prop} {w:World} (h:Mk f lo hi w a s U):Calls Tryz.prog 26 #[.pointer (some ⟨a,0,none⟩)] w fun r w'=>r = .returned (.bool (doneB f.toks s))/\Below w.heap.size w w':=by
 obtain⟨go,cap,zs,h1,h2,-⟩:=h.m
 have:=Done_any _ _ _ _ _ _ _ _ _ h1
 rw[h2] at this
 exact this
theorem Inside_mk {f:Fm} {lo hi a:Nat} {s:Ms} {U:Nat->Prop} {w:World} (h:Mk f lo hi w a s U):Calls Tryz.prog 57 #[.pointer (some ⟨a,0,none⟩)] w fun r w'=>r = .returned (.int .i64 (insZ s:Int))/\Below w.heap.size w w':=by
 obtain⟨go,cap,zs,h1,h2,-⟩:=h.m
 have:=Inside_any _ _ _ _ _ _ _ _ _ h1
 rw[h2] at this
 exact this
theorem fm_range {w:World} {g o:Nat} {f:Fm} {pp:Option Addr} {cp:Nat} (h:FmC w g o f pp cp):w.rangeAt g o [.int .i64 f.ord,.int .i64 f.sch,.int .i64 f.ver,.int .i64 f.hsz,.int .i64 f.hb.p,.int .i64 f.hb.o,.int .i64 f.ht.p,.int .i64 f.ht.o,.int .i64 f.hs.p,.int .i64 f.hs.o,.int .i64 f.hv.p,.int .i64 f.hv.o,.slice pp f.toks.length cp]:=by
 intro j v hv
 have hj:j<13:=(List.getElem?_eq_some_iff.1 hv).1
 have hc:j=0\/j=1\/j=2\/j=3\/j=4\/j=5\/j=6\/j=7\/j=8\/j=9\/j=10\/j=11\/j=12:=by omega
 rcases hc with rfl|rfl|rfl|rfl|rfl|rfl|rfl|rfl|rfl|rfl|rfl|rfl|rfl<;>cases Option.some.inj hv
 ·exact h.c0
 ·exact h.c1
 ·exact h.c2
 ·exact h.c3
 ·exact h.c4
 ·exact h.c5
 ·exact h.c6
 ·exact h.c7
 ·exact h.c8
 ·exact h.c9
 ·exact h.c10
 ·exact h.c11
 ·exact h.c12
theorem infoFm:(Tryz.prog.info? 30).map (·.size)=some 13:=by kernel_rfl
theorem undFm:∃ d,Tryz.prog.underlying 30=some d/\d.isRow=true:=⟨_,Tryz.underlying30,rfl⟩
theorem FmC.load {w:World} {g o:Nat} {f:Fm} {pp:Option Addr} {cp:Nat} (h:FmC w g o f pp cp):(Instr.loadAt 30 (.pointer (some ⟨g,o,none⟩))).run Tryz.prog w = .ok (fmV f pp cp) w:=by
 obtain⟨d,hu,hd⟩:=undFm
 exact run_loadAt_mid w g o 30 _ d (fm_range h) hu hd infoFm
end Go.Proofs.YtjlbcdnkglaheaaGreatDoor
