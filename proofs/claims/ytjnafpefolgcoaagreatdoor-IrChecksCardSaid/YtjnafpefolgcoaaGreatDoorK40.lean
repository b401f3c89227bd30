import Derived.Test.YtjnafpefolgcoaaGreatDoorK38
import Derived.Test.YtjnafpefolgcoaaGreatDoorK39
namespace Go.Proofs.YtjnafpefolgcoaaGreatDoor
set_option maxRecDepth 1000000
set_option maxHeartbeats 16000000
open Go.ChangeShapes Go.WideShapes Go.ChangeAt Go.RowKit Go.Shelf Go.Maps
structure CkL (wr W:World) (B g o cp:Nat) (f:Fm) (i:Nat) (s:St) (vo vi:Value) (Z:Option Int):Prop where
 dw:Dw wr ⟨B,0,0,g,o,cp,W.heap.size,i⟩ f s.open_ s.ids vo vi
 iv:Inv f i s
 sr:Srt s.open_
 kl:∀ a∈s.open_,a.kids.length<=i
 rn:runZ f (f.toks.drop i) i s=Z
 bl:Below W.heap.size W wr
theorem dw_start (w1 W:World) (f:Fm) (g o cp:Nat) (hb:Below W.heap.size W w1) (tl:TkL W (some ⟨g,o,none⟩) W.heap.size f.toks) (hg:g<W.heap.size):Dw (w1.alloc (.cells (dsA f (some ⟨g,o,none⟩) cp (.slice none 0 0) (.slice none 0 0)) 47)) ⟨w1.heap.size,0,0,g,o,cp,W.heap.size,0⟩ f [] [] (.slice none 0 0) (.slice none 0 0) :=
 ⟨heap_al _ _,⟨rfl,.inl ⟨rfl,rfl⟩⟩,⟨rfl,.inl ⟨rfl,rfl⟩⟩,tl.below (hb.alloc hb.size _),hg,hb.size,(by intro e;cases e),(by intro e;cases e),(by intro k e;cases e),Nat.le_trans hb.size (al_le _ _),Nat.zero_le _⟩
theorem own_shp {w:World} {H n z:Nat} {ty:TypeId} {v:Value} {xs:List Value} (h:w.ownsRow H ty z v n xs):∃ p cap,v = .slice p n cap:=by
 rcases h.2 with ⟨h0,h1⟩|⟨g,cap,cur,e,_⟩
 ·exact⟨none,0,by rw[h0,h1]⟩
 ·exact⟨_,cap,e⟩
theorem kl_nxt {s:St} {i:Nat} {t:Tk} (h:∀ a∈s.open_,a.kids.length<=i):∀ a∈(nxt s i t).open_,a.kids.length<=i+1:=by
 obtain⟨o,ids⟩:=s
 intro a ha
 unfold nxt at ha
 have key:∀ a∈metL o i t,a.kids.length<=i+1:=fun a ha=>by
  rcases o with _|⟨x,o⟩
  ·cases ha
  ·rcases List.mem_cons.1 ha with rfl|ha
   ·show (x.kids++[i]).length<=i+1
    have:=h x (List.mem_cons_self ..)
    rw[List.length_append]
    show x.kids.length+1<=i+1
    omega
   ·have:=h a (List.mem_cons_of_mem _ ha)
    omega
 by_cases he:edO t.op=true
 ·rw[if_pos he] at ha
  have:=h a (List.mem_of_mem_tail ha)
  omega
 ·rw[if_neg he] at ha
  have ha:a∈(if bgO t.op=true then scNew i t::metL o i t else metL o i t):=ha
  split at ha
  ·rcases List.mem_cons.1 ha with rfl|ha
   ·exact Nat.zero_le _
   ·exact key a ha
  ·exact key a ha
theorem CkL.next {wr wk W:World} {B g o cp i:Nat} {f:Fm} {s:St} {vo vi vo' vi':Value} {Z:Option Int} {t:Tk} (h:CkL wr W B g o cp f i s vo vi Z) (ht:f.toks[i]?=some t) (hok:okZ f s i t=true) (hr:(if okZ f s i t then runZ f (f.toks.drop (i+1)) (i+1) (nxt s i t) else some (i:Int))=Z) (hd:Dw wk ⟨B,0,0,g,o,cp,W.heap.size,i+1⟩ f (nxt s i t).open_ (nxt s i t).ids vo' vi') (hb:Below W.heap.size W wk):CkL wk W B g o cp f (i+1) (nxt s i t) vo' vi' Z :=
 ⟨hd,inv_step h.iv ht hok,srt_step h.iv h.sr,kl_nxt h.kl,by rw[hok,if_pos rfl] at hr;exact hr,hb⟩
theorem kbE {w:World} {c:Df} {ids:List Int} {vi:Value} (a:Dap c vi) (h:w.ownsRow c.H 3 1 vi ids.length (idC ids)):∀ x∈c.go::c.B::vi.ownBlock.toList,c.H<=x:=by
 intro x hx
 rcases List.mem_cons.1 hx with rfl|hx
 ·exact a.go
 rcases List.mem_cons.1 hx with rfl|hx
 ·exact a.B
 ·exact own_low h x (by simpa using hx)
theorem kbN {wr:World} {c:Df} {f:Fm} {op:List Sc} {ids:List Int} {vo vi:Value} {go n cap:Nat} (hd:Dw wr c f op ids vo vi) (hv:vo = .slice (some ⟨go,0,none⟩) n cap):wr.heap.size∉go::c.B::vi.ownBlock.toList:=by
 intro hx
 rcases List.mem_cons.1 hx with e|hx
 ·have:=(own_low5 hd.op go (by rw[hv];rfl)).2
  omega
 rcases List.mem_cons.1 hx with e|hx
 ·have:=hd.ds.lt
  omega
 ·have:=(own_low5 hd.ir _ (by simpa using hx)).2
  omega
theorem Dw.i {w:World} {B go cap g o cp H i j:Nat} {f:Fm} {op:List Sc} {ids:List Int} {vo vi:Value} (h:Dw w ⟨B,go,cap,g,o,cp,H,i⟩ f op ids vo vi):Dw w ⟨B,0,0,g,o,cp,H,j⟩ f op ids vo vi:=⟨h.ds,h.op,h.ir,h.tl,h.g,h.B,h.oB,h.iB,h.oi,h.sz,h.ln⟩
theorem Dw.d0 {w:World} {c:Df} {f:Fm} {op:List Sc} {ids:List Int} {vo vi:Value} {t:Tk} (h:Dw w c f op ids vo vi) (ht:f.toks[c.i]?=some t):D0 w c f t vo vi:=⟨h.ds,h.tl,ht,Nat.lt_of_lt_of_le h.g h.sz,h.sz⟩
theorem refCheck_some (f:Fm) (g o cp:Nat) (w:World) (fo:FmOk f) (tl:TkL w (some ⟨g,o,none⟩) w.heap.size f.toks) (hg:g<w.heap.size) :
  Calls Tryz.prog 4 #[fmV f (some ⟨g,o,none⟩) cp] w fun r w'=>r = .returned (.tuple #[.int .i64 (errZ (chkZ f)),.int .i64 (atZ (chkZ f))])/\Below w.heap.size w w':=by
 have hF:=fm_new w f (some ⟨g,o,none⟩) cp
 have HB:Below w.heap.size w (w.alloc (fmO f (some ⟨g,o,none⟩) cp)):=bel1 _ _
 have HS:(w.alloc (fmO f (some ⟨g,o,none⟩) cp)).heap.size=w.heap.size+1:=World.size_alloc _ _
 generalize hW:w.alloc (fmO f (some ⟨g,o,none⟩) cp)=W at hF HB HS
 simp only[fmO] at hW
 have cH:=fun W'=>refHeaded_any f (some ⟨g,o,none⟩) cp W' fo
 have hY:Hid (∀ W',Below W.heap.size W W'->FmC W' w.heap.size 0 f (some ⟨g,o,none⟩) cp):=⟨fun W' hb=>hF.below (by omega) hb⟩
 have F0:=hF.c0
 have F1:=hF.c1
 have F2:=hF.c2
 have F3:=hF.c3
 have F4:=hF.c4
 have F5:=hF.c5
 have F6:=hF.c6
 have F7:=hF.c7
 have F8:=hF.c8
 have F9:=hF.c9
 have F10:=hF.c10
 have F11:=hF.c11
 have F12:=hF.c12
 simp only[Nat.zero_add] at F1 F2 F3 F4 F5 F6 F7 F8 F9 F10 F11 F12
 replace HB:=Hid.mk HB
 replace HS:=Hid.mk HS
 cases hhd:headB f with
 | false =>
  have hz:chkZ f=some (-1):=by unfold chkZ;rw[hhd];rfl
  rw[hz]
  rw[hhd] at cH
  clear hhd hz
  go_enter Tryz.func4,Tryz.ntmps4
  go_wp2_with (go_at_call 13;refine(cH _).mono ?_;rintro _ w1 ⟨rfl,hb1⟩)
  go_ret2
  exact⟨rfl,HB.out.trans (hb1.mono HB.out.size)⟩
 | true =>
  have hz:chkZ f=runZ f f.toks 0 ⟨[],[]⟩:=by unfold chkZ;rw[hhd];rfl
  rw[hz]
  rw[hhd] at cH
  clear hhd hz
  obtain⟨Z,hZ⟩:∃ Z,runZ f f.toks 0 ⟨[],[]⟩=Z:=⟨_,rfl⟩
  rw[hZ]
  replace hZ:=Hid.mk hZ
  go_enter Tryz.func4,Tryz.ntmps4
  go_wp2_with (go_at_call 13;refine(cH _).mono ?_;rintro _ w1 ⟨rfl,hb1⟩;have y:=hY.out _ hb1;have y0:=y.c0;have y1:=y.c1;have y2:=y.c2;have y3:=y.c3;have y4:=y.c4;have y5:=y.c5;have y6:=y.c6;have y7:=y.c7;have y8:=y.c8;have y9:=y.c9;have y10:=y.c10;have y11:=y.c11;have y12:=y.c12;simp only[Nat.zero_add] at y1 y2 y3 y4 y5 y6 y7 y8 y9 y10 y11 y12;replace hb1:=Hid.mk hb1;clear y)
  have hS:=dw_start w1 W f g o cp hb1.out (tl.below HB.out |>.mono HB.out.size) (Nat.lt_of_lt_of_le hg HB.out.size)
  have hL:CkL _ W w1.heap.size g o cp f 0 ⟨[],[]⟩ _ _ Z:=⟨hS,inv_zero f,(fun x hx=>by cases hx),(fun x hx=>by cases hx),hZ.out,hb1.out.alloc hb1.out.size _⟩
  simp only[dsA] at hL
  clear y0 y1 y2 y3 y4 y5 y6 y7 y8 y9 y10 y11 y12 F0 F1 F2 F3 F4 F5 F6 F7 F8 F9 F10 F11 F12 hS hZ cH
  go_loopw [6,4,7] (fun q q4 q7 wr=>∃ (i:Nat) (s:St) (vo vi:Value),i<=f.toks.length/\q = .int .i64 i/\Hid (CkL wr W w1.heap.size g o cp f i s vo vi Z)/\q4=q4/\q7=q7) (fun q _ _ _=>f.toks.length-(RowKit.intOf q).toNat)
  case atStart=>exact⟨0,_,_,_,Nat.zero_le _,rfl,⟨hL⟩,rfl,rfl⟩
  case round =>
   clear hL
   obtain⟨i,s,vo,vi,hi,rfl,hL,-,-⟩:=hrel
   have y12:=(hY.out _ hL.out.bl).c12
   simp only[Nat.zero_add] at y12
   have hll:f.toks.length<=733007751850:=by have:=tl.len;omega
   by_cases hlt:i<f.toks.length
   ·obtain⟨t,ht⟩:∃ t,f.toks[i]?=some t:=⟨f.toks[i],List.getElem?_eq_getElem hlt⟩
    have hr:=hL.out.rn
    rw[runZ_at ht] at hr
    have hlti:(i:Int)<f.toks.length:=by omega
    obtain⟨pc,cc,hT,hU,hC,hO⟩:=(hL.out.dw.d0 ht).tk
    have l1:=hT.load
    obtain⟨W3,s3,hA,hb3,hz3⟩:=ld_new wr t pc cc
    have hD3:=hL.out.dw.below hb3
    have v13:=hD3.ds.c13
    have t0:=hA.c0
    have hwr:wr.heap.size<W3.heap.size:=by omega
    replace l1:=Hid.mk l1
    replace s3:=Hid.mk s3
    replace hA:=Hid.mk hA
    replace hb3:=Hid.mk hb3
    replace hz3:=Hid.mk hz3
    replace hD3:=Hid.mk hD3
    replace hr:=Hid.mk hr
    replace hO:=Hid.mk hO
    clear hT hU hC
    by_cases h0:i=0
    ·skip
     have hop:s.open_=[]:=hL.out.iv.zero h0
     have di:((i:Int)==0)=true:=by simp[h0]
     have di2:(i==0)=true:=by simp[h0]
     have hok:okZ f s i t=okZ f ⟨[],[]⟩ 0 t:=by
      obtain⟨so,si⟩:=s
      obtain rfl:so=[]:=hop
      subst h0
      rfl
     have cFi:=refFirst_any w1.heap.size 0 0 g o cp W.heap.size f t vo vi W3 ((hD3.out.i (j:=0)).d0 (by rw[<- h0];exact ht))
     rw[<- hok] at cFi
     have hop0:okZ f ⟨[],[]⟩ 0 t=true->t.op=0:=fun e=>(okZ_nil e).2.1
     replace h0:=Hid.mk h0
     replace cFi:=Hid.mk cFi
     go_wp2_with (first
      | (guard_target =~ wpList _ _ _ (Oper.mk _ (Op.load 53 _) _ _ _ _::_) _ _;go_must (first|refine wpList_ld 53 _ rfl rfl _ _ rfl l1.out ?_);simp only[pts])
      | (guard_target =~ wpList _ _ _ (Oper.mk _ (Op.store 53 _ _) _ _ _ _::_) _ _;go_must (refine wpList_st 53 _ _ rfl rfl _ _ rfl rfl (s3.out _ rfl) ?_);simp only[pts]))
     refine cFi.out.mono ?_
     rintro _ wk ⟨⟨(_|_),rfl,hbk⟩,ek⟩
     ·have hok2:okZ f s i t=false:=by
       cases hq:okZ f s i t with
       | false=>rfl
       | true=>have:=hbk.2 hq;cases this
      obtain rfl:Z=some (i:Int):=by rw[<- hr.out,hok2,if_neg (by decide)]
      have HBL:Hid (Below w.heap.size w wk):=⟨HB.out.trans ((hL.out.bl.trans ((hb3.out.trans (ek.mono hb3.out.size)).mono hL.out.bl.size)).mono HB.out.size)⟩
      clear hbk hok2 hok hop0
      go_wp2_with fail
      go_ret2
      exact⟨rfl,HBL.out⟩
     ·have hok2:okZ f s i t=true:=hbk.1 rfl
      have ht0:=hop0 (hok.symm.trans hok2)
      have hbg:bgO t.op=true:=by rw[ht0];rfl
      have hed:edO t.op=false:=bgO_end hbg
      have hpt:ptO t.op=false:=by rw[ht0];rfl
      have hDk:Hid _:=⟨hD3.out.below ek⟩
      have hbk3:Hid (Below W.heap.size W wk):=⟨hL.out.bl.trans ((hb3.out.trans (ek.mono hb3.out.size)).mono hL.out.bl.size)⟩
      have hwk:Hid (wr.heap.size<wk.heap.size):=⟨Nat.lt_of_lt_of_le hwr ek.size⟩
      have hTk:Hid (TkC wk wr.heap.size 0 t pc cc):=⟨hA.out.below (B:=W3.heap.size) hwr ek⟩
      have hnx:Hid ((nxt s i t).open_=scNew i t::s.open_/\(nxt s i t).ids=s.ids):=⟨by unfold nxt;rw[if_neg (by rw[hed];decide)];show (if bgO t.op=true then scNew i t::metL s.open_ i t else metL s.open_ i t)=_;rw[if_pos hbg,hop];rfl,by unfold nxt;rw[if_neg (by rw[hed];decide)];show (if ptO t.op=true then s.ids++[t.id] else s.ids)=s.ids;rw[hpt,if_neg (by decide)]⟩
      have hol:Hid ((s.open_).length<=733007751850):=⟨by rw[hop];exact Nat.zero_le _⟩
      have hBk:w1.heap.size<wk.heap.size:=hDk.out.ds.lt
      have v13k:=hDk.out.ds.c13
      have t0k:=hTk.out.c0
      have t5k:=hTk.out.c5
      simp only[Nat.zero_add] at t5k
      have fz13:=hDk.out.ds.frz 13
      have cB:=refBegins_any t.op wk hO.out.op
      rw[hbg] at cB
      have b13':∀ o,(wk.alloc o).cell? ⟨w1.heap.size,13,none⟩=some vo:=fun o=>((bel1 _ _).cell (p:=⟨w1.heap.size,13,none⟩) hBk).trans v13k
      have t5':∀ o,(wk.alloc o).cell? ⟨wr.heap.size,5,none⟩=some (.int .i64 t.since):=fun o=>((bel1 _ _).cell (p:=⟨wr.heap.size,5,none⟩) hwk.out).trans t5k
      have hBn:w1.heap.size≠wk.heap.size:=by omega
      clear hbk hok hop0 ht0 hbg hed hpt hop
      go_wp2_with (go_at_call 17;refine cB.mono ?_;rintro _ wq ⟨rfl,e⟩;obtain rfl:wk=wq:=e.symm)
      go_region_law ((refine step_append_ex rfl _ _ _ _ (by rfl) vo (.slice (some ⟨wk.heap.size,0,none⟩) 1 1) (by rfl) (by rfl) _ (o_ap (al:=(s.open_).reverse.map (odOf f.toks)) (bl:=[⟨i,0,0,t.since,t.since⟩]) 1 (by rw[List.length_map,List.length_reverse];exact own_alloc2 hDk.out.op (by first|exact bel1 _ _|exact drw (bel1 _ _))) (lit5 (heap_al _ _)) (by rw[List.length_map,List.length_reverse];have:=hol.out;show (s.open_).length+1<=_;omega) (by first|(rw[World.size_alloc];have:=hDk.out.sz;omega)|(show W.heap.size<=(wk.alloc _).heap.size;rw[World.size_alloc];have:W.heap.size<=wk.heap.size:=hDk.out.sz;omega))) ?_;rintro v' w' ⟨q1,q2,q3⟩;have el:((s.open_).reverse.map (odOf f.toks)++[(⟨i,0,0,t.since,t.since⟩:Od)]).length=(s.open_).length+1:=(by simp);rw[el] at q1;obtain⟨gi,ci,rfl⟩:=own_slice q1 (by omega);have hk2:w'.heap[w1.heap.size]?=wk.heap[w1.heap.size]?:=(q2.block w1.heap.size (Nat.lt_of_lt_of_le hBk (al_le _ _)) (fun e=>hDk.out.oB e.symm)).trans ((bel1 _ _).block w1.heap.size hBk);have c4:=hDk.out.ds.same hk2;have y13:w'.cell? ⟨w1.heap.size,13,none⟩=some vo:=c4.c13;have yf:=c4.frz 13;replace c4:=Hid.mk c4;replace hk2:=Hid.mk hk2;clear el))
      all_goals
       go_wp2_with fail
       go_roundw
       case rel =>
        have hpd:=push_doc (s:=scNew i t) hDk.out (Wp:=_) (by first|exact bel1 _ _|exact drw (bel1 _ _)) (by have:=hol.out;omega) (by rw[od_scNew];exact q1) q2 q3
        exact⟨i+1,nxt s i t,_,_,by omega,by go_num,⟨hL.out.next ht hok2 hr.out (by rw[hnx.out.1,hnx.out.2];exact hpd.1.i) (hbk3.out.trans hpd.2)⟩,trivial,trivial⟩
       case measure=>simp[RowKit.intOf];omega
    have di:((i:Int)==0)=false:=by simp;omega
    have di2:(i==0)=false:=by simp;omega
    cases hop:s.open_ with
    | nil =>
     obtain⟨po,co,hvo⟩:=own_shp hD3.out.op
     rw[hvo,hop] at v13
     have hok:okZ f s i t=false:=by
      obtain⟨so,si⟩:=s
      obtain rfl:so=[]:=hop
      unfold okZ
      simp[h0]
     obtain rfl:Z=some (i:Int):=by rw[<- hr.out,hok,if_neg (by decide)]
     have HBL:Hid (Below w.heap.size w W3):=⟨HB.out.trans ((hL.out.bl.trans (hb3.out.mono hL.out.bl.size)).mono HB.out.size)⟩
     have v13':W3.cell? ⟨w1.heap.size,13,none⟩=some (.slice po 0 co):=v13
     clear v13 hok
     go_wp2_with (first
      | (guard_target =~ wpList _ _ _ (Oper.mk _ (Op.load 53 _) _ _ _ _::_) _ _;go_must (first|refine wpList_ld 53 _ rfl rfl _ _ rfl l1.out ?_);simp only[pts])
      | (guard_target =~ wpList _ _ _ (Oper.mk _ (Op.store 53 _ _) _ _ _ _::_) _ _;go_must (refine wpList_st 53 _ _ rfl rfl _ _ rfl rfl (s3.out _ rfl) ?_);simp only[pts]))
     go_ret2
     exact⟨rfl,HBL.out⟩
    | cons sc r =>
     have hxs:=hL.out.iv.all sc (by rw[hop];exact List.mem_cons_self ..)
     have hds:=hD3.out
     rw[hop] at hds
     obtain⟨go,cap,hvo,hDt⟩:=hds.dt ht hxs.tk
     rw[hvo] at v13
     have hokx:okZ f s i t=inOk f (sc::r) s.ids i sc t:=by
      obtain⟨so,si⟩:=s
      obtain rfl:so=sc::r:=hop
      rfl
     have hivx:Inv f i ⟨sc::r,s.ids⟩:=by
      have:=hL.out.iv
      obtain⟨so,si⟩:=s
      obtain rfl:so=sc::r:=hop
      exact this
     have hrl:r.length+1<=i:=open_len hivx rfl
     cases hed:edO t.op with
     | true =>
      have ce:=refEnds_any ⟨w1.heap.size,go,cap,g,o,cp,W.heap.size,i⟩ f (r.reverse.map (odOf f.toks)) (odOf f.toks sc) sc.tk t s.ids vi W3 (okZ f s i t=true) hDt hxs.beg ⟨by rw[hokx];exact end_iff hxs ht hed⟩
      replace ce:=Hid.mk ce
      have he':=hed
      unfold edO at he'
      have he':=decT he'
      have m1:(t.op.tmod 2==1)=true:=by rcases he' with e|e|e|e|e|e|e<;>rw[e]<;>rfl
      have m2:decide (t.op > 0)=true:=by simp;omega
      have m3:decide (t.op<14)=true:=by simp;omega
      have n0:((r.length+1:Nat):Int)≠0:=by omega
      clear he'
      go_wp2_with (first
       | (guard_target =~ wpList _ _ _ (Oper.mk _ (Op.load 53 _) _ _ _ _::_) _ _;go_must (first|refine wpList_ld 53 _ rfl rfl _ _ rfl l1.out ?_);simp only[pts])
       | (guard_target =~ wpList _ _ _ (Oper.mk _ (Op.store 53 _ _) _ _ _ _::_) _ _;go_must (refine wpList_st 53 _ _ rfl rfl _ _ rfl rfl (s3.out _ rfl) ?_);simp only[pts]))
      refine ce.out.mono ?_
      rintro _ wk ⟨⟨(_|_),rfl,hbk⟩,ek⟩
      ·have hok2:okZ f s i t=false:=by
        cases hq:okZ f s i t with
        | false=>rfl
        | true=>have:=hbk.2 hq;cases this
       obtain rfl:Z=some (i:Int):=by rw[<- hr.out,hok2,if_neg (by decide)]
       have HBL:Hid (Below w.heap.size w wk):=⟨HB.out.trans ((hL.out.bl.trans ((hb3.out.trans (ek.mono hb3.out.size)).mono hL.out.bl.size)).mono HB.out.size)⟩
       clear hbk hok2 hokx
       go_wp2_with fail
       go_ret2
       exact⟨rfl,HBL.out⟩
      ·have hok2:okZ f s i t=true:=hbk.1 rfl
       have hDk:=hds.below ek
       rw[hvo] at hDk
       replace hDk:=Hid.mk hDk
       have v13k:=hDk.out.ds.c13
       have fz13:=hDk.out.ds.frz 13
       have t0k:=(hA.out.below (B:=W3.heap.size) hwr ek).c0
       have hbk3:Hid (Below W.heap.size W wk):=⟨hL.out.bl.trans ((hb3.out.trans (ek.mono hb3.out.size)).mono hL.out.bl.size)⟩
       have cB:=refBegins_any t.op wk hO.out.op
       have hbg:bgO t.op=false:=by
        cases hq:bgO t.op with
        | false=>rfl
        | true=>rw[bgO_end hq] at hed;cases hed
       rw[hbg] at cB
       have g1:(t.op != 14)=true:=by
        have:=decT (show decide _=true from hed)
        simp
        omega
       have g2:(t.op != 15)=true:=by
        have:=decT (show decide _=true from hed)
        simp
        omega
       have e1:((r.length+1:Nat):Int)-1=(r.length:Int):=by omega
       have hcap:(r.length:Int)<=cap:=by have:=hDt.op.cap;rw[List.length_append,List.length_map,List.length_reverse] at this;show (r.length:Int)<=(cap:Int);have:r.length+1<=cap:=this;omega
       have hnx:Hid ((nxt s i t).open_=r/\(nxt s i t).ids=s.ids):=⟨by unfold nxt;rw[if_pos hed,hop];rfl,by unfold nxt;rw[if_pos hed]⟩
       clear hbk
       go_wp2_with (go_at_call 17;refine cB.mono ?_;rintro _ wq ⟨rfl,e⟩;obtain rfl:wk=wq:=e.symm)
       go_region
       all_goals
        go_wp2_with fail
        go_roundw
        case rel =>
         have hpd:=pop_doc hDk.out
         exact⟨i+1,nxt s i t,_,_,by omega,by go_num,⟨hL.out.next ht hok2 hr.out (by rw[hnx.out.1,hnx.out.2];exact hpd.1.i.below (drw (Below.refl _ _))) (drw (hbk3.out.trans hpd.2))⟩,trivial,trivial⟩
        case measure=>simp[RowKit.intOf];omega
     | false =>
      have ct:=takes_doc (c:=⟨w1.heap.size,go,cap,g,o,cp,W.heap.size,i⟩) hivx (hop▸hL.out.sr) ht hed (hL.out.kl sc (by rw[hop];exact List.mem_cons_self ..)) hDt
      replace ct:=Hid.mk ct
      have hcs:(t.op.tmod 2==1)=false\/((t.op.tmod 2==1)=true/\decide (t.op > 0)=false)\/((t.op.tmod 2==1)=true/\decide (t.op > 0)=true/\decide (t.op<14)=false):=by
       cases a1:(t.op.tmod 2==1) with
       | false=>exact .inl rfl
       | true =>
        by_cases a2:t.op > 0
        ·by_cases a3:t.op<14
         ·exfalso
          have a4:t.op.tmod 2=1:=by simpa using a1
          rw[Int.tmod_eq_emod_of_nonneg (by omega)] at a4
          have:edO t.op=true:=by unfold edO;exact decide_eq_true (by omega)
          rw[hed] at this
          cases this
         ·exact .inr (.inr ⟨rfl,by simp;omega,by simp;omega⟩)
        ·exact .inr (.inl ⟨rfl,by simp;omega⟩)
      rcases hcs with m1|⟨m1,m2⟩|⟨m1,m2,m3⟩
      all_goals
       go_wp2_with (first
        | (guard_target =~ wpList _ _ _ (Oper.mk _ (Op.load 53 _) _ _ _ _::_) _ _;go_must (first|refine wpList_ld 53 _ rfl rfl _ _ rfl l1.out ?_);simp only[pts])
        | (guard_target =~ wpList _ _ _ (Oper.mk _ (Op.store 53 _ _) _ _ _ _::_) _ _;go_must (refine wpList_st 53 _ _ rfl rfl _ _ rfl rfl (s3.out _ rfl) ?_);simp only[pts]))
       refine ct.out.mono ?_
       rintro _ wk ⟨(_|_),rfl,hbk,kk,dk⟩
       ·have hok2:okZ f s i t=false:=by
         cases hq:okZ f s i t with
         | false=>rfl
         | true=>have:=hbk.2 (hokx▸hq);cases this
        obtain rfl:Z=some (i:Int):=by rw[<- hr.out,hok2,if_neg (by decide)]
        have HBL:Hid (Below w.heap.size w wk):=⟨HB.out.trans ((hL.out.bl.trans ((hb3.out.mono hL.out.bl.size).trans (kk.below hD3.out.sz (kbE hDt.ap hDt.ir)))).mono HB.out.size)⟩
        clear hbk hok2 hokx kk dk
        go_wp2_with fail
        go_ret2
        exact⟨rfl,HBL.out⟩
       ·have hok2:okZ f s i t=true:=hokx.trans (hbk.1 rfl)
        obtain⟨vik,hDt'⟩:=dk rfl
        have hDk:Hid _:=⟨hDt'.dw⟩
        have hb4:=kk.below hD3.out.sz (kbE hDt.ap hDt.ir)
        have hbk3:Hid (Below W.heap.size W wk):=⟨hL.out.bl.trans ((hb3.out.mono hL.out.bl.size).trans hb4)⟩
        have hwk:Hid (wr.heap.size<wk.heap.size):=⟨Nat.lt_of_lt_of_le hwr kk.size⟩
        have hTk:Hid (TkC wk wr.heap.size 0 t pc cc):=⟨hA.out.same (kk.block _ hwr (kbN hL.out.dw hvo))⟩
        clear hbk kk dk
        have hBk:w1.heap.size<wk.heap.size:=hDk.out.ds.lt
        have v13k:=hDk.out.ds.c13
        have t0k:=hTk.out.c0
        have t5k:=hTk.out.c5
        simp only[Nat.zero_add] at t5k
        have fz13:=hDk.out.ds.frz 13
        have cB:=refBegins_any t.op wk hO.out.op
        cases hbg:bgO t.op with
        | true =>
         rw[hbg] at cB
         have b13':∀ o,(wk.alloc o).cell? ⟨w1.heap.size,13,none⟩=some (.slice (some ⟨go,0,none⟩) (r.length+1) cap):=fun o=>((bel1 _ _).cell (p:=⟨w1.heap.size,13,none⟩) hBk).trans v13k
         have t5':∀ o,(wk.alloc o).cell? ⟨wr.heap.size,5,none⟩=some (.int .i64 t.since):=fun o=>((bel1 _ _).cell (p:=⟨wr.heap.size,5,none⟩) hwk.out).trans t5k
         have hBn:w1.heap.size≠wk.heap.size:=by omega
         have hol:Hid ((metX sc i t::r).length<=733007751850):=⟨by rw[List.length_cons];omega⟩
         have hnx:Hid ((nxt s i t).open_=scNew i t::(metX sc i t::r)/\(nxt s i t).ids=(if ptO t.op=true then s.ids++[t.id] else s.ids)):=⟨by unfold nxt;rw[if_neg (by rw[hed];decide)];show (if bgO t.op=true then scNew i t::metL s.open_ i t else metL s.open_ i t)=_;rw[if_pos hbg,hop];rfl,by unfold nxt;rw[if_neg (by rw[hed];decide)]⟩
         replace hbg:=Hid.mk hbg
         go_wp2_with (go_at_call 17;refine cB.mono ?_;rintro _ wq ⟨rfl,e⟩;obtain rfl:wk=wq:=e.symm)
         go_region_law ((refine step_append_ex rfl _ _ _ _ (by rfl) (.slice (some ⟨go,0,none⟩) (r.length+1) cap) (.slice (some ⟨wk.heap.size,0,none⟩) 1 1) (by rfl) (by rfl) _ (o_ap (al:=(metX sc i t::r).reverse.map (odOf f.toks)) (bl:=[⟨i,0,0,t.since,t.since⟩]) 1 (by rw[List.length_map,List.length_reverse];exact own_alloc2 hDk.out.op (by first|exact bel1 _ _|exact drw (bel1 _ _))) (lit5 (heap_al _ _)) (by rw[List.length_map,List.length_reverse];have:=hol.out;show (metX sc i t::r).length+1<=_;omega) (by first|(rw[World.size_alloc];have:=hDk.out.sz;omega)|(show W.heap.size<=(wk.alloc _).heap.size;rw[World.size_alloc];have:W.heap.size<=wk.heap.size:=hDk.out.sz;omega))) ?_;rintro v' w' ⟨q1,q2,q3⟩;have el:((metX sc i t::r).reverse.map (odOf f.toks)++[(⟨i,0,0,t.since,t.since⟩:Od)]).length=(metX sc i t::r).length+1:=(by simp);rw[el] at q1;obtain⟨gi,ci,rfl⟩:=own_slice q1 (by omega);have hk2:w'.heap[w1.heap.size]?=wk.heap[w1.heap.size]?:=(q2.block w1.heap.size (Nat.lt_of_lt_of_le hBk (al_le _ _)) (fun e=>hDk.out.oB e.symm)).trans ((bel1 _ _).block w1.heap.size hBk);have c4:=hDk.out.ds.same hk2;have y13:w'.cell? ⟨w1.heap.size,13,none⟩=some (.slice (some ⟨go,0,none⟩) (r.length+1) cap):=c4.c13;have yf:=c4.frz 13;replace c4:=Hid.mk c4;replace hk2:=Hid.mk hk2;clear el))
         all_goals
          go_wp2_with fail
          go_roundw
          case rel =>
           have hpd:=push_doc (s:=scNew i t) hDk.out (Wp:=_) (by first|exact bel1 _ _|exact drw (bel1 _ _)) (by have:=hol.out;omega) (by rw[od_scNew];exact q1) q2 q3
           exact⟨i+1,nxt s i t,_,_,by omega,by go_num,⟨hL.out.next ht hok2 hr.out (by rw[hnx.out.1,hnx.out.2];exact hpd.1.i) (hbk3.out.trans hpd.2)⟩,trivial,trivial⟩
          case measure=>simp[RowKit.intOf];omega
        | false =>
         rw[hbg] at cB
         have h1415:t.op=14\/t.op=15:=by
          have hin:=hokx.symm.trans hok2
          obtain⟨hm,_⟩:=inOk_in hin hed
          refine bgO_or ?_ hbg
          rcases may_typ hm hed hxs.beg with ⟨_,h3,_⟩|⟨_,_,h3⟩|⟨_,h3⟩|⟨_,⟨_,h3⟩|⟨_,h3⟩⟩
          ·exact .inl h3
          ·exact .inr (.inl h3)
          ·exact .inr (.inl h3)
          ·exact .inr (.inr (.inl h3))
          ·exact .inr (.inr (.inr h3))
         have hnx:Hid ((nxt s i t).open_=metX sc i t::r/\(nxt s i t).ids=(if ptO t.op=true then s.ids++[t.id] else s.ids)):=⟨by unfold nxt;rw[if_neg (by rw[hed];decide)];show (if bgO t.op=true then scNew i t::metL s.open_ i t else metL s.open_ i t)=_;rw[hbg,if_neg (by decide),hop];rfl,by unfold nxt;rw[if_neg (by rw[hed];decide)]⟩
         have h45:(t.op != 14)=false\/((t.op != 14)=true/\(t.op != 15)=false):=by rcases h1415 with e|e<;>simp[e]
         clear h1415
         rcases h45 with g1|⟨g1,g2⟩
         all_goals
          go_wp2_with (go_at_call 17;refine cB.mono ?_;rintro _ wq ⟨rfl,e⟩;obtain rfl:wk=wq:=e.symm)
          go_roundw
          case rel=>exact⟨i+1,nxt s i t,_,_,by omega,by go_num,⟨hL.out.next ht hok2 hr.out (by rw[hnx.out.1,hnx.out.2];exact hDk.out.i) hbk3.out⟩,trivial,trivial⟩
          case measure=>simp[RowKit.intOf];omega
   ·obtain rfl:i=f.toks.length:=by omega
    have hr:=hL.out.rn
    rw[List.drop_length,runZ] at hr
    obtain⟨po,co,hvo⟩:=own_shp hL.out.dw.op
    have v13:=hL.out.dw.ds.c13
    rw[hvo] at v13
    have HBL:Hid (Below w.heap.size w wr):=⟨HB.out.trans (hL.out.bl.mono HB.out.size)⟩
    by_cases hz:f.toks.length=0
    ·have d1:((f.toks.length:Int)==0)=true:=by simp[hz]
     have d2:(f.toks.length==0)=true:=by simp[hz]
     obtain rfl:Z=some (f.toks.length:Int):=by rw[<- hr,if_pos (.inl hz)]
     clear hz hr
     go_wp2_with fail
     go_quiet (fail)
     go_wp2_with fail
     go_ret2
     exact⟨rfl,tdr HBL.out⟩
    have d1:((f.toks.length:Int)==0)=false:=beq_eq_false_iff_ne.2 (by omega)
    have d2:(f.toks.length==0)=false:=beq_eq_false_iff_ne.2 (by omega)
    by_cases ho:s.open_=[]
    ·have d3:decide ((s.open_.length:Int) > 0)=false:=by simp[ho]
     have d4:decide (s.open_.length > 0)=false:=by simp[ho]
     obtain rfl:Z=none:=by rw[<- hr,if_neg (fun e=>e.elim hz (fun e=>e ho))]
     clear hz hr ho
     go_wp2_with fail
     go_ret2
     exact⟨rfl,HBL.out⟩
    ·have hpos:0<s.open_.length:=List.length_pos_iff.2 ho
     have d3:decide ((s.open_.length:Int) > 0)=true:=by simp;omega
     have d4:decide (s.open_.length > 0)=true:=by simp;omega
     obtain rfl:Z=some (f.toks.length:Int):=by rw[<- hr,if_pos (.inr ho)]
     clear hz hr ho hpos
     go_wp2_with fail
     go_quiet (fail)
     go_wp2_with fail
     go_ret2
     exact⟨rfl,tdr HBL.out⟩
theorem refCheck_none (f:Fm) (pp:Option Addr) (cp:Nat) (w:World) (fo:FmOk f) (hf:f.toks=[]) :
  Calls Tryz.prog 4 #[fmV f pp cp] w fun r w'=>r = .returned (.tuple #[.int .i64 (errZ (chkZ f)),.int .i64 (atZ (chkZ f))])/\Below w.heap.size w w':=by
 replace hf:=Hid.mk hf
 have hF:=fm_new w f pp cp
 have HB:Below w.heap.size w (w.alloc (fmO f pp cp)):=bel1 _ _
 have HS:(w.alloc (fmO f pp cp)).heap.size=w.heap.size+1:=World.size_alloc _ _
 generalize hW:w.alloc (fmO f pp cp)=W at hF HB HS
 simp only[fmO] at hW
 have cH:=fun W'=>refHeaded_any f pp cp W' fo
 have hY:Hid (∀ W',Below W.heap.size W W'->FmC W' w.heap.size 0 f pp cp):=⟨fun W' hb=>hF.below (by omega) hb⟩
 have F0:=hF.c0
 have F1:=hF.c1
 have F2:=hF.c2
 have F3:=hF.c3
 have F4:=hF.c4
 have F5:=hF.c5
 have F6:=hF.c6
 have F7:=hF.c7
 have F8:=hF.c8
 have F9:=hF.c9
 have F10:=hF.c10
 have F11:=hF.c11
 have F12:=hF.c12
 simp only[Nat.zero_add] at F1 F2 F3 F4 F5 F6 F7 F8 F9 F10 F11 F12
 replace HB:=Hid.mk HB
 replace HS:=Hid.mk HS
 cases hhd:headB f with
 | false =>
  have hz:chkZ f=some (-1):=by unfold chkZ;rw[hhd];rfl
  rw[hz]
  rw[hhd] at cH
  clear hhd hz
  go_enter Tryz.func4,Tryz.ntmps4
  go_wp2_with (go_at_call 13;refine(cH _).mono ?_;rintro _ w1 ⟨rfl,hb1⟩)
  go_ret2
  exact⟨rfl,HB.out.trans (hb1.mono HB.out.size)⟩
 | true =>
  have hz:chkZ f=runZ f f.toks 0 ⟨[],[]⟩:=by unfold chkZ;rw[hhd];rfl
  rw[hz]
  rw[hhd] at cH
  clear hhd hz
  have hZ:runZ f f.toks 0 ⟨[],[]⟩=some 0:=by rw[hf.out,runZ,if_pos (.inl rfl)];rfl
  rw[hZ]
  clear hZ
  go_enter Tryz.func4,Tryz.ntmps4
  go_wp2_with (go_at_call 13;refine(cH _).mono ?_;rintro _ w1 ⟨rfl,hb1⟩;have y:=hY.out _ hb1;have y0:=y.c0;have y1:=y.c1;have y2:=y.c2;have y3:=y.c3;have y4:=y.c4;have y5:=y.c5;have y6:=y.c6;have y7:=y.c7;have y8:=y.c8;have y9:=y.c9;have y10:=y.c10;have y11:=y.c11;have y12:=y.c12;simp only[Nat.zero_add] at y1 y2 y3 y4 y5 y6 y7 y8 y9 y10 y11 y12;replace hb1:=Hid.mk hb1;clear y)
  have hB0:Hid (Below W.heap.size W w1):=hb1
  clear y0 y1 y2 y3 y4 y5 y6 y7 y8 y9 y10 y11 y12 F0 F1 F2 F3 F4 F5 F6 F7 F8 F9 F10 F11 F12 cH
  go_loopw [6,4,7] (fun q q4 q7 wr=>q = .int .i64 0/\Hid (Below W.heap.size W wr)/\q4=q4/\q7=q7) (fun _ _ _ _=>0)
  case atStart=>exact⟨rfl,⟨hB0.out.alloc hB0.out.size _⟩,rfl,rfl⟩
  case round =>
   obtain⟨rfl,hB,-,-⟩:=hrel
   have y12:wr.cell? ⟨w.heap.size,12,none⟩=some (.slice pp 0 cp):=by have:=(hY.out _ hB.out).c12;rw[hf.out] at this;exact this
   have HBL:Hid (Below w.heap.size w wr):=⟨HB.out.trans (hB.out.mono HB.out.size)⟩
   go_wp2_with fail
   go_quiet (fail)
   go_wp2_with fail
   go_ret2
   exact⟨rfl,tdr HBL.out⟩
theorem refCheck_any (f:Fm) (pp:Option Addr) (cp:Nat) (w:World) (fo:FmOk f) (tl:TkL w pp w.heap.size f.toks) :
  Calls Tryz.prog 4 #[fmV f pp cp] w fun r w'=>r = .returned (.tuple #[.int .i64 (errZ (chkZ f)),.int .i64 (atZ (chkZ f))])/\Below w.heap.size w w':=by
 cases hf:f.toks with
 | nil=>exact refCheck_none f pp cp w fo hf
 | cons t r =>
  obtain⟨g,o,pc,cc,rfl,hg,_⟩:=tl.at (i:=0) (by rw[hf];rfl)
  exact refCheck_some f g o cp w fo tl hg
theorem isAt_c (f:Fm) (i:Int) (pp:Option Addr) (cp:Nat) (w:World) (tl:TkL w pp w.heap.size f.toks) (kt:KT w) (mt:MT w):IsAtC w f i pp cp:=fun W hb =>
 isAt_any f i pp cp W ((tl.below hb).mono hb.size) (kt.up hb) (mt.below mt.pos hb)
theorem refCk_c (f:Fm) (pp:Option Addr) (cp:Nat) (w:World) (fo:FmOk f) (tl:TkL w pp w.heap.size f.toks):RefCkC w f pp cp:=fun W hb=>refCheck_any f pp cp W fo ((tl.below hb).mono hb.size)
theorem parts_any (f:Fm) (i:Int) (ks:List Nat) (pp:Option Addr) (cp:Nat) (w:World) (tl:TkL w pp w.heap.size f.toks) (kt:KT w) (mt:MT w) (h:PartsOf f i ks) :
  Calls Tryz.prog 22 #[fmV f pp cp,.int .i64 i] w fun r w'=>∃ v,r = .returned v/\NRow w' w.heap.size v ks/\Below w.heap.size w w':=by
 have cA:=isAt_c f i pp cp w tl kt mt
 rcases h with ⟨b,n,t,h1,h2,h3,h4,h5⟩|⟨h1,rfl⟩
 ·exact parts_some f i b n t ks pp cp w tl cA h1 h2 h3 h4 h5
 ·exact parts_no f i pp cp w tl cA h1
theorem refParts_any (f:Fm) (i:Int) (ks:List Nat) (pp:Option Addr) (cp:Nat) (w:World) (fo:FmOk f) (tl:TkL w pp w.heap.size f.toks) (h:PartsOf f i ks) :
  Calls Tryz.prog 18 #[fmV f pp cp,.int .i64 i] w fun r w'=>∃ v,r = .returned v/\NRow w' w.heap.size v ks/\Below w.heap.size w w':=by
 have cA:=refCk_c f pp cp w fo tl
 rcases h with ⟨b,n,t,h1,h2,h3,h4,h5⟩|⟨h1,rfl⟩
 ·exact refParts_some f i b n t ks pp cp w tl cA h1 h2 h3 h4 h5
 ·exact refParts_no f i pp cp w tl cA h1
end Go.Proofs.YtjnafpefolgcoaaGreatDoor
