import Derived.Test.YtbhmciieiilcfaaGreatDoorK13
import Derived.Test.YtbhmciieiilcfaaGreatDoorK26
namespace Go.Proofs.YtbhmciieiilcfaaGreatDoor
set_option maxRecDepth 1000000
set_option maxHeartbeats 16000000
open Go.ChangeShapes Go.WideShapes Go.ChangeAt Go.RowKit Go.Shelf Go.Maps
variable {U:Nat->Prop} {W w w':World} {a b:Nat} {f:Fm} {l:List Tk} {ns:List Nat} {s:Ms} {t:TypeId} {v:Value} {zs:List (Nat×Lv)}
def ChkC (w:World) (f:Fm) (pp:Option Addr) (cp:Nat):Prop:=∀ W,Below w.heap.size w W->Calls Tryz.prog 13 #[fmV f pp cp] W fun r w'=>r = .returned (.tuple #[.int .i64 (errZ (chkZ f)),.int .i64 (atZ (chkZ f))])/\Below W.heap.size W w'
theorem chkC_of (f:Fm) (pp:Option Addr) (cp:Nat) (w:World) (tl:TkL w pp w.heap.size f.toks) (kt:KT w) (mt:MT w):ChkC w f pp cp:=fun W hb=>Check_any f pp cp W ((tl.below hb).mono hb.size) (kt.up hb) (mt.below mt.pos hb)
structure NewM (f:Fm) (w w':World) (a:Nat):Prop where
 m:∃ go cap lo hi zs,MaF f.toks w' a go cap lo hi zs 0/\tops zs zs.length=newZ.op/\w.heap.size<=lo/\zs.length=1
 ge:w.heap.size<=a
 b:Below w.heap.size w w'
theorem New_no (f:Fm) (pp:Option Addr) (cp:Nat) (w:World) (hc:ChkC w f pp cp) (hz:chkZ f≠none) :
  Calls Tryz.prog 5 #[fmV f pp cp] w fun r w'=>r = .returned (.tuple #[.pointer none,.int .i64 121])/\Below w.heap.size w w':=by
 have hF:=fm_new w f pp cp
 have HB:Below w.heap.size w (w.alloc (fmO f pp cp)):=nbel _ _
 have cK:=hc _ HB
 generalize hW:w.alloc (fmO f pp cp)=W at hF HB cK
 simp only[fmO] at hW
 have F0:=hF.c0
 have F1:=hF.c1
 have F2:=hF.c2
 have F3:=hF.c3
 have F4:=hF.c4
 have F5:=hF.c5
 have F6:=hF.c6
 have F7:=hF.c7
 have F8:=hF.c8
 have F9:=hF.c9
 have F10:=hF.c10
 have F11:=hF.c11
 have F12:=hF.c12
 simp only[Nat.zero_add] at F1 F2 F3 F4 F5 F6 F7 F8 F9 F10 F11 F12
 obtain⟨er,her⟩:∃ er,errZ (chkZ f)=er:=⟨_,rfl⟩
 have h0:er≠0:=by
  rw[<- her]
  unfold errZ
  cases h:chkZ f with
  | none=>exact absurd h hz
  | some i=>intro e;simp at e
 rw[her] at cK
 have b1:(er != 0)=true:=by simp[h0]
 have b2:(er==0)=false:=beq_eq_false_iff_ne.2 h0
 generalize atZ (chkZ f)=at_ at cK
 replace HB:=Hid.mk HB
 clear hF hz h0 her hc
 go_enter Tryz.func5,Tryz.ntmps5
 go_wp2_with (go_at_call 13;refine cK.mono ?_;rintro _ w1 ⟨rfl,hb1⟩;replace hb1:=Hid.mk hb1)
 exact bodyPost_ret (res2 rfl _ _) rfl ⟨rfl,HB.out.trans (hb1.out.mono HB.out.size)⟩
theorem New_ok (f:Fm) (pp:Option Addr) (cp:Nat) (w:World) (hc:ChkC w f pp cp) (tl:TkL w pp w.heap.size f.toks) (hz:chkZ f=none) :
  Calls Tryz.prog 5 #[fmV f pp cp] w fun r w'=>∃ a,r = .returned (.tuple #[.pointer (some ⟨a,0,none⟩),.int .i64 0])/\NewM f w w' a:=by
 have hF:=fm_new w f pp cp
 have HB:Below w.heap.size w (w.alloc (fmO f pp cp)):=nbel _ _
 have HS:(w.alloc (fmO f pp cp)).heap.size=w.heap.size+1:=World.size_alloc _ _
 have cK:=hc _ HB
 generalize hW:w.alloc (fmO f pp cp)=W at hF HB HS cK
 simp only[fmO] at hW
 have F0:=hF.c0
 have F1:=hF.c1
 have F2:=hF.c2
 have F3:=hF.c3
 have F4:=hF.c4
 have F5:=hF.c5
 have F6:=hF.c6
 have F7:=hF.c7
 have F8:=hF.c8
 have F9:=hF.c9
 have F10:=hF.c10
 have F11:=hF.c11
 have F12:=hF.c12
 simp only[Nat.zero_add] at F1 F2 F3 F4 F5 F6 F7 F8 F9 F10 F11 F12
 rw[hz] at cK
 simp only[errZ,atZ] at cK
 obtain⟨t,ht,ho⟩:=first_msg hz
 obtain⟨n,ks,hPb⟩:=pb_of hz ht (.inl ho)
 have hll:f.toks.length<=733007751850:=by have:=tl.len;omega
 have hrl:(rowZ f.toks 0).length<=733007751850:=by
  obtain⟨n',ks',hb⟩:=blk_of hz ht (.inl ho)
  have h1:=rowZ_length hb
  have h2:=hb.bg.nl
  omega
 have hnew:=(new_ok hz).1
 have cP:Hid (∀ X,Below w.heap.size w X->Calls Tryz.prog 15 #[.slice pp f.toks.length cp,.int .i64 0] X fun r w'=>∃ g,r = .returned (.pointer (some ⟨g,0,none⟩))/\PtC f.toks w' X.heap.size w'.heap.size n g 0/\Below X.heap.size X w'):=⟨fun X hb=>partAt_any f hz pp cp n 0 n t ks hPb (by omega) X ((tl.below hb).mono hb.size)⟩
 have FIN:Hid (∀ (w1 w3 w4:World) (g' go' cap':Nat),Below W.heap.size W w1->PtC f.toks w3 (w1.heap.size+1) w3.heap.size n g' 0->Below (w1.heap.size+1) (w1.alloc (.cells #[.slice none 0 0,.int .i64 0] 60)) w3->SM w4 w1.heap.size go' cap' 1 [(g',⟨0,0,true,0⟩)] 0->w3.heap.size<=go'->Kb [w1.heap.size] w3 w4->NewM f w w4 w1.heap.size):=⟨fun w1 w3 w4 g' go' cap' hb1 hP3 hb3 hS hgo hK=>by
  have hs1:=hb1.size
  have hs2:=HB.size
  have hs3:=hb3.size
  rw[World.size_alloc] at hs3
  refine⟨⟨go',cap',w1.heap.size+1,w3.heap.size,[(g',⟨0,0,true,0⟩)],⟨hS,fun y hy=>?_,.inl (by omega),hgo,hnew,fun y hy=>?_⟩,rfl,by omega,rfl⟩,by omega,?_⟩
  ·cases List.mem_singleton.1 hy
   exact⟨n,hP3.same fun k h1 h2=>hK.block k h2 (by simp;omega)⟩
  ·cases List.mem_singleton.1 hy
   exact hrl
  ·have q1:Below w.heap.size w w3:=(HB.trans (hb1.mono hs2)).trans (((bel1 w1 (.cells #[.slice none 0 0,.int .i64 0] 60)).mono (by omega)).trans (hb3.mono (by omega)))
   exact⟨hK.os.trans q1.os,hK.tape.trans q1.tape,hK.output.trans q1.output,Nat.le_trans q1.size hK.size,fun k hk=>(hK.block k (by have:=q1.size;omega) (by simp;omega)).trans (q1.block k hk)⟩⟩
 replace HB:=Hid.mk HB
 replace HS:=Hid.mk HS
 have F12':Hid (∀ X,Below W.heap.size W X->X.cell? ⟨w.heap.size,12,none⟩=some (.slice pp f.toks.length cp)):=⟨fun X hb=>(hb.cell (p:=⟨w.heap.size,12,none⟩) (by have:=HS.out;show w.heap.size<W.heap.size;omega)).trans F12⟩
 clear hF hc tl hPb ht ho hnew hrl
 go_enter Tryz.func5,Tryz.ntmps5
 go_upto_region 5 with (go_at_call 13;refine cK.mono ?_;rintro _ w1 ⟨rfl,hb1⟩;have k12:=F12'.out w1 hb1;have k13:=F12'.out (w1.alloc (.cells #[.slice none 0 0,.int .i64 0] 60)) (hb1.trans ((bel1 w1 _).mono hb1.size));replace hb1:=Hid.mk hb1)
 have hb2:Below w.heap.size w (w1.alloc (.cells #[.slice none 0 0,.int .i64 0] 60)):=(HB.out.trans (hb1.out.mono HB.out.size)).trans ((bel1 w1 _).mono (HB.out.trans (hb1.out.mono HB.out.size)).size)
 have cP2:=fun X (hb:Below (w1.alloc (.cells #[.slice none 0 0,.int .i64 0] 60)).heap.size (w1.alloc (.cells #[.slice none 0 0,.int .i64 0] 60)) X)=>cP.out X (hb2.trans (hb.mono hb2.size))
 have hm2:=heap_al w1 (.cells #[.slice none 0 0,.int .i64 0] 60)
 have hs2:(w1.alloc (.cells #[.slice none 0 0,.int .i64 0] 60)).heap.size=w1.heap.size+1:=World.size_alloc _ _
 have K3:Hid (∀ w3,Below (w1.alloc (.cells #[.slice none 0 0,.int .i64 0] 60)).heap.size (w1.alloc (.cells #[.slice none 0 0,.int .i64 0] 60)) w3->w3.cell? ⟨w.heap.size,12,none⟩=some (.slice pp f.toks.length cp)/\∀ g':Nat,Calls Tryz.prog 14 #[.pointer (some ⟨w1.heap.size,0,none⟩),.agg #[.pointer (some ⟨g',0,none⟩),.int .i64 0,.bool true,.int .i64 0]] w3 fun r w4=>r = .returned (.tuple #[])/\w4.cell? ⟨w.heap.size,12,none⟩=some (.slice pp f.toks.length cp)/\Hid (∃ go' cap',SM w4 w1.heap.size go' cap' 1 [(g',⟨0,0,true,0⟩)] 0/\w3.heap.size<=go'/\Kb [w1.heap.size] w3 w4)):=⟨fun w3 hb3=>by
  have hl:=hb3.size
  have hlW:=hb1.out.size
  have hW1:=HS.out
  have q12:=F12'.out w3 ((hb1.out.trans ((bel1 w1 _).mono hb1.out.size)).trans (hb3.mono (by omega)))
  refine⟨q12,fun g'=>?_⟩
  refine(opush_any w1.heap.size w3.heap.size 0 (.slice none 0 0) [] (g',⟨0,0,true,0⟩) w3 ((hb3.block _ (by omega)).trans hm2) (World.ownsRow_nil _ _ _ 4) (by simp) (Nat.le_refl _) (fun e=>by cases e)).mono ?_
  rintro r w4 ⟨rfl,go',cap',h1,h2,-,h4⟩
  exact⟨rfl,(h4.cell (by omega) (by simp[Value.ownBlock];omega)).trans q12,⟨go',cap',h1,h2,h4⟩⟩⟩
 go_region_held3 (fun X=>X.cell? ⟨w.heap.size,12,none⟩=some (.slice pp f.toks.length cp)) (first|assumption|go_keep) (first
  | (go_at_call 15;refine(cP2 _ (by first|exact Below.refl _ _|exact drw (Below.refl _ _))).mono ?_;rintro _ w3 ⟨g',rfl,hP3,hb3⟩;have hb3':Below (w1.alloc (.cells #[.slice none 0 0,.int .i64 0] 60)).heap.size (w1.alloc (.cells #[.slice none 0 0,.int .i64 0] 60)) w3:=(by first|exact hb3|exact(drw (Below.refl _ _)).trans hb3);obtain⟨x12,cPu⟩:=K3.out w3 hb3';replace hP3:=Hid.mk hP3;replace hb3:=Hid.mk hb3;replace hb3':=Hid.mk hb3')
  | (go_at_call 14;refine(cPu g').mono ?_;rintro _ w4 ⟨rfl,z12,HX⟩))
 all_goals
  go_wp2_with fail
  obtain⟨go',cap',s1,s2,s3⟩:=HX.out
  exact bodyPost_ret (res2 rfl _ _) rfl ⟨w1.heap.size,rfl,FIN.out w1 w3 w4 g' go' cap' hb1.out (by rw[<- hs2];exact hP3.out) (by rw[<- hs2];exact hb3'.out) s1 s2 s3⟩
def NSl (w:World) (pp:Option Addr) (ns:List Nat):Prop:=∀ (i n:Nat),ns[i]?=some n->∃ g,pp=some ⟨g,0,none⟩/\g<w.heap.size/\w.cell? ⟨g,i,none⟩=some (.int .i64 (n:Int))
theorem NSl.below {pp:Option Addr} (h:NSl w pp ns) (hb:Below w.heap.size w w'):NSl w' pp ns:=fun i n hi=>by
 obtain⟨g,e,hg,hc⟩:=h i n hi
 exact⟨g,e,Nat.lt_of_lt_of_le hg hb.size,(hb.cell (p:=⟨g,i,none⟩) hg).trans hc⟩
theorem sameInts_any (xs ys:List Nat) (pa pb:Option Addr) (ca cb:Nat) (w:World) (ha:NSl w pa xs) (hb:NSl w pb ys) (la:xs.length<=1000000) :
  Calls Tryz.prog 18 #[.slice pa xs.length ca,.slice pb ys.length cb] w fun r w'=>r = .returned (.bool (decide (xs=ys)))/\Below w.heap.size w w':=by
 by_cases hl:xs.length=ys.length
 ·have b1:((xs.length:Int) != (ys.length:Int))=false:=by simp[hl]
  have b2:((xs.length:Int)==(ys.length:Int))=true:=by simp[hl]
  generalize hrv:decide (xs=ys)=rv
  go_enter Tryz.func18,Tryz.ntmps18
  go_wp2_with fail
  go_loopw [13] (fun q wr=>∃ j:Nat,j<=xs.length/\q = .int .i64 (j:Int)/\Hid (Below w.heap.size w wr/\xs.take j=ys.take j)) (fun q _=>xs.length-(RowKit.intOf q).toNat)
  case atStart=>exact⟨0,Nat.zero_le _,by go_num,⟨Below.refl _ _,rfl⟩⟩
  case round =>
   obtain⟨j,hj,rfl,hI⟩:=hrel
   obtain⟨hbw,he⟩:=hI.out
   by_cases hlt:j<xs.length
   ·obtain⟨x,hx⟩:∃ x,xs[j]?=some x:=⟨xs[j],List.getElem?_eq_getElem hlt⟩
    obtain⟨y,hy⟩:∃ y,ys[j]?=some y:=⟨ys[j]'(by omega),List.getElem?_eq_getElem (by omega)⟩
    obtain⟨g1,rfl,_,e1⟩:=(ha.below hbw) j x hx
    obtain⟨g2,rfl,_,e2⟩:=(hb.below hbw) j y hy
    have i1:(j:Int)<xs.length:=by omega
    have i2:(j:Int)<ys.length:=by omega
    have HB:Hid _:=⟨hbw⟩
    have hx':Hid _:=⟨hx⟩
    have hy':Hid _:=⟨hy⟩
    have he':Hid _:=⟨he⟩
    clear hI hbw he hx hy ha hb
    by_cases hxy:x=y
    ·subst hxy
     have ht:Hid (xs.take (j+1)=ys.take (j+1)):=⟨by rw[List.take_add_one,List.take_add_one,hx'.out,hy'.out,he'.out]⟩
     go_upto_region 6 with fail
     go_quiet (fail)
     go_wp2_with fail
     go_roundw
     case rel=>exact⟨j+1,by omega,by go_num,⟨tdr HB.out,ht.out⟩⟩
     case measure=>simp[RowKit.intOf];omega
    ·have c1:((x:Int) != (y:Int))=true:=by simp;omega
     have c2:((x:Int)==(y:Int))=false:=by simp;omega
     obtain rfl:rv=false:=by
      rw[<- hrv]
      refine decide_eq_false fun e=>hxy ?_
      have h1:=hx'.out
      rw[e,hy'.out] at h1
      exact(Option.some.inj h1).symm
     clear hrv hxy
     go_upto_region 6 with fail
     go_quiet (fail)
     go_wp2_with fail
     go_ret
     exact⟨rfl,tdr HB.out⟩
   ·obtain rfl:j=xs.length:=by omega
    rw[List.take_length,List.take_of_length_le (by omega)] at he
    obtain rfl:rv=true:=by rw[<- hrv];exact decide_eq_true he
    have d1:decide ((xs.length:Int)<xs.length)=false:=by simp
    have HB:Hid _:=⟨hbw⟩
    clear hI hbw he hrv ha hb
    go_wp2_with fail
    go_ret
    exact⟨rfl,HB.out⟩
 ·have b1:((xs.length:Int) != (ys.length:Int))=true:=by simp;omega
  have b2:((xs.length:Int)==(ys.length:Int))=false:=by simp;omega
  have hd:decide (xs=ys)=false:=decide_eq_false fun e=>hl (by rw[e])
  rw[hd]
  clear ha hb hl hd
  go_enter Tryz.func18,Tryz.ntmps18
  go_wp2_with fail
  go_ret
  exact⟨rfl,Below.refl _ _⟩
structure Frm (U:Nat->Prop) (w W:World):Prop where
 os:W.os=w.os
 tape:W.tape=w.tape
 output:W.output=w.output
 size:w.heap.size<=W.heap.size
 block:∀ k,k<w.heap.size->¬ U k->W.heap[k]?=w.heap[k]?
theorem Frm.of_below (h:Below w.heap.size w W):Frm U w W:=⟨h.os,h.tape,h.output,h.size,fun k hk _=>h.block k hk⟩
theorem Frm.of_kb {E:List Nat} (h:Kb E w W) (hE:∀ k∈E,U k):Frm U w W:=⟨h.os,h.tape,h.output,h.size,fun k hk hn=>h.block k hk fun hm=>hn (hE k hm)⟩
theorem Frm.below (h:Frm U w W) (hU:∀ k,U k->b<=k) (hb:b<=w.heap.size):Below b w W:=⟨h.os,h.tape,h.output,h.size,fun k hk=>h.block k (by omega) fun hm=>by have:=hU k hm;omega⟩
def grw (U:Nat->Prop) (w W:World):Nat->Prop:=fun k=>U k\/(w.heap.size<=k/\k<W.heap.size)
structure Mc (f:Fm) (w:World) (a:Nat) (s:Ms) (U:Nat->Prop):Prop where
 m:∃ go cap lo hi zs,MaF f.toks w a go cap lo hi zs s.ent/\tops zs zs.length=s.op/\U go/\∀ k,lo<=k->k<hi->U k
 i:InF f.toks s
 ua:U a
 lt:∀ k,U k->k<w.heap.size
theorem MaF.same {go cap lo hi:Nat} {ent:Int} (h:MaF l w a go cap lo hi zs ent) (h1:w'.heap[a]?=w.heap[a]?) (h2:w'.heap[go]?=w.heap[go]?) (h3:∀ k,lo<=k->k<hi->w'.heap[k]?=w.heap[k]?):MaF l w' a go cap lo hi zs ent :=
 ⟨h.s.same h1 h2,fun y hy=>(h.p y hy).same h3,h.al,h.gl,h.ok,h.rl⟩
theorem Mc.same (h:Mc f w a s U) (hs:w.heap.size<=w'.heap.size) (hb:∀ k,U k->w'.heap[k]?=w.heap[k]?):Mc f w' a s U:=by
 obtain⟨go,cap,lo,hi,zs,h1,h2,h3,h4⟩:=h.m
 exact⟨⟨go,cap,lo,hi,zs,h1.same (hb _ h.ua) (hb _ h3) fun k e1 e2=>hb k (h4 k e1 e2),h2,h3,h4⟩,h.i,h.ua,fun k hk=>Nat.lt_of_lt_of_le (h.lt k hk) hs⟩
theorem Mc.below (h:Mc f w a s U) (hb:Below w.heap.size w w'):Mc f w' a s U:=h.same hb.size fun k hk=>hb.block k (h.lt k hk)
theorem Mc.ok (h:Mc f w a s U):MsOk f.toks s:=by
 obtain⟨go,cap,lo,hi,zs,h1,h2,-⟩:=h.m
 have:=h1.ok
 rw[h2] at this
 exact this
theorem kidF_le (l:List Tk) (n:Nat):∀ m k,(kidF l n m k).length<=m
 | 0,_=>Nat.le_refl _
 | m+1,k=>by
  rw[kidF]
  split
  ·rw[List.length_cons]
   exact Nat.succ_le_succ (kidF_le l n m _)
  ·exact Nat.zero_le _
theorem rowZ_le (l:List Tk) (p:Nat):(rowZ l p).length<=l.length:=by
 refine Nat.le_trans (List.length_filter_le _ _) ?_
 unfold kidsZ
 split
 ·exact kidF_le _ _ _ _
 ·exact Nat.zero_le _
theorem New_mc (f:Fm) (pp:Option Addr) (cp:Nat) (w:World) (hc:ChkC w f pp cp) (tl:TkL w pp w.heap.size f.toks) (hz:chkZ f=none) :
  Calls Tryz.prog 5 #[fmV f pp cp] w fun r w'=>∃ a,r = .returned (.tuple #[.pointer (some ⟨a,0,none⟩),.int .i64 0])/\Mc f w' a newZ (fun k=>w.heap.size<=k/\k<w'.heap.size)/\Below w.heap.size w w':=by
 refine(New_ok f pp cp w hc tl hz).mono ?_
 rintro _ w' ⟨a,rfl,⟨go,cap,lo,hi,zs,h1,h2,h3,h4⟩,h5,h6⟩
 have g1:=h1.s.lt
 have g2:=h1.gl
 have g3:lo<=go:=by
  rcases Nat.lt_or_ge go lo with h|h
  ·obtain⟨y,hy⟩:∃ y,zs[0]?=some y:=⟨zs[0]'(by omega),List.getElem?_eq_getElem (by omega)⟩
   obtain⟨d,hd⟩:=h1.p y (List.mem_of_getElem? hy)
   cases d with
   | zero=>exact hd.elim
   | succ d=>have:=hd.1;omega
  ·exact h
 exact⟨a,rfl,⟨⟨go,cap,lo,hi,zs,h1,h2,⟨by omega,g1.2⟩,fun k e1 e2=>⟨by omega,by omega⟩⟩,(new_ok hz).2,⟨h5,g1.1⟩,fun k hk=>hk.2⟩,h6⟩
theorem tops_length (zs:List (Nat×Lv)):(tops zs zs.length).length=zs.length:=by
 unfold tops
 rw[List.take_length,List.length_map,List.length_reverse]
theorem Step_mc (f:Fm) (hz:chkZ f=none) (hl:f.toks.length<=733007751850) (a:Nat) (s:Ms) (U:Nat->Prop) (c:Cl) (w:World) (h:Mc f w a s U) (hco:i64ok c.cnt) (hnm:c.nm.size<=maxLen) :
  Calls Tryz.prog 9 #[.pointer (some ⟨a,0,none⟩),caV c] w fun r w'=>r = .returned (.int .i64 (stepZ f.toks s c.k c.cnt c.nm).1)/\Mc f w' a (stepZ f.toks s c.k c.cnt c.nm).2 (grw U w w')/\Frm U w w':=by
 obtain⟨go,cap,lo,hi,zs,h1,h2,h3,h4⟩:=h.m
 have ho:=h.ok
 have hlen:=ho.len
 have he:=ho.e1
 have ht:=tops_length zs
 rw[h2] at ht
 refine(step_any f.toks a go cap lo hi zs s.ent c w h1 hco hnm (by omega)).mono ?_
 have hs:(⟨tops zs zs.length,s.ent⟩:Ms)=s:=by rw[h2]
 rw[hs]
 obtain⟨hn,hin⟩:=step_ok hz ho h.i c.k c.cnt c.nm
 generalize stepZ f.toks s c.k c.cnt c.nm=R at hn hin
 rintro r w' ⟨rfl,go',cap',zs',q1,q2,q3,q4,q5⟩
 have g1:=h1.s.lt
 have g2:=h1.gl
 have g3:=q1.lt
 refine⟨rfl,⟨⟨go',cap',lo,hi,zs',⟨q1,q2,h1.al,?_,by rw[q3];exact hn,fun y _=>Nat.le_trans (rowZ_le _ _) hl⟩,q3,?_,fun k e1 e2=>.inl (h4 k e1 e2)⟩,hin,.inl h.ua,fun k hk=>?_⟩,Frm.of_kb q5 fun k hk=>?_⟩
 ·rcases q4 with rfl|q4
  ·exact g2
  ·omega
 ·rcases q4 with rfl|q4
  ·exact .inl h3
  ·exact .inr ⟨q4,g3.2⟩
 ·rcases hk with hk|hk
  ·exact Nat.lt_of_lt_of_le (h.lt k hk) q5.size
  ·exact hk.2
 ·simp only[List.mem_cons,List.not_mem_nil,or_false] at hk
  rcases hk with rfl|rfl
  ·exact h.ua
  ·exact h3
theorem Done_mc (h:Mc f w a s U):Calls Tryz.prog 17 #[.pointer (some ⟨a,0,none⟩)] w fun r w'=>r = .returned (.bool (doneB f.toks s))/\Below w.heap.size w w':=by
 obtain⟨go,cap,lo,hi,zs,h1,h2,-⟩:=h.m
 have:=Done_any _ _ _ _ _ _ _ _ _ h1
 rw[h2] at this
 exact this
theorem Inside_mc (h:Mc f w a s U):Calls Tryz.prog 20 #[.pointer (some ⟨a,0,none⟩)] w fun r w'=>r = .returned (.int .i64 (insZ s:Int))/\Below w.heap.size w w':=by
 obtain⟨go,cap,lo,hi,zs,h1,h2,-⟩:=h.m
 have:=Inside_any _ _ _ _ _ _ _ _ _ h1
 rw[h2] at this
 exact this
def lfZ (s:Ms):List Nat:=(s.op.reverse.drop 1).map fun x=>x.left.toNat
theorem lfZ_eq (h:tops zs zs.length=s.op):lfZ s=lfN zs:=by
 unfold lfZ lfN
 rw[<- h]
 unfold tops
 rw[List.take_length]
 simp only[<- List.map_reverse,List.reverse_reverse,List.map_drop,List.map_map]
 rfl
theorem lfZ_le (h:MsOk l s):(lfZ s).length<=65536:=by
 have h1:=h.len
 have h2:=h.e1
 unfold lfZ
 rw[List.length_map,List.length_drop,List.length_reverse]
 omega
theorem Left_mc (h:Mc f w a s U):Calls Tryz.prog 19 #[.pointer (some ⟨a,0,none⟩)] w fun r w'=>∃ v,r = .returned v/\NRow w' w.heap.size v (lfZ s)/\Below w.heap.size w w':=by
 obtain⟨go,cap,lo,hi,zs,h1,h2,-⟩:=h.m
 rw[lfZ_eq h2]
 exact Left_any _ _ _ _ _ _ _ _ _ h1
theorem NRow.sl {base:Nat} (h:NRow W base v ns):∃ pp cp,v = .slice pp ns.length cp/\NSl W pp ns:=by
 obtain⟨pp,cp,e,h2⟩:=h.shape
 exact⟨pp,cp,e,h2⟩
def zT:Tk:=⟨0,⟨#[]⟩,0,0,0,0,0,0,0,0,0,0,[],0,0,0,⟨0,0⟩,⟨0,0⟩,0⟩
def oU:Tk:={ zT with op:=14,name:=⟨#[117,105,110,116,56]⟩,siz:=1,prim:=5,len:=1,nul:=255,hi:=254 }
def oT0:Tk:={ zT with op:=0,name:=⟨#[77]⟩,id:=1,blk:=1,full:=1,pair:=13 }
def oT1:Tk:={ zT with op:=2,name:=⟨#[97]⟩,id:=1,siz:=1,pair:=3 }
def oT3:Tk:={ zT with op:=3,name:=⟨#[97]⟩,pair:=1 }
def oT4:Tk:={ zT with op:=4,name:=⟨#[103]⟩,id:=2,siz:=3,blk:=1,full:=1,a:=⟨6,0⟩,b:=⟨5,2⟩,pair:=10 }
def oT5:Tk:={ zT with op:=2,name:=⟨#[120]⟩,id:=3,siz:=1,pair:=7 }
def oT7:Tk:={ zT with op:=3,name:=⟨#[120]⟩,pair:=5 }
def oT8:Tk:={ zT with op:=6,name:=⟨#[101]⟩,id:=4,siz:=1,a:=⟨5,0⟩,pair:=9 }
def oT9:Tk:={ zT with op:=7,name:=⟨#[101]⟩,pair:=8 }
def oT10:Tk:={ zT with op:=5,name:=⟨#[103]⟩,pair:=4 }
def oT11:Tk:={ zT with op:=6,name:=⟨#[100]⟩,id:=5,siz:=1,a:=⟨5,0⟩,pair:=12 }
def oT12:Tk:={ zT with op:=7,name:=⟨#[100]⟩,pair:=11 }
def oT13:Tk:={ zT with op:=1,name:=⟨#[77]⟩,pair:=0 }
def ownL:List Tk:=[oT0,oT1,{ oU with pair:=2 },oT3,oT4,oT5,{ oU with pair:=6 },oT7,oT8,oT9,oT10,oT11,oT12,oT13]
def ownF:Fm:=⟨0,0,0,8,⟨6,0⟩,⟨6,2⟩,⟨6,4⟩,⟨6,6⟩,ownL⟩
theorem own_chk:chkZ ownF=none:=by decide +kernel
structure Oc where
 k:Int
 nm:ByteArray
 cnt:Int
def ownC:List Oc:=[⟨0,⟨#[97]⟩,0⟩,⟨1,⟨#[103]⟩,2⟩,⟨2,⟨#[]⟩,0⟩,⟨0,⟨#[120]⟩,0⟩,⟨3,⟨#[101]⟩,0⟩,⟨2,⟨#[]⟩,0⟩,⟨3,⟨#[101]⟩,0⟩]
def sAt:Nat->Ms
 | 0=>newZ
 | j+1=>match ownC[j]? with
  | some c=>(stepZ ownL (sAt j) c.k c.cnt c.nm).2
  | none=>sAt j
theorem own_r0:(stepZ ownL newZ 2 0 ⟨#[]⟩).1=140:=by decide +kernel
theorem own_ok:∀ j c,ownC[j]?=some c->(stepZ ownL (sAt j) c.k c.cnt c.nm).1=0:=by
 have h:∀ j:Fin 7,(match ownC[j.1]? with|some c=>decide ((stepZ ownL (sAt j.1) c.k c.cnt c.nm).1=0)|none=>true)=true:=by decide +kernel
 intro j c hj
 have hlt:j<7:=(List.getElem?_eq_some_iff.1 hj).1
 have:=h ⟨j,hlt⟩
 simp only[hj] at this
 exact of_decide_eq_true this
theorem sAt_succ {j:Nat} {c:Oc} (h:ownC[j]?=some c):sAt (j+1)=(stepZ ownL (sAt j) c.k c.cnt c.nm).2:=by
 rw[sAt,h]
def sEnd:Ms:=(stepZ ownL (sAt 7) 3 0 ⟨#[100]⟩).2
theorem own_d0:doneB ownL newZ=false:=by decide +kernel
theorem own_d7:doneB ownL (sAt 7)=false:=by decide +kernel
theorem own_i7:insZ (sAt 7)=4:=by decide +kernel
theorem own_l7:((sAt 7).op.reverse.drop 1).map (fun x=>x.left.toNat)=[0]:=by decide +kernel
theorem own_r7:(stepZ ownL (sAt 7) 3 0 ⟨#[100]⟩).1=0:=by decide +kernel
theorem own_d8:doneB ownL sEnd=true:=by decide +kernel
theorem own_i8:insZ sEnd=0:=by decide +kernel
theorem own_l8:(sEnd.op.reverse.drop 1).map (fun x=>x.left.toNat)=[]:=by decide +kernel
theorem own1_any (p n:Int) (w:World):Calls Tryz.prog 42 #[.int .i64 p,.int .i64 n] w fun r w'=>r = .returned (.agg #[.int .i64 p,.int .i64 n])/\Below w.heap.size w w':=by
 have hh:=heap_al w (.cells #[.int .i64 p,.int .i64 n] 25)
 have h0:(w.alloc (.cells #[.int .i64 p,.int .i64 n] 25)).cell? ⟨w.heap.size,0,none⟩=some (.int .i64 p):=cell_at hh 0
 have h1:(w.alloc (.cells #[.int .i64 p,.int .i64 n] 25)).cell? ⟨w.heap.size,1,none⟩=some (.int .i64 n):=cell_at hh 1
 have hB:Hid (Below w.heap.size w (w.alloc (.cells #[.int .i64 p,.int .i64 n] 25))):=⟨bel1 _ _⟩
 clear hh
 go_enter Tryz.func42,Tryz.ntmps42
 go_wp2_with fail
 refine bodyPost_ret (v:=.agg #[.int .i64 p,.int .i64 n]) ?_ rfl ⟨rfl,hB.out⟩
 simp[results,Tryz.results42,go_sem,h0,h1]
theorem ent_own1:∀ ag w,(callFunc 42 ag).run Tryz.prog w = .ok (.enter 42 ag) w:=enters_of Tryz.func42 (by kernel_rfl) rfl
abbrev zFm:Obj:=.cells #[.int .i64 0,.int .i64 0,.int .i64 0,.int .i64 0,.int .i64 0,.int .i64 0,.int .i64 0,.int .i64 0,.int .i64 0,.int .i64 0,.int .i64 0,.int .i64 0,.slice none 0 0] 30
abbrev oHd:Obj:=.cells #[.int .i64 8,.int .i64 6,.int .i64 0,.int .i64 6,.int .i64 2,.int .i64 6,.int .i64 4,.int .i64 6,.int .i64 6] 27
section
variable {P:Program} {ops:Array Oper} {C:World->Prop} {Q:Exit->Act->World->Prop} {d:Option Tmp} {ty:TypeId} {ps:String} {af:Array Edge} {gd:Option (Nat×Bool)} {r:List Oper} {a:Act} {w:World}
theorem lx_callw {f:FuncId} {v0 x1 x2:Operand} {y1 y2:Value} {tx:Array TypeId} {R:World->Prop} (hen:∀ ag w,(callFunc f ag).run P w = .ok (.enter f ag) w) (hc:Calls P f #[y1,y2] w fun e w'=>e = .returned v/\R w') (h0:a.eval v0 = .func (.func f) #[] #[]) (h1:a.eval x1=y1) (h2:a.eval x2=y2) (hw:Region.wanted ⟨d,.call { callee:=.value v0,args:=#[x1,x2],argTypes:=tx },ty,ps,af,gd⟩ (yielded ops a.tmps)=true)
  (h:∀ w',R w'->C w'/\Lx P ops C Q r (a.put d v) w'):Lx P ops C Q (⟨d,.call { callee:=.value v0,args:=#[x1,x2],argTypes:=tx },ty,ps,af,gd⟩::r) a w :=
 lx_act hw rfl fun K hK=>by
  unfold Oper.wp execOp
  simp only[resolve,invoke,Sem.run_bind,h0]
  simp[Deferred.ofValue,hen,Oper.upon_enter,h1,h2]
  refine hc.mono ?_
  rintro e w' ⟨rfl,hp⟩
  exact hK _ _ (h w' hp).1 (h w' hp).2
theorem lx_ldO {x:Operand} {p:Value} (hl:∀ W,C W->(Instr.loadAt t p).run P W = .ok v W) (hx:a.eval x=p) (hw:Region.wanted ⟨d,.load t x,ty,ps,af,gd⟩ (yielded ops a.tmps)=true) (h:Lx P ops C Q r (a.put d v) w):Lx P ops C Q (⟨d,.load t x,ty,ps,af,gd⟩::r) a w :=
 lx_read hw rfl fun K hK=>⟨v,fun W hW=>by
  unfold Oper.quietAt execOp
  simp only[hx,hl W hW,Sem.run_bind,Result.andThen_ok,Sem.run_pure]
  exact⟨rfl,rfl⟩,hK _ h⟩
theorem lx_bs {n:Nat} {xs:Array (Nat×Operand)} {ys:Array (Nat×Value)} (hr:(Instr.buildSlice t n ys).run P w = .ok v w') (hC:C w') (hx:(xs.map fun (i,x)=>(i,a.eval x))=ys) (hw:Region.wanted ⟨d,.buildSlice t n xs,ty,ps,af,gd⟩ (yielded ops a.tmps)=true) (h:Lx P ops C Q r (a.put d v) w'):Lx P ops C Q (⟨d,.buildSlice t n xs,ty,ps,af,gd⟩::r) a w :=
 lx_act hw rfl fun K hK=>by
  unfold Oper.wp execOp
  simp only[hx,hr,Sem.run_bind,Result.andThen_ok]
  exact hK _ _ hC h
end
def own0:List Tk:=[oT0,oT1,oU,oT3,oT4,oT5,oU,oT7,oT8,oT9,oT10,oT11,oT12,oT13]
def tkCs:List Tk->List Value
 | []=>[]
 | t::r=>tkC t none 0++tkCs r
theorem own_bs (W:World):(Instr.buildSlice 28 14 #[(0,tkV oT0 none 0),(1,tkV oT1 none 0),(2,tkV oU none 0),(3,tkV oT3 none 0),(4,tkV oT4 none 0),(5,tkV oT5 none 0),(6,tkV oU none 0),(7,tkV oT7 none 0),(8,tkV oT8 none 0),(9,tkV oT9 none 0),(10,tkV oT10 none 0),(11,tkV oT11 none 0),(12,tkV oT12 none 0),(13,tkV oT13 none 0)]).run Tryz.prog W = .ok (.slice (some ⟨W.heap.size,0,none⟩) 14 14) (W.alloc (.cells (tkCs own0).toArray 83)):=by kernel_rfl
theorem tkCs_get:∀ (l:List Tk) (i:Nat) (t:Tk),l[i]?=some t->∀ j,j<21->(tkCs l)[i*21+j]?=(tkC t none 0)[j]?
 | [],_,_,h,_,_=>by cases h
 | a::r,0,t,h,j,hj=>by
  cases h
  rw[tkCs,Nat.zero_mul,Nat.zero_add,List.getElem?_append_left (by show j<21;omega)]
 | a::r,i+1,t,h,j,hj=>by
  have ih:=tkCs_get r i t h j hj
  have hl:(tkC a none 0).length=21:=rfl
  rw[tkCs,List.getElem?_append_right (by omega),hl,<- ih]
  congr 1
  omega
theorem tkL_lit {g H:Nat} (hg:w.heap[g]?=some (.cells (tkCs l).toArray 83)) (hH:g<H) (hl:l.length*192<=140737488355328) (hc:∀ t∈l,t.cst=[]/\TkOk t):TkL w (some ⟨g,0,none⟩) H l :=
 ⟨⟨fun i t ht=>by
  have h0:=(hc t (List.mem_of_getElem? ht)).1
  refine⟨g,0,none,0,rfl,hH,tkC_of fun j u hu=>?_,by rw[h0];exact URow.nil _ _ _,by rw[h0];exact Nat.le_refl _⟩
  rw[Nat.zero_add,cell_at hg,List.getElem?_toArray,tkCs_get l i t ht j (List.getElem?_eq_some_iff.1 hu).1]
  exact hu⟩,hl,fun t ht=>(hc t ht).2⟩
def iB (x:Int):Bool:=decide (-9223372036854775808<=x/\x<=9223372036854775807)
def uB (x:Int):Bool:=decide (0<=x/\x<=18446744073709551615)
def tokB (t:Tk):Bool:=t.cst.isEmpty&&iB t.op&&decide (t.name.size<=281474976710656)&&iB t.id&&iB t.off&&iB t.siz&&iB t.since&&iB t.prim&&iB t.len&&iB t.pres&&uB t.nul&&uB t.lo&&uB t.hi&&uB t.val&&iB t.blk&&iB t.full&&iB t.a.p&&iB t.a.o&&iB t.b.p&&iB t.b.o&&iB t.pair
theorem tokB_ok {t:Tk} (h:tokB t=true):t.cst=[]/\TkOk t:=by
 unfold tokB at h
 simp only[Bool.and_eq_true,List.isEmpty_iff,iB,uB,decide_eq_true_eq] at h
 obtain⟨⟨⟨⟨⟨⟨⟨⟨⟨⟨⟨⟨⟨⟨⟨⟨⟨⟨⟨⟨h0,h1⟩,h2⟩,h3⟩,h4⟩,h5⟩,h6⟩,h7⟩,h8⟩,h9⟩,h10⟩,h11⟩,h12⟩,h13⟩,h14⟩,h15⟩,h16⟩,h17⟩,h18⟩,h19⟩,h20⟩:=h
 exact⟨h0,⟨h1,h2,h3,h4,h5,h6,h7,h8,h9,h10,h11,h12,by rw[h0];decide,by rw[h0];simp,h13,h14,h15,h16,h17,h18,h19,h20⟩⟩
theorem own_toks:∀ t∈ownL,t.cst=[]/\TkOk t:=by
 have h:ownL.all tokB=true:=by decide +kernel
 exact fun t ht=>tokB_ok (List.all_eq_true.1 h t ht)
theorem own_sets:((tkCs own0).toArray.setIfInBounds 62 (.int .i64 2)).setIfInBounds 146 (.int .i64 6)=(tkCs ownL).toArray:=by kernel_rfl
theorem cellSet {X:Nat} {cs:Array Value} {ty:TypeId} (h:w.heap[X]?=some (.cells cs ty)) (k:Nat) (u:Value):(w.setCell ⟨X,k,none⟩ u).heap[X]?=some (.cells (cs.setIfInBounds k u) ty):=by
 show (w.heap.modify X _)[X]?=_
 rw[Array.getElem?_modify,if_pos rfl,h]
 rfl
theorem own_62:(tkCs own0).toArray[62]?=some (.int .i64 0):=by kernel_rfl
theorem own_146:((tkCs own0).toArray.setIfInBounds 62 (.int .i64 2))[146]?=some (.int .i64 0):=by kernel_rfl
theorem infoHdO:(Tryz.prog.info? 27).map (·.size)=some 9:=by kernel_rfl
theorem infoFmO:(Tryz.prog.info? 30).map (·.size)=some 13:=by kernel_rfl
theorem fmC_one (f:Fm) (pp:Option Addr) (cp:Nat):(#[.int .i64 f.ord,.int .i64 f.sch,.int .i64 f.ver,.int .i64 f.hsz,.int .i64 f.hb.p,.int .i64 f.hb.o,.int .i64 f.ht.p,.int .i64 f.ht.o,.int .i64 f.hs.p,.int .i64 f.hs.o,.int .i64 f.hv.p,.int .i64 f.hv.o,.slice pp f.toks.length cp]:Array Value).all (·.oneCell')=true:=by kernel_rfl
theorem fm_st {old:Array Value} (hb:w.heap[b]?=some (.cells old 30)) (ho:old.size=13) (f:Fm) (pp:Option Addr) (cp:Nat):(Instr.storeAt 30 (.pointer (some ⟨b,0,none⟩)) (fmV f pp cp)).run Tryz.prog w = .ok () (w.setRow b #[.int .i64 f.ord,.int .i64 f.sch,.int .i64 f.ver,.int .i64 f.hsz,.int .i64 f.hb.p,.int .i64 f.hb.o,.int .i64 f.ht.p,.int .i64 f.ht.o,.int .i64 f.hs.p,.int .i64 f.hs.o,.int .i64 f.hv.p,.int .i64 f.hv.o,.slice pp f.toks.length cp]):=by
 simp only[Instr.storeAt,Instr.sureAddr,Sem.run_bind,Sem.run_pure,Result.andThen]
 exact run_storeVar_row _ _ _ _ _ _ hb infoFmO (by rw[ho];rfl) (fmC_one f pp cp)
theorem hd_ld (hb:w.heap[b]?=some oHd):(Instr.loadAt 27 (.pointer (some ⟨b,0,none⟩))).run Tryz.prog w = .ok (.agg #[.int .i64 8,.int .i64 6,.int .i64 0,.int .i64 6,.int .i64 2,.int .i64 6,.int .i64 4,.int .i64 6,.int .i64 6]) w:=by
 simp only[Instr.loadAt,Instr.sureAddr,Sem.run_bind,Sem.run_pure,Result.andThen]
 exact run_loadVar_row _ _ _ _ _ _ _ hb Tryz.underlying27 rfl infoHdO
theorem clsO1 (wr:World) (g:Nat) (t:Tk) (hg:wr.heap[g]?=some (tkO t none 0)):∃ p:World->Prop,p wr.drew/\(∀ W,p W->Below wr.heap.size wr W)/\(∀ W,Below wr.heap.size wr W->p W)/\Nonempty (CW p) /\
  (∀ W,(∃ θ:CW p,W=θ.w)->(Instr.loadAt 83 (.pointer (some ⟨g,0,none⟩))).run Tryz.prog W = .ok (tkV t none 0) W) :=
 ⟨Below wr.heap.size wr,drw (Below.refl _ _),fun _ h=>h,fun _ h=>h,⟨⟨_,Below.refl _ _⟩⟩,by
  rintro _ ⟨θ,rfl⟩
  exact(tk_of ((θ.h.block g (Array.getElem?_eq_some_iff.1 hg).1).trans hg)).load⟩
end Go.Proofs.YtbhmciieiilcfaaGreatDoor
