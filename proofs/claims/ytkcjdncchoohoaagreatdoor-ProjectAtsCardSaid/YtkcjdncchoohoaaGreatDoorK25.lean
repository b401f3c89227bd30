import Derived.Test.YtkcjdncchoohoaaGreatDoorK24
import Derived.Shelf.Pu.Clone
namespace Go.Proofs.YtkcjdncchoohoaaGreatDoor
set_option maxRecDepth 1000000
set_option maxHeartbeats 16000000
open Go.ChangeShapes Go.WideShapes Go.ChangeAt Go.RowKit Go.Shelf Go.Maps
variable {b n:Nat} {f:Fm} {ks:List Nat} {t:Tk}
theorem dBlock_any (hg:Bgn f.toks b n t ks) (pp:Option Addr) (cp:Nat) (w:World) (hr:TkRow w pp w.heap.size f.toks) (hlm:f.toks.length*192<=140737488351232) (vc:Value) (B:Nat) (hC:NRow w B vc (camZ f)) (v:Int) :
  Calls Tryz.prog 21 #[fmV f pp cp,vc,.int .i64 (b:Int),.int .i64 v] w fun e w'=>e = .returned (.int .i64 (blkZ f.toks (camZ f) v b t))/\Below w.heap.size w w':=by
 obtain⟨pv,cv,rfl,-⟩:=hC.shape
 have hcl:=camZ_length f
 have hkids:=hg.kids
 obtain⟨Z,hZ⟩:∃ Z,blkZ f.toks (camZ f) v b t=Z:=⟨_,rfl⟩
 have hZ':Hid ((fstB f.toks (camZ f) v ks).getD t.blk=Z):=⟨by rw[<- hZ];unfold blkZ;rw[hkids]⟩
 rw[hZ]
 have hb:=bel1 w (fmO f pp cp)
 have H1:=heap_al w (fmO f pp cp)
 have hs1:(w.alloc (fmO f pp cp)).heap.size=w.heap.size+1:=World.size_alloc _ _
 generalize hW:w.alloc (fmO f pp cp)=W1 at hb H1 hs1
 simp only[fmO] at hW
 obtain⟨gf,ofs,pc,cc,rfl,hgf,hTb,-,-⟩:=hr.c b t hg.et
 have bl:=hg.nl
 have bb:=hg.bn
 have hen:=hg.en
 have hnl:Hid (n<f.toks.length/\b<n/\f.toks.length<=733007751850):=⟨by omega,by omega,by omega⟩
 have hKn:Hid (∀ k∈ks,k<n):=⟨fun k hk=>(hg.kn k hk).2⟩
 have hUp:Hid _:=⟨hg.up⟩
 have hrr:Hid _:=⟨hr⟩
 have hTB:Hid (TkC w gf (ofs+b*21) t pc cc):=⟨hTb⟩
 have hCC:Hid _:=⟨hC.below hb⟩
 have hCh:Hid (Chn f.toks (b+1) ks n):=⟨hg.ch⟩
 have hcl':Hid _:=⟨hcl⟩
 have hF:Hid _:=⟨H1⟩
 have hS1:Hid _:=⟨hs1⟩
 have hBW:Hid _:=⟨hb⟩
 have hbi:(b:Int)<f.toks.length:=by omega
 have hbb1:(b:Int)<1000000000000:=by omega
 clear hZ hkids hTb hr hC hg hlm hcl bl bb hb H1 hs1
 go_enter Tryz.func21,Tryz.ntmps21
 go_wp2_with fail
 go_loopw [9] (fun q wr=>∃ (i d:Nat),q = .int .i64 (i:Int)/\i<=n/\Hid (Chn f.toks i (ks.drop d) n/\fstB f.toks (camZ f) v ks=fstB f.toks (camZ f) v (ks.drop d))/\Hid (Below W1.heap.size W1 wr)) (fun q _=>n-(RowKit.intOf q).toNat)
 case atStart=>exact⟨b+1,0,by go_num,by have:=hnl.out;omega,⟨hCh.out,rfl⟩,⟨Below.refl _ _⟩⟩
 case round =>
  obtain⟨i,d,rfl,hin,hI,hB⟩:=hrel
  obtain⟨hch,hfs⟩:=hI.out
  have hBw:Hid (Below w.heap.size w wr):=⟨hBW.out.trans (hB.out.mono hBW.out.size)⟩
  have x12:wr.cell? ⟨w.heap.size,12,none⟩=some (.slice (some ⟨gf,ofs,none⟩) f.toks.length cp):=cell_at ((hB.out.block _ (by have:=hS1.out;omega)).trans hF.out) 12
  have b14:=(hTB.out.below hgf hBw.out).c14
  have b20:=(hTB.out.below hgf hBw.out).c20
  rw[hen] at b20
  clear hI
  by_cases hlt:i<n
  ·obtain⟨r,hdr⟩:∃ r,ks.drop d=i::r:=by
    cases hd:ks.drop d with
    | nil=>rw[hd] at hch;have e:i=n:=hch;omega
    | cons k r=>rw[hd] at hch;obtain⟨e,-⟩:=hch;exact⟨r,by rw[e]⟩
   rw[hdr] at hch hfs
   obtain⟨-,u,m,hu,hm,hch2⟩:=hch
   obtain⟨gf',ofs',pc',cc',e,hgf',hTi,-,-⟩:=hrr.out.c i u hu
   cases e
   have l1:Hid _:=⟨(hTi.below hgf hBw.out).load⟩
   obtain⟨W2,s1,hA,hb1,hz1⟩:=ld_new wr u pc' cc'
   replace s1:=Hid.mk s1
   have a0:W2.cell? ⟨wr.heap.size,0,none⟩=some (.int .i64 u.op):=hA.c0
   have a3:W2.cell? ⟨wr.heap.size,3,none⟩=some (.int .i64 u.off):=hA.c3
   have a4:W2.cell? ⟨wr.heap.size,4,none⟩=some (.int .i64 u.siz):=hA.c4
   have a20:W2.cell? ⟨wr.heap.size,20,none⟩=some (.int .i64 u.pair):=hA.c20
   rw[hm] at a20
   have hB2:Hid (Below W1.heap.size W1 W2):=⟨hB.out.trans (hb1.mono hB.out.size)⟩
   have hBf:Hid (Below w.heap.size w W2):=⟨hBW.out.trans (hB2.out.mono hBW.out.size)⟩
   have hii:(i:Int)<f.toks.length:=by have:=hnl.out;omega
   have hin1:(i:Int)<n:=by omega
   obtain⟨c,hc⟩:∃ c,(camZ f)[i]?=some c:=⟨(camZ f)[i]'(by have:=hcl'.out;omega),List.getElem?_eq_getElem _⟩
   obtain⟨gc,rfl,-,-,hcc⟩:=(hCC.out.below (hB2.out)).cellP hc
   have hcl2:(i:Int)<(camZ f).length:=by have:=hcl'.out;omega
   have hmn:m+1<=n/\i<=m:=by
    cases r with
    | nil=>have e:m+1=n:=hch2;omega
    | cons k r =>
     obtain⟨e,-⟩:=hch2
     have hk:k∈ks:=List.mem_of_mem_drop (i:=d) (by rw[hdr];simp)
     have:=hKn.out k hk
     have h2:=hUp.out.sublist (List.drop_sublist d ks)
     rw[hdr] at h2
     have:=(List.pairwise_cons.1 h2).1 k (List.mem_cons_self ..)
     omega
   have hnew:newB' f.toks (camZ f) v i=(decide (u.op=2)&&(!decide (u.siz=0)&&decide (v<(c:Int)))):=by
    unfold newB'
    rw[hu]
    simp only[List.getD_eq_getElem?_getD,hc,Option.getD_some]
   rw[fstB,hnew] at hfs
   have hmb:(m:Int)<1000000000000:=by have:=hnl.out;omega
   have hNo:(decide (u.op=2)&&(!decide (u.siz=0)&&decide (v<(c:Int))))=false->Hid (Chn f.toks (m+1) (ks.drop (d+1)) n/\fstB f.toks (camZ f) v ks=fstB f.toks (camZ f) v (ks.drop (d+1))):=fun h=>⟨by
    have e:ks.drop (d+1)=r:=by rw[<- List.tail_drop,hdr];rfl
    rw[e]
    refine⟨hch2,?_⟩
    rw[hfs,h]
    rfl⟩
   have hYes:(decide (u.op=2)&&(!decide (u.siz=0)&&decide (v<(c:Int))))=true->Hid (u.off=Z):=fun h=>⟨by
    rw[<- hZ'.out,hfs,h]
    unfold offAt
    rw[hu]
    rfl⟩
   clear hfs hch2 hnew hdr hm hu hTi hA hb1 hz1 hc
   by_cases h2:u.op=2
   ·have d2:(u.op==2)=true:=beq_iff_eq.2 h2
    rw[decide_eq_true h2] at hNo hYes
    by_cases hs0:u.siz=0
    ·have d4:(u.siz != 0)=false:=by simp[hs0]
     rw[decide_eq_true hs0] at hNo
     have hN:=hNo rfl
     clear hNo hYes h2 hs0
     go_wp2_with (first
      | (guard_target =~ wpList _ _ _ (Oper.mk _ (Op.load 47 _) _ _ _ _::_) _ _;go_must (refine wpList_ld 47 _ rfl rfl _ _ rfl l1.out ?_);simp only[pts])
      | (guard_target =~ wpList _ _ _ (Oper.mk _ (Op.store 47 _ _) _ _ _ _::_) _ _;go_must (refine wpList_st 47 _ _ rfl rfl _ _ rfl rfl (s1.out _ rfl) ?_);simp only[pts]))
     go_roundw
     case rel=>exact⟨m+1,d+1,by go_num,hmn.1,hN,hB2⟩
     case measure=>simp[RowKit.intOf];omega
    ·have d4:(u.siz != 0)=true:=by simp[hs0]
     rw[decide_eq_false hs0] at hNo hYes
     by_cases hcv:v<(c:Int)
     ·have d5:decide (v<(c:Int))=true:=by simp[hcv]
      rw[d5] at hYes
      have hN:=hYes rfl
      clear hNo hYes h2 hs0
      go_wp2_with (first
       | (guard_target =~ wpList _ _ _ (Oper.mk _ (Op.load 47 _) _ _ _ _::_) _ _;go_must (refine wpList_ld 47 _ rfl rfl _ _ rfl l1.out ?_);simp only[pts])
       | (guard_target =~ wpList _ _ _ (Oper.mk _ (Op.store 47 _ _) _ _ _ _::_) _ _;go_must (refine wpList_st 47 _ _ rfl rfl _ _ rfl rfl (s1.out _ rfl) ?_);simp only[pts]))
      go_ret
      rw[hN.out]
      exact⟨rfl,hBf.out⟩
     ·have d5:decide (v<(c:Int))=false:=by simp[hcv]
      rw[d5] at hNo
      have hN:=hNo rfl
      clear hNo hYes h2 hs0
      go_wp2_with (first
       | (guard_target =~ wpList _ _ _ (Oper.mk _ (Op.load 47 _) _ _ _ _::_) _ _;go_must (refine wpList_ld 47 _ rfl rfl _ _ rfl l1.out ?_);simp only[pts])
       | (guard_target =~ wpList _ _ _ (Oper.mk _ (Op.store 47 _ _) _ _ _ _::_) _ _;go_must (refine wpList_st 47 _ _ rfl rfl _ _ rfl rfl (s1.out _ rfl) ?_);simp only[pts]))
      go_roundw
      case rel=>exact⟨m+1,d+1,by go_num,hmn.1,hN,hB2⟩
      case measure=>simp[RowKit.intOf];omega
   ·have d2:(u.op==2)=false:=by simp[h2]
    rw[decide_eq_false h2] at hNo
    have hN:=hNo rfl
    clear hNo hYes h2
    go_wp2_with (first
     | (guard_target =~ wpList _ _ _ (Oper.mk _ (Op.load 47 _) _ _ _ _::_) _ _;go_must (refine wpList_ld 47 _ rfl rfl _ _ rfl l1.out ?_);simp only[pts])
     | (guard_target =~ wpList _ _ _ (Oper.mk _ (Op.store 47 _ _) _ _ _ _::_) _ _;go_must (refine wpList_st 47 _ _ rfl rfl _ _ rfl rfl (s1.out _ rfl) ?_);simp only[pts]))
    go_roundw
    case rel=>exact⟨m+1,d+1,by go_num,hmn.1,hN,hB2⟩
    case measure=>simp[RowKit.intOf];omega
  ·obtain rfl:i=n:=by omega
   have hd0:ks.drop d=[]:=by
    cases hd:ks.drop d with
    | nil=>rfl
    | cons k r =>
     rw[hd] at hch
     obtain⟨e,-⟩:=hch
     have:=hKn.out k (List.mem_of_mem_drop (i:=d) (by rw[hd];simp))
     omega
   rw[hd0] at hfs
   have hN:Hid (t.blk=Z):=⟨by rw[<- hZ'.out,hfs];rfl⟩
   have d3:decide ((i:Int)<i)=false:=by simp
   clear hfs hch hd0 hlt hin
   go_wp2_with fail
   go_ret
   rw[hN.out]
   exact⟨rfl,hBw.out⟩
theorem end_op (hz:chkZ f=none) (hg:Bgn f.toks b n t ks) (ho:t.op=0\/t.op=4):∃ u,f.toks[n]?=some u/\u.op=t.op+1:=by
 have hb:bgO t.op=true:=by rcases ho with e|e<;>rw[e]<;>rfl
 obtain⟨hok,H⟩:=val_ok hz hg.et
 have hp:pairB f.toks b t=true:=by
  revert hok H
  generalize stA f b=s
  intro hok H
  obtain⟨o,ids⟩:=s
  cases o with
  | nil=>exact(okZ_nil hok).2.2.2.2.1
  | cons x o =>
   have h:inOk f (x::o) ids b x t=true:=hok
   have he:edO t.op=false:=bgO_end hb
   exact(inOk_in h he).2.2.2.1 hb
 obtain⟨m,u,h1,_,_,h2,h3,_⟩:=pairB_get hp
 have:m=n:=by have:=hg.en;omega
 subst this
 exact⟨u,h2,h3⟩
theorem blockAt_any (hz:chkZ f=none) (hg:Bgn f.toks b n t ks) (hk:Took f b t ks) (ho:t.op=0\/t.op=4) (pp:Option Addr) (cp:Nat) (w:World) (H:Nat) (hr:TkRow w pp H f.toks) (hlm:f.toks.length*192<=140737488351232) (vc:Value) (B:Nat) (hC:NRow w B vc (camZ f)) (v:Int) :
  Calls Tryz.prog 29 #[.slice pp f.toks.length cp,vc,.int .i64 (b:Int),.int .i64 v] w fun e w'=>e = .returned (.int .i64 (blkZ f.toks (camZ f) v b t))/\w'=w:=by
 obtain⟨pv,cv,rfl,-⟩:=hC.shape
 have hcl:=camZ_length f
 have hkids:=hg.kids
 obtain⟨Z,hZ⟩:∃ Z,blkZ f.toks (camZ f) v b t=Z:=⟨_,rfl⟩
 have hZ':Hid ((fstB f.toks (camZ f) v ks).getD t.blk=Z):=⟨by rw[<- hZ];unfold blkZ;rw[hkids]⟩
 rw[hZ]
 obtain⟨ue,hue,hueo⟩:=end_op hz hg ho
 obtain⟨gf,ofs,pc,cc,rfl,hgf,hTb,-,-⟩:=hr.c b t hg.et
 have bl:=hg.nl
 have bb:=hg.bn
 have hnl:Hid (n<f.toks.length/\b<n/\f.toks.length<=733007751850):=⟨by omega,by omega,by omega⟩
 have q14:=hTb.c14
 have hkn:Hid (∀ k∈ks,k<f.toks.length):=⟨fun k hk=>by have:=(hg.kn k hk).2;omega⟩
 have hKn:Hid (∀ k∈ks,k<n):=⟨fun k hk=>(hg.kn k hk).2⟩
 have hVZ:Hid _:=⟨hz⟩
 have hrr:Hid _:=⟨hr⟩
 have hCC:Hid _:=⟨hC⟩
 have hTT:Hid _:=⟨hk⟩
 have hoo:Hid _:=⟨ho⟩
 have hUE:Hid (∃ u,f.toks[n]?=some u/\u.op≠2):=⟨ue,hue,by rcases ho with e|e<;>rw[hueo,e]<;>decide⟩
 have hCh:Hid (Chn f.toks (b+1) ks n):=⟨hg.ch⟩
 have hcl':Hid _:=⟨hcl⟩
 have hbi:(b:Int)<f.toks.length:=by omega
 have hbb1:(b:Int)<1000000000000:=by omega
 clear hZ hkids hue hueo hTb hr hC hk ho hg hz hlm hcl bl bb
 go_enter Tryz.func29,Tryz.ntmps29
 go_wp2_with fail
 go_loopw [9] (fun q wr=>∃ (i d:Nat),q = .int .i64 (i:Int)/\i<=n/\Hid (Chn f.toks i (ks.drop d) n/\fstB f.toks (camZ f) v ks=fstB f.toks (camZ f) v (ks.drop d))/\wr=w) (fun q _=>n+1-(RowKit.intOf q).toNat)
 case atStart=>exact⟨b+1,0,by go_num,by have:=hnl.out;omega,⟨hCh.out,rfl⟩,rfl⟩
 case round =>
  obtain⟨i,d,rfl,hin,hI,rfl⟩:=hrel
  obtain⟨hch,hfs⟩:=hI.out
  have hil:i<f.toks.length:=by have:=hnl.out;omega
  obtain⟨u,hu⟩:∃ u,f.toks[i]?=some u:=⟨f.toks[i],List.getElem?_eq_getElem hil⟩
  obtain⟨gf',ofs',pc',cc',e,hgf',hTi,-,-⟩:=hrr.out.c i u hu
  cases e
  have a0:=hTi.c0
  have a3:=hTi.c3
  have a4:=hTi.c4
  have a20:=hTi.c20
  have hii:(i:Int)<f.toks.length:=by omega
  have hlb:(i:Int)<1000000000000:=by have:=hnl.out;omega
  clear hTi hI
  by_cases hu2:u.op=2
  ·have d2:(u.op==2)=true:=beq_iff_eq.2 hu2
   obtain⟨r,hdr⟩:∃ r,ks.drop d=i::r:=by
    cases hd:ks.drop d with
    | nil =>
     rw[hd] at hch
     have e:i=n:=hch
     obtain⟨u',h1,h2⟩:=hUE.out
     rw[<- e,hu] at h1
     cases h1
     exact absurd hu2 h2
    | cons k r =>
     rw[hd] at hch
     obtain⟨e,-⟩:=hch
     exact⟨r,by rw[e]⟩
   rw[hdr] at hch hfs
   obtain⟨-,u',m,hu',hm,hch2⟩:=hch
   rw[hu] at hu'
   cases hu'
   obtain⟨c,hc⟩:∃ c,(camZ f)[i]?=some c:=⟨(camZ f)[i]'(by have:=hcl'.out;omega),List.getElem?_eq_getElem _⟩
   obtain⟨gc,rfl,-,-,hcc⟩:=hCC.out.cellP hc
   have hcl2:(i:Int)<(camZ f).length:=by have:=hcl'.out;omega
   have hmn:m+1<=n:=by
    cases r with
    | nil=>exact Nat.le_of_eq hch2
    | cons k r =>
     obtain⟨e,-⟩:=hch2
     have hk:k∈ks:=List.mem_of_mem_drop (i:=d) (by rw[hdr];simp)
     have:=hKn.out k hk
     omega
   have hnew:newB' f.toks (camZ f) v i=(!decide (u.siz=0)&&decide (v<(c:Int))):=by
    unfold newB'
    rw[hu]
    simp only[hu2,decide_true,Bool.true_and,List.getD_eq_getElem?_getD,hc,Option.getD_some]
   rw[fstB,hnew] at hfs
   have hmi:i<=m:=by
    rcases val_tok hVZ.out hu with ⟨e,-⟩|⟨-,-,m',e,e2,-⟩|⟨-,e,-⟩
    ·rw[hu2] at e;cases e
    ·omega
    ·rw[hu2] at e;cases e
   by_cases hs0:u.siz=0
   ·have d4:(u.siz != 0)=false:=by simp[hs0]
    have hN:Hid (Chn f.toks (m+1) (ks.drop (d+1)) n/\fstB f.toks (camZ f) v ks=fstB f.toks (camZ f) v (ks.drop (d+1))):=⟨by
     have e:ks.drop (d+1)=r:=by rw[<- List.tail_drop,hdr];rfl
     rw[e]
     refine⟨hch2,?_⟩
     rw[hfs,hs0]
     rfl⟩
    rw[hm] at a20
    have hmb:(m:Int)<1000000000000:=by have:=hnl.out;omega
    clear hfs hch2 hs0 hu2 hnew hdr hm a3
    go_wp2_with fail
    go_roundw
    case rel=>exact⟨m+1,d+1,by go_num,hmn,hN,trivial⟩
    case measure=>simp[RowKit.intOf];omega
   ·have d4:(u.siz != 0)=true:=by simp[hs0]
    by_cases hcv:v<(c:Int)
    ·have d5:decide (v<(c:Int))=true:=by simp[hcv]
     have hN:Hid (u.off=Z):=⟨by
      rw[<- hZ'.out,hfs,decide_eq_false hs0,d5]
      unfold offAt
      rw[hu]
      rfl⟩
     clear hfs hch2 hs0 hu2 hnew hdr hm hcv
     go_wp2_with fail
     go_ret
     rw[hN.out]
     exact⟨rfl,rfl⟩
    ·have d5:decide (v<(c:Int))=false:=by simp[hcv]
     have hN:Hid (Chn f.toks (m+1) (ks.drop (d+1)) n/\fstB f.toks (camZ f) v ks=fstB f.toks (camZ f) v (ks.drop (d+1))):=⟨by
      have e:ks.drop (d+1)=r:=by rw[<- List.tail_drop,hdr];rfl
      rw[e]
      refine⟨hch2,?_⟩
      rw[hfs,d5,Bool.and_false]
      rfl⟩
     rw[hm] at a20
     have hmb:(m:Int)<1000000000000:=by have:=hnl.out;omega
     clear hfs hch2 hs0 hu2 hnew hdr hm hcv a3
     go_wp2_with fail
     go_roundw
     case rel=>exact⟨m+1,d+1,by go_num,hmn,hN,trivial⟩
     case measure=>simp[RowKit.intOf];omega
  ·have d2:(u.op==2)=false:=beqN hu2
   have hN:Hid (t.blk=Z):=⟨by
    rw[<- hZ'.out,hfs]
    cases hd:ks.drop d with
    | nil=>rfl
    | cons k r =>
     rw[hd] at hch
     obtain⟨e,-⟩:=hch
     have hkd:ks[d]?=some k:=by
      have:=congrArg (fun l=>l[0]?) hd
      simpa using this
     have:=fst_none (C:=camZ f) (v:=v) hTT.out hoo.out hkn.out hkd (by rw[<- e];exact hu) hu2
     rw[<- hd,this]
     rfl⟩
   clear hfs hch hu2 a3 a4 a20
   go_wp2_with fail
   go_ret
   rw[hN.out]
   exact⟨rfl,rfl⟩
def _root_.Go.Proofs.Tryz.laysPu25_ren:Go.Shelf.Ren:=⟨fun|25=>41|n=>n,fun|9=>9|3=>3|4=>4|37=>109|0=>0|47=>110|5=>5|n=>n,fun|n=>n⟩
theorem _root_.Go.Proofs.Tryz.laysPu25:Go.Proofs.LaysPu.n25 Tryz.prog Tryz.laysPu25_ren:={
 mixed:=by kernel_rfl
 f25:=Tryz.func41.trans (congrArg some (by kernel_rfl))
 t0:=Tryz.underlying0
 a0:=Tryz.isAgg0
 z0:=Tryz.sizeOf0
 v0:=Tryz.zeroValue0
 i0:=by kernel_rfl
 t3:=Tryz.underlying3
 a3:=Tryz.isAgg3
 z3:=Tryz.sizeOf3
 v3:=Tryz.zeroValue3
 i3:=by kernel_rfl
 t4:=Tryz.underlying4
 a4:=Tryz.isAgg4
 z4:=Tryz.sizeOf4
 v4:=Tryz.zeroValue4
 i4:=by kernel_rfl
 t5:=Tryz.underlying5
 a5:=Tryz.isAgg5
 z5:=Tryz.sizeOf5
 v5:=Tryz.zeroValue5
 i5:=by kernel_rfl
 t9:=Tryz.underlying9
 a9:=Tryz.isAgg9
 z9:=Tryz.sizeOf9
 v9:=Tryz.zeroValue9
 i9:=by kernel_rfl
 t37:=Tryz.underlying109
 a37:=Tryz.isAgg109
 z37:=Tryz.sizeOf109
 v37:=Tryz.zeroValue109
 i37:=by kernel_rfl
 t47:=Tryz.underlying110
 a47:=Tryz.isAgg110
 z47:=Tryz.sizeOf110
 v47:=Tryz.zeroValue110
 i47:=by kernel_rfl }
theorem strClone0 (s:ByteArray) (w:World) (hs:s.size<=281474976710656):Calls Tryz.prog 41 #[.string s] w fun e w'=>e = .returned (.string s)/\Below w.heap.size w w' :=
 AnyPu.stringslite_Clone Tryz.laysPu25 s w hs
theorem strClone (s:ByteArray) (w:World) (hs:s.size<=281474976710656):Calls Tryz.prog 27 #[.string s] w fun e w'=>e = .returned (.string s)/\Below w.heap.size w w':=by
 have hcon:=fun w=>strClone0 s w hs
 go_enter Tryz.func27,Tryz.ntmps27
 go_wp2_with (go_at_call 41;refine(hcon _).mono ?_;rintro e w' ⟨rfl,hB⟩)
 go_ret
 exact⟨rfl,hB⟩
namespace J
theorem beq_ba {a b:ByteArray} (h:a≠b):(a.toList==b.toList)=false :=
 beq_eq_false_iff_ne.2 fun e=>h (by
  rw[ByteArray.toList_eq,ByteArray.toList_eq] at e
  exact ByteArray.ext (Array.toList_inj.1 e))
theorem drop_at {α:Type} {l:List α} {j:Nat} {a:α} (h:l[j]?=some a):l.drop j=a::l.drop (j+1):=by
 obtain⟨h1,h2⟩:=List.getElem?_eq_some_iff.1 h
 rw[List.drop_eq_getElem_cons h1,h2]
abbrev fmC (f:Fm) (pp:Option Addr) (cp:Nat):Array Value:=#[.int .i64 f.ord,.int .i64 f.sch,.int .i64 f.ver,.int .i64 f.hsz,.int .i64 f.hb.p,.int .i64 f.hb.o,.int .i64 f.ht.p,.int .i64 f.ht.o,.int .i64 f.hs.p,.int .i64 f.hs.o,.int .i64 f.hv.p,.int .i64 f.hv.o,.slice pp f.toks.length cp]
theorem refSameTk_any (t u:Tk) (p1 p2:Option Addr) (c1 c2:Nat) (w:World) (h1:URow w p1 w.heap.size t.cst) (h2:URow w p2 w.heap.size u.cst) (hs:t.cst.length*8<=140737488355328):Calls Tryz.prog 36 #[tkV t p1 c1,tkV u p2 c2] w fun r w'=>Ans r (t=u)/\Below w.heap.size w w':=by
 have hA:=tk_of (two_1 w (tkO t p1 c1) (tkO u p2 c2))
 have hC:=tk_of (two_2 w (tkO t p1 c1) (tkO u p2 c2))
 have HB:Hid (Below w.heap.size w ((w.alloc (tkO t p1 c1)).alloc (tkO u p2 c2))):=⟨two_b w _ _⟩
 have HS:Hid (w.heap.size+1<((w.alloc (tkO t p1 c1)).alloc (tkO u p2 c2)).heap.size):=⟨by simp⟩
 replace h1:=(h1.below HB.out).mono HB.out.size
 replace h2:=(h2.below HB.out).mono HB.out.size
 simp only[tkO,tkC] at hA hC HB HS h1 h2
 generalize hW:(w.alloc (.cells [Value.int .i64 t.op,.string t.name,.int .i64 t.id,.int .i64 t.off,.int .i64 t.siz,.int .i64 t.since,.int .i64 t.prim,.int .i64 t.len,.int .i64 t.pres,.int .u64 t.nul,.int .u64 t.lo,.int .u64 t.hi,.slice p1 t.cst.length c1,.int .u64 t.val,.int .i64 t.blk,.int .i64 t.full,.int .i64 t.a.p,.int .i64 t.a.o,.int .i64 t.b.p,.int .i64 t.b.o,.int .i64 t.pair].toArray 47)).alloc _=W at hA hC HB HS h1 h2
 have a12:W.cell? ⟨w.heap.size,12,none⟩=some (.slice p1 t.cst.length c1):=hA.c12
 have b12:W.cell? ⟨w.heap.size+1,12,none⟩=some (.slice p2 u.cst.length c2):=hC.c12
 replace hA:Hid (TkC W w.heap.size 0 t p1 c1):=⟨hA⟩
 replace hC:Hid (TkC W (w.heap.size+1) 0 u p2 c2):=⟨hC⟩
 by_cases hlm:t.cst.length=u.cst.length
 ·have b1:((t.cst.length:Int) != (u.cst.length:Int))=false:=by simp[hlm]
  have HL:Hid (t.cst.length=u.cst.length):=⟨hlm⟩
  clear hlm
  go_enter Tryz.func36,Tryz.ntmps36
  go_wp2_with fail
  clear b1
  go_loopw [5] (fun i wr=>∃ j:Nat,j<=t.cst.length/\i = .int .i64 j/\Below W.heap.size W wr/\Hid (t.cst=u.cst↔t.cst.drop j=u.cst.drop j)) (fun i _=>t.cst.length-(RowKit.intOf i).toNat)
  case atStart=>exact⟨0,Nat.zero_le _,rfl,Below.refl _ _,⟨Iff.rfl⟩⟩
  case round =>
   clear a12 b12 hW
   obtain⟨j,hj,rfl,hB,hq⟩:=hrel
   have kA:=hA.out.below (Nat.lt_of_succ_lt HS.out) hB
   have kC:=hC.out.below HS.out hB
   have a12:wr.cell? ⟨w.heap.size,12,none⟩=some (.slice p1 t.cst.length c1):=kA.c12
   have b12:wr.cell? ⟨w.heap.size+1,12,none⟩=some (.slice p2 u.cst.length c2):=kC.c12
   by_cases hlt:j<t.cst.length
   ·obtain⟨a,hx⟩:∃ a,t.cst[j]?=some a:=⟨t.cst[j],List.getElem?_eq_getElem hlt⟩
    obtain⟨b,hy⟩:∃ b,u.cst[j]?=some b:=⟨u.cst[j]'(by have:=HL.out;omega),List.getElem?_eq_getElem (by have:=HL.out;omega)⟩
    obtain⟨g,o,rfl,hg,q0⟩:=h1.c j a hx
    obtain⟨g2,o2,rfl,hg2,k0⟩:=h2.c j b hy
    replace q0:=(hB.cell (p:=⟨g,_,none⟩) hg).trans q0
    replace k0:=(hB.cell (p:=⟨g2,_,none⟩) hg2).trans k0
    have hlti:(j:Int)<t.cst.length:=by omega
    have hltm:(j:Int)<u.cst.length:=by have:=HL.out;omega
    have hd:Hid (t.cst=u.cst↔a=b/\t.cst.drop (j+1)=u.cst.drop (j+1)):=⟨by rw[hq.out,drop_at hx,drop_at hy,List.cons.injEq]⟩
    clear hq hx hy kA kC h1 h2
    by_cases hab:a=b
    ·have z:(a != b)=false:=by simp[hab]
     have HX:Hid (t.cst=u.cst↔t.cst.drop (j+1)=u.cst.drop (j+1)):=⟨by rw[hd.out];simp[hab]⟩
     clear hab hd
     go_wp2_with fail
     go_quiet (fail)
     go_wp2_with fail
     go_roundw
     case rel=>exact⟨j+1,by omega,by go_num,bdN hB _,HX⟩
     case measure=>simp[RowKit.intOf];omega
    ·have z:(a != b)=true:=by simp[hab]
     have HX:Hid (¬ t=u):=⟨fun e=>hab (hd.out.1 (by rw[e])).1⟩
     clear hab hd
     go_wp2_with fail
     go_quiet (fail)
     go_wp2_with fail
     go_ret
     exact⟨Ans.no HX.out,bdN (HB.out.trans (hB.mono HB.out.size)) _⟩
   ·obtain rfl:j=t.cst.length:=by omega
    have HX:Hid (t.cst=u.cst):=⟨by rw[hq.out,List.drop_length,HL.out,List.drop_length]⟩
    clear hq
    have a0:wr.cell? ⟨w.heap.size,0,none⟩=some (.int .i64 t.op):=kA.c0
    have a1:wr.cell? ⟨w.heap.size,1,none⟩=some (.string t.name):=kA.c1
    have a2:wr.cell? ⟨w.heap.size,2,none⟩=some (.int .i64 t.id):=kA.c2
    have a3:wr.cell? ⟨w.heap.size,3,none⟩=some (.int .i64 t.off):=kA.c3
    have a4:wr.cell? ⟨w.heap.size,4,none⟩=some (.int .i64 t.siz):=kA.c4
    have a5:wr.cell? ⟨w.heap.size,5,none⟩=some (.int .i64 t.since):=kA.c5
    have a6:wr.cell? ⟨w.heap.size,6,none⟩=some (.int .i64 t.prim):=kA.c6
    have a7:wr.cell? ⟨w.heap.size,7,none⟩=some (.int .i64 t.len):=kA.c7
    have a8:wr.cell? ⟨w.heap.size,8,none⟩=some (.int .i64 t.pres):=kA.c8
    have a9:wr.cell? ⟨w.heap.size,9,none⟩=some (.int .u64 t.nul):=kA.c9
    have a10:wr.cell? ⟨w.heap.size,10,none⟩=some (.int .u64 t.lo):=kA.c10
    have a11:wr.cell? ⟨w.heap.size,11,none⟩=some (.int .u64 t.hi):=kA.c11
    have a12:wr.cell? ⟨w.heap.size,12,none⟩=some (.slice p1 t.cst.length c1):=kA.c12
    have a13:wr.cell? ⟨w.heap.size,13,none⟩=some (.int .u64 t.val):=kA.c13
    have a14:wr.cell? ⟨w.heap.size,14,none⟩=some (.int .i64 t.blk):=kA.c14
    have a15:wr.cell? ⟨w.heap.size,15,none⟩=some (.int .i64 t.full):=kA.c15
    have a16:wr.cell? ⟨w.heap.size,16,none⟩=some (.int .i64 t.a.p):=kA.c16
    have a17:wr.cell? ⟨w.heap.size,17,none⟩=some (.int .i64 t.a.o):=kA.c17
    have a18:wr.cell? ⟨w.heap.size,18,none⟩=some (.int .i64 t.b.p):=kA.c18
    have a19:wr.cell? ⟨w.heap.size,19,none⟩=some (.int .i64 t.b.o):=kA.c19
    have a20:wr.cell? ⟨w.heap.size,20,none⟩=some (.int .i64 t.pair):=kA.c20
    have b0:wr.cell? ⟨w.heap.size+1,0,none⟩=some (.int .i64 u.op):=kC.c0
    have b1:wr.cell? ⟨w.heap.size+1,1,none⟩=some (.string u.name):=kC.c1
    have b2:wr.cell? ⟨w.heap.size+1,2,none⟩=some (.int .i64 u.id):=kC.c2
    have b3:wr.cell? ⟨w.heap.size+1,3,none⟩=some (.int .i64 u.off):=kC.c3
    have b4:wr.cell? ⟨w.heap.size+1,4,none⟩=some (.int .i64 u.siz):=kC.c4
    have b5:wr.cell? ⟨w.heap.size+1,5,none⟩=some (.int .i64 u.since):=kC.c5
    have b6:wr.cell? ⟨w.heap.size+1,6,none⟩=some (.int .i64 u.prim):=kC.c6
    have b7:wr.cell? ⟨w.heap.size+1,7,none⟩=some (.int .i64 u.len):=kC.c7
    have b8:wr.cell? ⟨w.heap.size+1,8,none⟩=some (.int .i64 u.pres):=kC.c8
    have b9:wr.cell? ⟨w.heap.size+1,9,none⟩=some (.int .u64 u.nul):=kC.c9
    have b10:wr.cell? ⟨w.heap.size+1,10,none⟩=some (.int .u64 u.lo):=kC.c10
    have b11:wr.cell? ⟨w.heap.size+1,11,none⟩=some (.int .u64 u.hi):=kC.c11
    have b12:wr.cell? ⟨w.heap.size+1,12,none⟩=some (.slice p2 u.cst.length c2):=kC.c12
    have b13:wr.cell? ⟨w.heap.size+1,13,none⟩=some (.int .u64 u.val):=kC.c13
    have b14:wr.cell? ⟨w.heap.size+1,14,none⟩=some (.int .i64 u.blk):=kC.c14
    have b15:wr.cell? ⟨w.heap.size+1,15,none⟩=some (.int .i64 u.full):=kC.c15
    have b16:wr.cell? ⟨w.heap.size+1,16,none⟩=some (.int .i64 u.a.p):=kC.c16
    have b17:wr.cell? ⟨w.heap.size+1,17,none⟩=some (.int .i64 u.a.o):=kC.c17
    have b18:wr.cell? ⟨w.heap.size+1,18,none⟩=some (.int .i64 u.b.p):=kC.c18
    have b19:wr.cell? ⟨w.heap.size+1,19,none⟩=some (.int .i64 u.b.o):=kC.c19
    have b20:wr.cell? ⟨w.heap.size+1,20,none⟩=some (.int .i64 u.pair):=kC.c20
    clear kA kC h1 h2
    have HW:Hid (Below w.heap.size w wr):=⟨HB.out.trans (hB.mono HB.out.size)⟩
    go_wp2_with fail
    all_goals (go_ret;refine⟨⟨_,rfl,?_⟩,HW.out⟩;rw[tk_eq];have HX:=HX.out;first|(simp[*];done)|(simp only[bne_iff_ne,ne_eq,bne_eq_false_iff_eq] at *;simp[*]))
 ·have b1:((t.cst.length:Int) != (u.cst.length:Int))=true:=by simp;omega
  have HX:Hid (¬ t=u):=⟨fun e=>hlm (by rw[e])⟩
  clear hlm
  go_enter Tryz.func36,Tryz.ntmps36
  go_wp2_with fail
  go_ret
  exact⟨Ans.no HX.out,HB.out⟩
end J
end Go.Proofs.YtkcjdncchoohoaaGreatDoor
