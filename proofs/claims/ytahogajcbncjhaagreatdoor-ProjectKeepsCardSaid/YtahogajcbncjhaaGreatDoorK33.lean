import Derived.Test.YtahogajcbncjhaaGreatDoorK32
namespace Go.Proofs.YtahogajcbncjhaaGreatDoor
set_option maxRecDepth 1000000
set_option maxHeartbeats 16000000
open Go.ChangeShapes Go.WideShapes Go.ChangeAt Go.RowKit Go.Shelf Go.Maps
theorem mn_next {l:List Tk} {C:List Nat} {v W:Int} {ks:List Nat} {d k:Nat} (hd:ks[d]?=some k):mnF l C v W (ks.take (d+1))=if newB' l C v k then min (mnF l C v W (ks.take d)) (offAt l k) else mnF l C v W (ks.take d):=by
 rw[take_snoc hd,mnF_app,mnF,mnF]
theorem new_cases {f:Fm} (v:Int) {k:Nat} {u:Tk} (hu:f.toks[k]?=some u) (hs:u.op=2->0<=u.siz):((u.op==2)=false/\newB' f.toks (camZ f) v k=false)\/(u.op=2/\decide (0<u.siz)=false/\newB' f.toks (camZ f) v k=false)\/(u.op=2/\decide (0<u.siz)=true/\decide (v<(((camZ f).getD k 0:Nat):Int))=false/\newB' f.toks (camZ f) v k=false)\/(u.op=2/\decide (0<u.siz)=true/\decide (v<(((camZ f).getD k 0:Nat):Int))=true/\newB' f.toks (camZ f) v k=true/\offAt f.toks k=u.off):=by
 unfold newB' offAt
 rw[hu]
 simp only
 by_cases h2:u.op=2
 ·have hs:=hs h2
  by_cases h3:0<u.siz
  ·by_cases h4:v<(((camZ f).getD k 0:Nat):Int)
   ·exact .inr (.inr (.inr ⟨h2,by simp[h3],by rw[decide_eq_true h4],by rw[decide_eq_true h2,decide_eq_true h4,decide_eq_false (show ¬ u.siz=0 by omega)];rfl,trivial⟩))
   ·exact .inr (.inr (.inl ⟨h2,by simp[h3],by rw[decide_eq_false h4],by rw[decide_eq_false h4,Bool.and_false,Bool.and_false]⟩))
  ·exact .inr (.inl ⟨h2,by simp;omega,by rw[decide_eq_true (show u.siz=0 by omega)];simp⟩)
 ·exact .inl ⟨beqN h2,by rw[decide_eq_false h2];rfl⟩
theorem kid_siz {f:Fm} (hz:chkZ f=none) {b:Nat} {t:Tk} (ht:f.toks[b]?=some t) (hg:bgO t.op=true) {j k:Nat} {u:Tk} (hj:(kidsZ f.toks b)[j]?=some k) (hu:f.toks[k]?=some u) (h2:u.op=2):0<=u.siz:=by
 obtain⟨-,x,o,e1,-,-,-,-,e6⟩:=kids_met hz ht hg hj
 exact(fld_b (rul_fld (inOk_at hz hu e1) h2) e6.e0.1 e6.blk.2).1
theorem reach_any {f:Fm} {pp pg:Option Addr} {cp cg:Nat} {v:Int} {w:World} (hz:chkZ f=none) (hv:fstV f<=v/\v<=f.ver) (tl:TkL w pp w.heap.size f.toks) (tg:TkRow w pg w.heap.size (atF f v).toks) (hlm:f.toks.length*192<=140737488351232) :
  Calls Tryz.prog 11 #[fmV f pp cp,fmV (atF f v) pg cg,.int .i64 v] w fun r w'=>r = .returned (.bool true)/\Below w.heap.size w w':=by
 have hb:=two_b w (fmO f pp cp) (fmO (atF f v) pg cg)
 have A0:=two_1 w (fmO f pp cp) (fmO (atF f v) pg cg)
 have B0:=two_2 w (fmO f pp cp) (fmO (atF f v) pg cg)
 have hs1:((w.alloc (fmO f pp cp)).alloc (fmO (atF f v) pg cg)).heap.size=w.heap.size+2:=by simp
 generalize hW:(w.alloc (fmO f pp cp)).alloc (fmO (atF f v) pg cg)=W1 at hb A0 B0 hs1
 simp only[fmO] at hW
 have hgl:=new_len (f:=f) (v:=v)
 have K:Hid (∀ X,Below W1.heap.size W1 X->X.heap[w.heap.size]?=some (fmO f pp cp)/\X.heap[w.heap.size+1]?=some (fmO (atF f v) pg cg)/\Below w.heap.size w X):=⟨fun X h=>⟨(h.block _ (by omega)).trans A0,(h.block _ (by omega)).trans B0,hb.trans (h.mono hb.size)⟩⟩
 have CS:Hid (∀ X (i:Nat),Below W1.heap.size W1 X->i<f.toks.length->Calls Tryz.prog 8 #[fmV f pp cp,.int .i64 (i:Int)] X fun e w'=>e = .returned (.int .i64 (((camZ f).getD i 0:Nat):Int))/\Hid (Below X.heap.size X w'/\Below W1.heap.size W1 w')):=⟨fun X i h hi=>by
  have hx:=hb.trans (h.mono hb.size)
  exact(since_any hz ((tl.below hx).mono hx.size) hlm hi).mono fun e w' ⟨e1,e2⟩=>⟨e1,⟨e2,h.trans (e2.mono h.size)⟩⟩⟩
 have hT:Hid _:=⟨tl⟩
 have hTg:Hid _:=⟨tg⟩
 have hZ:Hid _:=⟨hz⟩
 have hV:Hid _:=⟨hv⟩
 have hCL:Hid _:=⟨camZ_length f⟩
 have hNL:Hid _:=⟨hgl⟩
 have hll:f.toks.length<=733007751850:=by omega
 clear hb A0 B0 hs1 tl tg hz hv hlm hgl
 go_enter Tryz.func11,Tryz.ntmps11
 go_wp2_with fail
 go_loopw [7,8] (fun qn q wr=>∃ j:Nat,j<=f.toks.length/\q = .int .i64 (j:Int)/\qn = .int .i64 ((rnk (camZ f) v j:Nat):Int)/\Hid (Below W1.heap.size W1 wr)) (fun _ q _=>f.toks.length-(RowKit.intOf q).toNat)
 case atStart=>exact⟨0,Nat.zero_le _,by go_num,rfl,⟨Below.refl _ _⟩⟩
 case round =>
  obtain⟨j,hj,rfl,rfl,hB⟩:=hrel
  obtain⟨hf,hg,hBw⟩:=K.out wr hB.out
  have x12:wr.cell? ⟨w.heap.size,12,none⟩=some (.slice pp f.toks.length cp):=cell_at hf 12
  by_cases hlt:j<f.toks.length
  ·obtain⟨t,ht⟩:∃ t,f.toks[j]?=some t:=⟨f.toks[j],List.getElem?_eq_getElem hlt⟩
   have hji:(j:Int)<f.toks.length:=by omega
   have lF:Hid _:=⟨(J.fm_of hf).load⟩
   have cA:=CS.out wr j hB.out hlt
   have hcl:j<(camZ f).length:=by rw[hCL.out];exact hlt
   have hrl:=rnk_le (camZ f) v j
   have hrb:((rnk (camZ f) v j:Nat):Int)<1000000000000:=by omega
   cases hk:kp (camZ f) v j with
   | false =>
    have hr1:Hid _:=⟨rnk_no hcl hk⟩
    have d1:decide (v<(((camZ f).getD j 0:Nat):Int))=true:=decide_eq_true (by have:=of_decide_eq_false hk;omega)
    generalize (camZ f).getD j 0=c at *
    generalize rnk (camZ f) v j=R at *
    clear hf hg hBw hB hk ht hcl hrl
    go_wp2_with (first
     | (guard_target =~ wpList _ _ _ (Oper.mk _ (Op.load 30 _) _ _ _ _::_) _ _;go_must (refine wpList_ld 30 _ rfl rfl _ _ rfl lF.out ?_);simp only[pts])
     | (go_at_call 8;refine cA.mono ?_;rintro _ w2 ⟨rfl,hB2⟩))
    go_roundw
    case rel=>exact⟨j+1,by omega,by go_num,by rw[hr1.out],⟨hB2.out.2⟩⟩
    case measure=>simp[RowKit.intOf];omega
   | true =>
    have hr1:Hid _:=⟨rnk_kp hcl hk⟩
    have d1:decide (v<(((camZ f).getD j 0:Nat):Int))=false:=decide_eq_false (by have:=decT hk;omega)
    obtain⟨gf,ofs,pc,cc,rfl,hgf,hTk,-⟩:=hT.out.at ht
    have CB:Hid (∀ w2,Below W1.heap.size W1 w2->w2.cell? ⟨w.heap.size,12,none⟩=some (.slice (some ⟨gf,ofs,none⟩) f.toks.length cp)/\Hid ((Instr.loadAt 42 (.pointer (some ⟨gf,ofs+j*21,none⟩))).run Tryz.prog w2 = .ok (tkV t pc cc) w2)/\∃ W3,Hid (∀ z:Array Value,z.size=21->(Instr.storeAt 42 (.pointer (some ⟨w2.heap.size,0,none⟩)) (tkV t pc cc)).run Tryz.prog (w2.alloc (.cells z 42)) = .ok () W3)/\W3.cell? ⟨w2.heap.size,0,none⟩=some (.int .i64 t.op)/\W3.cell? ⟨w2.heap.size,14,none⟩=some (.int .i64 t.blk)/\Hid (Below W1.heap.size W1 W3/\W3.cell? ⟨w2.heap.size,20,none⟩=some (.int .i64 t.pair)/\w2.heap.size<W3.heap.size)):=⟨fun w2 h=>by
     obtain⟨k1,k2,k3⟩:=K.out w2 h
     obtain⟨W3,s1,hA,hb1,hz1⟩:=ld_new w2 t pc cc
     exact⟨cell_at k1 12,⟨(hTk.below hgf k3).load⟩,W3,⟨s1⟩,hA.c0,hA.c14,⟨h.trans (hb1.mono h.size),hA.c20,by omega⟩⟩⟩
    have hR':Hid (rnk (camZ f) v j<(atF f v).toks.length):=⟨by rw[hNL.out];exact rnk_lt hcl hk hlt⟩
    have hGT:Hid (∀ X,Below W1.heap.size W1 X->∃ gg:Nat×Nat,pg=some ⟨gg.1,gg.2,none⟩/\X.cell? ⟨gg.1,gg.2+rnk (camZ f) v j*21+14,none⟩=some (.int .i64 (trnT f.toks (camZ f) v j t).blk)/\X.cell? ⟨w.heap.size+1,12,none⟩=some (.slice (some ⟨gg.1,gg.2,none⟩) (atF f v).toks.length cg)):=⟨fun X h=>by
     obtain⟨k1,k2,k3⟩:=K.out X h
     obtain⟨g1,g2,p3,c3,rfl,hg1,hTg1,-,-⟩:=hTg.out.c _ _ (at_new ht hk)
     exact⟨(g1,g2),rfl,(hTg1.below hg1 k3).c14,cell_at k2 12⟩⟩
    by_cases hbk:t.op=0\/t.op=4
    ·have hgB:bgO t.op=true:=by rcases hbk with e|e<;>rw[e]<;>rfl
     obtain⟨n,ks,hBg,hTo⟩:=bgn_took hZ.out ht hgB
     replace hTo:=Hid.mk hTo
     have hkids:=hBg.kids
     have htb:Hid ((trnT f.toks (camZ f) v j t).blk=mnF f.toks (camZ f) v t.blk ks):=⟨by
      rw[<- hkids,mn_blk hZ.out v ht hbk]
      show (if t.op=0\/t.op=4 then _ else _)=_
      rw[if_pos hbk]⟩
     have hen:=hBg.en
     have hKid:Hid (∀ (d k:Nat) (u:Tk),ks[d]?=some k->f.toks[k]?=some u->u.op=2->0<=u.siz):=⟨fun d k u h1 h2 h3=>kid_siz hZ.out ht hgB (by rw[hkids];exact h1) h2 h3⟩
     have hCh:Hid (Chn f.toks (j+1) ks n):=⟨hBg.ch⟩
     have hnl:Hid (n<f.toks.length/\j<n):=⟨hBg.nl,hBg.bn⟩
     have hKn:Hid (∀ k∈ks,k<n):=⟨fun k hk=>(hBg.kn k hk).2⟩
     have hTr:Hid _:=⟨hT.out.row⟩
     obtain⟨TB,hTB⟩:∃ x,t.blk=x:=⟨_,rfl⟩
     generalize hcg:(camZ f).getD j 0=c at cA d1
     generalize hRg:rnk (camZ f) v j=R at *
     have hnI:(n:Int)<733007751850:=by have:=hnl.out;omega
     clear hf hg hBw hk hcl hrl hTk hBg hkids hgB hcg hRg
     rcases hbk with e|e
     ·rw[e] at CB
      clear e
      go_wp2_with (first
       | (guard_target =~ wpList _ _ _ (Oper.mk _ (Op.load 30 _) _ _ _ _::_) _ _;go_must (refine wpList_ld 30 _ rfl rfl _ _ rfl lF.out ?_);simp only[pts])
       | (guard_target =~ wpList _ _ _ (Oper.mk _ (Op.load 42 _) _ _ _ _::_) _ _;go_must (refine wpList_ld 42 _ rfl rfl _ _ rfl l2.out ?_);simp only[pts])
       | (guard_target =~ wpList _ _ _ (Oper.mk _ (Op.store 42 _ _) _ _ _ _::_) _ _;go_must (refine wpList_st 42 _ _ rfl rfl _ _ rfl rfl (s3.out _ rfl) ?_);simp only[pts])
       | (go_at_call 8;refine cA.mono ?_;rintro _ w2 ⟨rfl,hB2⟩;obtain⟨y12,l2,W3,s3,a0,a14,hB3⟩:=CB.out w2 hB2.out.2;rw[hTB] at a14;clear hB2))
      clear cA lF l2 s3 y12 x12 a0 a14 CB
      generalize hT9:w2.heap.size=T9 at *
      go_loopw [10,11] (fun qw q wi=>∃ (k d:Nat),q = .int .i64 (k:Int)/\k<=n/\qw = .int .i64 (mnF f.toks (camZ f) v TB (ks.take d))/\Hid (Chn f.toks k (ks.drop d) n/\Below W3.heap.size W3 wi)) (fun _ q _=>n-(RowKit.intOf q).toNat)
      case atStart=>exact⟨j+1,0,by go_num,by have:=hnl.out;omega,rfl,⟨hCh.out,Below.refl _ _⟩⟩
      case round =>
       obtain⟨k,d,rfl,hkn,rfl,hI⟩:=hrel
       obtain⟨hch,hBi⟩:=hI.out
       clear hI
       have hB4:Hid (Below W1.heap.size W1 wr):=⟨hB3.out.1.trans (hBi.mono hB3.out.1.size)⟩
       obtain⟨hf,hg,hBw⟩:=K.out wr hB4.out
       have x12:wr.cell? ⟨w.heap.size,12,none⟩=some (.slice (some ⟨gf,ofs,none⟩) f.toks.length cp):=cell_at hf 12
       have a20:wr.cell? ⟨T9,20,none⟩=some (.int .i64 (n:Int)):=by rw[<- hen];exact(hBi.cell (p:=⟨T9,20,none⟩) hB3.out.2.2).trans hB3.out.2.1
       by_cases hkl:k<n
       ·obtain⟨r,hdr⟩:∃ r,ks.drop d=k::r:=by
         cases hd:ks.drop d with
         | nil=>rw[hd] at hch;have e:k=n:=hch;omega
         | cons a r=>rw[hd] at hch;obtain⟨e,-⟩:=hch;exact⟨r,by rw[e]⟩
        rw[hdr] at hch
        obtain⟨-,u,m,hu,hm,hch2⟩:=hch
        have hdk:ks[d]?=some k:=by
         have:=congrArg (fun l=>l[0]?) hdr
         simpa using this
        have hd1:ks.drop (d+1)=r:=by
         have:=congrArg List.tail hdr
         simpa using this
        have hmn:m+1<=n/\k<=m:=by
         rcases val_tok hZ.out hu with ⟨he,-,x,o,-,e,e2⟩|⟨-,-,q,e,e2,-⟩|⟨-,-,e,-⟩
         ·exfalso
          obtain⟨_,_,_,_,_,_,_,hne⟩:=hTo.out d k u hdk hu
          rw[he] at hne
          cases hne
         ·refine⟨?_,by omega⟩
          cases r with
          | nil=>have e3:m+1=n:=hch2;omega
          | cons a r =>
           obtain⟨e3,-⟩:=hch2
           have:=hKn.out a (by rw[<- List.take_append_drop d ks,hdr];simp)
           omega
         ·refine⟨?_,by omega⟩
          cases r with
          | nil=>have e3:m+1=n:=hch2;omega
          | cons a r =>
           obtain⟨e3,-⟩:=hch2
           have:=hKn.out a (by rw[<- List.take_append_drop d ks,hdr];simp)
           omega
        obtain⟨gf',ofs',pc',cc',e1,hgf',hTu,-,-⟩:=hTr.out.c k u hu
        cases e1
        have u0:=(hTu.below hgf' hBw).c0
        have u3:=(hTu.below hgf' hBw).c3
        have u4:=(hTu.below hgf' hBw).c4
        have hkL:k<f.toks.length:=by have:=hnl.out;omega
        have lF:Hid _:=⟨(J.fm_of hf).load⟩
        have cA:=CS.out wr k hB4.out hkL
        have hki:(k:Int)<f.toks.length:=by omega
        have hkni:(k:Int)<n:=by omega
        have hmb:(m:Int)<733007751850:=by have:=hnl.out;omega
        have hnx:=mn_next (l:=f.toks) (C:=camZ f) (v:=v) (W:=TB) hdk
        have CX:Hid (∀ X,Below W1.heap.size W1 X->X.cell? ⟨w.heap.size,12,none⟩=some (.slice (some ⟨gf,ofs,none⟩) f.toks.length cp)/\X.cell? ⟨gf,ofs+k*21+20,none⟩=some (.int .i64 (m:Int))/\X.cell? ⟨gf,ofs+k*21+3,none⟩=some (.int .i64 u.off)):=⟨fun X h=>by
         obtain⟨k1,k2,k3⟩:=K.out X h
         have h1:=(hTu.below hgf' k3).c20
         rw[hm] at h1
         exact⟨cell_at k1 12,h1,(hTu.below hgf' k3).c3⟩⟩
        obtain⟨-,v20,-⟩:=CX.out wr hB4.out
        have FIN:Hid (∀ X,Below W3.heap.size W3 X->Chn f.toks (m+1) (ks.drop (d+1)) n/\Below W3.heap.size W3 X):=⟨fun X h=>⟨by rw[hd1];exact hch2,h⟩⟩
        have FB:Hid (Below W3.heap.size W3 wr):=⟨hBi⟩
        have WB:Hid (∀ X,Below wr.heap.size wr X->Below W3.heap.size W3 X/\Below W1.heap.size W1 X):=⟨fun X h=>⟨hBi.trans (h.mono hBi.size),hB4.out.trans (h.mono hB4.out.size)⟩⟩
        have hcs:=new_cases v hu (hKid.out d k u hdk hu)
        generalize mnF f.toks (camZ f) v TB (ks.take d)=V at *
        generalize (camZ f).getD k 0=ck at *
        generalize u.op=uop at *
        generalize u.siz=usz at *
        generalize u.off=uof at *
        clear hf hg hBw hBi hTu hu hm hch2 hdr hd1 hdk
        rcases hcs with ⟨e1,e2⟩|⟨rfl,e1,e2⟩|⟨rfl,e1,e3,e2⟩|⟨rfl,e1,e3,e2,e4⟩
        ·rw[if_neg (by rw[e2];decide)] at hnx
         replace hnx:=Hid.mk hnx
         clear e2 cA
         go_wp2_with fail
         go_roundw
         case rel=>exact⟨m+1,d+1,by go_num,hmn.1,by rw[hnx.out],⟨FIN.out _ FB.out⟩⟩
         case measure=>simp[RowKit.intOf];omega
        ·rw[if_neg (by rw[e2];decide)] at hnx
         replace hnx:=Hid.mk hnx
         clear e2 cA
         go_wp2_with fail
         go_roundw
         case rel=>exact⟨m+1,d+1,by go_num,hmn.1,by rw[hnx.out],⟨FIN.out _ FB.out⟩⟩
         case measure=>simp[RowKit.intOf];omega
        ·rw[if_neg (by rw[e2];decide)] at hnx
         replace hnx:=Hid.mk hnx
         clear e2
         go_wp2_with (first
          | (guard_target =~ wpList _ _ _ (Oper.mk _ (Op.load 30 _) _ _ _ _::_) _ _;go_must (refine wpList_ld 30 _ rfl rfl _ _ rfl lF.out ?_);simp only[pts])
          | (go_at_call 8;refine cA.mono ?_;rintro _ w5 ⟨rfl,hB5⟩;obtain⟨z12,z20,z3⟩:=CX.out w5 hB5.out.2;clear v20))
         go_roundw
         case rel=>exact⟨m+1,d+1,by go_num,hmn.1,by rw[hnx.out],⟨FIN.out _ (WB.out _ hB5.out.1).1⟩⟩
         case measure=>simp[RowKit.intOf];omega
        ·rw[if_pos e2,e4] at hnx
         replace hnx:=Hid.mk hnx
         clear e2 e4
         go_wp2_with (first
          | (guard_target =~ wpList _ _ _ (Oper.mk _ (Op.load 30 _) _ _ _ _::_) _ _;go_must (refine wpList_ld 30 _ rfl rfl _ _ rfl lF.out ?_);simp only[pts])
          | (guard_target =~ wpList _ _ _ (Oper.mk _ (Op.call { callee:=Callee.builtin Builtin.min,args:=_,argTypes:=_ }) _ _ _ _::_) _ _;go_must (refine wpList_min (by rfl) _ _ _ _ (by rfl) V uof (by rfl) (by rfl) ?_);simp only[pts])
          | (go_at_call 8;refine cA.mono ?_;rintro _ w5 ⟨rfl,hB5⟩;obtain⟨z12,z20,z3⟩:=CX.out w5 hB5.out.2;clear v20))
         go_roundw
         case rel=>exact⟨m+1,d+1,by go_num,hmn.1,by rw[hnx.out],⟨FIN.out _ (WB.out _ hB5.out.1).1⟩⟩
         case measure=>simp[RowKit.intOf];omega
       ·obtain rfl:k=n:=by omega
        have hd0:ks.drop d=[]:=by
         cases hd:ks.drop d with
         | nil=>rfl
         | cons a r =>
          rw[hd] at hch
          obtain⟨e,-⟩:=hch
          have:=hKn.out a (List.mem_of_mem_drop (i:=d) (by rw[hd];simp))
          omega
        have htk:ks.take d=ks:=by rw[List.take_of_length_le (List.drop_eq_nil_iff.1 hd0)]
        rw[htk]
        have d5:decide ((k:Int)<k)=false:=by simp
        obtain⟨⟨g1,g2⟩,epg,y14,y12⟩:=hGT.out wr hB4.out
        subst epg
        rw[htb.out,hTB] at y14
        have hRi:(R:Int)<(atF f v).toks.length:=by have:=hR'.out;omega
        generalize mnF f.toks (camZ f) v TB ks=V at *
        clear hch hd0 htk hf hg hBw hBi hkl hkn
        go_wp2_with fail
        go_roundw
        case rel=>exact⟨j+1,by omega,by go_num,by rw[hr1.out];go_num,hB4⟩
        case measure=>simp[RowKit.intOf];omega
     ·rw[e] at CB
      clear e
      go_wp2_with (first
       | (guard_target =~ wpList _ _ _ (Oper.mk _ (Op.load 30 _) _ _ _ _::_) _ _;go_must (refine wpList_ld 30 _ rfl rfl _ _ rfl lF.out ?_);simp only[pts])
       | (guard_target =~ wpList _ _ _ (Oper.mk _ (Op.load 42 _) _ _ _ _::_) _ _;go_must (refine wpList_ld 42 _ rfl rfl _ _ rfl l2.out ?_);simp only[pts])
       | (guard_target =~ wpList _ _ _ (Oper.mk _ (Op.store 42 _ _) _ _ _ _::_) _ _;go_must (refine wpList_st 42 _ _ rfl rfl _ _ rfl rfl (s3.out _ rfl) ?_);simp only[pts])
       | (go_at_call 8;refine cA.mono ?_;rintro _ w2 ⟨rfl,hB2⟩;obtain⟨y12,l2,W3,s3,a0,a14,hB3⟩:=CB.out w2 hB2.out.2;rw[hTB] at a14;clear hB2))
      clear cA lF l2 s3 y12 x12 a0 a14 CB
      generalize hT9:w2.heap.size=T9 at *
      go_loopw [10,11] (fun qw q wi=>∃ (k d:Nat),q = .int .i64 (k:Int)/\k<=n/\qw = .int .i64 (mnF f.toks (camZ f) v TB (ks.take d))/\Hid (Chn f.toks k (ks.drop d) n/\Below W3.heap.size W3 wi)) (fun _ q _=>n-(RowKit.intOf q).toNat)
      case atStart=>exact⟨j+1,0,by go_num,by have:=hnl.out;omega,rfl,⟨hCh.out,Below.refl _ _⟩⟩
      case round =>
       obtain⟨k,d,rfl,hkn,rfl,hI⟩:=hrel
       obtain⟨hch,hBi⟩:=hI.out
       clear hI
       have hB4:Hid (Below W1.heap.size W1 wr):=⟨hB3.out.1.trans (hBi.mono hB3.out.1.size)⟩
       obtain⟨hf,hg,hBw⟩:=K.out wr hB4.out
       have x12:wr.cell? ⟨w.heap.size,12,none⟩=some (.slice (some ⟨gf,ofs,none⟩) f.toks.length cp):=cell_at hf 12
       have a20:wr.cell? ⟨T9,20,none⟩=some (.int .i64 (n:Int)):=by rw[<- hen];exact(hBi.cell (p:=⟨T9,20,none⟩) hB3.out.2.2).trans hB3.out.2.1
       by_cases hkl:k<n
       ·obtain⟨r,hdr⟩:∃ r,ks.drop d=k::r:=by
         cases hd:ks.drop d with
         | nil=>rw[hd] at hch;have e:k=n:=hch;omega
         | cons a r=>rw[hd] at hch;obtain⟨e,-⟩:=hch;exact⟨r,by rw[e]⟩
        rw[hdr] at hch
        obtain⟨-,u,m,hu,hm,hch2⟩:=hch
        have hdk:ks[d]?=some k:=by
         have:=congrArg (fun l=>l[0]?) hdr
         simpa using this
        have hd1:ks.drop (d+1)=r:=by
         have:=congrArg List.tail hdr
         simpa using this
        have hmn:m+1<=n/\k<=m:=by
         rcases val_tok hZ.out hu with ⟨he,-,x,o,-,e,e2⟩|⟨-,-,q,e,e2,-⟩|⟨-,-,e,-⟩
         ·exfalso
          obtain⟨_,_,_,_,_,_,_,hne⟩:=hTo.out d k u hdk hu
          rw[he] at hne
          cases hne
         ·refine⟨?_,by omega⟩
          cases r with
          | nil=>have e3:m+1=n:=hch2;omega
          | cons a r =>
           obtain⟨e3,-⟩:=hch2
           have:=hKn.out a (by rw[<- List.take_append_drop d ks,hdr];simp)
           omega
         ·refine⟨?_,by omega⟩
          cases r with
          | nil=>have e3:m+1=n:=hch2;omega
          | cons a r =>
           obtain⟨e3,-⟩:=hch2
           have:=hKn.out a (by rw[<- List.take_append_drop d ks,hdr];simp)
           omega
        obtain⟨gf',ofs',pc',cc',e1,hgf',hTu,-,-⟩:=hTr.out.c k u hu
        cases e1
        have u0:=(hTu.below hgf' hBw).c0
        have u3:=(hTu.below hgf' hBw).c3
        have u4:=(hTu.below hgf' hBw).c4
        have hkL:k<f.toks.length:=by have:=hnl.out;omega
        have lF:Hid _:=⟨(J.fm_of hf).load⟩
        have cA:=CS.out wr k hB4.out hkL
        have hki:(k:Int)<f.toks.length:=by omega
        have hkni:(k:Int)<n:=by omega
        have hmb:(m:Int)<733007751850:=by have:=hnl.out;omega
        have hnx:=mn_next (l:=f.toks) (C:=camZ f) (v:=v) (W:=TB) hdk
        have CX:Hid (∀ X,Below W1.heap.size W1 X->X.cell? ⟨w.heap.size,12,none⟩=some (.slice (some ⟨gf,ofs,none⟩) f.toks.length cp)/\X.cell? ⟨gf,ofs+k*21+20,none⟩=some (.int .i64 (m:Int))/\X.cell? ⟨gf,ofs+k*21+3,none⟩=some (.int .i64 u.off)):=⟨fun X h=>by
         obtain⟨k1,k2,k3⟩:=K.out X h
         have h1:=(hTu.below hgf' k3).c20
         rw[hm] at h1
         exact⟨cell_at k1 12,h1,(hTu.below hgf' k3).c3⟩⟩
        obtain⟨-,v20,-⟩:=CX.out wr hB4.out
        have FIN:Hid (∀ X,Below W3.heap.size W3 X->Chn f.toks (m+1) (ks.drop (d+1)) n/\Below W3.heap.size W3 X):=⟨fun X h=>⟨by rw[hd1];exact hch2,h⟩⟩
        have FB:Hid (Below W3.heap.size W3 wr):=⟨hBi⟩
        have WB:Hid (∀ X,Below wr.heap.size wr X->Below W3.heap.size W3 X/\Below W1.heap.size W1 X):=⟨fun X h=>⟨hBi.trans (h.mono hBi.size),hB4.out.trans (h.mono hB4.out.size)⟩⟩
        have hcs:=new_cases v hu (hKid.out d k u hdk hu)
        generalize mnF f.toks (camZ f) v TB (ks.take d)=V at *
        generalize (camZ f).getD k 0=ck at *
        generalize u.op=uop at *
        generalize u.siz=usz at *
        generalize u.off=uof at *
        clear hf hg hBw hBi hTu hu hm hch2 hdr hd1 hdk
        rcases hcs with ⟨e1,e2⟩|⟨rfl,e1,e2⟩|⟨rfl,e1,e3,e2⟩|⟨rfl,e1,e3,e2,e4⟩
        ·rw[if_neg (by rw[e2];decide)] at hnx
         replace hnx:=Hid.mk hnx
         clear e2 cA
         go_wp2_with fail
         go_roundw
         case rel=>exact⟨m+1,d+1,by go_num,hmn.1,by rw[hnx.out],⟨FIN.out _ FB.out⟩⟩
         case measure=>simp[RowKit.intOf];omega
        ·rw[if_neg (by rw[e2];decide)] at hnx
         replace hnx:=Hid.mk hnx
         clear e2 cA
         go_wp2_with fail
         go_roundw
         case rel=>exact⟨m+1,d+1,by go_num,hmn.1,by rw[hnx.out],⟨FIN.out _ FB.out⟩⟩
         case measure=>simp[RowKit.intOf];omega
        ·rw[if_neg (by rw[e2];decide)] at hnx
         replace hnx:=Hid.mk hnx
         clear e2
         go_wp2_with (first
          | (guard_target =~ wpList _ _ _ (Oper.mk _ (Op.load 30 _) _ _ _ _::_) _ _;go_must (refine wpList_ld 30 _ rfl rfl _ _ rfl lF.out ?_);simp only[pts])
          | (go_at_call 8;refine cA.mono ?_;rintro _ w5 ⟨rfl,hB5⟩;obtain⟨z12,z20,z3⟩:=CX.out w5 hB5.out.2;clear v20))
         go_roundw
         case rel=>exact⟨m+1,d+1,by go_num,hmn.1,by rw[hnx.out],⟨FIN.out _ (WB.out _ hB5.out.1).1⟩⟩
         case measure=>simp[RowKit.intOf];omega
        ·rw[if_pos e2,e4] at hnx
         replace hnx:=Hid.mk hnx
         clear e2 e4
         go_wp2_with (first
          | (guard_target =~ wpList _ _ _ (Oper.mk _ (Op.load 30 _) _ _ _ _::_) _ _;go_must (refine wpList_ld 30 _ rfl rfl _ _ rfl lF.out ?_);simp only[pts])
          | (guard_target =~ wpList _ _ _ (Oper.mk _ (Op.call { callee:=Callee.builtin Builtin.min,args:=_,argTypes:=_ }) _ _ _ _::_) _ _;go_must (refine wpList_min (by rfl) _ _ _ _ (by rfl) V uof (by rfl) (by rfl) ?_);simp only[pts])
          | (go_at_call 8;refine cA.mono ?_;rintro _ w5 ⟨rfl,hB5⟩;obtain⟨z12,z20,z3⟩:=CX.out w5 hB5.out.2;clear v20))
         go_roundw
         case rel=>exact⟨m+1,d+1,by go_num,hmn.1,by rw[hnx.out],⟨FIN.out _ (WB.out _ hB5.out.1).1⟩⟩
         case measure=>simp[RowKit.intOf];omega
       ·obtain rfl:k=n:=by omega
        have hd0:ks.drop d=[]:=by
         cases hd:ks.drop d with
         | nil=>rfl
         | cons a r =>
          rw[hd] at hch
          obtain⟨e,-⟩:=hch
          have:=hKn.out a (List.mem_of_mem_drop (i:=d) (by rw[hd];simp))
          omega
        have htk:ks.take d=ks:=by rw[List.take_of_length_le (List.drop_eq_nil_iff.1 hd0)]
        rw[htk]
        have d5:decide ((k:Int)<k)=false:=by simp
        obtain⟨⟨g1,g2⟩,epg,y14,y12⟩:=hGT.out wr hB4.out
        subst epg
        rw[htb.out,hTB] at y14
        have hRi:(R:Int)<(atF f v).toks.length:=by have:=hR'.out;omega
        generalize mnF f.toks (camZ f) v TB ks=V at *
        clear hch hd0 htk hf hg hBw hBi hkl hkn
        go_wp2_with fail
        go_roundw
        case rel=>exact⟨j+1,by omega,by go_num,by rw[hr1.out];go_num,hB4⟩
        case measure=>simp[RowKit.intOf];omega
    ·have o1:(t.op==0)=false:=beqN (by omega)
     have o2:(t.op==4)=false:=beqN (by omega)
     generalize (camZ f).getD j 0=c at cA d1
     generalize rnk (camZ f) v j=R at *
     clear hf hg hBw hB hk ht hcl hrl hTk hGT hR' hbk
     go_wp2_with (first
      | (guard_target =~ wpList _ _ _ (Oper.mk _ (Op.load 30 _) _ _ _ _::_) _ _;go_must (refine wpList_ld 30 _ rfl rfl _ _ rfl lF.out ?_);simp only[pts])
      | (guard_target =~ wpList _ _ _ (Oper.mk _ (Op.load 42 _) _ _ _ _::_) _ _;go_must (refine wpList_ld 42 _ rfl rfl _ _ rfl l2.out ?_);simp only[pts])
      | (guard_target =~ wpList _ _ _ (Oper.mk _ (Op.store 42 _ _) _ _ _ _::_) _ _;go_must (refine wpList_st 42 _ _ rfl rfl _ _ rfl rfl (s3.out _ rfl) ?_);simp only[pts])
      | (go_at_call 8;refine cA.mono ?_;rintro _ w2 ⟨rfl,hB2⟩;obtain⟨y12,l2,W3,s3,a0,a14,hB3⟩:=CB.out w2 hB2.out.2;clear hB2))
     go_roundw
     case rel=>exact⟨j+1,by omega,by go_num,by rw[hr1.out];go_num,⟨hB3.out.1⟩⟩
     case measure=>simp[RowKit.intOf];omega
  ·obtain rfl:j=f.toks.length:=by omega
   have d3:decide ((f.toks.length:Int)<f.toks.length)=false:=by simp
   have hX:Hid _:=⟨hBw⟩
   generalize rnk (camZ f) v f.toks.length=R at *
   clear hf hg hBw hB hlt
   go_wp2_with fail
   go_ret
   exact⟨rfl,hX.out⟩
theorem KtR.rowAt {W:World} {B cp:Nat} {pp:Option Addr} {ks:List Ktp} {l:List Tk} (h:KtR W B (.slice pp ks.length cp) ks) (hl:ks.map Ktp.t=l) {i:Nat} {t:Tk} (ht:l[i]?=some t):∃ g pc cc,pp=some ⟨g,0,none⟩/\g<W.heap.size/\TkC W g (i*21) t pc cc:=by
 obtain⟨g,o,pc,cc,e,hg,hT,-,-⟩:=h.trow.c i t (by rw[hl];exact ht)
 rcases h.row.2 with ⟨e0,e1⟩|⟨g',cap',cur,e1,-⟩
 ·injection e0 with a b c
  rw[a] at e
  cases e
 ·injection e1 with a b c
  subst a
  cases e
  exact⟨_,pc,cc,rfl,hg,by simpa using hT⟩
theorem sm_t0:∃ t,(atF smF 0).toks[0]?=some t/\t.blk=4/\t.full=6:=by
 have h:=sm_at.2.2.2
 cases ht:(atF smF 0).toks[0]? with
 | none=>rw[ht] at h;cases h
 | some t =>
  rw[ht] at h
  simp only[Option.map_some,Option.some.injEq,Prod.mk.injEq] at h
  exact⟨t,rfl,h.1,h.2⟩
theorem sure_any (w:World) (kt:KT w) (mt:MT w):Calls Tryz.prog 4 #[] w fun r w'=>r = .returned (.bool true)/\Below w.heap.size w w':=by
 have CC:Hid (∀ w1 g,TkL w1 (some ⟨g,0,none⟩) w1.heap.size smF.toks->Below w.heap.size w w1->∃ W2,(∀ z:Array Value,z.size=13->(Instr.storeAt 30 (.pointer (some ⟨w1.heap.size,0,none⟩)) (fmV smF (some ⟨g,0,none⟩) 8)).run Tryz.prog (w1.alloc (.cells z 30)) = .ok () W2)/\(Instr.loadAt 30 (.pointer (some ⟨w1.heap.size,0,none⟩))).run Tryz.prog W2 = .ok (fmV smF (some ⟨g,0,none⟩) 8) W2 /\
   Calls Tryz.prog 6 #[fmV smF (some ⟨g,0,none⟩) 8,.int .i64 0] W2 fun e w3=>∃ gp cp' W4,e = .returned (.tuple #[fmV (atF smF 0) (some ⟨gp,0,none⟩) cp',.int .i64 0])/\(∀ z:Array Value,z.size=13->(Instr.storeAt 30 (.pointer (some ⟨w3.heap.size,0,none⟩)) (fmV (atF smF 0) (some ⟨gp,0,none⟩) cp')).run Tryz.prog (w3.alloc (.cells z 30)) = .ok () W4) /\
    W4.cell? ⟨w3.heap.size,2,none⟩=some (.int .i64 0)/\W4.cell? ⟨w3.heap.size,12,none⟩=some (.slice (some ⟨gp,0,none⟩) 5 cp')/\W4.cell? ⟨gp,14,none⟩=some (.int .i64 4)/\W4.cell? ⟨gp,15,none⟩=some (.int .i64 6)/\(Instr.loadAt 30 (.pointer (some ⟨w1.heap.size,0,none⟩))).run Tryz.prog W4 = .ok (fmV smF (some ⟨g,0,none⟩) 8) W4 /\
    Calls Tryz.prog 9 #[fmV smF (some ⟨g,0,none⟩) 8,.int .i64 4,.int .i64 1] W4 fun e w5=>e = .returned (.bool true)/\(Instr.loadAt 30 (.pointer (some ⟨w1.heap.size,0,none⟩))).run Tryz.prog w5 = .ok (fmV smF (some ⟨g,0,none⟩) 8) w5 /\
     Calls Tryz.prog 9 #[fmV smF (some ⟨g,0,none⟩) 8,.int .i64 4,.int .i64 0] w5 fun e w6=>e = .returned (.bool false)/\Hid (Below w.heap.size w w6)):=⟨fun w1 g tl hb=>by
  have b2:=bel1 w1 (fmO smF (some ⟨g,0,none⟩) 8)
  have h2:=heap_al w1 (fmO smF (some ⟨g,0,none⟩) 8)
  have z2:(w1.alloc (fmO smF (some ⟨g,0,none⟩) 8)).heap.size=w1.heap.size+1:=World.size_alloc _ _
  refine⟨_,fun z hz=>J.st_newF w1 z hz smF (some ⟨g,0,none⟩) 8,(J.fm_of h2).load,?_⟩
  generalize w1.alloc (fmO smF (some ⟨g,0,none⟩) 8)=W2 at b2 h2 z2
  have hb2:=hb.trans (b2.mono hb.size)
  have tl2:=(tl.below b2).mono b2.size
  have hlm:smF.toks.length*192<=140737488351232:=by decide
  have P:∀ W,Below W2.heap.size W2 W->PCk W smF (some ⟨g,0,none⟩) 8/\TkL W (some ⟨g,0,none⟩) W.heap.size smF.toks:=fun W hW=>by
   have hx:=hb2.trans (hW.mono hb2.size)
   have t:=(tl2.below hW).mono hW.size
   exact⟨pCk_of _ _ _ _ t (kt.up hx) (mt.below mt.pos hx),t⟩
  refine(pAt_any (P W2 (Below.refl _ _)).1 tl2 hlm 0).mono fun e w3 hP=>?_
  obtain⟨pp',cp',ks,e1,e2,e3,e4⟩:=hP
  have hG:atG smF 0=atF smF 0:=by unfold atG;rw[if_pos sm_at.1]
  rw[hG,sm_at.1] at e1
  rw[hG] at e2
  obtain⟨t,ht,hbk,hfu⟩:=sm_t0
  obtain⟨gp,pc,cc,rfl,hgp,hT⟩:=e3.rowAt e2 ht
  have b4:=bel1 w3 (fmO (atF smF 0) (some ⟨gp,0,none⟩) cp')
  have h4:=heap_al w3 (fmO (atF smF 0) (some ⟨gp,0,none⟩) cp')
  have z4:(w3.alloc (fmO (atF smF 0) (some ⟨gp,0,none⟩) cp')).heap.size=w3.heap.size+1:=World.size_alloc _ _
  have hT4:=hT.below hgp b4
  rw[Nat.zero_mul] at hT4
  have hb4:=e4.trans (b4.mono e4.size)
  have k14:=hT4.c14
  have k15:=hT4.c15
  rw[hbk] at k14
  rw[hfu] at k15
  refine⟨gp,cp',_,e1,fun z hz=>J.st_newF w3 z hz (atF smF 0) (some ⟨gp,0,none⟩) cp',cell_at h4 2,?_,by simpa using k14,by simpa using k15,(J.fm_of ((hb4.block _ (by omega)).trans h2)).load,?_⟩
  ·refine(cell_at h4 12).trans ?_
   show some (Value.slice _ (atF smF 0).toks.length _)=_
   rw[sm_at.2.2.1]
  ·obtain⟨p1,p2⟩:=P _ hb4
   refine(pLives_any p1 p2 hlm 4 1).mono fun e w5 hP=>?_
   obtain⟨rfl,b5⟩:=hP
   have hb5:=hb4.trans (b5.mono hb4.size)
   obtain⟨p1,p2⟩:=P _ hb5
   refine⟨by rw[sm_liv.1],(J.fm_of ((hb5.block _ (by omega)).trans h2)).load,(pLives_any p1 p2 hlm 4 0).mono fun e w6 hP=>?_⟩
   obtain⟨rfl,b6⟩:=hP
   exact⟨by rw[sm_liv.2],⟨hb2.trans ((hb5.trans (b6.mono hb5.size)).mono hb2.size)⟩⟩⟩
 have cM:=small_any w
 clear kt mt
 go_enter Tryz.func4,Tryz.ntmps4
 go_wp2_with (first
  | (go_at_call 13;refine cM.mono ?_;rintro _ w1 ⟨g,rfl,tl,hb⟩;obtain⟨W2,s2,l2,cA⟩:=CC.out w1 g tl hb;replace s2:=Hid.mk s2;replace l2:=Hid.mk l2;clear tl hb)
  | (go_at_call 6;refine cA.mono ?_;rintro _ w3 ⟨gp,cp',W4,rfl,s4,y2,y12,y14,y15,l4,cL⟩;replace s4:=Hid.mk s4;replace l4:=Hid.mk l4)
  | (go_at_call 9;refine cL.mono ?_;rintro _ w5 ⟨rfl,l6,cN⟩;replace l6:=Hid.mk l6;clear cL)
  | (go_at_call 9;refine cN.mono ?_;rintro _ w6 ⟨rfl,hF⟩)
  | (guard_target =~ wpList _ _ _ (Oper.mk _ (Op.load 30 _) _ _ _ _::_) _ _;go_must (first|refine wpList_ld 30 _ rfl rfl _ _ rfl l2.out ?_|refine wpList_ld 30 _ rfl rfl _ _ rfl l4.out ?_|refine wpList_ld 30 _ rfl rfl _ _ rfl l6.out ?_);simp only[pts])
  | (guard_target =~ wpList _ _ _ (Oper.mk _ (Op.store 30 _ _) _ _ _ _::_) _ _;go_must (first|refine wpList_st 30 _ _ rfl rfl _ _ rfl rfl (s2.out _ rfl) ?_|refine wpList_st 30 _ _ rfl rfl _ _ rfl rfl (s4.out _ rfl) ?_);simp only[pts]))
 go_ret
 exact⟨rfl,hF.out⟩
end Go.Proofs.YtahogajcbncjhaaGreatDoor
