import Derived.Test.YtjnafpefolgcoaaGreatDoorK29
namespace Go.Proofs.YtjnafpefolgcoaaGreatDoor
set_option maxRecDepth 1000000
set_option maxHeartbeats 16000000
open Go.ChangeShapes Go.WideShapes Go.ChangeAt Go.RowKit Go.Shelf Go.Maps
open J
attribute [local go_sem] Oper.semAt_some
abbrev KB (H Bw Bq N:Nat) (r x:Int) (u:Nat->Value):Array Value:=#[u 0,u 1,u 2,u 3,u 4,u 5,.pointer (some ⟨H,0,none⟩),u 7,.pointer (some ⟨H+1,0,none⟩),.pointer (some ⟨Bw,0,none⟩),u 10,.pointer (some ⟨Bq,0,none⟩),u 12,.int .i64 r,.pointer (some ⟨N,0,none⟩),.int .i64 x,u 16,u 17,u 18,u 19,u 20,u 21,u 22,u 23,u 24,u 25,u 26,u 27,u 28,u 29,u 30,u 31,u 32,u 33,u 34,u 35,u 36,u 37,u 38,u 39,u 40,u 41,u 42,u 43,u 44,u 45,u 46,u 47,u 48,u 49,u 50,u 51,u 52,u 53,u 54,u 55,u 56,u 57,u 58,u 59,u 60,u 61,u 62,u 63,u 64,u 65,u 66,u 67,u 68,u 69,u 70,u 71,u 72,u 73,u 74,u 75,u 76,u 77,u 78,u 79,u 80,u 81,u 82,u 83,u 84,u 85,u 86,u 87,u 88,u 89,u 90,u 91,u 92,u 93,u 94,u 95,u 96,u 97,u 98,u 99,u 100,u 101,u 102,u 103,u 104,u 105,u 106,u 107,u 108,u 109,u 110,u 111,u 112,u 113,u 114,u 115,u 116,u 117]
abbrev KC (H Bw Bq N K:Nat) (r x y:Int) (u:Nat->Value):Array Value:=#[u 0,u 1,u 2,u 3,u 4,u 5,.pointer (some ⟨H,0,none⟩),u 7,.pointer (some ⟨H+1,0,none⟩),.pointer (some ⟨Bw,0,none⟩),u 10,.pointer (some ⟨Bq,0,none⟩),u 12,.int .i64 r,.pointer (some ⟨N,0,none⟩),.int .i64 x,.pointer (some ⟨K,0,none⟩),.int .i64 y,u 18,u 19,u 20,u 21,u 22,u 23,u 24,u 25,u 26,u 27,u 28,u 29,u 30,u 31,u 32,u 33,u 34,u 35,u 36,u 37,u 38,u 39,u 40,u 41,u 42,u 43,u 44,u 45,u 46,u 47,u 48,u 49,u 50,u 51,u 52,u 53,u 54,u 55,u 56,u 57,u 58,u 59,u 60,u 61,u 62,u 63,u 64,u 65,u 66,u 67,u 68,u 69,u 70,u 71,u 72,u 73,u 74,u 75,u 76,u 77,u 78,u 79,u 80,u 81,u 82,u 83,u 84,u 85,u 86,u 87,u 88,u 89,u 90,u 91,u 92,u 93,u 94,u 95,u 96,u 97,u 98,u 99,u 100,u 101,u 102,u 103,u 104,u 105,u 106,u 107,u 108,u 109,u 110,u 111,u 112,u 113,u 114,u 115,u 116,u 117]
def RefCkC (w:World) (f:Fm) (pp:Option Addr) (cp:Nat):Prop:=∀ W,Below w.heap.size w W->Calls Tryz.prog 4 #[fmV f pp cp] W fun r w'=>r = .returned (.tuple #[.int .i64 (errZ (chkZ f)),.int .i64 (atZ (chkZ f))])/\Below W.heap.size W w'
theorem refParts_no (f:Fm) (i:Int) (pp:Option Addr) (cp:Nat) (w:World) (tl:TkL w pp w.heap.size f.toks) (cA:RefCkC w f pp cp) (hb:NotAt f i holdB) :
  Calls Tryz.prog 18 #[fmV f pp cp,.int .i64 i] w fun r w'=>∃ v,r = .returned v/\NRow w' w.heap.size v []/\Below w.heap.size w w':=by
 have hF:=fm_new w f pp cp
 have HB:Below w.heap.size w (w.alloc (fmO f pp cp)):=nbel _ _
 have HS:(w.alloc (fmO f pp cp)).heap.size=w.heap.size+1:=World.size_alloc _ _
 generalize hW:w.alloc (fmO f pp cp)=W at hF HB HS
 simp only[fmO] at hW
 replace cA:=cA W HB
 have F0:=hF.c0
 have F1:=hF.c1
 have F2:=hF.c2
 have F3:=hF.c3
 have F4:=hF.c4
 have F5:=hF.c5
 have F6:=hF.c6
 have F7:=hF.c7
 have F8:=hF.c8
 have F9:=hF.c9
 have F10:=hF.c10
 have F11:=hF.c11
 have F12:=hF.c12
 simp only[Nat.zero_add] at F1 F2 F3 F4 F5 F6 F7 F8 F9 F10 F11 F12
 have hY:Hid (∀ W',Below W.heap.size W W'->FmC W' w.heap.size 0 f pp cp):=⟨fun W' hb=>hF.below (by omega) hb⟩
 replace HB:=Hid.mk HB
 replace HS:=Hid.mk HS
 generalize atZ (chkZ f)=at_ at cA
 by_cases hz:chkZ f=none
 ·have he:errZ (chkZ f)=0:=by rw[hz];rfl
  rw[he] at cA
  by_cases h0:i<0
  ·have d0:decide (i<0)=true:=decide_eq_true h0
   clear hF hb tl hz he h0
   go_enter Tryz.func18,Tryz.ntmps18
   go_wp2_with (go_at_call 4;refine cA.mono ?_;rintro _ w1 ⟨rfl,hb1⟩;have y12:=(hY.out _ hb1).c12;simp only[Nat.zero_add] at y12;replace hb1:=Hid.mk hb1)
   go_ret
   exact⟨_,rfl,NRow.nil _ _,HB.out.trans (hb1.out.mono HB.out.size)⟩
  have d0:decide (i<0)=false:=decide_eq_false h0
  by_cases h1:i<f.toks.length
  ·have hat:isAtB f i=true:=by unfold isAtB;rw[hz];simp;omega
   obtain⟨b,t,rfl,ht,hp⟩:=hb.h hat
   have hil:=(List.getElem?_eq_some_iff.1 ht).1
   obtain⟨g,o,_,_,rfl,hg,_⟩:=tl.at ht
   have hili:(b:Int)<f.toks.length:=by omega
   have d1:decide ((f.toks.length:Int)<=b)=false:=by simp;omega
   have d1':decide (f.toks.length<=b)=false:=by simp;omega
   have hll:f.toks.length<=733007751850:=by have:=tl.len;omega
   have hT:Hid (∀ W',Below w.heap.size w W'->∃ pc cc,TkC W' g (o+b*21) t pc cc):=⟨fun W' hb=>by
    obtain⟨g',o',pc,cc,e,_,h1,_⟩:=(tl.below hb).at ht
    cases e
    exact⟨pc,cc,h1⟩⟩
   have hp':¬ (t.op=0\/t.op=4):=of_decide_eq_false hp
   have b0:(t.op != 0)=true:=by simp;omega
   have b4:(t.op != 4)=true:=by simp;omega
   have b0':(t.op==0)=false:=by simp;omega
   have b4':(t.op==4)=false:=by simp;omega
   clear hF hb hat hp hp' hz he h0 h1
   go_enter Tryz.func18,Tryz.ntmps18
   go_wp2_with (go_at_call 4;refine cA.mono ?_;rintro _ w1 ⟨rfl,hb1⟩;obtain⟨pc,cc,hTt⟩:=hT.out w1 (HB.out.trans (hb1.mono HB.out.size));have z0:=hTt.c0;have z8:=hTt.c8;have y12:=(hY.out _ hb1).c12;simp only[Nat.zero_add] at y12;clear hTt;replace hb1:=Hid.mk hb1)
   go_ret
   exact⟨_,rfl,NRow.nil _ _,HB.out.trans (hb1.out.mono HB.out.size)⟩
  ·have d1:decide (i≥(f.toks.length:Int))=true:=by simp;omega
   clear hF hb tl hz he
   go_enter Tryz.func18,Tryz.ntmps18
   go_wp2_with (go_at_call 4;refine cA.mono ?_;rintro _ w1 ⟨rfl,hb1⟩;have y12:=(hY.out _ hb1).c12;simp only[Nat.zero_add] at y12;replace hb1:=Hid.mk hb1)
   go_ret
   exact⟨_,rfl,NRow.nil _ _,HB.out.trans (hb1.out.mono HB.out.size)⟩
 ·have he:(errZ (chkZ f)==0)=false:=by
   cases hc:chkZ f with
   | none=>exact absurd hc hz
   | some x=>rfl
  have he':(errZ (chkZ f) != 0)=true:=by rw[bne,he];rfl
  clear hF hb tl hz
  generalize errZ (chkZ f)=e at he he' cA
  go_enter Tryz.func18,Tryz.ntmps18
  go_wp2_with (go_at_call 4;refine cA.mono ?_;rintro _ w1 ⟨rfl,hb1⟩;replace hb1:=Hid.mk hb1)
  go_ret
  exact⟨_,rfl,NRow.nil _ _,HB.out.trans (hb1.out.mono HB.out.size)⟩
theorem refParts_some (f:Fm) (i:Int) (b n:Nat) (t:Tk) (ks:List Nat) (pp:Option Addr) (cp:Nat) (w:World) (tl:TkL w pp w.heap.size f.toks) (cA:RefCkC w f pp cp) (hb:BegAt f i b n t) (ho:holdB t=true) (hk:Chn f.toks (b+1) ks n) (hkn:∀ k∈ks,b<k/\k<n) (hks:ks.Pairwise (· < ·)) :
  Calls Tryz.prog 18 #[fmV f pp cp,.int .i64 i] w fun r w'=>∃ v,r = .returned v/\NRow w' w.heap.size v ks/\Below w.heap.size w w':=by
 obtain⟨hz,rfl,ht,hn,hnl,hbn⟩:=hb
 have hil:=(List.getElem?_eq_some_iff.1 ht).1
 have hF:=fm_new w f pp cp
 have HB:Below w.heap.size w (w.alloc (fmO f pp cp)):=nbel _ _
 have HS:(w.alloc (fmO f pp cp)).heap.size=w.heap.size+1:=World.size_alloc _ _
 generalize hW:w.alloc (fmO f pp cp)=W at hF HB HS
 simp only[fmO] at hW
 replace cA:=cA W HB
 have F0:=hF.c0
 have F1:=hF.c1
 have F2:=hF.c2
 have F3:=hF.c3
 have F4:=hF.c4
 have F5:=hF.c5
 have F6:=hF.c6
 have F7:=hF.c7
 have F8:=hF.c8
 have F9:=hF.c9
 have F10:=hF.c10
 have F11:=hF.c11
 have F12:=hF.c12
 simp only[Nat.zero_add] at F1 F2 F3 F4 F5 F6 F7 F8 F9 F10 F11 F12
 have he:errZ (chkZ f)=0:=by rw[hz];rfl
 rw[he] at cA
 generalize atZ (chkZ f)=at_ at cA
 obtain⟨g,o,_,_,rfl,hg,_⟩:=tl.at ht
 have hili:(b:Int)<f.toks.length:=by omega
 have d0:decide ((b:Int)<0)=false:=by simp
 have d1:decide ((f.toks.length:Int)<=b)=false:=by simp;omega
 have d1':decide (f.toks.length<=b)=false:=by simp;omega
 have hT:Hid (∀ W',Below w.heap.size w W'->∀ k u,f.toks[k]?=some u->∃ pc cc,TkC W' g (o+k*21) u pc cc):=⟨fun W' hb k u hu=>by
  obtain⟨g',o',pc,cc,e,_,h1,_⟩:=(tl.below hb).at hu
  cases e
  exact⟨pc,cc,h1⟩⟩
 have hY:Hid (∀ W',Below W.heap.size W W'->FmC W' w.heap.size 0 f (some ⟨g,o,none⟩) cp):=⟨fun W' hb=>hF.below (by omega) hb⟩
 have hll:f.toks.length<=733007751850:=by have:=tl.len;omega
 have hw1:IntKind.i64.wrap ((b:Int)+1)=(b:Int)+1:=by rw[IntKind.wrap_i64];omega
 replace HB:=Hid.mk HB
 replace HS:=Hid.mk HS
 have hkl:Hid (ks.length<=n):=⟨rise_length hks fun k hk=>(hkn k hk).2⟩
 replace hks:=Hid.mk hks
 have ho':t.op=0\/t.op=4:=of_decide_eq_true ho
 have key:Hid (∀ Q:Bool->Bool->Prop,Q true false->Q false true->Q (t.op==0) (t.op==4)):=⟨fun Q h1 h2=>by rcases ho' with h|h<;>rw[h]<;>assumption⟩
 suffices hh:∀ x y:Bool,(t.op==0)=x->(t.op==4)=y->(t.op != 0) = !x->(t.op != 4) = !y->(x=true\/(x=false/\y=true))->Calls Tryz.prog 18 #[fmV f (some ⟨g,o,none⟩) cp,.int .i64 b] w fun r w'=>∃ v,r = .returned v/\NRow w' w.heap.size v ks/\Below w.heap.size w w' from
  hh _ _ rfl rfl rfl rfl (by rcases ho' with h|h<;>rw[h]<;>decide)
 intro x y hx hy hx' hy' hxy
 clear hF ho hz he ho' key
 rcases hxy with rfl|⟨rfl,rfl⟩
 all_goals
  simp only[Bool.not_true,Bool.not_false] at hx' hy'
  go_enter Tryz.func18,Tryz.ntmps18
  go_wp2_with (go_at_call 4;refine cA.mono ?_;rintro _ w1 ⟨rfl,hb1⟩;obtain⟨pc,cc,hTt⟩:=hT.out w1 (HB.out.trans (hb1.mono HB.out.size)) b t ht;have z0:=hTt.c0;have z8:=hTt.c8;have y12:=(hY.out _ hb1).c12;simp only[Nat.zero_add] at y12;clear hTt)
  clear F0 F1 F2 F3 F4 F5 F6 F7 F8 F9 F10 F11 F12 z0 z8 y12 cA
  replace hb1:=Hid.mk hb1
  go_loopw [8,5] (fun q8 q5 wr=>∃ (k:Nat) (ks1 ks2:List Nat),q8 = .int .i64 k/\k<=n/\Hid (ks=ks1++ks2/\Chn f.toks k ks2 n)/\Hid (NRow wr W.heap.size q5 ks1)/\Hid (Below W.heap.size W wr)) (fun q8 _ _=>n-(RowKit.intOf q8).toNat)
  case atStart=>exact⟨b+1,[],ks,by go_num,hbn,⟨rfl,hk⟩,⟨NRow.nil _ _⟩,⟨hb1.out⟩⟩
  case round =>
   obtain⟨k,ks1,ks2,rfl,hkn',hC,hI,hB⟩:=hrel
   have y12:=(hY.out _ hB.out).c12
   simp only[Nat.zero_add] at y12
   have hBw:=HB.out.trans (hB.out.mono HB.out.size)
   obtain⟨pc,cc,hTt⟩:=hT.out wr hBw b t ht
   have z20:=hTt.c20
   rw[hn] at z20
   have hn':Hid _:=⟨hn⟩
   clear hTt hn
   cases ks2 with
   | nil =>
    obtain⟨e1,e2⟩:=hC.out
    obtain rfl:k=n:=e2
    have hI2:=hI.out.low (base':=w.heap.size) (by have:=HS.out;omega)
    have e3:ks1=ks:=by rw[e1,List.append_nil]
    rw[e3] at hI2
    replace hI2:=Hid.mk hI2
    replace hBw:=Hid.mk hBw
    clear hC e1 e3
    go_wp2_with fail
    go_ret
    exact⟨_,rfl,hI2.out,hBw.out⟩
   | cons k' r =>
    obtain⟨e1,rfl,u,m,hu,hum,hC2⟩:=hC.out
    have hkm:=hkn k (by rw[e1];simp)
    have hlt:(k:Int)<n:=by omega
    have hkf:(k:Int)<f.toks.length:=by omega
    have hmn:m<n/\k<=m:=by
     cases r with
     | nil=>have:m+1=n:=hC2;omega
     | cons k2 r2 =>
      obtain rfl:m+1=k2:=hC2.1
      have h1:=hkn (m+1) (by rw[e1];simp)
      have h2:=hks.out
      rw[e1,List.pairwise_append,List.pairwise_cons] at h2
      have:=h2.2.1.1 (m+1) (by simp)
      omega
    have hrl:ks1.length+1<=977343669134:=by
     have h1:=hkl.out
     rw[e1,List.length_append,List.length_cons] at h1
     omega
    have e1':Hid (ks=(ks1++[k])++r):=⟨by rw[e1];simp⟩
    replace hC2:=Hid.mk hC2
    replace hBw:=Hid.mk hBw
    obtain⟨pu,cu,hTu⟩:=hT.out wr hBw.out k u hu
    have u20:=hTu.c20
    rw[hum] at u20
    clear hC hTu hum e1
    have hap:Hid _:=⟨n_ap k hI.out hrl (Nat.le_trans (Nat.le_refl _) hB.out.size)⟩
    have hw2:IntKind.i64.wrap ((m:Int)+1)=(m:Int)+1:=by rw[IntKind.wrap_i64];omega
    have G:Hid (∀ W',Below W.heap.size wr W'->W'.cell? ⟨w.heap.size,12,none⟩=some (.slice (some ⟨g,o,none⟩) f.toks.length cp)/\W'.cell? ⟨g,o+k*21+20,none⟩=some (.int .i64 (m:Int))):=⟨fun W' hb'=>⟨(hb'.cell (p:=⟨w.heap.size,12,none⟩) (by have:=HS.out;show w.heap.size<W.heap.size;omega)).trans y12,(hb'.cell (p:=⟨g,o+k*21+20,none⟩) (by have:=HS.out;show g<W.heap.size;omega)).trans u20⟩⟩
    go_wp2_with (at_builtin;go_must (refine(ap_step (by rfl) _ _ _ _ (by rfl) _ _ (by rfl) (by rfl) _ hap.out ?_));rintro v' w' ⟨q1,q2⟩;obtain⟨y12',u20'⟩:=G.out w' q2;replace q1:=Hid.mk q1;replace q2:=Hid.mk q2)
    go_roundw
    case rel=>exact⟨m+1,ks1++[k],r,by go_num,by omega,⟨e1'.out,hC2.out⟩,⟨q1.out⟩,⟨hB.out.trans q2.out⟩⟩
    case measure=>simp[RowKit.intOf];omega
def Lfd (r:Ending) (P:Prop) (c:Df) (w w':World) (D:Prop):Prop:=∃ b,r = .returned (.bool b)/\(b=true↔P)/\Kb [c.go] w w'/\(b=true->D)
theorem Lfd.no {P D:Prop} {c:Df} {w w':World} (h:¬ P) (hk:Kb [c.go] w w'):Lfd (.returned (.bool false)) P c w w' D:=⟨false,rfl,by simp[h],hk,fun e=>by cases e⟩
theorem Lfd.yes {P D:Prop} {c:Df} {w w':World} (h:P) (hk:Kb [c.go] w w') (hd:D):Lfd (.returned (.bool true)) P c w w' D:=⟨true,rfl,by simp[h],hk,fun _=>hd⟩
theorem Kb.drewM {E:List Nat} {a b:World} (h:Kb E a b) (n:Nat):Kb E a (b.drewN n):=⟨h.os,h.tape,h.output,h.size,h.block⟩
def Lfg (r:Ending) (P:Prop) (c:Df) (w w':World) (D:Prop):Prop:=∃ b,r = .returned (.bool b)/\(b=true↔P)/\(b=false->Below w.heap.size w w')/\Kb [c.go] w w'/\(b=true->D)
theorem Lfg.no {P D:Prop} {c:Df} {w w':World} (h:¬ P) (hb:Below w.heap.size w w'):Lfg (.returned (.bool false)) P c w w' D:=⟨false,rfl,by simp[h],fun _=>hb,Kb.of_below hb,fun e=>by cases e⟩
theorem Lfg.yes {P D:Prop} {c:Df} {w w':World} (h:P) (hk:Kb [c.go] w w') (hd:D):Lfg (.returned (.bool true)) P c w w' D:=⟨true,rfl,by simp[h],(fun e=>by cases e),hk,fun _=>hd⟩
end Go.Proofs.YtjnafpefolgcoaaGreatDoor
