import Derived.Test.YtjnafpefolgcoaaGreatDoorK24
import Derived.Test.YtjnafpefolgcoaaGreatDoorK07
import Derived.RangeFuncNested
import Derived.OwnWalkIn
import Derived.TacticsInMore
import Derived.LoopNIn
import Derived.LoopIn
namespace Go.Proofs.YtjnafpefolgcoaaGreatDoor
set_option maxRecDepth 1000000
set_option maxHeartbeats 16000000
open Go.ChangeShapes Go.WideShapes Go.ChangeAt Go.RowKit Go.Shelf Go.Maps
theorem check_none (f:Fm) (pp:Option Addr) (cp:Nat) (w:World) (hf:f.toks=[]) (kt:KT w) :
  Calls Tryz.prog 21 #[fmV f pp cp] w fun r w'=>r = .returned (fltV (chkZ f))/\Below w.heap.size w w':=by
 replace hf:=Hid.mk hf
 have hX:((w.alloc (fmO f pp cp)).alloc (.cells #[.int .i64 0,.int .i64 0] 63)).heap[w.heap.size]?=some (fmO f pp cp):=by
  show ((w.heap.push _).push _)[w.heap.size]?=_
  rw[Array.getElem?_push,if_neg (by simp),Array.getElem?_push,if_pos rfl]
 have hY:((w.alloc (fmO f pp cp)).alloc (.cells #[.int .i64 0,.int .i64 0] 63)).heap[w.heap.size+1]?=some (.cells #[.int .i64 0,.int .i64 0] 63):=by
  show ((w.heap.push _).push _)[w.heap.size+1]?=_
  rw[Array.getElem?_push,if_pos (by simp)]
 have HB:Below w.heap.size w ((w.alloc (fmO f pp cp)).alloc (.cells #[.int .i64 0,.int .i64 0] 63)):=(bel1 w _).alloc (by simp) _
 have HS:((w.alloc (fmO f pp cp)).alloc (.cells #[.int .i64 0,.int .i64 0] 63)).heap.size=w.heap.size+2:=by simp
 generalize hW:(w.alloc (fmO f pp cp)).alloc (.cells #[.int .i64 0,.int .i64 0] 63)=W at hX hY HB HS
 simp only[fmO] at hW
 have hF:FmC W w.heap.size 0 f pp cp:=⟨cell_at hX 0,cell_at hX 1,cell_at hX 2,cell_at hX 3,cell_at hX 4,cell_at hX 5,cell_at hX 6,cell_at hX 7,cell_at hX 8,cell_at hX 9,cell_at hX 10,cell_at hX 11,cell_at hX 12⟩
 have cH:=isHeaded_any f w.heap.size 0 pp cp W (kt.up HB) (by omega) hF
 replace cH:=Hid.mk cH
 replace hX:=Hid.mk hX
 replace hY:=Hid.mk hY
 replace hF:=Hid.mk hF
 replace HB:=Hid.mk HB
 cases hhd:headB f with
 | false =>
  have hz:chkZ f=some (-1):=by unfold chkZ;rw[hhd];rfl
  rw[hz]
  rw[hhd] at cH
  clear hhd hz
  go_enter Tryz.func21,Tryz.ntmps21
  go_wp2_with (go_at_call 42;refine cH.out.mono ?_;rintro _ w1 ⟨rfl,hb⟩;have y1:=(hb.block (w.heap.size+1) (by omega)).trans hY.out;have y10:=cell_at y1 0;have y11:=cell_at y1 1;have yf:∀ k,w1.frozen? ⟨w.heap.size+1,k,none⟩=false:=(fun k=>by simp[World.frozen?,y1]);replace y1:=Hid.mk y1;replace hb:=Hid.mk hb)
  refine bodyPost_ret (results_cell_row rfl _ _ (w.heap.size+1) 63 #[.int .i64 121,.int .i64 (-1)] (0,0) _ rfl (flt_set _ _ y1.out) Tryz.underlying63 rfl infoFt) rfl ⟨rfl,?_⟩
  exact((HB.out.trans (hb.out.mono HB.out.size)).setCell (p:=⟨w.heap.size+1,0,none⟩) (by show w.heap.size<=w.heap.size+1;omega) _).setCell (p:=⟨w.heap.size+1,1,none⟩) (by show w.heap.size<=w.heap.size+1;omega) _
 | true =>
  have hz:chkZ f=runZ f f.toks 0 ⟨[],[]⟩:=by unfold chkZ;rw[hhd];rfl
  rw[hz]
  rw[hhd] at cH
  clear hhd hz
  have hZ:runZ f f.toks 0 ⟨[],[]⟩=some 0:=by rw[hf.out,runZ,if_pos (.inl rfl)];rfl
  rw[hZ]
  clear hZ
  replace kt:=Hid.mk kt
  go_enter Tryz.func21,Tryz.ntmps21
  go_wp2_with (first
   | (go_at_call 42;refine cH.out.mono ?_;rintro _ w1 ⟨rfl,hb⟩;replace hb:=Hid.mk hb)
   | (go_at_call 43;refine(newChecker_any w.heap.size w1).mono ?_;rintro _ w2 ⟨rfl,hck,hrl,hm1,hm2,hm3,hs2,hb2⟩;replace hck:=Hid.mk hck;replace hrl:=Hid.mk hrl;replace hm1:=Hid.mk hm1;replace hm2:=Hid.mk hm2;replace hm3:=Hid.mk hm3;replace hs2:=Hid.mk hs2;replace hb2:=Hid.mk hb2))
  have hw1:=hb.out.size
  have hb02:Below w.heap.size w w2:=HB.out.trans ((hb.out.trans (hb2.out.mono hw1)).mono HB.out.size)
  have hF2:=(hF.out.below (by omega) hb.out).below (Nat.lt_of_lt_of_le (by omega:w.heap.size<W.heap.size) hw1) hb2.out
  have hY2:=(hb2.out.block (w.heap.size+1) (by omega)).trans ((hb.out.block (w.heap.size+1) (by omega)).trans hY.out)
  have k2:=hck.out.ck.c2
  have k23:=hck.out.ck.c23
  have m12:w2.cell? ⟨w.heap.size,12,none⟩=some (.slice pp 0 cp):=by have:=hF2.c12;rw[hf.out] at this;exact this
  have hY0:=cell_at hY2 0
  have hY1:=cell_at hY2 1
  have yf:∀ k,w2.frozen? ⟨w.heap.size+1,k,none⟩=false:=fun k=>by simp[World.frozen?,hY2]
  replace hF2:=Hid.mk hF2
  replace hY2:=Hid.mk hY2
  replace hb02:=Hid.mk hb02
  go_loopw [4] (fun u wr=>wr=w2/\u=u) (fun _ _=>0)
  case atStart=>exact⟨rfl,rfl⟩
  case round =>
   obtain⟨hwr,-⟩:=hrel
   obtain rfl:w2=wr:=hwr.symm
   go_wp2_with fail
   go_quiet (fail)
   go_wp2_with fail
   refine bodyPost_ret (results_cell_row rfl _ _ (w.heap.size+1) 63 #[.int .i64 121,.int .i64 0] (0,0) _ rfl (flt_set (w:=w2.drewN nq) _ _ hY2.out) Tryz.underlying63 rfl infoFt) rfl ⟨rfl,?_⟩
   exact tdr ((hb02.out.setCell (p:=⟨w.heap.size+1,0,none⟩) (by show w.heap.size<=w.heap.size+1;omega) _).setCell (p:=⟨w.heap.size+1,1,none⟩) (by show w.heap.size<=w.heap.size+1;omega) _)
theorem check_any (f:Fm) (pp:Option Addr) (cp:Nat) (w:World) (tl:TkL w pp w.heap.size f.toks) (kt:KT w) (mt:MT w) :
  Calls Tryz.prog 21 #[fmV f pp cp] w fun r w'=>r = .returned (fltV (chkZ f))/\Below w.heap.size w w':=by
 cases hf:f.toks with
 | nil=>exact check_none f pp cp w hf kt
 | cons t r =>
  obtain⟨g,o,pc,cc,rfl,hg,_⟩:=tl.at (i:=0) (by rw[hf];rfl)
  exact check_some f g o cp w tl hg kt mt
def errZ (z:Option Int):Int:=match z with
 | none=>0
 | some _=>121
def atZ (z:Option Int):Int:=match z with
 | none=>0
 | some a=>a
theorem flt_eq (z:Option Int):fltV z = .agg #[.int .i64 (errZ z),.int .i64 (atZ z)]:=by cases z<;>rfl
theorem Check_any (f:Fm) (pp:Option Addr) (cp:Nat) (w:World) (tl:TkL w pp w.heap.size f.toks) (kt:KT w) (mt:MT w) :
  Calls Tryz.prog 8 #[fmV f pp cp] w fun r w'=>r = .returned (.tuple #[.int .i64 (errZ (chkZ f)),.int .i64 (atZ (chkZ f))])/\Below w.heap.size w w':=by
 have c:∀ W,Below w.heap.size w W->Calls Tryz.prog 21 #[fmV f pp cp] W fun r w'=>r = .returned (.agg #[.int .i64 (errZ (chkZ f)),.int .i64 (atZ (chkZ f))])/\Below W.heap.size W w':=fun W hb=>by
  have:=check_any f pp cp W ((tl.below hb).mono hb.size) (kt.up hb) (mt.below mt.pos hb)
  rwa [flt_eq] at this
 replace c:=Hid.mk c
 clear tl kt mt
 generalize errZ (chkZ f)=e at c ⊢
 generalize atZ (chkZ f)=a at c ⊢
 go_enter Tryz.func8,Tryz.ntmps8
 go_wp2_with (go_at_call 21;refine(c.out _ (bel1 _ _)).mono ?_;rintro _ w1 ⟨rfl,hb⟩;replace hb:=Hid.mk hb)
 have v0:=cell_at (heap_al w1 (.cells #[.int .i64 e,.int .i64 a] 63)) 0
 have v1:=cell_at (heap_al w1 (.cells #[.int .i64 e,.int .i64 a] 63)) 1
 go_quiet (fail)
 go_wp2_with fail
 go_ret2
 exact⟨rfl,tdr (((bel1 w _).trans (hb.out.mono (bel1 w _).size)).alloc (Nat.le_trans (bel1 w _).size hb.out.size) _)⟩
def isAtB (f:Fm) (i:Int):Bool:=decide (0<=i/\i<f.toks.length)&&decide (chkZ f=none)
structure BegAt (f:Fm) (i:Int) (b n:Nat) (t:Tk):Prop where
 z:chkZ f=none
 ei:i=(b:Int)
 et:f.toks[b]?=some t
 en:t.pair=(n:Int)
 nl:n<f.toks.length
 bn:b<n
structure NotAt (f:Fm) (i:Int) (p:Tk->Bool):Prop where
 h:isAtB f i=true->∃ (b:Nat) (t:Tk),i=b/\f.toks[b]?=some t/\p t=false
def holdB (t:Tk):Bool:=decide (t.op=0\/t.op=4)
theorem rise_from:∀ {ks:List Nat} {lo n:Nat},ks.Pairwise (· < ·)->(∀ k∈ks,lo<=k/\k<n)->ks.length<=n-lo
 | [],_,_,_,_=>Nat.zero_le _
 | k::r,lo,n,h,hn=>by
  obtain⟨h1,h2⟩:=List.pairwise_cons.1 h
  have:=rise_from (lo:=k+1) (n:=n) h2 (fun j hj=>⟨h1 j hj,(hn j (List.mem_cons_of_mem _ hj)).2⟩)
  have:=hn k (List.mem_cons_self ..)
  simp only[List.length_cons]
  omega
theorem rise_length {ks:List Nat} {n:Nat} (h:ks.Pairwise (· < ·)) (hn:∀ k∈ks,k<n):ks.length<=n:=rise_from (lo:=0) h fun k hk=>⟨Nat.zero_le _,hn k hk⟩
def PartsOf (f:Fm) (i:Int) (ks:List Nat):Prop :=
 (∃ b n t,BegAt f i b n t/\holdB t=true/\Chn f.toks (b+1) ks n/\(∀ k∈ks,b<k/\k<n)/\ks.Pairwise (· < ·))\/(NotAt f i holdB/\ks=[])
theorem isAt_iff {f:Fm} {i:Int}:isAtB f i=true↔chkZ f=none/\∃ (b:Nat) (t:Tk),i=b/\f.toks[b]?=some t:=by
 unfold isAtB
 rw[Bool.and_eq_true,decide_eq_true_iff,decide_eq_true_iff]
 constructor
 ·rintro⟨⟨h0,h1⟩,h2⟩
  refine⟨h2,i.toNat,f.toks[i.toNat]'(by omega),by omega,List.getElem?_eq_getElem _⟩
 ·rintro⟨h2,b,t,rfl,ht⟩
  have:=(List.getElem?_eq_some_iff.1 ht).1
  exact⟨⟨by omega,by omega⟩,h2⟩
theorem begAt_of {f:Fm} {b:Nat} {t:Tk} (hz:chkZ f=none) (ht:f.toks[b]?=some t) (hg:bgO t.op=true):∃ n ks,BegAt f b b n t/\Chn f.toks (b+1) ks n/\(∀ k∈ks,b<k/\k<n)/\ks.Pairwise (· < ·):=by
 obtain⟨n,ks,h1,h2,h3,h4,h5⟩:=valid_kids hz ht hg
 refine⟨n,ks,⟨hz,rfl,ht,h1,h2,?_⟩,h3,h4,h5⟩
 cases ks with
 | nil=>have:b+1=n:=h3;omega
 | cons k r=>have:=h4 k (List.mem_cons_self ..);omega
theorem parts_ex (f:Fm) (i:Int):∃ ks,PartsOf f i ks:=by
 cases h:isAtB f i with
 | false=>exact⟨[],.inr ⟨⟨fun e=>by rw[h] at e;cases e⟩,rfl⟩⟩
 | true =>
  obtain⟨hz,b,t,rfl,ht⟩:=isAt_iff.1 h
  cases hp:holdB t with
  | false=>exact⟨[],.inr ⟨⟨fun _=>⟨b,t,rfl,ht,hp⟩⟩,rfl⟩⟩
  | true =>
   have hb:bgO t.op=true:=by
    unfold holdB at hp
    rcases of_decide_eq_true hp with h|h<;>rw[h]<;>rfl
   obtain⟨n,ks,h1,h2⟩:=begAt_of hz ht hb
   exact⟨ks,.inl ⟨b,n,t,h1,hp,h2⟩⟩
theorem parts_len {f:Fm} {i:Int} {ks:List Nat} (h:PartsOf f i ks):ks.length<=f.toks.length:=by
 rcases h with ⟨b,n,t,h1,_,_,h2,h3⟩|⟨_,rfl⟩
 ·have:=rise_length h3 (fun k hk=>(h2 k hk).2);have:=h1.nl;omega
 ·exact Nat.zero_le _
theorem isAt_any (f:Fm) (i:Int) (pp:Option Addr) (cp:Nat) (w:World) (tl:TkL w pp w.heap.size f.toks) (kt:KT w) (mt:MT w) :
  Calls Tryz.prog 46 #[fmV f pp cp,.int .i64 i] w fun r w'=>r = .returned (.bool (isAtB f i))/\Below w.heap.size w w':=by
 have c:∀ W,Below w.heap.size w W->Calls Tryz.prog 8 #[fmV f pp cp] W fun r w'=>r = .returned (.tuple #[.int .i64 (errZ (chkZ f)),.int .i64 (atZ (chkZ f))])/\Below W.heap.size W w':=fun W hb=>Check_any f pp cp W ((tl.below hb).mono hb.size) (kt.up hb) (mt.below mt.pos hb)
 replace c:=Hid.mk c
 have hE:(errZ (chkZ f)==0)=decide (chkZ f=none):=by cases hz:chkZ f<;>simp[errZ]
 clear tl kt mt
 unfold isAtB
 by_cases h0:i<0
 ·have d0:decide (i<0)=true:=by simp;omega
  go_enter Tryz.func46,Tryz.ntmps46
  go_wp2_with fail
  go_ret
  exact⟨rb (by simp;omega),bel1 _ _⟩
 have d0:decide (i<0)=false:=by simp;omega
 by_cases h1:i<f.toks.length
 ·have d1:decide (i≥(f.toks.length:Int))=false:=by simp;omega
  generalize errZ (chkZ f)=e at c hE
  generalize atZ (chkZ f)=a at c
  go_enter Tryz.func46,Tryz.ntmps46
  go_wp2_with (go_at_call 8;refine(c.out _ (bel1 _ _)).mono ?_;rintro _ w1 ⟨rfl,hb⟩;replace hb:=Hid.mk hb)
  go_ret
  exact⟨rb (by have h3:0<=i/\i<f.toks.length:=(by omega);simp[h3]),(bel1 w _).trans (hb.out.mono (bel1 w _).size)⟩
 ·have d1:decide (i≥(f.toks.length:Int))=true:=by simp;omega
  go_enter Tryz.func46,Tryz.ntmps46
  go_wp2_with fail
  go_ret
  exact⟨rb (by simp;omega),bel1 _ _⟩
def IsAtC (w:World) (f:Fm) (i:Int) (pp:Option Addr) (cp:Nat):Prop:=∀ W,Below w.heap.size w W->Calls Tryz.prog 46 #[fmV f pp cp,.int .i64 i] W fun r w'=>r = .returned (.bool (isAtB f i))/\Below W.heap.size W w'
theorem holdsParts_at (op:Int) (w:World):Calls Tryz.prog 47 #[.int .i64 op] w fun r w'=>r = .returned (.bool (decide (op=0\/op=4)))/\w'=w:=by
 by_cases h0:op=0
 ·subst h0
  go_enter Tryz.func47,Tryz.ntmps47
  go_wp2_with fail
  go_ret
  exact⟨rfl,rfl⟩
 ·by_cases h4:op=4
  ·subst h4
   go_enter Tryz.func47,Tryz.ntmps47
   go_wp2_with fail
   go_ret
   exact⟨rfl,rfl⟩
  ·have b0:(op==0)=false:=beq_eq_false_iff_ne.2 h0
   have b4:(op==4)=false:=beq_eq_false_iff_ne.2 h4
   have hb:Hid (decide (op=0\/op=4)=false):=⟨by simp[h0,h4]⟩
   clear h0 h4
   go_enter Tryz.func47,Tryz.ntmps47
   go_wp2_with fail
   go_ret
   exact⟨by rw[hb.out];rfl,rfl⟩
theorem parts_some (f:Fm) (i:Int) (b n:Nat) (t:Tk) (ks:List Nat) (pp:Option Addr) (cp:Nat) (w:World) (tl:TkL w pp w.heap.size f.toks) (cA:IsAtC w f i pp cp) (hb:BegAt f i b n t) (ho:holdB t=true) (hk:Chn f.toks (b+1) ks n) (hkn:∀ k∈ks,b<k/\k<n) (hks:ks.Pairwise (· < ·)) :
  Calls Tryz.prog 22 #[fmV f pp cp,.int .i64 i] w fun r w'=>∃ v,r = .returned v/\NRow w' w.heap.size v ks/\Below w.heap.size w w':=by
 obtain⟨hz,rfl,ht,hn,hnl,hbn⟩:=hb
 have hil:=(List.getElem?_eq_some_iff.1 ht).1
 obtain⟨g,o,_,_,rfl,hg,_⟩:=tl.at ht
 have hili:(b:Int)<f.toks.length:=by omega
 have hF:=fm_new w f (some ⟨g,o,none⟩) cp
 have HB:Below w.heap.size w (w.alloc (fmO f (some ⟨g,o,none⟩) cp)):=nbel _ _
 have HS:(w.alloc (fmO f (some ⟨g,o,none⟩) cp)).heap.size=w.heap.size+1:=World.size_alloc _ _
 generalize hW:w.alloc (fmO f (some ⟨g,o,none⟩) cp)=W at hF HB HS
 simp only[fmO] at hW
 replace cA:=cA W HB
 have hat:isAtB f b=true:=isAt_iff.2 ⟨hz,b,t,rfl,ht⟩
 rw[hat] at cA
 have F0:=hF.c0
 have F1:=hF.c1
 have F2:=hF.c2
 have F3:=hF.c3
 have F4:=hF.c4
 have F5:=hF.c5
 have F6:=hF.c6
 have F7:=hF.c7
 have F8:=hF.c8
 have F9:=hF.c9
 have F10:=hF.c10
 have F11:=hF.c11
 have F12:=hF.c12
 simp only[Nat.zero_add] at F1 F2 F3 F4 F5 F6 F7 F8 F9 F10 F11 F12
 have hT:Hid (∀ W',Below w.heap.size w W'->∀ k u,f.toks[k]?=some u->∃ pc cc,TkC W' g (o+k*21) u pc cc):=⟨fun W' hb k u hu=>by
  obtain⟨g',o',pc,cc,e,_,h1,_⟩:=(tl.below hb).at hu
  cases e
  exact⟨pc,cc,h1⟩⟩
 have hY:Hid (∀ W',Below W.heap.size W W'->FmC W' w.heap.size 0 f (some ⟨g,o,none⟩) cp):=⟨fun W' hb=>hF.below (by omega) hb⟩
 have cP:=fun W'=>holdsParts_at t.op W'
 rw[show decide (t.op=0\/t.op=4)=true from ho] at cP
 have hll:f.toks.length<=733007751850:=by have:=tl.len;omega
 have hw1:IntKind.i64.wrap ((b:Int)+1)=(b:Int)+1:=by rw[IntKind.wrap_i64];omega
 replace HB:=Hid.mk HB
 replace HS:=Hid.mk HS
 have hkl:Hid (ks.length<=n):=⟨rise_length hks fun k hk=>(hkn k hk).2⟩
 replace hks:=Hid.mk hks
 clear hF ho hat hz
 go_enter Tryz.func22,Tryz.ntmps22
 go_wp2_with (first
  | (go_at_call 46;refine cA.mono ?_;rintro _ w1 ⟨rfl,hb1⟩;obtain⟨pc,cc,hTt⟩:=hT.out w1 (HB.out.trans (hb1.mono HB.out.size)) b t ht;have z0:=hTt.c0;have y12:=(hY.out _ hb1).c12;simp only[Nat.zero_add] at y12;clear hTt)
  | (go_at_call 47;refine(cP _).mono ?_;rintro _ wq ⟨rfl,e⟩;obtain rfl:w1=wq:=e.symm))
 clear F0 F1 F2 F3 F4 F5 F6 F7 F8 F9 F10 F11 F12 z0 y12 cP cA
 replace hb1:=Hid.mk hb1
 go_loopw [6,5] (fun q6 q5 wr=>∃ (k:Nat) (ks1 ks2:List Nat),q6 = .int .i64 k/\k<=n/\Hid (ks=ks1++ks2/\Chn f.toks k ks2 n)/\Hid (NRow wr W.heap.size q5 ks1)/\Hid (Below W.heap.size W wr)) (fun q6 _ _=>n-(RowKit.intOf q6).toNat)
 case atStart=>exact⟨b+1,[],ks,by go_num,hbn,⟨rfl,hk⟩,⟨NRow.nil _ _⟩,⟨hb1.out⟩⟩
 case round =>
  obtain⟨k,ks1,ks2,rfl,hkn',hC,hI,hB⟩:=hrel
  have y12:=(hY.out _ hB.out).c12
  simp only[Nat.zero_add] at y12
  have hBw:=HB.out.trans (hB.out.mono HB.out.size)
  obtain⟨pc,cc,hTt⟩:=hT.out wr hBw b t ht
  have z20:=hTt.c20
  rw[hn] at z20
  have hn':Hid _:=⟨hn⟩
  clear hTt hn
  cases ks2 with
  | nil =>
   obtain⟨e1,e2⟩:=hC.out
   obtain rfl:k=n:=e2
   have hI2:=hI.out.low (base':=w.heap.size) (by have:=HS.out;omega)
   have e3:ks1=ks:=by rw[e1,List.append_nil]
   rw[e3] at hI2
   replace hI2:=Hid.mk hI2
   replace hBw:=Hid.mk hBw
   clear hC e1 e3
   go_wp2_with fail
   go_ret
   exact⟨_,rfl,hI2.out,hBw.out⟩
  | cons k' r =>
   obtain⟨e1,rfl,u,m,hu,hum,hC2⟩:=hC.out
   have hkm:=hkn k (by rw[e1];simp)
   have hlt:(k:Int)<n:=by omega
   have hkf:(k:Int)<f.toks.length:=by omega
   have hmn:m<n/\k<=m:=by
    cases r with
    | nil=>have:m+1=n:=hC2;omega
    | cons k2 r2 =>
     obtain rfl:m+1=k2:=hC2.1
     have h1:=hkn (m+1) (by rw[e1];simp)
     have h2:=hks.out
     rw[e1,List.pairwise_append,List.pairwise_cons] at h2
     have:=h2.2.1.1 (m+1) (by simp)
     omega
   have hrl:ks1.length+1<=977343669134:=by
    have h1:=hkl.out
    rw[e1,List.length_append,List.length_cons] at h1
    omega
   have e1':Hid (ks=(ks1++[k])++r):=⟨by rw[e1];simp⟩
   replace hC2:=Hid.mk hC2
   replace hBw:=Hid.mk hBw
   obtain⟨pu,cu,hTu⟩:=hT.out wr hBw.out k u hu
   have u20:=hTu.c20
   rw[hum] at u20
   clear hC hTu hum e1
   have hap:Hid _:=⟨n_ap k hI.out hrl (Nat.le_trans (Nat.le_refl _) hB.out.size)⟩
   have hw2:IntKind.i64.wrap ((m:Int)+1)=(m:Int)+1:=by rw[IntKind.wrap_i64];omega
   have G:Hid (∀ W',Below W.heap.size wr W'->W'.cell? ⟨w.heap.size,12,none⟩=some (.slice (some ⟨g,o,none⟩) f.toks.length cp)/\W'.cell? ⟨g,o+k*21+20,none⟩=some (.int .i64 (m:Int))):=⟨fun W' hb'=>⟨(hb'.cell (p:=⟨w.heap.size,12,none⟩) (by have:=HS.out;show w.heap.size<W.heap.size;omega)).trans y12,(hb'.cell (p:=⟨g,o+k*21+20,none⟩) (by have:=HS.out;show g<W.heap.size;omega)).trans u20⟩⟩
   go_wp2_with (at_builtin;go_must (refine(ap_step (by rfl) _ _ _ _ (by rfl) _ _ (by rfl) (by rfl) _ hap.out ?_));rintro v' w' ⟨q1,q2⟩;obtain⟨y12',u20'⟩:=G.out w' q2;replace q1:=Hid.mk q1;replace q2:=Hid.mk q2)
   go_roundw
   case rel=>exact⟨m+1,ks1++[k],r,by go_num,by omega,⟨e1'.out,hC2.out⟩,⟨q1.out⟩,⟨hB.out.trans q2.out⟩⟩
   case measure=>simp[RowKit.intOf];omega
namespace J
theorem drop_at {α:Type} {l:List α} {j:Nat} {a:α} (h:l[j]?=some a):l.drop j=a::l.drop (j+1):=by
 obtain⟨h1,h2⟩:=List.getElem?_eq_some_iff.1 h
 rw[List.drop_eq_getElem_cons h1,h2]
end J
namespace J
end J
namespace J
end J
namespace J
end J
namespace J
abbrev fmC (f:Fm) (pp:Option Addr) (cp:Nat):Array Value:=#[.int .i64 f.ord,.int .i64 f.sch,.int .i64 f.ver,.int .i64 f.hsz,.int .i64 f.hb.p,.int .i64 f.hb.o,.int .i64 f.ht.p,.int .i64 f.ht.o,.int .i64 f.hs.p,.int .i64 f.hs.o,.int .i64 f.hv.p,.int .i64 f.hv.o,.slice pp f.toks.length cp]
end J
namespace J
end J
namespace J
theorem lx_ld {P:Program} {ops:Array Oper} {C:World->Prop} {Q:Exit->Act->World->Prop} {d:Option Tmp} {t ty:TypeId} {x:Operand} {ps:String} {af:Array Edge} {gd:Option (Nat×Bool)} {r:List Oper} {a:Act} {w:World} {p v:Value}
  (hl:∀ W,C W->(Instr.loadAt t p).run P W = .ok v W) (hx:a.eval x=p) (hw:Region.wanted ⟨d,.load t x,ty,ps,af,gd⟩ (yielded ops a.tmps)=true) (h:Lx P ops C Q r (a.put d v) w):Lx P ops C Q (⟨d,.load t x,ty,ps,af,gd⟩::r) a w :=
 lx_read hw rfl fun K hK=>⟨v,fun W hW=>by
  unfold Oper.quietAt execOp
  simp only[hx,hl W hW,Sem.run_bind,Result.andThen_ok,Sem.run_pure]
  exact⟨rfl,rfl⟩,hK _ h⟩
theorem fm_of {w:World} {g:Nat} {f:Fm} {pp:Option Addr} {cp:Nat} (h:w.heap[g]?=some (fmO f pp cp)):FmC w g 0 f pp cp :=
 ⟨cell_at h 0,cell_at h 1,cell_at h 2,cell_at h 3,cell_at h 4,cell_at h 5,cell_at h 6,cell_at h 7,cell_at h 8,cell_at h 9,cell_at h 10,cell_at h 11,cell_at h 12⟩
end J
namespace J
theorem own_ge {w:World} {base:Nat} {e:TypeId} {size:Nat} {v:Value} {n:Nat} {xs:List Value} (h:w.ownsRow base e size v n xs):∀ k,v.ownBlock=some k->base<=k:=fun k hk=>(h.lt k hk).1
theorem ownsRow_below {w w':World} {base:Nat} {e:TypeId} {size:Nat} {v:Value} {n:Nat} {xs:List Value} (h:w.ownsRow base e size v n xs) (hb:Below w.heap.size w w'):w'.ownsRow base e size v n xs:=by
 refine World.ownsRow.kept (row:=none) h ⟨hb.os,hb.tape,hb.output,hb.size,fun k hk _=>hb.block k hk⟩ ?_
 cases hv:v.ownBlock<;>simp
theorem own_base {w:World} {base base':Nat} {e:TypeId} {size:Nat} {v:Value} {n:Nat} {xs:List Value} (h:w.ownsRow base e size v n xs) (hb:∀ k,v.ownBlock=some k->base'<=k):w.ownsRow base' e size v n xs:=by
 refine⟨h.1,?_⟩
 rcases h.2 with hn|⟨g,cap,cur,rfl,_,rest⟩
 ·exact .inl hn
 ·exact .inr ⟨g,cap,cur,rfl,hb g rfl,rest⟩
theorem own_cap {w:World} {base:Nat} {e:TypeId} {size:Nat} {pp:Option Addr} {n cap:Nat} {xs:List Value} (h:w.ownsRow base e size (.slice pp n cap) n xs) (hn:0<n):n<=cap:=by
 rcases h.2 with ⟨_,h0⟩|⟨g,cp,cur,hv,_,_,hc,_⟩
 ·omega
 ·injection hv with _ _ h3
  omega
theorem addr0 (g k:Nat):(⟨g,0,none⟩:Addr).add k=⟨g,k,none⟩:=by unfold Addr.add;split<;>simp_all
theorem addrk (g o k:Nat):(⟨g,o,none⟩:Addr).add k=⟨g,o+k,none⟩:=by unfold Addr.add;split<;>simp_all
theorem tinfo {t:TypeId} {z:Value} {s b:Nat} (h:(Tryz.prog.info? t).map (fun i=>(i.zero,i.size,i.bytes))=some (some z,s,b)):∃ i,Tryz.prog.info? t=some i/\i.zero=some z/\i.size=s/\i.bytes=b:=by
 obtain⟨i,hi,hz⟩:=Option.map_eq_some_iff.1 h
 simp only[Prod.mk.injEq] at hz
 exact⟨i,hi,hz.1,hz.2.1,hz.2.2⟩
abbrev zTk:Value:=.agg #[.int .i64 0,.string ⟨#[]⟩,.int .i64 0,.int .i64 0,.int .i64 0,.int .i64 0,.int .i64 0,.int .i64 0,.int .i64 0,.int .u64 0,.int .u64 0,.int .u64 0,.slice none 0 0,.int .u64 0,.int .i64 0,.int .i64 0,.int .i64 0,.int .i64 0,.int .i64 0,.int .i64 0,.int .i64 0]
theorem infoUK:(Tryz.prog.info? 50).map (fun i=>(i.zero,i.size,i.bytes))=some (some (.int .u64 0),1,8):=by kernel_rfl
theorem infoTkK:(Tryz.prog.info? 53).map (fun i=>(i.zero,i.size,i.bytes))=some (some zTk,21,192):=by kernel_rfl
abbrev uC (l:List Int):List Value:=l.map fun x=>Value.int .u64 x
theorem uC_one (l:List Int):∀ u∈uC l,u.oneCell'=true:=by
 intro u hu
 obtain⟨x,_,rfl⟩:=List.mem_map.1 hu
 rfl
theorem _root_.Go.Proofs.YtjnafpefolgcoaaGreatDoor.URow.news {w:World} {ad:Addr} {H:Nat} {l:List Int} (h:URow w (some ad) H l):∀ j u,(uC l)[j]?=some u->w.cell? (ad.add j)=some u:=by
 intro j u hu
 rw[List.getElem?_map] at hu
 cases hx:l[j]? with
 | none=>rw[hx] at hu;cases hu
 | some x =>
  rw[hx] at hu
  cases hu
  obtain⟨g,o,e,_,hc⟩:=h.c j x hx
  cases e
  rw[addrk]
  exact hc
theorem _root_.Go.Proofs.YtjnafpefolgcoaaGreatDoor.URow.of_own {w:World} {base g cap n H:Nat} {l m:List Int} (h:w.ownsRow base 50 1 (.slice (some ⟨g,0,none⟩) n cap) n (uC (l++m))) (hg:g<H):URow w (some ⟨g,0,none⟩) H l :=
 ⟨fun i t ht=>by
  have hti:(l++m)[i]?=some t:=by rw[List.getElem?_append_left (List.getElem?_eq_some_iff.1 ht).1];exact ht
  have hc:=World.ownsRow.cells h (g:=g) rfl i (.int .u64 t) (by rw[List.getElem?_map,hti];rfl)
  rw[addr0] at hc
  exact⟨g,0,rfl,hg,by rw[Nat.zero_add];exact hc⟩⟩
structure TkP where
 t:Tk
 g:Nat
 c:Nat
abbrev TkP.cs (x:TkP):List Value:=tkC x.t (some ⟨x.g,0,none⟩) x.c
def tpC (ps:List TkP):List Value:=ps.flatMap TkP.cs
theorem tpC_snoc (ps:List TkP) (x:TkP):tpC (ps++[x])=tpC ps++x.cs:=by
 unfold tpC
 rw[List.flatMap_append]
 simp
theorem tpC_length (ps:List TkP):(tpC ps).length=ps.length*21:=by
 induction ps with
 | nil=>rfl
 | cons a r ih =>
  unfold tpC at ih ⊢
  rw[List.flatMap_cons,List.length_append,ih,List.length_cons]
  show 21+_=_
  omega
theorem tpC_get:∀ (ps:List TkP) (i:Nat) (x:TkP) (ys:List Value),ps[i]?=some x->∀ j,j<21->(tpC ps++ys)[i*21+j]?=x.cs[j]?
 | [],_,_,_,h,_,_=>by cases h
 | a::r,0,t,ys,h,j,hj=>by
  cases h
  unfold tpC
  have hl:a.cs.length=21:=rfl
  rw[List.flatMap_cons,List.append_assoc,List.getElem?_append_left (by omega),Nat.zero_mul,Nat.zero_add]
 | a::r,i+1,t,ys,h,j,hj=>by
  have ih:=tpC_get r i t ys h j hj
  unfold tpC at ih ⊢
  have hl:a.cs.length=21:=rfl
  rw[List.flatMap_cons,List.append_assoc,List.getElem?_append_right (by omega),hl,<- ih]
  congr 1
  omega
def UGood (w:World) (base:Nat) (x:TkP):Prop:=w.ownsRow base 50 1 (.slice (some ⟨x.g,0,none⟩) (x.t.cst.length+1) x.c) (x.t.cst.length+1) (uC (x.t.cst++[77]))
theorem UGood.lt {w:World} {base:Nat} {x:TkP} (h:UGood w base x):base<=x.g/\x.g<w.heap.size:=World.ownsRow.lt h x.g rfl
theorem UGood.below {w w':World} {base:Nat} {x:TkP} (h:UGood w base x) (hb:Below w.heap.size w w'):UGood w' base x:=ownsRow_below h hb
theorem UGood.kept {w w':World} {base:Nat} {row:Option Nat} {x:TkP} (h:UGood w base x) (hg:w.grownBy w' row) (hne:some x.g≠row):UGood w' base x:=World.ownsRow.kept h hg (.inr hne)
theorem UGood.row {w:World} {base:Nat} {x:TkP} (h:UGood w base x):URow w (some ⟨x.g,0,none⟩) w.heap.size x.t.cst:=URow.of_own h h.lt.2
theorem UGood.room {w:World} {base:Nat} {x:TkP} (h:UGood w base x):x.t.cst.length+1<=x.c:=own_cap h (by omega)
end J
namespace J
theorem twpList_append_ex {P:Program} {w:World} {ops:Array Oper} {rest:List Oper} {o:Oper} {a:Act} {Q:Exit->Act->World->Prop} (hgd:o.guard=none) (s x:Operand) (t tx:TypeId)
  (ho:o.op = .call { callee:=.builtin .append,args:=#[s,x],argTypes:=#[t,tx] }) (sv xv:Value) (hs:a.eval s=sv) (hx:a.eval x=xv) (Post:Value->World->Prop)
  (hrun:∃ v w',(∀ ty,(Builtin.append_ #[t,tx] ty #[sv,xv]).run P w = .ok v w')/\Post v w')
  (h:∀ v w',Post v w'->wpList P ops Q rest (a.put o.dst v) w'):wpList P ops Q (o::rest) a w:=by
 obtain⟨v,w',hr,hp⟩:=hrun
 refine wpList_plain hgd fun _ hK=>?_
 unfold Oper.wp execOp
 simp only[ho,resolve,invoke,builtin,Sem.run_bind,Sem.run_pure,Result.andThen_ok,List.map_toArray,List.map_cons,List.map_nil,hs,hx,hr]
 exact hK _ _ (h v w' hp)
theorem heap_al_set (w:World) (a:Addr) (v:Value) (o:Obj):((w.setCell a v).alloc o).heap[w.heap.size]?=some o:=by
 have h:=heap_al (w.setCell a v) o
 rwa [show (w.setCell a v).heap.size=w.heap.size from by simp[World.setCell]] at h
theorem own_slice {w:World} {base:Nat} {e:TypeId} {size:Nat} {v:Value} {n:Nat} {xs:List Value} (h:w.ownsRow base e size v n xs):∃ p c,v = .slice p n c:=by
 rcases h.2 with ⟨rfl,rfl⟩|⟨g,cap,cur,rfl,_⟩
 ·exact⟨_,_,rfl⟩
 ·exact⟨_,_,rfl⟩
theorem there_of {w:World} {g:Nat} {cs:Array Value} {ty:TypeId} (h:w.heap[g]?=some (.cells cs ty)):w.there g 0 cs.size:=fun j hj=>by
 rw[Nat.zero_add,cell_at h j]
 refine⟨by simp[hj],?_⟩
 simp only[World.frozen?,h]
 simp
theorem bel_sets {B b:Nat} {a:World} (hb:B<=b):∀ (vs:List Value) (o:Nat) (w:World),Below B a w->Below B a (w.setCells b o vs)
 | [],_,_,h=>h
 | v::r,o,_,h=>bel_sets hb r (o+1) _ (h.setCell (p:=⟨b,o,none⟩) hb v)
theorem sets_other {b i:Nat} (hne:i≠b):∀ (vs:List Value) (o:Nat) (w:World),(w.setCells b o vs).heap[i]?=w.heap[i]?
 | [],_,_=>rfl
 | v::r,o,w=>(sets_other hne r (o+1) (w.setCell ⟨b,o,none⟩ v)).trans (heap_setCell_other w ⟨b,o,none⟩ i v hne)
theorem own_kept {w w':World} {base:Nat} {e:TypeId} {size:Nat} {v:Value} {n:Nat} {xs:List Value} (h:w.ownsRow base e size v n xs) (hb:∀ k,v.ownBlock=some k->w'.heap[k]?=w.heap[k]?):w'.ownsRow base e size v n xs:=by
 refine⟨h.1,?_⟩
 rcases h.2 with hn|⟨g,cap,cur,rfl,h1,hg,rest⟩
 ·exact .inl hn
 ·exact .inr ⟨g,cap,cur,rfl,h1,(hb g rfl).trans hg,rest⟩
theorem results_cell_v {P:Program} {fn:Func} {p:Tmp} {ty:TypeId} (h:fn.results=#[.cell p ty]) (tmps:Array Value) (w:World) (g:Nat) (v:Value) (hp:tmps.getD p undef = .pointer (some ⟨g,0,none⟩)) (hl:(loadVar ty ⟨g,0,none⟩).run P w = .ok v w):(results fn tmps).run P w = .ok v w:=by
 have hp':tmps[p]?.getD undef = .pointer (some ⟨g,0,none⟩):=by simpa using hp
 simp[results,h,hp',asAddr,hl]
theorem fm_range {w:World} {g o:Nat} {f:Fm} {pp:Option Addr} {cp:Nat} (h:FmC w g o f pp cp):w.rangeAt g o (fmC f pp cp).toList:=by
 intro j v hv
 have hj:j<13:=(List.getElem?_eq_some_iff.1 hv).1
 have h13:j=0\/j=1\/j=2\/j=3\/j=4\/j=5\/j=6\/j=7\/j=8\/j=9\/j=10\/j=11\/j=12:=by omega
 rcases h13 with rfl|rfl|rfl|rfl|rfl|rfl|rfl|rfl|rfl|rfl|rfl|rfl|rfl<;>cases Option.some.inj hv
 ·exact h.c0
 ·exact h.c1
 ·exact h.c2
 ·exact h.c3
 ·exact h.c4
 ·exact h.c5
 ·exact h.c6
 ·exact h.c7
 ·exact h.c8
 ·exact h.c9
 ·exact h.c10
 ·exact h.c11
 ·exact h.c12
theorem infoFm:(Tryz.prog.info? 30).map (·.size)=some 13:=by kernel_rfl
theorem undFm:∃ d,Tryz.prog.underlying 30=some d/\d.isRow=true:=⟨_,Tryz.underlying30,rfl⟩
theorem _root_.Go.Proofs.YtjnafpefolgcoaaGreatDoor.FmC.load {w:World} {g o:Nat} {f:Fm} {pp:Option Addr} {cp:Nat} (h:FmC w g o f pp cp):(Instr.loadAt 30 (.pointer (some ⟨g,o,none⟩))).run Tryz.prog w = .ok (fmV f pp cp) w:=by
 obtain⟨d,hu,hd⟩:=undFm
 exact run_loadAt_mid w g o 30 (fmC f pp cp).toList d (fm_range h) hu hd infoFm
theorem fmC_one (f:Fm) (pp:Option Addr) (cp:Nat):∀ u∈(fmC f pp cp).toList,u.oneCell'=true:=by
 intro u hu
 simp only[List.mem_cons,List.not_mem_nil,or_false] at hu
 rcases hu with rfl|rfl|rfl|rfl|rfl|rfl|rfl|rfl|rfl|rfl|rfl|rfl|rfl<;>rfl
theorem st_newF (w:World) (z:Array Value) (hz:z.size=13) (f:Fm) (pp:Option Addr) (cp:Nat):(Instr.storeAt 30 (.pointer (some ⟨w.heap.size,0,none⟩)) (fmV f pp cp)).run Tryz.prog (w.alloc (.cells z 30)) = .ok () (w.alloc (fmO f pp cp)) :=
 run_storeAt_new w 30 z (fmC f pp cp) infoFm hz (all_oneCell_toArray (fmC_one f pp cp))
theorem tkO_set {W:World} {X:Nat} {t:Tk} {p q:Option Addr} {c d:Nat} (h:W.heap[X]?=some (tkO t p c)):(W.setCell ⟨X,12,none⟩ (.slice q t.cst.length d)).heap[X]?=some (tkO t q d):=by
 obtain⟨N,hN⟩:∃ N,t.cst.length=N:=⟨_,rfl⟩
 rw[hN]
 have e:(W.setCell ⟨X,12,none⟩ (.slice q N d)).heap=W.heap.modify X (fun o=>match o with
  | .cells cs t f=>.cells (cs.setIfInBounds 12 (.slice q N d)) t f
  | o=>o):=by
  rfl
 rw[e,Array.getElem?_modify,if_pos rfl,h]
 subst hN
 rfl
theorem froz {W:World} {X:Nat} {cs:Array Value} {ty:TypeId} (h:W.heap[X]?=some (.cells cs ty)) (o:Nat):W.frozen? ⟨X,o,none⟩=false:=by
 simp only[World.frozen?,h]
 simp
theorem fmO_set {W:World} {X:Nat} {f:Fm} {p q:Option Addr} {c d:Nat} (h:W.heap[X]?=some (fmO f p c)):(W.setCell ⟨X,12,none⟩ (.slice q f.toks.length d)).heap[X]?=some (fmO f q d):=by
 obtain⟨N,hN⟩:∃ N,f.toks.length=N:=⟨_,rfl⟩
 rw[hN]
 have e:(W.setCell ⟨X,12,none⟩ (.slice q N d)).heap=W.heap.modify X (fun o=>match o with
  | .cells cs t f=>.cells (cs.setIfInBounds 12 (.slice q N d)) t f
  | o=>o):=by
  rfl
 rw[e,Array.getElem?_modify,if_pos rfl,h]
 subst hN
 rfl
abbrev zFo:Obj:=.cells #[.int .i64 0,.int .i64 0,.int .i64 0,.int .i64 0,.int .i64 0,.int .i64 0,.int .i64 0,.int .i64 0,.int .i64 0,.int .i64 0,.int .i64 0,.int .i64 0,.slice none 0 0] 30
end J
open J
theorem parts_no (f:Fm) (i:Int) (pp:Option Addr) (cp:Nat) (w:World) (tl:TkL w pp w.heap.size f.toks) (cA:IsAtC w f i pp cp) (hb:NotAt f i holdB) :
  Calls Tryz.prog 22 #[fmV f pp cp,.int .i64 i] w fun r w'=>∃ v,r = .returned v/\NRow w' w.heap.size v []/\Below w.heap.size w w':=by
 have hF:=fm_new w f pp cp
 have HB:Below w.heap.size w (w.alloc (fmO f pp cp)):=nbel _ _
 have HS:(w.alloc (fmO f pp cp)).heap.size=w.heap.size+1:=World.size_alloc _ _
 generalize hW:w.alloc (fmO f pp cp)=W at hF HB HS
 simp only[fmO] at hW
 replace cA:=cA W HB
 have F0:=hF.c0
 have F1:=hF.c1
 have F2:=hF.c2
 have F3:=hF.c3
 have F4:=hF.c4
 have F5:=hF.c5
 have F6:=hF.c6
 have F7:=hF.c7
 have F8:=hF.c8
 have F9:=hF.c9
 have F10:=hF.c10
 have F11:=hF.c11
 have F12:=hF.c12
 simp only[Nat.zero_add] at F1 F2 F3 F4 F5 F6 F7 F8 F9 F10 F11 F12
 cases hat:isAtB f i with
 | false =>
  rw[hat] at cA
  replace HB:=Hid.mk HB
  replace HS:=Hid.mk HS
  clear hF hb tl hat
  go_enter Tryz.func22,Tryz.ntmps22
  go_wp2_with (go_at_call 46;refine cA.mono ?_;rintro _ w1 ⟨rfl,hb1⟩;replace hb1:=Hid.mk hb1)
  go_ret
  exact⟨_,rfl,NRow.nil _ _,HB.out.trans (hb1.out.mono HB.out.size)⟩
 | true =>
  obtain⟨b,t,rfl,ht,hp⟩:=hb.h hat
  rw[hat] at cA
  have hil:=(List.getElem?_eq_some_iff.1 ht).1
  obtain⟨g,o,_,_,rfl,hg,_⟩:=tl.at ht
  have hili:(b:Int)<f.toks.length:=by omega
  have hll:f.toks.length<=733007751850:=by have:=tl.len;omega
  have hT:Hid (∀ W',Below w.heap.size w W'->∃ pc cc,TkC W' g (o+b*21) t pc cc):=⟨fun W' hb=>by
   obtain⟨g',o',pc,cc,e,_,h1,_⟩:=(tl.below hb).at ht
   cases e
   exact⟨pc,cc,h1⟩⟩
  have hY:Hid (∀ W',Below W.heap.size W W'->FmC W' w.heap.size 0 f (some ⟨g,o,none⟩) cp):=⟨fun W' hb=>hF.below (by omega) hb⟩
  have cP:=fun W'=>holdsParts_at t.op W'
  rw[show decide (t.op=0\/t.op=4)=false from hp] at cP
  replace HB:=Hid.mk HB
  replace HS:=Hid.mk HS
  clear hF hb hat hp
  go_enter Tryz.func22,Tryz.ntmps22
  go_wp2_with (first
   | (go_at_call 46;refine cA.mono ?_;rintro _ w1 ⟨rfl,hb1⟩;obtain⟨pc,cc,hTt⟩:=hT.out w1 (HB.out.trans (hb1.mono HB.out.size));have z0:=hTt.c0;have y12:=(hY.out _ hb1).c12;simp only[Nat.zero_add] at y12;clear hTt;replace hb1:=Hid.mk hb1)
   | (go_at_call 47;refine(cP _).mono ?_;rintro _ wq ⟨rfl,e⟩;obtain rfl:w1=wq:=e.symm))
  go_ret
  exact⟨_,rfl,NRow.nil _ _,HB.out.trans (hb1.out.mono HB.out.size)⟩
attribute [local go_sem] Oper.semAt_some
end Go.Proofs.YtjnafpefolgcoaaGreatDoor
