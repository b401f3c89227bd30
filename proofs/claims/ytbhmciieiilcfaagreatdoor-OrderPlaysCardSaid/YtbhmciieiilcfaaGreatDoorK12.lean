import Derived.Test.YtbhmciieiilcfaaGreatDoorK11
import Derived.Shelf.Pu.Clone
namespace Go.Proofs.YtbhmciieiilcfaaGreatDoor
set_option maxRecDepth 1000000
set_option maxHeartbeats 16000000
open Go.ChangeShapes Go.WideShapes Go.ChangeAt Go.RowKit Go.Shelf Go.Maps
variable {S d gp k lo m n p:Nat} {W W':World} {f:Fm} {gs ks ks1 r:List Nat} {l:List Tk} {t u:Tk} {v:Value}
theorem okind_any (op:Int) (w:World):Calls Tryz.prog 38 #[.int .i64 op] w fun r w'=>r = .returned (.int .i64 (knd op))/\w'=w:=by
 unfold knd
 by_cases h:op=6
 ·have b1:(op==6)=true:=by simp[h]
  rw[if_pos h]
  clear h
  go_enter Tryz.func38,Tryz.ntmps38
  go_wp2_with fail
  go_ret
  exact⟨rfl,rfl⟩
 ·have b1:(op==6)=false:=beq_eq_false_iff_ne.2 h
  rw[if_neg h]
  clear h
  go_enter Tryz.func38,Tryz.ntmps38
  go_wp2_with fail
  go_ret
  exact⟨rfl,rfl⟩
theorem greatest_any (p:Int) (w:World):Calls Tryz.prog 40 #[.int .i64 p] w fun r w'=>r = .returned (.int .u64 (gmax p))/\w'=w:=by
 unfold gmax
 by_cases h:p=5
 ·have b1:(p==5)=true:=by simp[h]
  rw[if_pos h]
  clear h
  go_enter Tryz.func40,Tryz.ntmps40
  go_wp2_with fail
  go_ret
  exact⟨rfl,rfl⟩
 ·have b1:(p==5)=false:=beq_eq_false_iff_ne.2 h
  rw[if_neg h]
  by_cases h2:p=6
  ·have b2:(p==6)=true:=by simp[h2]
   rw[if_pos h2]
   clear h h2
   go_enter Tryz.func40,Tryz.ntmps40
   go_wp2_with fail
   go_ret
   exact⟨rfl,rfl⟩
  ·have b2:(p==6)=false:=beq_eq_false_iff_ne.2 h2
   rw[if_neg h2]
   clear h h2
   go_enter Tryz.func40,Tryz.ntmps40
   go_wp2_with fail
   go_ret
   exact⟨rfl,rfl⟩
theorem called_of (ht:l[p]?=some t) (hn:t.pair=(n:Int)) (h2:¬ t.pres=2) {b:Bool} (h:(lvF l (p+1) (n-(p+1))).isEmpty = !b):calledB l p=b:=by
 unfold calledB
 simp only[ht,hn,Int.toNat_natCast,h]
 simp[h2]
theorem isCalled_any (l:List Tk) (p n:Nat) (t:Tk) (pp:Option Addr) (cp:Nat) (w:World) (H:Nat) (tl:TkL w pp H l) (ht:l[p]?=some t) (hn:t.pair=(n:Int)) (hpn:p<n) (hnl:n<l.length) :
  Calls Tryz.prog 41 #[.slice pp l.length cp,.int .i64 (p:Int)] w fun r w'=>r = .returned (.bool (calledB l p))/\w'=w:=by
 obtain⟨g,o,pc,cc,rfl,hg,hT,_⟩:=tl.at ht
 have t8:=hT.c8
 have t20:=hT.c20
 rw[hn] at t20
 have hpl:(p:Int)<l.length:=by omega
 have hll:l.length<=733007751850:=by have:=tl.len;omega
 have hTT:Hid (∀ (k:Nat) (u:Tk),l[k]?=some u->w.cell? ⟨g,o+k*21,none⟩=some (.int .i64 u.op)/\w.cell? ⟨g,o+k*21+8,none⟩=some (.int .i64 u.pres)):=⟨fun k u hu=>by
  obtain⟨g',o',pc,cc,e,_,h1,_⟩:=tl.at hu
  cases e
  exact⟨h1.c0,h1.c8⟩⟩
 by_cases h2:t.pres=2
 ·have b1:(t.pres==2)=true:=by simp[h2]
  have hc:calledB l p=false:=by unfold calledB;simp only[ht];simp[h2]
  rw[hc]
  clear hT h2 hc ht tl
  go_enter Tryz.func41,Tryz.ntmps41
  go_wp2_with fail
  go_ret
  exact⟨rfl,rfl⟩
 ·have b1:(t.pres==2)=false:=beq_eq_false_iff_ne.2 h2
  have hcl:Hid (∀ b,(lvF l (p+1) (n-(p+1))).isEmpty=(!b)->calledB l p=b):=⟨fun b hb=>called_of ht hn h2 hb⟩
  generalize calledB l p=rv at hcl ⊢
  clear hT h2 ht tl
  go_enter Tryz.func41,Tryz.ntmps41
  go_wp2_with fail
  go_loopw [5] (fun q wr=>∃ k:Nat,p+1<=k/\k<=n/\q = .int .i64 (k:Int)/\wr=w/\Hid (lvF l (p+1) (n-(p+1))=lvF l k (n-k))) (fun q _=>n-(RowKit.intOf q).toNat)
  case atStart=>exact⟨p+1,Nat.le_refl _,by omega,by go_num,rfl,⟨rfl⟩⟩
  case round =>
   obtain⟨k,hk1,hk2,rfl,rfl,hC⟩:=hrel
   by_cases hlt:k<n
   ·have hlti:(k:Int)<n:=by omega
    have hkl:(k:Int)<l.length:=by omega
    obtain⟨u,hu⟩:∃ u,l[k]?=some u:=⟨l[k]'(by omega),List.getElem?_eq_getElem (by omega)⟩
    obtain⟨u0,u8⟩:=hTT.out k u hu
    have hC':=hC.out
    rw[show n-k=(n-(k+1))+1 by omega] at hC'
    have hw2:IntKind.i64.wrap ((k:Int)+1)=(k:Int)+1:=by rw[IntKind.wrap_i64];omega
    clear hC
    cases hlv:lvB u with
    | true =>
     rw[lvF_yes hu hlv] at hC'
     have hlv':u.op=14/\¬ u.pres=2:=of_decide_eq_true hlv
     have c2:(u.op==14)=true:=by simp[hlv'.1]
     have c3:(u.pres==2)=false:=beq_eq_false_iff_ne.2 hlv'.2
     have c3':(u.pres != 2)=true:=by simp[hlv'.2]
     obtain rfl:rv=true:=hcl.out true (by rw[hC'];rfl)
     clear hC' hlv hlv' hcl hTT hu
     go_wp2_with fail
     go_ret
     exact⟨rfl,rfl⟩
    | false =>
     rw[lvF_no hu hlv] at hC'
     have hC2:Hid (lvF l (p+1) (n-(p+1))=lvF l (k+1) (n-(k+1))):=⟨hC'⟩
     have hlv':¬ (u.op=14/\¬ u.pres=2):=of_decide_eq_false hlv
     clear hC' hlv hu
     by_cases h14:u.op=14
     ·have c2:(u.op==14)=true:=by simp[h14]
      have c3:(u.pres==2)=true:=by simp;omega
      have c3':(u.pres != 2)=false:=by simp;omega
      clear hlv' h14
      go_wp2_with fail
      go_roundw
      case rel=>exact⟨k+1,by omega,by omega,by go_num,by first|rfl|trivial,hC2⟩
      case measure=>simp[RowKit.intOf];omega
     ·have c2:(u.op==14)=false:=beq_eq_false_iff_ne.2 h14
      clear hlv' h14
      go_wp2_with fail
      go_roundw
      case rel=>exact⟨k+1,by omega,by omega,by go_num,by first|rfl|trivial,hC2⟩
      case measure=>simp[RowKit.intOf];omega
   ·obtain rfl:k=n:=by omega
    have hC':=hC.out
    rw[Nat.sub_self,lvF] at hC'
    obtain rfl:rv=false:=hcl.out false (by rw[hC'];rfl)
    have b2:decide ((k:Int)<k)=false:=by simp
    clear hC hC' hcl hTT
    go_wp2_with fail
    go_ret
    exact⟨rfl,rfl⟩
def _root_.Go.Proofs.Tryz.laysPu25_ren:Go.Shelf.Ren:=⟨fun|25=>74|n=>n,fun|9=>9|3=>3|4=>4|37=>154|0=>0|47=>155|5=>5|n=>n,fun|n=>n⟩
theorem _root_.Go.Proofs.Tryz.laysPu25:Go.Proofs.LaysPu.n25 Tryz.prog Tryz.laysPu25_ren:={
 mixed:=by kernel_rfl
 f25:=Tryz.func74.trans (congrArg some (by kernel_rfl))
 t0:=Tryz.underlying0
 a0:=Tryz.isAgg0
 z0:=Tryz.sizeOf0
 v0:=Tryz.zeroValue0
 i0:=by kernel_rfl
 t3:=Tryz.underlying3
 a3:=Tryz.isAgg3
 z3:=Tryz.sizeOf3
 v3:=Tryz.zeroValue3
 i3:=by kernel_rfl
 t4:=Tryz.underlying4
 a4:=Tryz.isAgg4
 z4:=Tryz.sizeOf4
 v4:=Tryz.zeroValue4
 i4:=by kernel_rfl
 t5:=Tryz.underlying5
 a5:=Tryz.isAgg5
 z5:=Tryz.sizeOf5
 v5:=Tryz.zeroValue5
 i5:=by kernel_rfl
 t9:=Tryz.underlying9
 a9:=Tryz.isAgg9
 z9:=Tryz.sizeOf9
 v9:=Tryz.zeroValue9
 i9:=by kernel_rfl
 t37:=Tryz.underlying154
 a37:=Tryz.isAgg154
 z37:=Tryz.sizeOf154
 v37:=Tryz.zeroValue154
 i37:=by kernel_rfl
 t47:=Tryz.underlying155
 a47:=Tryz.isAgg155
 z47:=Tryz.sizeOf155
 v47:=Tryz.zeroValue155
 i47:=by kernel_rfl }
theorem strClone0 (s:ByteArray) (w:World) (hs:s.size<=281474976710656):Calls Tryz.prog 74 #[.string s] w fun e w'=>e = .returned (.string s)/\Below w.heap.size w w' :=
 AnyPu.stringslite_Clone Tryz.laysPu25 s w hs
theorem strClone (s:ByteArray) (w:World) (hs:s.size<=281474976710656):Calls Tryz.prog 39 #[.string s] w fun e w'=>e = .returned (.string s)/\Below w.heap.size w w':=by
 have hcon:=fun w=>strClone0 s w hs
 go_enter Tryz.func39,Tryz.ntmps39
 go_wp2_with (go_at_call 74;refine(hcon _).mono ?_;rintro e w' ⟨rfl,hB⟩)
 go_ret
 exact⟨rfl,hB⟩
structure Pb (l:List Tk) (p n:Nat) (t:Tk) (ks:List Nat):Prop where
 bg:Bgn l p n t ks
 kop:∀ k∈ks,∀ u,l[k]?=some u->(u.op=2\/u.op=4\/u.op=6)/\∃ m:Nat,u.pair=(m:Int)/\k<m/\m<l.length
theorem data_ops {b:Nat} (h:Took f b t ks) (ho:t.op=6) (hk:k∈ks) (hu:f.toks[k]?=some u):False:=by
 obtain⟨j,hj⟩:=List.getElem?_of_mem hk
 obtain⟨x,o,ids,e1,e2,e3,e4,e5⟩:=h j k u hj hu
 obtain⟨hm,_⟩:=inOk_in e4 e5
 unfold mayB at hm
 rw[e2,ho] at hm
 simp at hm
 rw[hm] at e5
 exact absurd e5 (by decide)
theorem pb_of (hz:chkZ f=none) (ht:f.toks[p]?=some t) (ho:t.op=0\/t.op=4\/t.op=6):∃ n ks,Pb f.toks p n t ks:=by
 have hg:bgO t.op=true:=by rcases ho with h|h|h<;>rw[h]<;>rfl
 obtain⟨n,ks,h1,h2⟩:=bgn_took hz ht hg
 refine⟨n,ks,h1,fun k hk u hu=>?_⟩
 have hop:u.op=2\/u.op=4\/u.op=6:=by
  rcases ho with h|h|h
  ·exact block_ops h2 (.inl h) hk hu
  ·exact block_ops h2 (.inr h) hk hu
  ·exact(data_ops h2 h hk hu).elim
 have hg2:bgO u.op=true:=by rcases hop with h|h|h<;>rw[h]<;>rfl
 obtain⟨m,_,h3,_⟩:=bgn_took hz hu hg2
 exact⟨hop,m,h3.en,h3.bn,h3.nl⟩
theorem chn_next (h:Chn l k (k::r) n) (hr:∀ j∈r,j<n) (hu:l[k]?=some u) (hm:u.pair=(m:Int)):m<n/\Chn l (m+1) r n:=by
 obtain⟨_,u',m',h1,h2,h3⟩:=h
 rw[hu] at h1
 cases h1
 rw[hm] at h2
 have h2:m=m':=by omega
 subst h2
 refine⟨?_,h3⟩
 cases r with
 | nil=>have:m+1=n:=h3;omega
 | cons k2 r2 =>
  have:=h3.1
  have:=hr k2 (List.mem_cons_self ..)
  omega
theorem chn_head {i:Nat} (h:Chn l i r n) (hr:∀ j∈r,j<n) (hi:i<n):∃ r',r=i::r':=by
 cases r with
 | nil=>have:i=n:=h;omega
 | cons k r'=>have:=h.1;subst this;exact⟨r',rfl⟩
theorem chn_end (h:Chn l n r n) (hr:∀ j∈r,j<n):r=[]:=by
 cases r with
 | nil=>rfl
 | cons k r'=>have:=h.1;have:=hr k (List.mem_cons_self ..);omega
def rowF (l:List Tk) (i:Nat):Bool:=!decide (opAt l i=2)
def fldF (l:List Tk) (i:Nat):Bool:=decide (opAt l i=2)&&calledB l i
abbrev ptV (g:Nat):Value:=.pointer (some ⟨g,0,none⟩)
theorem p_ap {base:Nat} {al:List Nat} {g:Nat} {ad:Addr} (own:W.ownsRow base 62 1 v al.length (al.map ptV)) (hB:W.cell? (ad.add 0)=some (ptV g)) (hl:al.length+1<=977343669134) (hb:base<=W.heap.size) :
  ∃ v' w',(∀ ty,(Builtin.append_ #[102,102] ty #[v,.slice (some ad) 1 1]).run Tryz.prog W = .ok v' w')/\(w'.ownsRow base 62 1 v' (al++[g]).length ((al++[g]).map ptV)/\W.grownBy w' v.ownBlock/\(v'.ownBlock=v.ownBlock\/v'.ownBlock=some W.heap.size)):=by
 obtain⟨i0,hi,hz,hs,hby⟩:=infoOf 62 (.pointer none) 1 8 (by kernel_rfl)
 have hr:=fun ty=>run_append_own_at (P:=Tryz.prog) W base 102 ty 62 i0 _ 1 8 Tryz.underlying102 hi hz hs hby rfl (by decide) v al.length (al.map ptV) own ad 1 1 [ptV g] rfl (fun j u hu=>by
  cases j with
  | zero=>cases hu;exact hB
  | succ j=>simp at hu) (fun u hu=>by rw[List.mem_singleton.1 hu];rfl) (by simp only[maxLen];omega) (by omega) (by omega)
 obtain⟨v',w',h1,h2,h3,_,h4⟩:=hr 0
 refine⟨v',w',fun ty=>?_,by rw[List.length_append,List.map_append];exact h2,h3,h4⟩
 have e:(Builtin.append_ #[102,102] ty #[v,.slice (some ad) 1 1])=(Builtin.append_ #[102,102] 0 #[v,.slice (some ad) 1 1]):=rfl
 rw[e]
 exact h1
structure PI (l:List Tk) (W:World) (lo S gp m p d:Nat) (ks1 gs:List Nat) (v:Value):Prop where
 c:W.heap[gp]?=some (.cells #[.int .i64 (knd (opAt l p)),.string (nmAt l p),.int .i64 (p:Int),.int .u64 (gmax (bpAt l p)),.map (some m),v] 104)
 mp:∃ k,k<=ks1.length/\SHas W m k (fun s=>∃ i∈ks1.filter (fldF l),nmAt l i=s)
 ow:W.ownsRow S 62 1 v gs.length (gs.map ptV)
 ln:gs.length=(ks1.filter (rowF l)).length
 ch:∀ (j g' q:Nat),gs[j]?=some g'->(ks1.filter (rowF l))[j]?=some q->∃ a b,S<=a/\b<=W.heap.size/\PtC l W a b d g' q/\∀ r,v.ownBlock=some r->r<a\/b<=r
 g1:lo<=gp/\gp<S
 m1:lo<=m/\m<S
 gm:gp≠m
 sz:S<=W.heap.size
theorem PI.below (h:PI l W lo S gp m p d ks1 gs v) (hb:Below W.heap.size W W'):PI l W' lo S gp m p d ks1 gs v:=by
 obtain⟨k,hk,hS⟩:=h.mp
 have hs:=hb.size
 have h1:=h.sz
 have h2:=h.g1
 have h3:=h.m1
 refine⟨(hb.block gp (by omega)).trans h.c,⟨k,hk,hS.same (hb.block m (by omega))⟩,own_keep h.ow hb,h.ln,fun j g' q e1 e2=>?_,h.g1,h.m1,h.gm,by omega⟩
 obtain⟨a,b,q1,q2,q3,q4⟩:=h.ch j g' q e1 e2
 exact⟨a,b,q1,by omega,q3.same fun k _ hk=>hb.block k (by omega),q4⟩
theorem PI.field (h:PI l W lo S gp m p d ks1 gs v) (hf:fldF l k=true) (hr:rowF l k=false) (hg:W.grownBy W' (some m)) (hS:∃ k',k'<=ks1.length+1/\SHas W' m k' (fun s=>s=nmAt l k\/∃ i∈ks1.filter (fldF l),nmAt l i=s)):PI l W' lo S gp m p d (ks1++[k]) gs v:=by
 obtain⟨k',hk',D,hD,hh⟩:=hS
 have h1:=h.sz
 have h2:=h.g1
 have h3:=h.m1
 have hb:∀ j,j<W.heap.size->j≠m->W'.heap[j]?=W.heap[j]?:=fun j hj hn=>hg.block j hj (fun e=>hn (Option.some.inj e))
 have hs:=hg.size
 refine⟨(hb gp (by omega) h.gm).trans h.c,⟨k',by simpa using hk',D,hD,fun s hs=>?_⟩,own_keepP h.ow fun r hr=>hb r (h.ow.lt r hr).2 (by have:=(h.ow.lt r hr).1;omega),?_,fun j g' q e1 e2=>?_,h.g1,h.m1,h.gm,by omega⟩
 ·rw[hh s hs,List.filter_append]
  simp only[List.filter_cons,hf,List.filter_nil,if_true,List.mem_append,List.mem_singleton]
  constructor
  ·rintro(rfl|⟨i,hi,e⟩)
   ·exact⟨k,.inr rfl,rfl⟩
   ·exact⟨i,.inl hi,e⟩
  ·rintro⟨i,hi|rfl,e⟩
   ·exact .inr ⟨i,hi,e⟩
   ·exact .inl e.symm
 ·rw[List.filter_append]
  simp only[List.filter_cons,hr,List.filter_nil]
  simpa using h.ln
 ·rw[List.filter_append] at e2
  simp only[List.filter_cons,hr,List.filter_nil] at e2
  obtain⟨a,b,q1,q2,q3,q4⟩:=h.ch j g' q e1 (by simpa using e2)
  exact⟨a,b,q1,by omega,q3.same fun k' _ hk'=>hb k' (by omega) (by omega),q4⟩
theorem PI.skip (h:PI l W lo S gp m p d ks1 gs v) (hf:fldF l k=false) (hr:rowF l k=false):PI l W lo S gp m p d (ks1++[k]) gs v:=by
 have e1:(ks1++[k]).filter (fldF l)=ks1.filter (fldF l):=by rw[List.filter_append];simp[hf]
 have e2:(ks1++[k]).filter (rowF l)=ks1.filter (rowF l):=by rw[List.filter_append];simp[hr]
 obtain⟨k',hk',hS⟩:=h.mp
 refine⟨h.c,⟨k',by simp;omega,by rw[e1];exact hS⟩,h.ow,by rw[e2];exact h.ln,by rw[e2];exact h.ch,h.g1,h.m1,h.gm,h.sz⟩
theorem PI.row {W1 W2:World} {v':Value} {g':Nat} (h:PI l W lo S gp m p d ks1 gs v) (hf:fldF l k=false) (hr:rowF l k=true) {hi:Nat} (hW:Below W.heap.size W W1) (hhi:hi<=W1.heap.size) (hP:PtC l W1 W.heap.size hi d g' k)
  (own:W2.ownsRow S 62 1 v' (gs++[g']).length ((gs++[g']).map ptV)) (hg:W1.grownBy W2 v.ownBlock) (hv:v'.ownBlock=v.ownBlock\/v'.ownBlock=some W1.heap.size):PI l (W2.setCell ⟨gp,5,none⟩ v') lo S gp m p d (ks1++[k]) (gs++[g']) v':=by
 have h1:=h.sz
 have h2:=h.g1
 have h3:=h.m1
 have hs1:=hW.size
 have hs2:=hg.size
 have hs3:(W2.setCell ⟨gp,5,none⟩ v').heap.size=W2.heap.size:=by simp[World.setCell]
 have hvl:∀ r,v.ownBlock=some r->S<=r/\r<W.heap.size:=fun r hr=>h.ow.lt r hr
 have hvl':∀ r,v'.ownBlock=some r->S<=r:=fun r hr=>(own.lt r hr).1
 have hb1:∀ j,j<W1.heap.size->v.ownBlock≠some j->j≠gp->(W2.setCell ⟨gp,5,none⟩ v').heap[j]?=W1.heap[j]?:=fun j hj hn hne=>(set_oth (Ne.symm hne)).trans (hg.block j hj (fun e=>hn e.symm))
 have hb:∀ j,j<W.heap.size->v.ownBlock≠some j->j≠gp->(W2.setCell ⟨gp,5,none⟩ v').heap[j]?=W.heap[j]?:=fun j hj hn hne=>(hb1 j (by omega) hn hne).trans (hW.block j hj)
 have hvg:v.ownBlock≠some gp:=fun e=>by have:=(hvl gp e).1;omega
 have hvm:v.ownBlock≠some m:=fun e=>by have:=(hvl m e).1;omega
 have hcg:W2.heap[gp]?=some (.cells #[.int .i64 (knd (opAt l p)),.string (nmAt l p),.int .i64 (p:Int),.int .u64 (gmax (bpAt l p)),.map (some m),v] 104):=(hg.block gp (by omega) (fun e=>hvg e.symm)).trans ((hW.block gp (by omega)).trans h.c)
 have e1:(ks1++[k]).filter (fldF l)=ks1.filter (fldF l):=by rw[List.filter_append];simp[hf]
 have e2:(ks1++[k]).filter (rowF l)=ks1.filter (rowF l)++[k]:=by rw[List.filter_append];simp[hr]
 obtain⟨k',hk',hS⟩:=h.mp
 refine⟨?_,⟨k',by simp;omega,?_⟩,own_keepP own fun r hr=>set_oth (by have:=hvl' r hr;omega),?_,fun j g2 q e3 e4=>?_,h.g1,h.m1,h.gm,by omega⟩
 ·have e:(W2.setCell ⟨gp,5,none⟩ v').heap=W2.heap.modify gp (fun o=>match o with
   | .cells cs t f=>.cells (cs.setIfInBounds 5 v') t f
   | o=>o):=rfl
  rw[e,Array.getElem?_modify,if_pos rfl,hcg]
  rfl
 ·rw[e1]
  exact hS.same (hb m (by omega) hvm (fun e=>h.gm e.symm))
 ·rw[e2,List.length_append,List.length_append,h.ln]
  rfl
 ·rw[e2] at e4
  have hln:=h.ln
  rcases Nat.lt_or_ge j gs.length with hj|hj
  ·rw[List.getElem?_append_left hj] at e3
   rw[List.getElem?_append_left (by omega)] at e4
   obtain⟨a,b,q1,q2,q3,q4⟩:=h.ch j g2 q e3 e4
   refine⟨a,b,q1,by omega,q3.same fun x hx1 hx2=>hb x (by omega) (fun e=>by have:=q4 x e;omega) (by omega),fun r hr=>?_⟩
   rcases hv with hv|hv
   ·exact q4 r (hv▸hr)
   ·rw[hr] at hv
    have:=Option.some.inj hv
    omega
  ·rw[List.getElem?_append_right hj] at e3
   rw[List.getElem?_append_right (by omega)] at e4
   have h0:j-gs.length=0:=by
    have:=(List.getElem?_eq_some_iff.1 e3).1
    simp at this
    omega
   rw[h0] at e3
   rw[show j-(ks1.filter (rowF l)).length=0 by omega] at e4
   cases e3
   cases e4
   refine⟨W.heap.size,hi,h1,by omega,hP.same fun x hx1 hx2=>hb1 x (by omega) (fun e=>by have:=(hvl x e).2;omega) (by omega),fun r hr=>?_⟩
   rcases hv with hv|hv
   ·exact .inl (hvl r (hv▸hr)).2
   ·rw[hr] at hv
    have:=Option.some.inj hv
    omega
theorem PI.done (h:PI l W lo S gp m p d ks gs v) (hb:Bgn l p n t ks):PtC l W lo W.heap.size (d+1) gp p:=by
 have h1:=h.sz
 have h2:=h.g1
 have h3:=h.m1
 have er:ks.filter (rowF l)=rowZ l p:=by unfold rowZ;rw[hb.kids];rfl
 have ef:ks.filter (fldF l)=fldZ l p:=by unfold fldZ;rw[hb.kids];rfl
 obtain⟨k,_,hS⟩:=h.mp
 refine⟨⟨h2.1,by omega⟩,m,k,v,gs,h.c,⟨h3.1,by omega,by rw[ef] at hS;exact hS⟩,fun r hr=>(h.ow.lt r hr).2,own_lower h.ow (by omega),by rw[h.ln,er],fun j g' q e1 e2=>?_⟩
 obtain⟨a,b,q1,q2,q3,q4⟩:=h.ch j g' q e1 (by rw[er];exact e2)
 exact q3.mono (by omega) q2
end Go.Proofs.YtbhmciieiilcfaaGreatDoor
