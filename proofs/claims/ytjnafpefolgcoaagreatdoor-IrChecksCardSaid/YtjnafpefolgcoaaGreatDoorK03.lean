import Derived.Test.YtjnafpefolgcoaaGreatDoorK02
import Derived.Lib.Join
import Derived.Lib.ItoaNum
import Derived.Lib.Repeat
namespace Go.Proofs.YtjnafpefolgcoaaGreatDoor
set_option maxRecDepth 1000000
set_option maxHeartbeats 16000000
def stA (f:Fm):Nat->St
 | 0=>⟨[],[]⟩
 | i+1=>match f.toks[i]? with
  | some t=>nxt (stA f i) i t
  | none=>stA f i
theorem stA_succ {f:Fm} {i:Nat} {t:Tk} (h:f.toks[i]?=some t):stA f (i+1)=nxt (stA f i) i t:=by
 rw[stA,h]
theorem val_at {f:Fm} (hz:chkZ f=none):∀ i,i<=f.toks.length->runZ f (f.toks.drop i) i (stA f i)=none/\Inv f i (stA f i):=by
 intro i
 induction i with
 | zero =>
  intro _
  unfold chkZ at hz
  split at hz
  ·exact⟨hz,inv_zero f⟩
  ·cases hz
 | succ i ih =>
  intro hi
  obtain⟨h1,h2⟩:=ih (by omega)
  obtain⟨t,ht⟩:∃ t,f.toks[i]?=some t:=⟨f.toks[i],List.getElem?_eq_getElem (by omega)⟩
  have e:f.toks.drop i=t::f.toks.drop (i+1):=by
   rw[(List.getElem?_eq_some_iff.1 ht).2.symm,List.getElem_cons_drop]
  rw[e,runZ] at h1
  split at h1
  ·rename_i hok
   rw[stA_succ ht]
   exact⟨h1,inv_step h2 ht hok⟩
  ·cases h1
theorem val_ok {f:Fm} (hz:chkZ f=none) {i:Nat} {t:Tk} (ht:f.toks[i]?=some t):okZ f (stA f i) i t=true/\Inv f i (stA f i):=by
 have hi:=(List.getElem?_eq_some_iff.1 ht).1
 obtain⟨h1,h2⟩:=val_at hz i (by omega)
 have e:f.toks.drop i=t::f.toks.drop (i+1):=by
  rw[(List.getElem?_eq_some_iff.1 ht).2.symm,List.getElem_cons_drop]
 rw[e,runZ] at h1
 split at h1
 ·rename_i hok
  exact⟨hok,h2⟩
 ·cases h1
theorem pl_since {t:Tk} (h:plainB t=true) (ho:¬ (t.op=0\/t.op=2\/t.op=4\/t.op=6\/t.op=15)):t.since=0:=by
 unfold plainB nzs mays at h
 by_cases e8:t.op=8
 ·rw[e8] at h;simp[subB] at h;omega
 by_cases e10:t.op=10\/t.op=12
 ·rw[if_neg (by omega),if_neg (by omega),if_neg (by omega),if_neg (by omega),if_neg (by omega),if_pos e10] at h;simp[subB] at h;omega
 by_cases e14:t.op=14
 ·rw[e14] at h;simp[subB] at h;omega
 rw[if_neg (by omega),if_neg (by omega),if_neg (by omega),if_neg (by omega),if_neg (by omega),if_neg (by omega),if_neg (by omega),if_neg (by omega)] at h
 simp[subB] at h
 omega
theorem head_ver {f:Fm} (hz:chkZ f=none):0<=f.ver/\f.ver<=65534:=by
 unfold chkZ at hz
 split at hz
 ·rename_i h
  unfold headB at h
  simp only[Bool.and_eq_true] at h
  have:=h.1.1.1.1.2
  exact betT this
 ·cases hz
theorem shMayOp {l:List Tk} {x:Sc} {op:Int} (h:mayB l x op=true) (hb:bgO x.tk.op=true):0<=op/\op<=15:=by
 unfold mayB ptO tyO at h
 unfold bgO at hb
 have hb:=decT hb
 repeat' split at h
 all_goals (simp at h)
 all_goals omega
theorem okZ_op {f:Fm} {s:St} {i:Nat} {t:Tk} (h:okZ f s i t=true) (H:Inv f i s):0<=t.op/\t.op<=15/\plainB t=true:=by
 obtain⟨o,ids⟩:=s
 cases o with
 | nil=>obtain⟨-,h1,h2,-⟩:=okZ_nil h;exact⟨by omega,by omega,h2⟩
 | cons x r =>
  have h':inOk f (x::r) ids i x t=true:=h
  have hx:=H.all x (List.mem_cons_self ..)
  have h2:mayB f.toks x t.op=true/\plainB t=true:=by
   unfold inOk at h'
   simp only[Bool.and_eq_true] at h'
   exact⟨h'.1.1.1,h'.1.1.2⟩
  have:=shMayOp h2.1 hx.beg
  exact⟨this.1,this.2,h2.2⟩
def SnO (s:St):Prop:=∀ x∈s.open_,0<=x.tk.since/\x.tk.since<=65534
structure ShN (t:Tk):Prop where
 op:0<=t.op/\t.op<=15
 id:t.op=0\/t.op=2\/t.op=4\/t.op=6->0<=t.id/\t.id<=65535
 since:t.op=0\/t.op=2\/t.op=4\/t.op=6\/t.op=15->0<=t.since/\t.since<=65535
 blk:t.op=0\/t.op=4->0<=t.blk/\t.blk<=65535
 off:t.op=2\/t.op=8\/t.op=10\/t.op=12\/t.op=14->0<=t.off/\t.off<=65535
 siz:t.op=2\/t.op=4\/t.op=6\/t.op=8\/t.op=10\/t.op=12\/t.op=14->0<=t.siz/\t.siz<=65535
 pres:t.op=2\/t.op=14->0<=t.pres/\t.pres<=2
 prim:t.op=6\/t.op=14->0<=t.prim/\t.prim<=10
 len:t.op=14->0<=t.len/\t.len<=65535
theorem fld_pres {f:Fm} {ids:List Int} {i:Nat} {x:Sc} {t:Tk} (h:fldB f ids i x t=true):0<=t.pres/\t.pres<=2:=by
 unfold fldB at h
 simp only[Bool.and_eq_true] at h
 have h2:=h.2
 by_cases e0:t.pres=0
 ·omega
 rw[if_neg e0] at h2
 by_cases e1:t.pres=1
 ·omega
 rw[if_neg e1] at h2
 by_cases e2:t.pres=2
 ·omega
 ·rw[if_neg e2] at h2
  cases h2
theorem new_id {l:List Tk} {ids:List Int} {x:Sc} {t:Tk} (h:newB l ids x t=true):0<=t.id/\t.id<=65535:=by
 unfold newB at h
 simp only[Bool.and_eq_true] at h
 exact betT h.1.1
theorem fits_prim {p v:Int} (h:fitsP p v=true):0<=p/\p<=10:=by
 unfold fitsP fitsF at h
 simp only[Bool.and_eq_true] at h
 have h1:=decT h.1
 rcases prim_cases p with e|e
 ·unfold sz at h1
  rw[kRow_out p e] at h1
  exact absurd h1 (by decide)
 ·omega
theorem shn_at {f:Fm} {s:St} {i:Nat} {t:Tk} (hv:0<=f.ver/\f.ver<=65534) (H:Inv f i s) (hS:SnO s) (h:okZ f s i t=true):ShN t:=by
 have hop:=okZ_op h H
 obtain⟨o,ids⟩:=s
 cases o with
 | nil =>
  obtain⟨-,e,hp,-,-,hm⟩:=okZ_nil h
  unfold msgB blkB at hm
  simp only[Bool.and_eq_true] at hm
  have h1:=betT hm.1.1.1.1
  have h2:=betT hm.1.1.1.2
  have h3:=betT hm.1.1.2.1
  have h4:=decT hm.1.1.2.2
  exact⟨⟨hop.1,hop.2.1⟩,fun _=>h1,fun _=>by omega,fun _=>by omega,fun _=>by omega,fun _=>by omega,fun _=>by omega,fun _=>by omega,fun _=>by omega⟩
 | cons x r =>
  have h':inOk f (x::r) ids i x t=true:=h
  have hx:=H.all x (List.mem_cons_self ..)
  have hs:=hS x (List.mem_cons_self ..)
  cases he:edO t.op with
  | true =>
   unfold edO at he
   have he:=decT he
   exact⟨⟨hop.1,hop.2.1⟩,fun _=>by omega,fun _=>by omega,fun _=>by omega,fun _=>by omega,fun _=>by omega,fun _=>by omega,fun _=>by omega,fun _=>by omega⟩
  | false =>
   obtain⟨hm,hp,-,-,-,hr⟩:=inOk_in h' he
   have hb:=(rul_b hx hm he hp hr).1
   have ht:=may_typ hm he hx.beg
   have h2:t.op=2->fldB f ids i x t=true:=fun e=>by unfold rulB at hr;rwa [if_pos e] at hr
   have h4:t.op=4->grpB f (x::r) ids x t=true:=fun e=>by unfold rulB at hr;rwa [if_neg (by omega),if_pos e] at hr
   have h6:t.op=6->datB f ids x t=true:=fun e=>by unfold rulB at hr;rwa [if_neg (by omega),if_neg (by omega),if_pos e] at hr
   have h14:t.op=14->encB x t=true:=fun e=>by unfold rulB at hr;rwa [if_neg (by omega),if_neg (by omega),if_neg (by omega),if_neg (by omega),if_neg (by omega),if_pos e] at hr
   have h15:t.op=15->choB f.toks x t=true:=fun e=>by unfold rulB at hr;rwa [if_neg (by omega),if_neg (by omega),if_neg (by omega),if_neg (by omega),if_neg (by omega),if_neg (by omega)] at hr
   have e0:t.op≠0:=fun e=>by
    rcases ht with ⟨-,hq,-⟩|⟨-,-,hq⟩|⟨-,hq⟩|⟨-,⟨-,hq⟩|⟨-,hq⟩⟩
    ·unfold ptO at hq;have:=decT hq;omega
    ·unfold tyO at hq;have:=decT hq;omega
    ·unfold tyO at hq;have:=decT hq;omega
    ·omega
    ·omega
   have row:∀ {u:Tk},rowB f x u=true->0<=u.since/\u.since<=65535:=fun {u} hq=>by
    unfold rowB at hq
    have hxr:=hx.row
    split at hq
    ·have:=decT hq;omega
    ·have:=betT hq;omega
   have g4:t.op=4->(0<=t.id/\t.id<=65535)/\rowB f x t=true:=fun e=>by
    have:=h4 e
    unfold grpB at this
    simp only[Bool.and_eq_true] at this
    exact⟨new_id this.1.1.1.1.1.2,this.1.1.1.1.2⟩
   have g6:t.op=6->(0<=t.id/\t.id<=65535)/\rowB f x t=true/\(t.prim=0\/t.prim=5):=fun e=>by
    have:=h6 e
    unfold datB at this
    simp only[Bool.and_eq_true] at this
    exact⟨new_id this.1.1.1.1.1,this.1.1.1.1.2,decT this.2⟩
   have g2:t.op=2->(0<=t.id/\t.id<=65535)/\(0<=t.since/\t.since<=65535)/\0<=t.pres/\t.pres<=2:=fun e=>by
    have h:=h2 e
    have hf:=fld_b h hx.e0.1 hx.blk.2
    have hxf:=hx.fld
    have hq:=h
    unfold fldB at hq
    simp only[Bool.and_eq_true] at hq
    exact⟨new_id hq.1.1,by omega,fld_pres h⟩
   have g14:t.op=14->(0<=t.off/\t.off<=65535)/\(0<=t.siz/\t.siz<=65535)/\(0<=t.pres/\t.pres<=2)/\(0<=t.prim/\t.prim<=10)/\0<=t.len/\t.len<=65535:=fun e=>by
    have h:=h14 e
    unfold encB at h
    simp only[Bool.and_eq_true] at h
    have hp1:=h.1.1.1
    have hl:=betT h.1.1.2
    have hf:=fits_prim h.1.2.1.1
    have hp2:=hp1
    unfold plcB at hp2
    simp only[Bool.and_eq_true] at hp2
    have hs1:=betT hp2.1.1
    have hs2:=betT hp2.1.2
    have ho:0<=t.off/\t.off<=65535:=by
     rcases ht with ⟨-,hq,-⟩|⟨hq,-,-⟩|⟨hq,-⟩|⟨hq,-⟩
     ·unfold ptO at hq;have:=decT hq;omega
     ·have:=plc_b hp1 (.inl hq) hx.off.1 hx.cmp;omega
     ·have:=plc_b hp1 (.inr hq) hx.off.1 hx.cmp;omega
     ·have hxo:=hx.off
      have hc:codB x t=true:=by
       have h3:=hp2.2
       rw[if_neg (by omega)] at h3
       rcases hq with hq|hq
       ·rw[if_pos hq,Bool.and_eq_true] at h3;exact h3.1
       ·rw[if_neg (by omega),if_pos hq,Bool.and_eq_true] at h3;exact h3.1
      unfold codB at hc
      have:=decT hc
      omega
    exact⟨ho,hs1,hs2,hf,by omega,by omega⟩
   have g15:t.op=15->0<=t.since/\t.since<=65535:=fun e=>by
    have h:=h15 e
    unfold choB at h
    simp only[Bool.and_eq_true] at h
    have:=betT h.1.1.1
    omega
   have bB:t.op=2\/t.op=4\/t.op=6\/t.op=8\/t.op=10\/t.op=12->bgO t.op=true:=fun e=>by unfold bgO;exact decide_eq_true (by omega)
   refine⟨⟨hop.1,hop.2.1⟩,fun e=>?_,fun e=>?_,fun e=>?_,fun e=>?_,fun e=>?_,fun e=>?_,fun e=>?_,fun e=>?_⟩
   ·rcases e with e|e|e|e
    ·omega
    ·exact(g2 e).1
    ·exact(g4 e).1
    ·exact(g6 e).1
   ·rcases e with e|e|e|e|e
    ·omega
    ·exact(g2 e).2.1
    ·exact row (g4 e).2
    ·exact row (g6 e).2.1
    ·exact g15 e
   ·rcases e with e|e
    ·omega
    ·exact(hb (bB (by omega))).2.2.2.2.2
   ·by_cases e14:t.op=14
    ·exact(g14 e14).1
    ·have:=hb (bB (by omega));omega
   ·by_cases e14:t.op=14
    ·exact(g14 e14).2.1
    ·have:=hb (bB (by omega));omega
   ·rcases e with e|e
    ·exact(g2 e).2.2
    ·exact(g14 e).2.2.1
   ·rcases e with e|e
    ·have:=(g6 e).2.2;omega
    ·exact(g14 e).2.2.2.1
   ·exact(g14 e).2.2.2.2
theorem metL_tk {o:List Sc} {i:Nat} {t:Tk} (P:Tk->Prop) (h:∀ x∈o,P x.tk):∀ x∈metL o i t,P x.tk:=by
 cases o with
 | nil=>exact h
 | cons a r =>
  intro x hx
  rcases List.mem_cons.1 hx with rfl|hx
  ·exact h a (List.mem_cons_self ..)
  ·exact h x (List.mem_cons_of_mem _ hx)
theorem sno_step {f:Fm} {s:St} {i:Nat} {t:Tk} (hv:0<=f.ver/\f.ver<=65534) (H:Inv f i s) (hS:SnO s) (h:okZ f s i t=true):SnO (nxt s i t):=by
 unfold nxt
 by_cases he:edO t.op=true
 ·rw[if_pos he]
  exact fun x hx=>hS x (List.mem_of_mem_tail hx)
 ·rw[if_neg he]
  have hm:=metL_tk (i:=i) (t:=t) (fun u=>0<=u.since/\u.since<=65534) hS
  by_cases hb:bgO t.op=true
  ·simp only[hb,if_true]
   intro x hx
   rcases List.mem_cons.1 hx with rfl|hx
   ·show 0<=t.since/\t.since<=65534
    have hn:=shn_at hv H hS h
    have hpl:=(okZ_op h H).2.2
    have hb':=hb
    unfold bgO at hb'
    have hb':=decT hb'
    by_cases h8:t.op=8\/t.op=10\/t.op=12\/t.op=14
    ·have:=pl_since hpl (by omega);omega
    ·have h1:=hn.since (by omega)
     refine⟨h1.1,?_⟩
     obtain⟨o,ids⟩:=s
     cases o with
     | nil =>
      obtain⟨-,e,hp,-,-,hm⟩:=okZ_nil h
      unfold msgB at hm
      simp only[Bool.and_eq_true] at hm
      have h2:=betT hm.1.1.1.2
      omega
     | cons x r =>
      have h':inOk f (x::r) ids i x t=true:=h
      obtain⟨-,-,-,-,-,hr⟩:=inOk_in h' (by simpa using he)
      have hx:=H.all x (List.mem_cons_self ..)
      have hs:=hS x (List.mem_cons_self ..)
      have row:rowB f x t=true->t.since<=65534:=fun hq=>by
       unfold rowB at hq
       split at hq
       ·have:=decT hq;omega
       ·have:=betT hq;omega
      unfold rulB at hr
      by_cases e2:t.op=2
      ·rw[if_pos e2] at hr
       have:=fld_b hr hx.e0.1 hx.blk.2
       omega
      rw[if_neg e2] at hr
      by_cases e4:t.op=4
      ·rw[if_pos e4] at hr
       unfold grpB at hr
       simp only[Bool.and_eq_true] at hr
       exact row hr.1.1.1.1.2
      rw[if_neg e4] at hr
      by_cases e6:t.op=6
      ·rw[if_pos e6] at hr
       unfold datB at hr
       simp only[Bool.and_eq_true] at hr
       exact row hr.1.1.1.1.2
      ·have hm:mayB f.toks x t.op=true:=by
        unfold inOk at h'
        simp only[Bool.and_eq_true] at h'
        exact h'.1.1.1
       have ht:=may_typ hm (by simpa using he) hx.beg
       rcases ht with ⟨-,hq,-⟩|⟨-,-,hq⟩|⟨-,hq⟩|⟨-,⟨-,hq⟩|⟨-,hq⟩⟩
       ·unfold ptO at hq;have:=decT hq;omega
       ·unfold tyO at hq;have:=decT hq;omega
       ·unfold tyO at hq;have:=decT hq;omega
       ·omega
       ·omega
   ·exact hm x hx
  ·simp only[hb]
   exact hm
theorem sno_at {f:Fm} (hz:chkZ f=none):∀ i,i<=f.toks.length->SnO (stA f i):=by
 intro i
 induction i with
 | zero=>intro _ x hx;cases hx
 | succ i ih =>
  intro hi
  obtain⟨t,ht⟩:∃ t,f.toks[i]?=some t:=⟨f.toks[i],List.getElem?_eq_getElem (by omega)⟩
  obtain⟨hok,H⟩:=val_ok hz ht
  rw[stA_succ ht]
  exact sno_step (head_ver hz) H (ih (by omega)) hok
theorem shn_of {f:Fm} (hz:chkZ f=none) {i:Nat} {t:Tk} (ht:f.toks[i]?=some t):ShN t:=by
 obtain⟨hok,H⟩:=val_ok hz ht
 exact shn_at (head_ver hz) H (sno_at hz i (by have:=(List.getElem?_eq_some_iff.1 ht).1;omega)) hok
def opN (f:Fm) (i:Nat):Nat:=(stA f i).open_.length
theorem metL_len (o:List Sc) (i:Nat) (t:Tk):(metL o i t).length=o.length:=by cases o<;>rfl
theorem opN_succ {f:Fm} (hz:chkZ f=none) {i:Nat} {t:Tk} (ht:f.toks[i]?=some t) :
  (edO t.op=true->0<opN f i/\opN f (i+1)=opN f i-1)/\(edO t.op=false->opN f (i+1)=if bgO t.op then opN f i+1 else opN f i):=by
 obtain⟨hok,H⟩:=val_ok hz ht
 unfold opN
 rw[stA_succ ht]
 unfold nxt
 refine⟨fun he=>?_,fun he=>?_⟩
 ·rw[if_pos he]
  refine⟨?_,List.length_tail⟩
  generalize stA f i=s at hok
  obtain⟨o,ids⟩:=s
  cases o with
  | nil =>
   obtain⟨-,e,-⟩:=okZ_nil hok
   rw[e] at he
   exact absurd he (by decide)
  | cons x r=>exact Nat.succ_pos _
 ·rw[if_neg (by rw[he];decide)]
  by_cases hb:bgO t.op=true
  ·simp only[hb,if_true,List.length_cons,metL_len]
  ·rw[if_neg hb,if_neg hb,metL_len]
theorem opN_le {f:Fm} (hz:chkZ f=none):∀ i,i<=f.toks.length->opN f i<=i:=by
 intro i
 induction i with
 | zero=>intro _;exact Nat.le_refl _
 | succ i ih =>
  intro hi
  obtain⟨t,ht⟩:∃ t,f.toks[i]?=some t:=⟨f.toks[i],List.getElem?_eq_getElem (by omega)⟩
  have h:=opN_succ hz ht
  have:=ih (by omega)
  cases he:edO t.op with
  | true=>have:=h.1 he;omega
  | false =>
   have h2:=h.2 he
   rw[h2]
   split<;>omega
def lnD (f:Fm) (i:Nat) (t:Tk):Nat:=if edO t.op then opN f i-1 else opN f i
def shD (n:Nat):ByteArray:=⟨(Lib.decDigits n).toArray⟩
def shI (n:Int):ByteArray:=shD n.toNat
abbrev shMsg:ByteArray:=⟨#[109,101,115,115,97,103,101]⟩
abbrev shFld:ByteArray:=⟨#[102,105,101,108,100]⟩
abbrev shGrp:ByteArray:=⟨#[103,114,111,117,112]⟩
abbrev shDat:ByteArray:=⟨#[100,97,116,97]⟩
abbrev shCmp:ByteArray:=⟨#[99,111,109,112,111,115,105,116,101]⟩
abbrev shEnu:ByteArray:=⟨#[101,110,117,109]⟩
abbrev shSet:ByteArray:=⟨#[115,101,116]⟩
abbrev shEnc:ByteArray:=⟨#[101,110,99,111,100,105,110,103]⟩
abbrev shCho:ByteArray:=⟨#[99,104,111,105,99,101]⟩
abbrev shEnd:ByteArray:=⟨#[101,110,100]⟩
abbrev shSp:ByteArray:=⟨#[32]⟩
def shP (p:Int):ByteArray:=if p=0 then ⟨#[114,101,113,117,105,114,101,100]⟩ else if p=1 then ⟨#[111,112,116,105,111,110,97,108]⟩ else ⟨#[99,111,110,115,116,97,110,116]⟩
def shT (pn:Int->ByteArray) (t:Tk):List ByteArray :=
 if t.op=0 then [shMsg,t.name,shI t.id,shI t.since,shI t.blk]
 else if t.op=2 then [shFld,t.name,shI t.id,shI t.since,shI t.off,shI t.siz,shP t.pres]
 else if t.op=4 then [shGrp,t.name,shI t.id,shI t.since,shI t.siz,shI t.blk]
 else if t.op=6 then [shDat,t.name,shI t.id,shI t.since,shI t.siz,pn t.prim]
 else if t.op=8 then [shCmp,t.name,shI t.off,shI t.siz]
 else if t.op=10 then [shEnu,t.name,shI t.off,shI t.siz]
 else if t.op=12 then [shSet,t.name,shI t.off,shI t.siz]
 else if t.op=14 then [shEnc,t.name,shI t.off,shI t.siz,pn t.prim,shI t.len,shP t.pres]
 else if t.op=15 then [shCho,t.name,shI t.val,shI t.since]
 else [shEnd,t.name]
def shJ (l:List ByteArray):ByteArray:=⟨(Lib.join (l.map (·.data.toList)) [32]).toArray⟩
def shR (k:Nat):ByteArray:=⟨(Lib.repeatL [32,32] k).toArray⟩
theorem shJ_one (a:ByteArray):shJ [a]=a:=by
 unfold shJ
 rw[List.map_cons,List.map_nil,Lib.join_one]
theorem shJ_snoc (a:ByteArray) (l:List ByteArray) (x:ByteArray):shJ (a::(l++[x]))=shJ (a::l)++(shSp++x):=by
 refine ba_ext ?_
 unfold shJ
 rw[ByteArray.data_append,ByteArray.data_append,Array.toList_append,Array.toList_append]
 rw[List.map_cons,List.map_cons,Lib.join_cons,Lib.join_cons]
 unfold Lib.joinTail
 simp[List.append_assoc]
theorem shJ_2 (a b:ByteArray):shJ [a,b]=a++(shSp++b):=by
 have:=shJ_snoc a [] b
 rw[shJ_one] at this
 exact this
theorem shJ_3 (a b c:ByteArray):shJ [a,b,c]=(a++(shSp++b))++(shSp++c):=by
 have:=shJ_snoc a [b] c
 rw[shJ_2] at this
 exact this
theorem shJ_4 (a b c d:ByteArray):shJ [a,b,c,d]=((a++(shSp++b))++(shSp++c))++(shSp++d):=by
 have:=shJ_snoc a [b,c] d
 rw[shJ_3] at this
 exact this
theorem shJ_5 (a b c d e:ByteArray):shJ [a,b,c,d,e]=(((a++(shSp++b))++(shSp++c))++(shSp++d))++(shSp++e):=by
 have:=shJ_snoc a [b,c,d] e
 rw[shJ_4] at this
 exact this
theorem shJ_6 (a b c d e g:ByteArray):shJ [a,b,c,d,e,g]=((((a++(shSp++b))++(shSp++c))++(shSp++d))++(shSp++e))++(shSp++g):=by
 have:=shJ_snoc a [b,c,d,e] g
 rw[shJ_5] at this
 exact this
theorem shJ_7 (a b c d e g h:ByteArray):shJ [a,b,c,d,e,g,h]=(((((a++(shSp++b))++(shSp++c))++(shSp++d))++(shSp++e))++(shSp++g))++(shSp++h):=by
 have:=shJ_snoc a [b,c,d,e,g] h
 rw[shJ_6] at this
 exact this
theorem shR_zero:shR 0=⟨#[]⟩:=rfl
theorem shR_succ (k:Nat):shR (k+1)=(⟨#[32,32]⟩:ByteArray)++shR k:=by
 refine ba_ext ?_
 unfold shR
 rw[ByteArray.data_append,Array.toList_append]
 rfl
def shL (pn:Int->ByteArray) (f:Fm):List ByteArray:=f.toks.mapIdx fun i t=>shR (lnD f i t)++shJ (shT pn t)
open Go.ChangeShapes Go.WideShapes Go.ChangeAt Go.RowKit
theorem ret_int {k:IntKind} {a b:Int} (h:a=b):Ending.returned (.int k a) = .returned (.int k b):=by rw[h]
theorem ret_bool {a b:Bool} (h:a=b):Ending.returned (.bool a) = .returned (.bool b):=by rw[h]
theorem bel1 (w:World) (o:Obj):Below w.heap.size w (w.alloc o):=(Below.refl _ _).alloc (Nat.le_refl _) _
abbrev kV (s r n m x:Int):Value:=.agg #[.int .i64 s,.int .i64 r,.int .u64 n,.int .u64 m,.int .u64 x]
structure KT (w:World):Prop where
 pos:3<w.heap.size
 size:∀ p:Nat,p<11->w.cell? ⟨3,5*p,none⟩=some (.int .i64 (sz p))
 reading:∀ p:Nat,p<11->w.cell? ⟨3,5*p+1,none⟩=some (.int .i64 (rd p))
 null:∀ p:Nat,p<11->w.cell? ⟨3,5*p+2,none⟩=some (.int .u64 (nl p))
 least:∀ p:Nat,p<11->w.cell? ⟨3,5*p+3,none⟩=some (.int .u64 (mn p))
 most:∀ p:Nat,p<11->w.cell? ⟨3,5*p+4,none⟩=some (.int .u64 (mx p))
theorem KT.below {w w':World} (h:KT w) {B:Nat} (hB:3<B) (hb:Below B w w'):KT w' :=
 ⟨Nat.lt_of_lt_of_le h.pos hb.size,fun p hp=>(hb.cell (p:=⟨3,5*p,none⟩) hB).trans (h.size p hp),fun p hp=>(hb.cell (p:=⟨3,5*p+1,none⟩) hB).trans (h.reading p hp),
  fun p hp=>(hb.cell (p:=⟨3,5*p+2,none⟩) hB).trans (h.null p hp),fun p hp=>(hb.cell (p:=⟨3,5*p+3,none⟩) hB).trans (h.least p hp),fun p hp=>(hb.cell (p:=⟨3,5*p+4,none⟩) hB).trans (h.most p hp)⟩
theorem kindOf_out (p:Int) (w:World) (h:p<0\/11<=p) :
  Calls Tryz.prog 127 #[.int .i64 p] w fun e w'=>e = .returned (kV 0 0 0 0 0)/\Below w.heap.size w w':=by
 rcases h with h|h
 ·go_enter Tryz.func127,Tryz.ntmps127
  go_wp2
  exact bodyPost_ret (v:=kV 0 0 0 0 0) (by simp[results,Tryz.results127,go_sem]) rfl ⟨rfl,bel1 _ _⟩
 ·have h':¬ p<0:=by omega
  go_enter Tryz.func127,Tryz.ntmps127
  go_wp2
  exact bodyPost_ret (v:=kV 0 0 0 0 0) (by simp[results,Tryz.results127,go_sem]) rfl ⟨rfl,bel1 _ _⟩
theorem kindOf_in (q:Nat) (s r n m x:Int) (w:World) (hq:q<11) (hp:3<w.heap.size) (h0:w.cell? ⟨3,5*q,none⟩=some (.int .i64 s)) (h1:w.cell? ⟨3,5*q+1,none⟩=some (.int .i64 r))
  (h2:w.cell? ⟨3,5*q+2,none⟩=some (.int .u64 n)) (h3:w.cell? ⟨3,5*q+3,none⟩=some (.int .u64 m)) (h4:w.cell? ⟨3,5*q+4,none⟩=some (.int .u64 x)) :
  Calls Tryz.prog 127 #[.int .i64 q] w fun e w'=>e = .returned (kV s r n m x)/\Below w.heap.size w w':=by
 have hc:q=0\/q=1\/q=2\/q=3\/q=4\/q=5\/q=6\/q=7\/q=8\/q=9\/q=10:=by omega
 rcases hc with rfl|rfl|rfl|rfl|rfl|rfl|rfl|rfl|rfl|rfl|rfl
 all_goals
  simp only[Nat.mul_zero,Nat.zero_add,Nat.reduceMul,Nat.reduceAdd] at h0 h1 h2 h3 h4
  go_enter Tryz.func127,Tryz.ntmps127
  go_wp2
  exact bodyPost_ret (v:=kV s r n m x) (by simp[results,Tryz.results127,go_sem]) rfl ⟨rfl,bel1 _ _⟩
theorem kindOf_any (p:Int) (w:World) (h:KT w) :
  Calls Tryz.prog 127 #[.int .i64 p] w fun e w'=>e = .returned (kV (sz p) (rd p) (nl p) (mn p) (mx p))/\Below w.heap.size w w':=by
 by_cases hp:p<0\/11<=p
 ·have e:kV (sz p) (rd p) (nl p) (mn p) (mx p)=kV 0 0 0 0 0:=by unfold sz rd nl mn mx;rw[kRow_out p hp]
  rw[e];exact kindOf_out p w hp
 ·obtain⟨q,rfl⟩:∃ q:Nat,p=q:=⟨p.toNat,by omega⟩
  exact kindOf_in q _ _ _ _ _ w (by omega) h.pos (h.size q (by omega)) (h.reading q (by omega)) (h.null q (by omega)) (h.least q (by omega)) (h.most q (by omega))
theorem word_any (s r n m x b:Int) (w:World) (hk:KOk s r) (hs:s≠0) (hb:0<=b) (hb':b<18446744073709551616) :
  Calls Tryz.prog 139 #[kV s r n m x,.int .u64 b] w fun e w'=>e = .returned (.int .u64 (wordF s r b))/\Below w.heap.size w w':=by
 rcases hk with ⟨rfl,rfl⟩|⟨rfl,rfl⟩|⟨rfl,rfl⟩|⟨rfl,rfl⟩|⟨rfl,rfl⟩|⟨rfl,rfl⟩|⟨rfl,rfl⟩|⟨rfl,rfl⟩|⟨rfl,rfl⟩|⟨rfl,rfl⟩|⟨rfl,rfl⟩
 ·exact absurd rfl hs
 all_goals
  clear hs
  go_enter Tryz.func139,Tryz.ntmps139
  go_wp2
  go_ret
  refine⟨ret_int ?_,bel1 _ _⟩
  simp only[IntKind.wrap_u64,wrap64,wordF,pw,if_true,if_false,Int.reduceEq,false_and,true_and]
  try split
  all_goals omega
theorem fits_any (s r n m x b:Int) (w:World) (hk:KOk s r) (hb:0<=b) (hb':b<18446744073709551616) :
  Calls Tryz.prog 130 #[kV s r n m x,.int .u64 b] w fun e w'=>e = .returned (.bool (fitsF s r b))/\Below w.heap.size w w':=by
 by_cases hs:s=0
 ·subst hs
  go_enter Tryz.func130,Tryz.ntmps130
  go_wp2
  go_ret
  exact⟨ret_bool rfl,(bel1 _ _).alloc (by simp) _⟩
 ·have hpos:0<s:=by unfold KOk at hk;omega
  have e:fitsF s r b=(wordF s r b==b):=by unfold fitsF;rw[decide_eq_true hpos];rfl
  rw[e]
  have hk':Hid (KOk s r):=hk
  clear hk e
  go_enter Tryz.func130,Tryz.ntmps130
  go_wp2_with (first|(go_at_call 139;refine(word_any _ _ _ _ _ _ _ hk'.out hs hb hb').mono ?_;rintro e w' ⟨rfl,hbl⟩)|(go_at_call 138;go_in))
  go_ret
  exact⟨rfl,((bel1 _ _).alloc (by simp) _).trans (hbl.mono (by simp;omega))⟩
theorem field0 (s r n m x:Int) (w:World):(Instr.field 154 (kV s r n m x) 0).run Tryz.prog w = .ok (.int .i64 s) w:=by kernel_rfl
theorem field4 (s r n m x:Int) (w:World):(Instr.field 154 (kV s r n m x) 4).run Tryz.prog w = .ok (.int .u64 x) w:=by kernel_rfl
theorem Fits_any (p b:Int) (w:World) (h:KT w) (hb:0<=b) (hb':b<18446744073709551616):Calls Tryz.prog 111 #[.int .i64 p,.int .u64 b] w fun e w'=>e = .returned (.bool (fitsF (sz p) (rd p) b))/\Below w.heap.size w w':=by
 go_enter Tryz.func111,Tryz.ntmps111
 go_wp2_with (first|(go_at_call 127;refine(kindOf_any _ _ h).mono ?_;rintro e w' ⟨rfl,hbl⟩)|(go_at_call 130;refine(fits_any _ _ _ _ _ _ _ (kok p) hb hb').mono ?_;rintro e w1 ⟨rfl,hbl1⟩))
 go_ret
 exact⟨rfl,hbl.trans (hbl1.mono hbl.size)⟩
def bitsF (n:Int):Int:=2 ^ n.toNat-1
theorem bitsF_succ (k:Nat):bitsF ((k:Int)+1)=2*bitsF k+1:=by
 unfold bitsF
 rw[show ((k:Int)+1).toNat=k+1 by omega,show (k:Int).toNat=k by omega,Int.pow_succ]
 omega
theorem bitsF_bd (n:Nat) (h:n<=64):0<=bitsF n/\bitsF n<=18446744073709551615:=by
 unfold bitsF
 rw[show (n:Int).toNat=n by omega]
 have h1:(2:Nat) ^ n<=2 ^ 64:=Nat.pow_le_pow_right (by decide) h
 have h2:0<(2:Nat) ^ n:=Nat.pow_pos (by decide)
 have h3:((2:Int) ^ n)=((2 ^ n:Nat):Int):=by norm_cast
 rw[h3]
 have h4:(2:Nat) ^ 64=18446744073709551616:=by decide
 omega
theorem bitsF_nat (n:Int):bitsF n.toNat=bitsF n:=by unfold bitsF;rw[show ((n.toNat:Nat):Int).toNat=n.toNat by omega]
theorem refBits_any (n:Int) (w:World) (h:n<=64):Calls Tryz.prog 93 #[.int .i64 n] w fun e w'=>e = .returned (.int .u64 (bitsF n))/\w'=w:=by
 go_enter Tryz.func93,Tryz.ntmps93
 go_wp2
 go_loop [3,4] (fun b i=>∃ k:Nat,k<=n.toNat/\i = .int .i64 k/\b = .int .u64 (bitsF k)) (fun _ i=>n.toNat-(intOf i).toNat)
 case atStart=>exact⟨0,Nat.zero_le _,rfl,rfl⟩
 case round =>
  obtain⟨k,hk,rfl,rfl⟩:=hrel
  have hb:=bitsF_bd k (by omega)
  have hb':=bitsF_bd (k+1)
  have HS:Hid (bitsF ((k+1:Nat):Int)=2*bitsF k+1):=bitsF_succ k
  by_cases hlt:(k:Int)<n
  ·have hm:2*bitsF k+1<=18446744073709551615:=by have:=hb' (by omega);rw[HS.out] at this;exact this.2
   clear hb'
   go_wp2
   go_round
   case rel=>exact⟨k+1,by omega,by go_num,by rw[HS.out]⟩
   case measure=>simp[intOf];omega
  ·clear hb'
   go_wp2
   go_ret
   exact⟨ret_int (by rw[<- bitsF_nat n];congr 1;omega),rfl⟩
theorem refSize_any (p:Int) (w:World):Calls Tryz.prog 54 #[.int .i64 p] w fun e w'=>e = .returned (.int .i64 (sz p))/\w'=w:=by
 rcases prim_cases p with h|rfl|rfl|rfl|rfl|rfl|rfl|rfl|rfl|rfl|rfl|rfl
 ·have e:sz p=0:=by unfold sz;rw[kRow_out p h]
  rw[e];clear e
  rcases h with h|h
  all_goals
   go_enter Tryz.func54,Tryz.ntmps54
   go_wp2
   go_ret
   exact⟨rfl,rfl⟩
 all_goals
  go_enter Tryz.func54,Tryz.ntmps54
  go_wp2
  go_ret
  exact⟨rfl,rfl⟩
theorem refSigned_any (p:Int) (w:World):Calls Tryz.prog 91 #[.int .i64 p] w fun e w'=>e = .returned (.bool (rd p==1))/\w'=w:=by
 rcases prim_cases p with h|rfl|rfl|rfl|rfl|rfl|rfl|rfl|rfl|rfl|rfl|rfl
 ·have e:(rd p==1)=false:=by unfold rd;rw[kRow_out p h];rfl
  rw[e];clear e
  rcases h with h|h
  all_goals
   go_enter Tryz.func91,Tryz.ntmps91
   go_wp2
   go_ret
   first|exact⟨rfl,rfl⟩|exact⟨ret_bool (decide_eq_false (by omega)),rfl⟩
 all_goals
  go_enter Tryz.func91,Tryz.ntmps91
  go_wp2
  go_ret
  exact⟨rfl,rfl⟩
def highF (s:Int):Int:=if s=0 then 0 else pw s / 2
theorem refHigh_any (p:Int) (w:World):Calls Tryz.prog 92 #[.int .i64 p] w fun e w'=>e = .returned (.int .u64 (highF (sz p)))/\w'=w:=by
 have hc:sz p=0\/sz p=1\/sz p=2\/sz p=4\/sz p=8:=by have:=kok p;unfold KOk at this;omega
 rcases hc with hs|hs|hs|hs|hs
 all_goals
  rw[hs]
  go_enter Tryz.func92,Tryz.ntmps92
  go_wp2_with (first|(go_at_call 54;refine(refSize_any _ _).mono ?_;rintro e w' ⟨rfl,rfl⟩)|(go_at_call 93;refine(refBits_any _ _ (by omega)).mono ?_;rintro e w' ⟨rfl,rfl⟩))
  go_ret
  exact⟨ret_int (by simp only[IntKind.wrap_u64];decide),rfl⟩
theorem sz_rd:sz 0=1/\(rd 0==1)=false/\sz 1=1/\(rd 1==1)=true/\sz 2=2/\(rd 2==1)=true/\sz 3=4/\(rd 3==1)=true/\sz 4=8/\(rd 4==1)=true/\sz 5=1/\(rd 5==1)=false/\sz 6=2/\(rd 6==1)=false/\sz 7=4/\(rd 7==1)=false/\sz 8=8/\(rd 8==1)=false/\sz 9=4/\(rd 9==1)=false/\sz 10=8/\(rd 10==1)=false:=by decide
theorem refNull_any (p:Int) (w:World):Calls Tryz.prog 96 #[.int .i64 p] w fun e w'=>e = .returned (.int .u64 (nl p))/\w'=w:=by
 rcases prim_cases p with h|rfl|rfl|rfl|rfl|rfl|rfl|rfl|rfl|rfl|rfl|rfl
 ·have e:nl p=0:=by unfold nl;rw[kRow_out p h]
  have e1:sz p=0:=by unfold sz;rw[kRow_out p h]
  have e2:(rd p==1)=false:=by unfold rd;rw[kRow_out p h];rfl
  rw[e];clear e
  rcases h with h|h
  all_goals
   go_enter Tryz.func96,Tryz.ntmps96
   go_wp2_with (first|(go_at_call 54;refine(refSize_any _ _).mono ?_;rintro e w' ⟨rfl,rfl⟩)|(go_at_call 91;refine(refSigned_any _ _).mono ?_;rintro e w' ⟨rfl,rfl⟩)|(go_at_call 93;refine(refBits_any _ _ (by omega)).mono ?_;rintro e w' ⟨rfl,rfl⟩)|(go_at_call 92;refine(refHigh_any _ _).mono ?_;rintro e w' ⟨rfl,rfl⟩))
   go_ret
   exact⟨rfl,rfl⟩
 all_goals
  obtain⟨a0,a1,a2,a3,a4,a5,a6,a7,a8,a9,a10,a11,a12,a13,a14,a15,a16,a17,a18,a19,a20,a21⟩:=sz_rd
  go_enter Tryz.func96,Tryz.ntmps96
  go_wp2_with (first|(go_at_call 54;refine(refSize_any _ _).mono ?_;rintro e w' ⟨rfl,rfl⟩)|(go_at_call 91;refine(refSigned_any _ _).mono ?_;rintro e w' ⟨rfl,rfl⟩)|(go_at_call 93;refine(refBits_any _ _ (by omega)).mono ?_;rintro e w' ⟨rfl,rfl⟩)|(go_at_call 92;refine(refHigh_any _ _).mono ?_;rintro e w' ⟨rfl,rfl⟩))
  go_ret
  first|exact⟨rfl,rfl⟩|exact⟨ret_int (by simp only[IntKind.wrap_u64];decide),rfl⟩
theorem refMax_any (p:Int) (w:World):Calls Tryz.prog 55 #[.int .i64 p] w fun e w'=>e = .returned (.int .u64 (mx p))/\w'=w:=by
 rcases prim_cases p with h|rfl|rfl|rfl|rfl|rfl|rfl|rfl|rfl|rfl|rfl|rfl
 ·have e:mx p=0:=by unfold mx;rw[kRow_out p h]
  have e1:sz p=0:=by unfold sz;rw[kRow_out p h]
  have e2:(rd p==1)=false:=by unfold rd;rw[kRow_out p h];rfl
  rw[e];clear e
  have g0:(p==0)=false:=by simp;omega
  have g9:(p==9)=false:=by simp;omega
  have g10:(p==10)=false:=by simp;omega
  rcases h with h|h
  all_goals
   go_enter Tryz.func55,Tryz.ntmps55
   go_wp2_with (first|(go_at_call 54;refine(refSize_any _ _).mono ?_;rintro e w' ⟨rfl,rfl⟩)|(go_at_call 91;refine(refSigned_any _ _).mono ?_;rintro e w' ⟨rfl,rfl⟩)|(go_at_call 96;refine(refNull_any _ _).mono ?_;rintro e w' ⟨rfl,rfl⟩)|(go_at_call 93;refine(refBits_any _ _ (by omega)).mono ?_;rintro e w' ⟨rfl,rfl⟩)|(go_at_call 92;refine(refHigh_any _ _).mono ?_;rintro e w' ⟨rfl,rfl⟩))
   go_ret
   exact⟨rfl,rfl⟩
 all_goals
  obtain⟨a0,a1,a2,a3,a4,a5,a6,a7,a8,a9,a10,a11,a12,a13,a14,a15,a16,a17,a18,a19,a20,a21⟩:=sz_rd
  go_enter Tryz.func55,Tryz.ntmps55
  go_wp2_with (first|(go_at_call 54;refine(refSize_any _ _).mono ?_;rintro e w' ⟨rfl,rfl⟩)|(go_at_call 91;refine(refSigned_any _ _).mono ?_;rintro e w' ⟨rfl,rfl⟩)|(go_at_call 96;refine(refNull_any _ _).mono ?_;rintro e w' ⟨rfl,rfl⟩)|(go_at_call 93;refine(refBits_any _ _ (by omega)).mono ?_;rintro e w' ⟨rfl,rfl⟩)|(go_at_call 92;refine(refHigh_any _ _).mono ?_;rintro e w' ⟨rfl,rfl⟩))
  go_ret
  first|exact⟨rfl,rfl⟩|exact⟨ret_int (by simp only[IntKind.wrap_u64];decide),rfl⟩
end Go.Proofs.YtjnafpefolgcoaaGreatDoor
