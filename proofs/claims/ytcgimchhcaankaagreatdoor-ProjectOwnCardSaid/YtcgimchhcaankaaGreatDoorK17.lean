import Derived.Test.YtcgimchhcaankaaGreatDoorK12
import Derived.Test.YtcgimchhcaankaaGreatDoorK13
import Derived.Test.YtcgimchhcaankaaGreatDoorK14
import Derived.Test.YtcgimchhcaankaaGreatDoorK15
import Derived.Test.YtcgimchhcaankaaGreatDoorK16
namespace Go.Proofs.YtcgimchhcaankaaGreatDoor
set_option maxRecDepth 1000000
set_option maxHeartbeats 16000000
def svOf (l:List Tk) (s:Sc):Sv:=⟨s.at_,s.kids.length,lastOp l s,s.fld,s.row,max s.e0 s.tk.off,codP l s⟩
def stp (x:Sv) (op:Int):Sv:={ x with cnt:=x.cnt+1,last:=op }
theorem beqd (a b:Int):(a==b)=decide (a=b):=by
 by_cases h:a=b<;>simp[h]
theorem may_eq (l:List Tk) (s:Sc) (op:Int):mayP s.tk.op (lastOp l s) (s.kids.length:Int) op=mayB l s op:=by
 unfold mayP mayB
 have h0:decide ((s.kids.length:Int)=0)=decide (s.kids.length=0):=by simp
 have h1:decide ((s.kids.length:Int)=1)=decide (s.kids.length=1):=decide_eq_decide.2 (by omega)
 have h2:decide (0<(s.kids.length:Int))=decide (s.kids.length≠0):=decide_eq_decide.2 (by omega)
 rw[h0,h1,h2]
theorem cod_eq (s:Sc) (t:Tk):codT s.tk t=codB s t:=by
 unfold codT codB
 simp[Bool.and_assoc]
theorem mem_eq (l:List Tk) (s:Sc) (t:Tk):memT (svOf l s) s.tk t=memB s t:=by
 have e:(svOf l s).en=max s.e0 s.tk.off:=rfl
 rw[Bool.eq_iff_iff]
 unfold memT memB bet
 simp only[Bool.and_eq_true,Bool.or_eq_true,decide_eq_true_eq]
 rw[e]
 omega
theorem plc_eq (l:List Tk) (s:Sc) (t:Tk):plcT (svOf l s) s.tk t=plcB s t:=by
 unfold plcT plcB
 rw[cod_eq,mem_eq]
 by_cases h2:s.tk.op=2
 ·simp[h2]
 by_cases h10:s.tk.op=10
 ·simp[h10,Bool.and_assoc]
 ·simp[h2,h10]
theorem row_eq (f:Fm) (s:Sc) (t:Tk):rowT f (svOf f.toks s) s.tk t=rowB f s t:=rfl
theorem new_eq (l:List Tk) (ids:List Int) (s:Sc) (t:Tk):nwT t (!(ids.contains t.id)) (!(nameIn l s.kids t.name))=newB l ids s t:=rfl
theorem dat_eq (f:Fm) (ids:List Int) (s:Sc) (t:Tk):datT f (svOf f.toks s) s.tk t (!(ids.contains t.id)) (!(nameIn f.toks s.kids t.name))=datB f ids s t:=by
 unfold datT datB
 rw[row_eq,new_eq]
 simp[Bool.decide_or,beqd]
theorem grp_eq (f:Fm) (o:List Sc) (ids:List Int) (s:Sc) (t:Tk):grpT f (svOf f.toks s) s.tk t (!(ids.contains t.id)) (!(nameIn f.toks s.kids t.name)) (depB 4 o:Int)=grpB f o ids s t:=by
 unfold grpT grpB
 rw[row_eq,new_eq]
 have h:decide ((depB 4 o:Int)<8)=decide (depB 4 o<8):=decide_eq_decide.2 (by omega)
 rw[h]
 simp[spOk]
theorem cmp_eq (l:List Tk) (o:List Sc) (s:Sc) (t:Tk):cmpT (svOf l s) s.tk t (depB 8 o:Int)=cmpB o s t:=by
 unfold cmpT cmpB
 rw[plc_eq]
 have h:decide ((depB 8 o:Int)<16)=decide (depB 8 o<16):=decide_eq_decide.2 (by omega)
 rw[h]
theorem enc_eq (l:List Tk) (s:Sc) (t:Tk):encT (svOf l s) s.tk t=encB s t:=by
 unfold encT encB
 rw[plc_eq]
 by_cases h:t.pres=2
 ·simp[h,Bool.and_assoc,beqd]
 ·simp[h,Bool.and_assoc,beqd]
theorem cho_eq (l:List Tk) (s:Sc) (t:Tk):choT (svOf l s) s.tk t (!(nameIn l s.kids.tail t.name)) (!(valIn l s.kids.tail t.val))=choB l s t:=rfl
theorem in_eq (l:List Tk) (i:Nat) (s:Sc) (t u:Tk) (hu:l[i+1]?=some u) (h0:s.tk.off=0) (he:0<=s.e0):inT (svOf l s) s.tk t u=inB l i s t:=by
 unfold inT inB
 rw[hu]
 by_cases h:t.siz=0
 ·simp[h]
 ·simp only[h,if_false]
  have e:(svOf l s).en=max s.e0 s.tk.off:=rfl
  congr 1
  rw[Bool.eq_iff_iff]
  unfold bet
  simp only[Bool.and_eq_true,decide_eq_true_eq]
  rw[e]
  omega
theorem fld_eq (f:Fm) (ids:List Int) (i:Nat) (s:Sc) (t u:Tk) (hu:f.toks[i+1]?=some u) (h0:s.tk.off=0) (he:0<=s.e0):fldT f (svOf f.toks s) s.tk t u (!(ids.contains t.id)) (!(nameIn f.toks s.kids t.name))=fldB f ids i s t:=by
 unfold fldT fldB
 rw[new_eq,in_eq f.toks i s t u hu h0 he]
 by_cases e0:t.pres=0
 ·simp[e0,beqd,svOf]
 by_cases e1:t.pres=1
 ·simp[e1,svOf]
 by_cases e2:t.pres=2
 ·simp only[e2,beqd,svOf]
  have h:decide (0<t.cst.length)=decide (t.cst.length≠0):=decide_eq_decide.2 (by omega)
  simp[h,Bool.decide_and,Bool.and_assoc]
 ·simp[e0,e1,e2]
theorem last_met (l:List Tk) (s:Sc) (i:Nat) (t:Tk) (ht:l[i]?=some t):lastOp l (metX s i t)=t.op:=by
 unfold lastOp metX
 simp[ht]
theorem len_met (s:Sc) (i:Nat) (t:Tk):((metX s i t).kids.length:Int)=(s.kids.length:Int)+1:=by
 unfold metX
 simp
theorem cod_met {l:List Tk} {s:Sc} (i:Nat) (t:Tk) (ht:l[i]?=some t) (hk:(s.tk.op=10\/s.tk.op=12)->s.kids=[]->i=s.at_+1) :
  codP l (metX s i t)=if (s.tk.op=10\/s.tk.op=12)/\s.kids=[] then t.prim else codP l s:=by
 have e1:(metX s i t).tk=s.tk:=rfl
 have e2:(metX s i t).at_=s.at_:=rfl
 have e3:(metX s i t).kids=s.kids++[i]:=rfl
 unfold codP
 rw[e1,e2,e3]
 by_cases h:s.tk.op=10\/s.tk.op=12
 ·rw[if_pos (⟨h,by simp⟩:(s.tk.op=10\/s.tk.op=12)/\(s.kids++[i]).length≠0)]
  by_cases hn:s.kids=[]
  ·rw[if_pos ⟨h,hn⟩,<- hk h hn,ht]
  ·rw[if_neg (fun e=>hn e.2),if_pos ⟨h,fun e=>hn (List.length_eq_zero_iff.1 e)⟩]
 ·rw[if_neg (fun e=>h e.1),if_neg (fun e=>h e.1),if_neg (fun e=>h e.1)]
theorem sv_ext {a b:Sv} (h1:a.at_=b.at_) (h2:a.cnt=b.cnt) (h3:a.last=b.last) (h4:a.fld=b.fld) (h5:a.row=b.row) (h6:a.en=b.en) (h7:a.cod=b.cod):a=b:=by
 cases a;cases b
 simp only at h1 h2 h3 h4 h5 h6 h7
 subst h1 h2 h3 h4 h5 h6 h7
 rfl
theorem mem_at (x:Sv) (t:Tk):(memX x t).at_=x.at_/\(memX x t).cnt=x.cnt/\(memX x t).last=x.last/\(memX x t).fld=x.fld/\(memX x t).row=x.row/\(memX x t).cod=x.cod/\(memX x t).en=if t.siz=0 then x.en else t.off+t.siz:=by
 unfold memX
 split<;>simp
theorem met_sv {l:List Tk} {s:Sc} {i:Nat} {t:Tk} (ht:l[i]?=some t) (y:Sv) (a:y.at_=s.at_) (c:y.cnt=s.kids.length) (fl:y.fld=if t.op=2 then t.since else s.fld) (rw_:y.row=if (t.op=4\/t.op=6)/\s.tk.op≠4 then t.since else s.row)
  (en:y.en=max (if 0<t.siz/\((t.op=2/\t.pres≠2)\/s.tk.op=8) then t.off+t.siz else s.e0) s.tk.off) (cd:y.cod=codP l (metX s i t)):stp y t.op=svOf l (metX s i t) :=
 sv_ext a (by show y.cnt+1=((metX s i t).kids.length:Int);rw[len_met,c]) (last_met l s i t ht).symm fl rw_ en cd
theorem left_fld {f:Fm} {ids:List Int} {s:Sc} {i:Nat} {t:Tk} (ht:f.toks[i]?=some t) (h2:t.op=2) (hx:s.tk.op=0\/s.tk.op=4) (h0:s.tk.off=0) (he:0<=s.e0) (hb:s.tk.blk<=65535) (hr:fldB f ids i s t=true) :
  stp (fldX (svOf f.toks s) t) t.op=svOf f.toks (metX s i t):=by
 have hB:=fld_b hr he hb
 have hc:=cod_met (s:=s) i t ht (by omega)
 rw[if_neg (by omega)] at hc
 have hm:=mem_at { svOf f.toks s with fld:=t.since } t
 have hen:(svOf f.toks s).en=max s.e0 s.tk.off:=rfl
 unfold fldX
 by_cases hp:t.pres=2
 ·rw[if_pos hp]
  refine met_sv ht _ rfl rfl (by rw[if_pos h2]) (by rw[if_neg (by omega)];rfl) ?_ (by rw[hc];rfl)
  rw[if_neg (by omega)]
  exact hen
 ·rw[if_neg hp]
  refine met_sv ht _ (hm.1.trans rfl) (hm.2.1.trans rfl) (by rw[if_pos h2];exact hm.2.2.2.1) (by rw[if_neg (by omega)];exact hm.2.2.2.2.1) ?_ (by rw[hc];exact hm.2.2.2.2.2.1)
  rw[hm.2.2.2.2.2.2]
  show (if t.siz=0 then (svOf f.toks s).en else t.off+t.siz)=_
  rw[hen]
  by_cases hz:t.siz=0
  ·rw[if_pos hz,if_neg (by omega)]
  ·rw[if_neg hz,if_pos (by omega)]
   omega
theorem left_row {f:Fm} {s:Sc} {i:Nat} {t:Tk} (ht:f.toks[i]?=some t) (h2:t.op=4\/t.op=6) (hx:s.tk.op=0\/s.tk.op=4) :
  stp (rowX (svOf f.toks s) s.tk t) t.op=svOf f.toks (metX s i t):=by
 have hc:=cod_met (s:=s) i t ht (by omega)
 rw[if_neg (by omega)] at hc
 unfold rowX
 by_cases hp:s.tk.op=4
 ·rw[if_pos hp]
  refine met_sv ht _ rfl rfl (by rw[if_neg (by omega)];rfl) (by rw[if_neg (by omega)];rfl) ?_ (by rw[hc];rfl)
  rw[if_neg (by omega)]
  rfl
 ·rw[if_neg hp]
  refine met_sv ht _ rfl rfl (by rw[if_neg (by omega)];rfl) (by rw[if_pos (by omega)]) ?_ (by rw[hc];rfl)
  rw[if_neg (by omega)]
  rfl
theorem left_typ {l:List Tk} {s:Sc} {i:Nat} {t:Tk} (ht:l[i]?=some t) (h2:tyO t.op=true) (hx:s.tk.op=2\/s.tk.op=8\/((s.tk.op=10\/s.tk.op=12)/\s.kids=[]/\i=s.at_+1)) (hr:plcB s t=true) :
  stp (plcX (svOf l s) s.tk t) t.op=svOf l (metX s i t):=by
 have h2:=decT h2
 have hen:(svOf l s).en=max s.e0 s.tk.off:=rfl
 have hm:=mem_at (svOf l s) t
 unfold plcX
 rcases hx with hx|hx|⟨hx,hk,hi⟩
 ·have hc:=cod_met (s:=s) i t ht (by omega)
  rw[if_neg (by omega)] at hc
  rw[if_pos hx]
  refine met_sv ht _ rfl rfl (by rw[if_neg (by omega)];rfl) (by rw[if_neg (by omega)];rfl) ?_ (by rw[hc];rfl)
  rw[if_neg (by omega)]
  exact hen
 ·have hc:=cod_met (s:=s) i t ht (by omega)
  rw[if_neg (by omega)] at hc
  rw[if_neg (by omega),if_neg (by omega)]
  have hM:memB s t=true:=by
   unfold plcB at hr
   simp only[Bool.and_eq_true] at hr
   have h3:=hr.2
   rwa [if_neg (by omega),if_neg (by omega),if_neg (by omega)] at h3
  have hS:0<=t.siz:=by
   unfold plcB at hr
   simp only[Bool.and_eq_true] at hr
   exact(betT hr.1.1).1
  have hM:=decT hM
  refine met_sv ht _ hm.1 hm.2.1 (by rw[if_neg (by omega)];exact hm.2.2.2.1) (by rw[if_neg (by omega)];exact hm.2.2.2.2.1) ?_ (by rw[hc];exact hm.2.2.2.2.2.1)
  rw[hm.2.2.2.2.2.2,hen]
  by_cases hz:t.siz=0
  ·rw[if_pos hz,if_neg (by omega)]
  ·rw[if_neg hz,if_pos (by omega)]
   omega
 ·have hc:=cod_met (s:=s) i t ht (fun _ _=>hi)
  rw[if_pos ⟨hx,hk⟩] at hc
  rw[if_neg (by omega),if_pos hx]
  refine met_sv ht _ rfl rfl (by rw[if_neg (by omega)];rfl) (by rw[if_neg (by omega)];rfl) ?_ (by rw[hc])
  rw[if_neg (by omega)]
  exact hen
theorem left_cho {l:List Tk} {s:Sc} {i:Nat} {t:Tk} (ht:l[i]?=some t) (h2:t.op=15) (hx:s.tk.op=10\/s.tk.op=12) (hk:s.kids≠[]) :
  stp (svOf l s) t.op=svOf l (metX s i t):=by
 have hc:=cod_met (s:=s) i t ht (fun _ e=>absurd e hk)
 rw[if_neg (fun e=>hk e.2)] at hc
 refine met_sv ht _ rfl rfl (by rw[if_neg (by omega)];rfl) (by rw[if_neg (by omega)];rfl) ?_ (by rw[hc];rfl)
 rw[if_neg (by omega)]
 rfl
theorem left_new (l:List Tk) (i:Nat) (t:Tk) (ho:0<=t.off):svOf l (scNew i t)=⟨i,0,0,t.since,t.since,t.off,0⟩:=by
 refine sv_ext rfl rfl rfl rfl rfl ?_ ?_
 ·show max 0 t.off=t.off
  omega
 ·show codP l (scNew i t)=0
  unfold codP
  rw[if_neg (fun e=>e.2 rfl)]
structure Keys (l:List Tk) (o:List Sc) (i:Nat) (ids:List Int) (H1:Int->Prop) (H2:Nat->ByteArray->Prop) (H3:Nat->Int->Prop):Prop where
 id:∀ d,H1 d↔ids.contains d=true
 nm:∀ s∈o,(s.tk.op=0\/s.tk.op=4)->∀ n,H2 s.at_ n↔nameIn l s.kids n=true
 ch:∀ s∈o,(s.tk.op=10\/s.tk.op=12)->∀ n,H2 s.at_ n↔nameIn l s.kids.tail n=true
 vl:∀ s∈o,(s.tk.op=10\/s.tk.op=12)->∀ v,H3 s.at_ v↔valIn l s.kids.tail v=true
 no:∀ k,i<=k->(∀ n,¬ H2 k n)/\∀ v,¬ H3 k v
theorem Keys.up {l:List Tk} {o:List Sc} {i:Nat} {ids:List Int} {H1:Int->Prop} {H2:Nat->ByteArray->Prop} {H3:Nat->Int->Prop} (h:Keys l o i ids H1 H2 H3):Keys l o (i+1) ids H1 H2 H3:=⟨h.id,h.nm,h.ch,h.vl,fun k hk=>h.no k (by omega)⟩
theorem nameIn_snoc {l:List Tk} {ks:List Nat} {i:Nat} {t:Tk} (ht:l[i]?=some t) (n:ByteArray):nameIn l (ks++[i]) n=true↔t.name=n\/nameIn l ks n=true:=by
 unfold nameIn
 rw[List.any_append,Bool.or_eq_true]
 simp[ht,or_comm]
theorem valIn_snoc {l:List Tk} {ks:List Nat} {i:Nat} {t:Tk} (ht:l[i]?=some t) (v:Int):valIn l (ks++[i]) v=true↔t.val=v\/valIn l ks v=true:=by
 unfold valIn
 rw[List.any_append,Bool.or_eq_true]
 simp[ht,or_comm]
theorem keys_end {l:List Tk} {o:List Sc} {i:Nat} {ids:List Int} {H1:Int->Prop} {H2:Nat->ByteArray->Prop} {H3:Nat->Int->Prop} (h:Keys l o i ids H1 H2 H3):Keys l o.tail (i+1) ids H1 H2 H3 :=
 ⟨h.id,fun s hs=>h.nm s (List.mem_of_mem_tail hs),fun s hs=>h.ch s (List.mem_of_mem_tail hs),fun s hs=>h.vl s (List.mem_of_mem_tail hs),fun k hk=>h.no k (by omega)⟩
theorem keys_beg {l:List Tk} {o:List Sc} {i:Nat} {ids:List Int} {H1:Int->Prop} {H2:Nat->ByteArray->Prop} {H3:Nat->Int->Prop} {t:Tk} (h:Keys l o i ids H1 H2 H3):Keys l (scNew i t::o) i ids H1 H2 H3:=by
 have hn:=h.no i (Nat.le_refl _)
 refine⟨h.id,fun s hs he n=>?_,fun s hs he n=>?_,fun s hs he v=>?_,h.no⟩
 ·rcases List.mem_cons.1 hs with rfl|hs
  ·exact⟨fun e=>absurd e (hn.1 n),fun e=>by cases e⟩
  ·exact h.nm s hs he n
 ·rcases List.mem_cons.1 hs with rfl|hs
  ·exact⟨fun e=>absurd e (hn.1 n),fun e=>by cases e⟩
  ·exact h.ch s hs he n
 ·rcases List.mem_cons.1 hs with rfl|hs
  ·exact⟨fun e=>absurd e (hn.2 v),fun e=>by cases e⟩
  ·exact h.vl s hs he v
theorem keys_part {l:List Tk} {x:Sc} {r:List Sc} {i:Nat} {ids:List Int} {H1:Int->Prop} {H2:Nat->ByteArray->Prop} {H3:Nat->Int->Prop} {t:Tk} (h:Keys l (x::r) i ids H1 H2 H3) (ht:l[i]?=some t) (hx:x.tk.op=0\/x.tk.op=4) (hlt:x.at_<i) (hr:∀ a∈r,a.at_<x.at_) :
  Keys l (metX x i t::r) i (ids++[t.id]) (fun d=>d=t.id\/H1 d) (fun k n=>(k=x.at_/\n=t.name)\/H2 k n) H3:=by
 refine⟨fun d=>?_,fun s hs he n=>?_,fun s hs he n=>?_,fun s hs he v=>?_,fun k hk=>?_⟩
 ·rw[h.id]
  simp[or_comm]
 ·rcases List.mem_cons.1 hs with rfl|hs
  ·show (x.at_=x.at_/\n=t.name)\/H2 x.at_ n↔nameIn l (x.kids++[i]) n=true
   rw[nameIn_snoc ht,h.nm x (List.mem_cons_self ..) hx n]
   exact or_congr ⟨fun e=>e.2.symm,fun e=>⟨rfl,e.symm⟩⟩ Iff.rfl
  ·have:=hr s hs
   rw[<- h.nm s (List.mem_cons_of_mem _ hs) he n]
   exact⟨fun e=>e.elim (fun e=>absurd e.1 (by omega)) id,.inr⟩
 ·rcases List.mem_cons.1 hs with rfl|hs
  ·have he:x.tk.op=10\/x.tk.op=12:=he
   omega
  ·have:=hr s hs
   rw[<- h.ch s (List.mem_cons_of_mem _ hs) he n]
   exact⟨fun e=>e.elim (fun e=>absurd e.1 (by omega)) id,.inr⟩
 ·rcases List.mem_cons.1 hs with rfl|hs
  ·have he:x.tk.op=10\/x.tk.op=12:=he
   omega
  ·exact h.vl s (List.mem_cons_of_mem _ hs) he v
 ·have:=h.no k hk
  exact⟨fun n e=>e.elim (fun e=>absurd e.1 (by omega)) (this.1 n),this.2⟩
theorem keys_typ {l:List Tk} {x:Sc} {r:List Sc} {i:Nat} {ids:List Int} {H1:Int->Prop} {H2:Nat->ByteArray->Prop} {H3:Nat->Int->Prop} {t:Tk} (h:Keys l (x::r) i ids H1 H2 H3) (hx:x.tk.op=2\/x.tk.op=8\/((x.tk.op=10\/x.tk.op=12)/\x.kids=[])) :
  Keys l (metX x i t::r) i ids H1 H2 H3:=by
 refine⟨h.id,fun s hs he n=>?_,fun s hs he n=>?_,fun s hs he v=>?_,fun k hk=>h.no k hk⟩
 ·rcases List.mem_cons.1 hs with rfl|hs
  ·have he:x.tk.op=0\/x.tk.op=4:=he
   omega
  ·exact h.nm s (List.mem_cons_of_mem _ hs) he n
 ·rcases List.mem_cons.1 hs with rfl|hs
  ·have he:x.tk.op=10\/x.tk.op=12:=he
   have hk:x.kids=[]:=by
    rcases hx with e|e|e
    ·omega
    ·omega
    ·exact e.2
   have h0:=h.ch x (List.mem_cons_self ..) he n
   rw[hk] at h0
   show H2 x.at_ n↔nameIn l (x.kids++[i]).tail n=true
   rw[hk]
   exact h0
  ·exact h.ch s (List.mem_cons_of_mem _ hs) he n
 ·rcases List.mem_cons.1 hs with rfl|hs
  ·have he:x.tk.op=10\/x.tk.op=12:=he
   have hk:x.kids=[]:=by
    rcases hx with e|e|e
    ·omega
    ·omega
    ·exact e.2
   have h0:=h.vl x (List.mem_cons_self ..) he v
   rw[hk] at h0
   show H3 x.at_ v↔valIn l (x.kids++[i]).tail v=true
   rw[hk]
   exact h0
  ·exact h.vl s (List.mem_cons_of_mem _ hs) he v
theorem tail_snoc {α:Type} {l:List α} (h:l≠[]) (a:α):(l++[a]).tail=l.tail++[a]:=by
 cases l with
 | nil=>exact absurd rfl h
 | cons b r=>rfl
theorem keys_cho {l:List Tk} {x:Sc} {r:List Sc} {i:Nat} {ids:List Int} {H1:Int->Prop} {H2:Nat->ByteArray->Prop} {H3:Nat->Int->Prop} {t:Tk} (h:Keys l (x::r) i ids H1 H2 H3) (ht:l[i]?=some t) (hx:x.tk.op=10\/x.tk.op=12) (hk:x.kids≠[]) (hlt:x.at_<i) (hr:∀ a∈r,a.at_<x.at_) :
  Keys l (metX x i t::r) i ids H1 (fun k n=>(k=x.at_/\n=t.name)\/H2 k n) (fun k v=>(k=x.at_/\v=t.val)\/H3 k v):=by
 refine⟨h.id,fun s hs he n=>?_,fun s hs he n=>?_,fun s hs he v=>?_,fun k hk=>?_⟩
 ·rcases List.mem_cons.1 hs with rfl|hs
  ·have he:x.tk.op=0\/x.tk.op=4:=he
   omega
  ·have:=hr s hs
   rw[<- h.nm s (List.mem_cons_of_mem _ hs) he n]
   exact⟨fun e=>e.elim (fun e=>absurd e.1 (by omega)) id,.inr⟩
 ·rcases List.mem_cons.1 hs with rfl|hs
  ·show (x.at_=x.at_/\n=t.name)\/H2 x.at_ n↔nameIn l (x.kids++[i]).tail n=true
   rw[tail_snoc hk,nameIn_snoc ht,h.ch x (List.mem_cons_self ..) hx n]
   exact or_congr ⟨fun e=>e.2.symm,fun e=>⟨rfl,e.symm⟩⟩ Iff.rfl
  ·have:=hr s hs
   rw[<- h.ch s (List.mem_cons_of_mem _ hs) he n]
   exact⟨fun e=>e.elim (fun e=>absurd e.1 (by omega)) id,.inr⟩
 ·rcases List.mem_cons.1 hs with rfl|hs
  ·show (x.at_=x.at_/\v=t.val)\/H3 x.at_ v↔valIn l (x.kids++[i]).tail v=true
   rw[tail_snoc hk,valIn_snoc ht,h.vl x (List.mem_cons_self ..) hx v]
   exact or_congr ⟨fun e=>e.2.symm,fun e=>⟨rfl,e.symm⟩⟩ Iff.rfl
  ·have:=hr s hs
   rw[<- h.vl s (List.mem_cons_of_mem _ hs) he v]
   exact⟨fun e=>e.elim (fun e=>absurd e.1 (by omega)) id,.inr⟩
 ·have:=h.no k hk
  exact⟨fun n e=>e.elim (fun e=>absurd e.1 (by omega)) (this.1 n),fun v e=>e.elim (fun e=>absurd e.1 (by omega)) (this.2 v)⟩
def depOk (o:List Sc) (dep:Nat->Int):Prop:=∀ q:Nat,q<16->dep q=(depB (q:Int) o:Int)
theorem dep_beg {o:List Sc} {dep:Nat->Int} {i:Nat} {t:Tk} {q:Nat} (h:depOk o dep) (hq:t.op=q):depOk (scNew i t::o) (fun k=>if k=q then dep k+1 else dep k):=fun k hk=>by
 have h0:=h k hk
 unfold depB at h0 ⊢
 rw[List.filter_cons]
 show (if k=q then dep k+1 else dep k)=_
 by_cases e:k=q
 ·subst e
  rw[if_pos rfl,if_pos (by show decide (t.op=_)=true;simp[hq]),List.length_cons,h0]
  omega
 ·rw[if_neg e,if_neg (by show ¬ decide (t.op=_)=true;simp[hq];omega),h0]
theorem dep_met {o:List Sc} {x:Sc} {dep:Nat->Int} {i:Nat} {t:Tk} (h:depOk (x::o) dep):depOk (metX x i t::o) dep:=fun k hk=>by
 have h0:=h k hk
 unfold depB at h0 ⊢
 rw[List.filter_cons] at h0 ⊢
 have e:(metX x i t).tk=x.tk:=rfl
 rw[e]
 rw[h0]
 split<;>rfl
theorem dep_end {o:List Sc} {x:Sc} {dep:Nat->Int} {q:Nat} (h:depOk (x::o) dep) (hq:x.tk.op=q):depOk o (fun k=>if k=q then dep k-1 else dep k):=fun k hk=>by
 have h0:=h k hk
 unfold depB at h0 ⊢
 rw[List.filter_cons] at h0
 show (if k=q then dep k-1 else dep k)=_
 by_cases e:k=q
 ·subst e
  rw[if_pos (by simp[hq]),List.length_cons] at h0
  rw[if_pos rfl,h0]
  omega
 ·rw[if_neg (by simp[hq];omega)] at h0
  rw[if_neg e,h0]
open Go.ChangeShapes Go.WideShapes Go.ChangeAt Go.RowKit Go.Shelf Go.Maps
theorem ent_isMessage:∀ ag w,(callFunc 87 ag).run Tryz.prog w = .ok (.enter 87 ag) w:=enters_of Tryz.func87 (by kernel_rfl) rfl
theorem ent_isEndedBy:∀ ag w,(callFunc 132 ag).run Tryz.prog w = .ok (.enter 132 ag) w:=enters_of Tryz.func132 (by kernel_rfl) rfl
theorem ent_endOf:∀ ag w,(callFunc 126 ag).run Tryz.prog w = .ok (.enter 126 ag) w:=enters_of Tryz.func126 (by kernel_rfl) rfl
theorem bcall {w:World} {f:FuncId} {ag:Array Value} {v:Value} (h:∀ W,Kb [] w W->Calls Tryz.prog f ag W fun e w'=>e = .returned v/\Below W.heap.size W w'):∀ W,Kb [] w W->Calls Tryz.prog f ag W fun e w'=>e = .returned v/\Kb [] w w' :=
 fun W hW=>(h W hW).mono fun _ _ ⟨h1,h2⟩=>⟨h1,hW.trans (Kb.of_below h2)⟩
theorem isMessage_any (B gf g o m1 m2 m3:Nat) (op rl:Value) (i:Int) (dep:Nat->Int) (wh:Bool) (f:Fm) (pp:Option Addr) (cp:Nat) (t:Tk) (pc:Option Addr) (cc:Nat) (w:World) (hC:CkC w B gf op i rl m1 m2 m3 dep wh) (hF:FmC w gf 0 f pp cp) (hgf:gf<w.heap.size) (hT:TkC w g o t pc cc) (hg:g<w.heap.size) (hk:KT w) :
  Calls Tryz.prog 87 #[.pointer (some ⟨B,0,none⟩),.pointer (some ⟨g,o,none⟩)] w fun r w'=>r = .returned (.bool (msgB f t))/\Below w.heap.size w w':=by
 obtain⟨p,pB,pK,hN,t2,t5,t15,k1,m2,m4,m5,m6,m7,c1,c2,c3,c4,c5⟩:∃ p:World->Prop,(∀ W,p W->Kb [] w W) /\
   (∀ W,Kb [] w W->p W) /\
   Nonempty (CW p) /\
   (∀ θ:CW p,θ.w.cell? ⟨g,o+2,none⟩=some (.int .i64 t.id)) /\
   (∀ θ:CW p,θ.w.cell? ⟨g,o+5,none⟩=some (.int .i64 t.since)) /\
   (∀ θ:CW p,θ.w.cell? ⟨g,o+15,none⟩=some (.int .i64 t.full)) /\
   (∀ θ:CW p,θ.w.cell? ⟨B,1,none⟩=some (.pointer (some ⟨gf,0,none⟩))) /\
   (∀ θ:CW p,θ.w.cell? ⟨gf,2,none⟩=some (.int .i64 f.ver)) /\
   (∀ θ:CW p,θ.w.cell? ⟨gf,4,none⟩=some (.int .i64 f.hb.p)) /\
   (∀ θ:CW p,θ.w.cell? ⟨gf,5,none⟩=some (.int .i64 f.hb.o)) /\
   (∀ θ:CW p,θ.w.cell? ⟨gf,6,none⟩=some (.int .i64 f.ht.p)) /\
   (∀ θ:CW p,θ.w.cell? ⟨gf,7,none⟩=some (.int .i64 f.ht.o)) /\
   (∀ W,p W->Calls Tryz.prog 84 #[.int .i64 t.id,.int .i64 0,.int .i64 65535] W fun e w'=>e = .returned (.bool (bet t.id 0 65535))/\p w') /\
   (∀ W,p W->Calls Tryz.prog 84 #[.int .i64 t.since,.int .i64 0,.int .i64 f.ver] W fun e w'=>e = .returned (.bool (bet t.since 0 f.ver))/\p w') /\
   (∀ W,p W->Calls Tryz.prog 114 #[.pointer (some ⟨g,o,none⟩)] W fun e w'=>e = .returned (.bool (blkB t))/\p w') /\
   (0<=t.full/\t.full<=65535->∀ W,p W->Calls Tryz.prog 86 #[spV f.hb,.int .i64 t.full] W fun e w'=>e = .returned (.bool (telB f.hb t.full))/\p w') /\
   (0<=t.id/\t.id<=65535->∀ W,p W->Calls Tryz.prog 86 #[spV f.ht,.int .i64 t.id] W fun e w'=>e = .returned (.bool (telB f.ht t.id))/\p w') :=
  ⟨Kb [] w,
   fun _ h=>h,
   fun _ h=>h,
   ⟨⟨_,Kb.refl _ _⟩⟩,
   fun θ=>(θ.h.cell hg List.not_mem_nil).trans hT.c2,
   fun θ=>(θ.h.cell hg List.not_mem_nil).trans hT.c5,
   fun θ=>(θ.h.cell hg List.not_mem_nil).trans hT.c15,
   fun θ=>(θ.h.cell hC.lt List.not_mem_nil).trans hC.c1,
   fun θ=>(θ.h.cell hgf List.not_mem_nil).trans (by simpa using hF.c2),
   fun θ=>(θ.h.cell hgf List.not_mem_nil).trans (by simpa using hF.c4),
   fun θ=>(θ.h.cell hgf List.not_mem_nil).trans (by simpa using hF.c5),
   fun θ=>(θ.h.cell hgf List.not_mem_nil).trans (by simpa using hF.c6),
   fun θ=>(θ.h.cell hgf List.not_mem_nil).trans (by simpa using hF.c7),
   callS (isBetween_any _ _ _),
   callS (isBetween_any _ _ _),
   bcall (fun W hW=>isBlock_any t g o pc cc W (Nat.lt_of_lt_of_le hg hW.size) (hT.same (hW.block g hg List.not_mem_nil))),
   fun hz=>bcall (fun W hW=>canTell_any f.hb t.full W (hk.up (Kb0 hW)) (by omega)),
   fun hz=>bcall (fun W hW=>canTell_any f.ht t.id W (hk.up (Kb0 hW)) (by omega))⟩
 have hfl:blkB t=true->0<=t.full/\t.full<=65535:=fun e=>by
  unfold blkB at e
  rw[Bool.and_eq_true] at e
  have:=betT e.1
  have:=decT e.2
  omega
 have hzz:bet t.id 0 65535=true->0<=t.id/\t.id<=65535:=betT
 clear hC hF hT hk hg hgf
 unfold msgB
 obtain⟨q1,hq1⟩:∃ q,bet t.id 0 65535=q:=⟨_,rfl⟩
 obtain⟨q2,hq2⟩:∃ q,bet t.since 0 f.ver=q:=⟨_,rfl⟩
 obtain⟨q3,hq3⟩:∃ q,blkB t=q:=⟨_,rfl⟩
 obtain⟨q4,hq4⟩:∃ q,telB f.hb t.full=q:=⟨_,rfl⟩
 obtain⟨q5,hq5⟩:∃ q,telB f.ht t.id=q:=⟨_,rfl⟩
 rw[hq1] at c1 hzz ⊢
 rw[hq2] at c2 ⊢
 rw[hq3] at c3 hfl ⊢
 rw[hq4] at c4 ⊢
 rw[hq5] at c5 ⊢
 clear hq1 hq2 hq3 hq4 hq5
 rcases ch5 q1 q2 q3 q4 q5 with e1|⟨e1,e2⟩|⟨e1,e2,e3⟩|⟨e1,e2,e3,e4⟩|⟨e1,e2,e3,e4,e5⟩|⟨e1,e2,e3,e4,e5⟩
 ·subst e1
  go_enter Tryz.func87,Tryz.ntmps87
  go_wp2_with fail
  refine wp_region_lp p (by kernel_rfl) (by kernel_rfl) (fun _ _ d _ _ h=>by cases d<;>exact h) (pK _ (Kb.refl _ _).drew) fun W hp=>?_
  repeat (first|(refine lx_one rfl ?_;(first|go_big_quiet_skip|(go_big_quiet_want;go_big_quiet_op;go_big_quiet_on));refine wpQuiet_nil ?_)|(refine lx_p3 ent_isBetween c1 hp rfl rfl rfl (by rfl) ?_;intro W hp;simp only[pts])|(refine lx_skip (by rfl) ?_;simp only[pts]))
  refine lx_done ?_
  go_wp2_with fail
  go_ret
  exact⟨rfl,Kb0 (pB _ hp)⟩
 ·subst e1 e2
  go_enter Tryz.func87,Tryz.ntmps87
  go_wp2_with fail
  refine wp_region_lp p (by kernel_rfl) (by kernel_rfl) (fun _ _ d _ _ h=>by cases d<;>exact h) (pK _ (Kb.refl _ _).drew) fun W hp=>?_
  repeat (first|(refine lx_one rfl ?_;(first|go_big_quiet_skip|(go_big_quiet_want;go_big_quiet_op;go_big_quiet_on));refine wpQuiet_nil ?_)|(refine lx_p3 ent_isBetween c1 hp rfl rfl rfl (by rfl) ?_;intro W hp;simp only[pts])|(refine lx_p3 ent_isBetween c2 hp rfl rfl rfl (by rfl) ?_;intro W hp;simp only[pts])|(refine lx_skip (by rfl) ?_;simp only[pts]))
  refine lx_done ?_
  go_wp2_with fail
  go_ret
  exact⟨rfl,Kb0 (pB _ hp)⟩
 ·subst e1 e2 e3
  go_enter Tryz.func87,Tryz.ntmps87
  go_wp2_with fail
  refine wp_region_lp p (by kernel_rfl) (by kernel_rfl) (fun _ _ d _ _ h=>by cases d<;>exact h) (pK _ (Kb.refl _ _).drew) fun W hp=>?_
  repeat (first|(refine lx_one rfl ?_;(first|go_big_quiet_skip|(go_big_quiet_want;go_big_quiet_op;go_big_quiet_on));refine wpQuiet_nil ?_)|(refine lx_p3 ent_isBetween c1 hp rfl rfl rfl (by rfl) ?_;intro W hp;simp only[pts])|(refine lx_p3 ent_isBetween c2 hp rfl rfl rfl (by rfl) ?_;intro W hp;simp only[pts])|(refine lx_p1 ent_isBlock c3 hp rfl (by rfl) ?_;intro W hp;simp only[pts])|(refine lx_skip (by rfl) ?_;simp only[pts]))
  refine lx_done ?_
  go_wp2_with fail
  go_ret
  exact⟨rfl,Kb0 (pB _ hp)⟩
 ·subst e1 e2 e3 e4
  replace c4:=c4 (hfl rfl)
  go_enter Tryz.func87,Tryz.ntmps87
  go_wp2_with fail
  refine wp_region_lp p (by kernel_rfl) (by kernel_rfl) (fun _ _ d _ _ h=>by cases d<;>exact h) (pK _ (Kb.refl _ _).drew) fun W hp=>?_
  repeat (first|(refine lx_one rfl ?_;(first|go_big_quiet_skip|(go_big_quiet_want;go_big_quiet_op;go_big_quiet_on));refine wpQuiet_nil ?_)|(refine lx_p3 ent_isBetween c1 hp rfl rfl rfl (by rfl) ?_;intro W hp;simp only[pts])|(refine lx_p3 ent_isBetween c2 hp rfl rfl rfl (by rfl) ?_;intro W hp;simp only[pts])|(refine lx_p1 ent_isBlock c3 hp rfl (by rfl) ?_;intro W hp;simp only[pts])|(refine lx_p2 ent_canTell c4 hp rfl rfl (by rfl) ?_;intro W hp;simp only[pts])|(refine lx_skip (by rfl) ?_;simp only[pts]))
  refine lx_done ?_
  go_wp2_with fail
  go_ret
  exact⟨rfl,Kb0 (pB _ hp)⟩
 ·subst e1 e2 e3 e4 e5
  replace c4:=c4 (hfl rfl)
  replace c5:=c5 (hzz rfl)
  go_enter Tryz.func87,Tryz.ntmps87
  go_wp2_with fail
  refine wp_region_lp p (by kernel_rfl) (by kernel_rfl) (fun _ _ d _ _ h=>by cases d<;>exact h) (pK _ (Kb.refl _ _).drew) fun W hp=>?_
  repeat (first|(refine lx_one rfl ?_;(first|go_big_quiet_skip|(go_big_quiet_want;go_big_quiet_op;go_big_quiet_on));refine wpQuiet_nil ?_)|(refine lx_p3 ent_isBetween c1 hp rfl rfl rfl (by rfl) ?_;intro W hp;simp only[pts])|(refine lx_p3 ent_isBetween c2 hp rfl rfl rfl (by rfl) ?_;intro W hp;simp only[pts])|(refine lx_p1 ent_isBlock c3 hp rfl (by rfl) ?_;intro W hp;simp only[pts])|(refine lx_p2 ent_canTell c4 hp rfl rfl (by rfl) ?_;intro W hp;simp only[pts])|(refine lx_p2 ent_canTell c5 hp rfl rfl (by rfl) ?_;intro W hp;simp only[pts])|(refine lx_skip (by rfl) ?_;simp only[pts]))
  refine lx_done ?_
  go_wp2_with fail
  go_ret
  exact⟨rfl,Kb0 (pB _ hp)⟩
 ·subst e1 e2 e3 e4 e5
  replace c4:=c4 (hfl rfl)
  replace c5:=c5 (hzz rfl)
  go_enter Tryz.func87,Tryz.ntmps87
  go_wp2_with fail
  refine wp_region_lp p (by kernel_rfl) (by kernel_rfl) (fun _ _ d _ _ h=>by cases d<;>exact h) (pK _ (Kb.refl _ _).drew) fun W hp=>?_
  repeat (first|(refine lx_one rfl ?_;(first|go_big_quiet_skip|(go_big_quiet_want;go_big_quiet_op;go_big_quiet_on));refine wpQuiet_nil ?_)|(refine lx_p3 ent_isBetween c1 hp rfl rfl rfl (by rfl) ?_;intro W hp;simp only[pts])|(refine lx_p3 ent_isBetween c2 hp rfl rfl rfl (by rfl) ?_;intro W hp;simp only[pts])|(refine lx_p1 ent_isBlock c3 hp rfl (by rfl) ?_;intro W hp;simp only[pts])|(refine lx_p2 ent_canTell c4 hp rfl rfl (by rfl) ?_;intro W hp;simp only[pts])|(refine lx_p2 ent_canTell c5 hp rfl rfl (by rfl) ?_;intro W hp;simp only[pts])|(refine lx_skip (by rfl) ?_;simp only[pts]))
  refine lx_done ?_
  go_wp2_with fail
  go_ret
  exact⟨rfl,Kb0 (pB _ hp)⟩
def endT (t u:Tk) (i:Int):Bool:=(u.op==t.op+1)&&decide (u.name=t.name)&&(u.pair==i)
theorem beq_ba {a b:ByteArray} (h:a≠b):(a.toList==b.toList)=false :=
 beq_eq_false_iff_ne.2 fun e=>h (by
  rw[ByteArray.toList_eq,ByteArray.toList_eq] at e
  exact ByteArray.ext (Array.toList_inj.1 e))
theorem ba_dec (a b:ByteArray):(a.toList==b.toList)=decide (a=b):=by
 by_cases h:a=b
 ·subst h;simp
 ·rw[beq_ba h,decide_eq_false h]
theorem isEndedBy_any (B gf g o o2 m1 m2 m3:Nat) (op rl:Value) (i:Int) (dep:Nat->Int) (wh:Bool) (t u:Tk) (pc pu:Option Addr) (cc cu:Nat) (w:World) (hC:CkC w B gf op i rl m1 m2 m3 dep wh) (hT:TkC w g o t pc cc) (hU:TkC w g o2 u pu cu) (hg:g<w.heap.size) (ho:-100<=t.op/\t.op<=100) :
  Calls Tryz.prog 132 #[.pointer (some ⟨B,0,none⟩),.pointer (some ⟨g,o,none⟩),.pointer (some ⟨g,o2,none⟩)] w fun r w'=>r = .returned (.bool (endT t u i))/\Below w.heap.size w w':=by
 obtain⟨p,pB,pK,hN,t0,t1,u0,u1,u20,k2,c1⟩:∃ p:World->Prop,(∀ W,p W->Kb [] w W) /\
   (∀ W,Kb [] w W->p W) /\
   Nonempty (CW p) /\
   (∀ θ:CW p,θ.w.cell? ⟨g,o,none⟩=some (.int .i64 t.op)) /\
   (∀ θ:CW p,θ.w.cell? ⟨g,o+1,none⟩=some (.string t.name)) /\
   (∀ θ:CW p,θ.w.cell? ⟨g,o2,none⟩=some (.int .i64 u.op)) /\
   (∀ θ:CW p,θ.w.cell? ⟨g,o2+1,none⟩=some (.string u.name)) /\
   (∀ θ:CW p,θ.w.cell? ⟨g,o2+20,none⟩=some (.int .i64 u.pair)) /\
   (∀ θ:CW p,θ.w.cell? ⟨B,2,none⟩=some (.int .i64 i)) /\
   (∀ W,p W->Calls Tryz.prog 126 #[.int .i64 t.op] W fun e w'=>e = .returned (.int .i64 (t.op+1))/\p w') :=
  ⟨Kb [] w,
   fun _ h=>h,
   fun _ h=>h,
   ⟨⟨_,Kb.refl _ _⟩⟩,
   fun θ=>(θ.h.cell hg List.not_mem_nil).trans hT.c0,
   fun θ=>(θ.h.cell hg List.not_mem_nil).trans hT.c1,
   fun θ=>(θ.h.cell hg List.not_mem_nil).trans hU.c0,
   fun θ=>(θ.h.cell hg List.not_mem_nil).trans hU.c1,
   fun θ=>(θ.h.cell hg List.not_mem_nil).trans hU.c20,
   fun θ=>(θ.h.cell hC.lt List.not_mem_nil).trans hC.c2,
   callS (fun W=>endOf_any t.op W ho)⟩
 clear hC hT hU hg ho
 unfold endT
 rw[<- ba_dec]
 rcases ch2 (u.op==t.op+1) (u.name.toList==t.name.toList) with e1|⟨e1,e2⟩|⟨e1,e2⟩
 all_goals
  go_enter Tryz.func132,Tryz.ntmps132
  go_wp2_with fail
  refine wp_region_lp p (by kernel_rfl) (by kernel_rfl) (fun _ _ d _ _ h=>by cases d<;>exact h) (pK _ (Kb.refl _ _).drew) fun W hp=>?_
  repeat (first|(refine lx_one rfl ?_;(first|go_big_quiet_skip|(go_big_quiet_want;go_big_quiet_op;go_big_quiet_on));refine wpQuiet_nil ?_)|(refine lx_p1 ent_endOf c1 hp rfl (by rfl) ?_;intro W hp;simp only[pts])|(refine lx_skip (by rfl) ?_;simp only[pts]))
  refine lx_done ?_
  go_wp2_with fail
  go_ret
  exact⟨rb (by simp[*]),Kb0 (pB _ hp)⟩
end Go.Proofs.YtcgimchhcaankaaGreatDoor
