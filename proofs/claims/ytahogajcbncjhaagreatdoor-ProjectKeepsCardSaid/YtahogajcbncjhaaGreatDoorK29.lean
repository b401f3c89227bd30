import Derived.Test.YtahogajcbncjhaaGreatDoorK04
namespace Go.Proofs.YtahogajcbncjhaaGreatDoor
structure Kin (l:List Tk) (x:Sc):Prop where
 e:(x.tk.op=0\/x.tk.op=4)->∀ k∈x.kids,∀ u,l[k]?=some u->u.op=2->u.siz≠0->u.off+u.siz<=x.e0
 f:∀ k∈x.kids,∀ u,l[k]?=some u->u.op=2->u.since<=x.fld
 o:(x.tk.op=0\/x.tk.op=4)->∀ k∈x.kids,∀ u,l[k]?=some u->u.op<=lastOp l x
def Met (f:Fm) (x:Sc):Prop:=∀ j k,x.kids[j]?=some k->∃ y o,(stA f k).open_=y::o/\y.at_=x.at_/\y.tk=x.tk/\y.kids=x.kids.take j
theorem lastOp_met {l:List Tk} {i:Nat} {t:Tk} (ht:l[i]?=some t) (x:Sc):lastOp l (metX x i t)=t.op:=by
 unfold lastOp
 show (match (x.kids++[i]).getLast? with|some k=>_|none=>_)=_
 rw[List.getLast?_concat]
 simp only[ht]
theorem fld_siz {f:Fm} {ids:List Int} {i:Nat} {x:Sc} {t:Tk} (h:fldB f ids i x t=true) (hs:t.siz≠0):t.pres≠2/\0<t.siz/\x.e0<=t.off/\t.off+t.siz<=x.tk.blk:=by
 unfold fldB at h
 simp only[Bool.and_eq_true] at h
 have key:inB f.toks i x t=true->0<t.siz/\x.e0<=t.off/\t.off+t.siz<=x.tk.blk:=fun h=>by
  unfold inB at h
  simp only[Bool.and_eq_true] at h
  have h2:=h.2
  rw[if_neg hs] at h2
  exact decT h2
 have h2:=h.2
 by_cases e0:t.pres=0
 ·rw[if_pos e0,Bool.and_eq_true] at h2
  exact⟨by omega,key h2.2⟩
 rw[if_neg e0] at h2
 by_cases e1:t.pres=1
 ·rw[if_pos e1] at h2
  exact⟨by omega,key h2⟩
 rw[if_neg e1] at h2
 by_cases e2:t.pres=2
 ·rw[if_pos e2] at h2
  have:=decT h2
  omega
 ·rw[if_neg e2] at h2
  cases h2
theorem kin_met {f:Fm} {o:List Sc} {ids:List Int} {i:Nat} {x:Sc} {t:Tk} (hx:ScOk f.toks i x) (ht:f.toks[i]?=some t) (h:inOk f (x::o) ids i x t=true) (he:edO t.op=false) (hk:Kin f.toks x):Kin f.toks (metX x i t):=by
 obtain⟨hm,hp,hs,h3,h4,hr⟩:=inOk_in h he
 obtain⟨r1,r2,r3,r4⟩:=rul_b hx hm he hp hr
 have h2:t.op=2->fldB f ids i x t=true:=fun e=>by unfold rulB at hr;rwa [if_pos e] at hr
 refine⟨fun ho k hk' u hu hu2 hus=>?_,fun k hk' u hu hu2=>?_,fun ho k hk' u hu=>?_⟩
 ·have ho:x.tk.op=0\/x.tk.op=4:=ho
  show _<=(if 0<t.siz/\((t.op=2/\t.pres≠2)\/x.tk.op=8) then t.off+t.siz else x.e0)
  rcases List.mem_append.1 (show k∈x.kids++[i] from hk') with hk' | hk'
  ·have h1:=hk.e ho k hk' u hu hu2 hus
   split
   ·rename_i hc
    rcases hc.2 with hc2|hc2
    ·have:=fld_siz (h2 hc2.1) (by omega)
     omega
    ·omega
   ·exact h1
  ·obtain rfl:=List.mem_singleton.1 hk'
   rw[ht] at hu
   cases hu
   have:=fld_siz (h2 hu2) hus
   rw[if_pos ⟨this.2.1,.inl ⟨hu2,this.1⟩⟩]
   exact Int.le_refl _
 ·show _<=(if t.op=2 then t.since else x.fld)
  rcases List.mem_append.1 (show k∈x.kids++[i] from hk') with hk' | hk'
  ·have h1:=hk.f k hk' u hu hu2
   split
   ·rename_i hc
    have:=r2 hc
    omega
   ·exact h1
  ·obtain rfl:=List.mem_singleton.1 hk'
   rw[ht] at hu
   cases hu
   rw[if_pos hu2]
   exact Int.le_refl _
 ·rw[lastOp_met ht]
  have ho:x.tk.op=0\/x.tk.op=4:=ho
  rcases List.mem_append.1 (show k∈x.kids++[i] from hk') with hk' | hk'
  ·have h1:=hk.o ho k hk' u hu
   rcases may_typ hm he hx.beg with ⟨_,_,h⟩|⟨h,_⟩|⟨h,_⟩|⟨h,_⟩<;>omega
  ·obtain rfl:=List.mem_singleton.1 hk'
   rw[ht] at hu
   cases hu
   exact Int.le_refl _
theorem kin_at {f:Fm} (hz:chkZ f=none):∀ i,i<=f.toks.length->∀ x∈(stA f i).open_,Kin f.toks x/\Met f x:=by
 intro i
 induction i with
 | zero=>intro _ x hx;cases hx
 | succ i ih =>
  intro hi
  have ih:=ih (by omega)
  obtain⟨t,ht⟩:∃ t,f.toks[i]?=some t:=⟨f.toks[i],List.getElem?_eq_getElem (by omega)⟩
  obtain⟨hok,H⟩:=val_ok hz ht
  rw[stA_succ ht]
  cases hso:stA f i with
  | mk o ids =>
  rw[hso] at hok H ih
  intro y hy
  unfold nxt at hy
  by_cases he:edO t.op=true
  ·rw[if_pos he] at hy
   exact ih y (List.mem_of_mem_tail hy)
  ·rw[if_neg he] at hy
   have key:∀ y∈metL o i t,Kin f.toks y/\Met f y:=fun y hy=>by
    rcases o with _|⟨x,o⟩
    ·cases hy
    ·rcases List.mem_cons.1 hy with rfl|hy
     ·obtain⟨k1,k2⟩:=ih x (List.mem_cons_self ..)
      refine⟨kin_met (H.all x (List.mem_cons_self ..)) ht hok (by simpa using he) k1,fun j k hj=>?_⟩
      have hj:(x.kids++[i])[j]?=some k:=hj
      rcases Nat.lt_or_ge j x.kids.length with hl|hl
      ·rw[List.getElem?_append_left hl] at hj
       obtain⟨y,o',e1,e2,e3,e4⟩:=k2 j k hj
       exact⟨y,o',e1,e2,e3,by rw[e4];exact(List.take_append_of_le_length (by omega)).symm⟩
      ·rw[List.getElem?_append_right hl] at hj
       have hj0:j-x.kids.length=0:=by
        rcases Nat.eq_zero_or_pos (j-x.kids.length) with e|e
        ·exact e
        ·rw[List.getElem?_eq_none (by simp;omega)] at hj;cases hj
       rw[hj0] at hj
       cases hj
       exact⟨x,o,by rw[hso],rfl,rfl,by show x.kids=(x.kids++[i]).take j;rw[show j=x.kids.length by omega,List.take_left]⟩
     ·exact ih y (List.mem_cons_of_mem _ hy)
   have hy:y∈(if bgO t.op=true then scNew i t::metL o i t else metL o i t):=hy
   split at hy
   ·rcases List.mem_cons.1 hy with rfl|hy
    ·exact⟨⟨fun _ k hk=>(by cases hk),fun k hk=>(by cases hk),fun _ k hk=>(by cases hk)⟩,fun j k hj=>(by simp[scNew] at hj)⟩
    ·exact key y hy
   ·exact key y hy
theorem close_at {f:Fm} (hz:chkZ f=none) {b:Nat} {t:Tk} (ht:f.toks[b]?=some t) (hg:bgO t.op=true) :
  ∃ m x o,t.pair=((m:Nat):Int)/\m<f.toks.length/\(∃ u,f.toks[m]?=some u/\edO u.op=true)/\(stA f m).open_=x::o/\x.at_=b/\x.tk=t/\kidsZ f.toks b=x.kids/\ScOk f.toks m x:=by
 obtain⟨n,ks,hB,-⟩:=bgn_took hz ht hg
 obtain⟨u,hu,-⟩:∃ u,f.toks[n]?=some u/\True:=⟨f.toks[n]'hB.nl,List.getElem?_eq_getElem _,trivial⟩
 obtain⟨hok,H⟩:=val_ok hz hB.et
 have hp:pairB f.toks b t=true:=by
  revert hok H
  generalize stA f b=s
  intro hok H
  obtain⟨o,ids⟩:=s
  cases o with
  | nil=>exact(okZ_nil hok).2.2.2.2.1
  | cons x o =>
   have h:inOk f (x::o) ids b x t=true:=hok
   exact(inOk_in h (bgO_end hg)).2.2.2.1 hg
 obtain⟨m,u',h1,_,_,h2,h3,_,h5⟩:=pairB_get hp
 have:m=n:=by have:=hB.en;omega
 subst this
 rw[hu] at h2
 cases h2
 have hed:edO u.op=true:=by rw[h3];exact edO_succ hg
 rcases val_tok hz hu with ⟨-,-,x,o,e1,e2,e3⟩|⟨h,-⟩|⟨h,-⟩
 ·have hxb:x.at_=b:=by omega
  have hxm:x∈(stA f m).open_:=by rw[e1];exact List.mem_cons_self ..
  obtain⟨hok2,H2⟩:=val_ok hz hu
  have hx2:=H2.all x hxm
  have hxt:x.tk=t:=by have:=hx2.tk;rw[hxb,ht] at this;cases this;rfl
  have hn:=H2.nest
  rw[e1] at hn
  have hkk:kidsZ f.toks b=x.kids:=by
   refine Bgn.kids (n:=m) (t:=t) ⟨ht,h1,hB.nl,hB.bn,?_,fun k hk=>?_,?_⟩
   ·rw[<- hxb];exact hn.1
   ·have:=hx2.kid k hk;omega
   ·have hsr:∀ i,i<=f.toks.length->Srt (stA f i).open_:=by
     intro i
     induction i with
     | zero=>intro _ y hy;cases hy
     | succ i ih =>
      intro hi
      obtain⟨t,ht⟩:∃ t,f.toks[i]?=some t:=⟨f.toks[i],List.getElem?_eq_getElem (by omega)⟩
      rw[stA_succ ht]
      exact srt_step (val_ok hz ht).2 (ih (by omega))
    exact hsr m (by have:=hB.nl;omega) x hxm
  exact⟨m,x,o,h1,hB.nl,⟨u,hu,hed⟩,e1,hxb,hxt,hkk,hx2⟩
 ·rw[hed] at h;cases h
 ·rw[hed] at h;cases h
theorem kids_met {f:Fm} (hz:chkZ f=none) {b:Nat} {t:Tk} (ht:f.toks[b]?=some t) (hg:bgO t.op=true) {j k:Nat} (hj:(kidsZ f.toks b)[j]?=some k) :
  k<f.toks.length/\∃ x o,(stA f k).open_=x::o/\x.at_=b/\x.tk=t/\x.kids=(kidsZ f.toks b).take j/\Kin f.toks x/\ScOk f.toks k x:=by
 obtain⟨m,x,o,-,hml,-,e1,hxb,hxt,hkk,hx2⟩:=close_at hz ht hg
 have hxm:x∈(stA f m).open_:=by rw[e1];exact List.mem_cons_self ..
 obtain⟨k1,k2⟩:=kin_at hz m (by omega) x hxm
 rw[hkk] at hj ⊢
 have hkm:=hx2.kid k (List.mem_of_getElem? hj)
 obtain⟨y,o',f1,f2,f3,f4⟩:=k2 j k hj
 have hkl:k<f.toks.length:=by omega
 obtain⟨tk,htk⟩:∃ t,f.toks[k]?=some t:=⟨f.toks[k],List.getElem?_eq_getElem hkl⟩
 have hym:y∈(stA f k).open_:=by rw[f1];exact List.mem_cons_self ..
 exact⟨hkl,y,o',f1,by omega,by rw[f3,hxt],f4,(kin_at hz k (by omega) y hym).1,(val_ok hz htk).2.all y hym⟩
theorem stay_met {f:Fm} (hz:chkZ f=none) {i:Nat} {t:Tk} (ht:f.toks[i]?=some t) (he:edO t.op=false) {x:Sc} {o:List Sc} (hx:(stA f i).open_=x::o):∀ n,i<n->n<=f.toks.length->∀ z∈(stA f n).open_,z.at_=x.at_->i∈z.kids:=by
 obtain⟨hok,H⟩:=val_ok hz ht
 have hxk:=H.all x (by rw[hx];exact List.mem_cons_self ..)
 intro n
 induction n with
 | zero=>intro h;omega
 | succ n ih =>
  intro h1 h2 z hz' hza
  obtain⟨u,hu⟩:∃ t,f.toks[n]?=some t:=⟨f.toks[n],List.getElem?_eq_getElem (by omega)⟩
  rw[stA_succ hu] at hz'
  rcases Nat.lt_or_ge i n with hl|hl
  ·have ih:=ih hl (by omega)
   unfold nxt at hz'
   by_cases hue:edO u.op=true
   ·rw[if_pos hue] at hz'
    exact ih z (List.mem_of_mem_tail hz') hza
   ·rw[if_neg hue] at hz'
    have key:∀ y∈metL (stA f n).open_ n u,y.at_=x.at_->i∈y.kids:=fun y hy hya=>by
     cases hso:(stA f n).open_ with
     | nil=>rw[hso] at hy;cases hy
     | cons a r =>
      rw[hso] at hy ih
      rcases List.mem_cons.1 hy with rfl|hy
      ·exact List.mem_append_left _ (ih a (List.mem_cons_self ..) hya)
      ·exact ih y (List.mem_cons_of_mem _ hy) hya
    have hz':z∈(if bgO u.op=true then scNew n u::metL (stA f n).open_ n u else metL (stA f n).open_ n u):=hz'
    split at hz'
    ·rcases List.mem_cons.1 hz' with rfl|hz'
     ·have h3:n=x.at_:=hza
      have:=hxk.lt
      omega
     ·exact key z hz' hza
    ·exact key z hz' hza
  ·obtain rfl:n=i:=by omega
   rw[ht] at hu
   cases hu
   unfold nxt at hz'
   rw[if_neg (by rw[he];decide),hx] at hz'
   have hn:=H.nest
   rw[hx] at hn
   have hz':z∈(if bgO t.op=true then scNew n t::metX x n t::o else metX x n t::o):=hz'
   have key:z∈metX x n t::o->n∈z.kids:=fun hz'=>by
    rcases List.mem_cons.1 hz' with rfl|hz'
    ·exact List.mem_append_right _ (List.mem_singleton.2 rfl)
    ·have:=out_lt hn.2.2 (fun a ha=>H.all a (by rw[hx];exact List.mem_cons_of_mem _ ha)) z hz'
     omega
   split at hz'
   ·rcases List.mem_cons.1 hz' with rfl|hz'
    ·have h3:n=x.at_:=hza
     have:=hxk.lt
     omega
    ·exact key hz'
   ·exact key hz'
theorem kid_of {f:Fm} (hz:chkZ f=none) {i:Nat} {t:Tk} (ht:f.toks[i]?=some t) (he:edO t.op=false) {x:Sc} {o:List Sc} (hx:(stA f i).open_=x::o):∃ j:Nat,(kidsZ f.toks x.at_)[j]?=some i:=by
 obtain⟨hok,H⟩:=val_ok hz ht
 have hxk:=H.all x (by rw[hx];exact List.mem_cons_self ..)
 obtain⟨m,y,o',h1,h2,⟨u,hu,hue⟩,e1,e2,e3,e4,e5⟩:=close_at hz hxk.tk hxk.beg
 have hle:=hxk.le
 have hne:i≠m:=fun e=>by
  subst e
  rw[ht] at hu
  cases hu
  rw[he] at hue
  cases hue
 rw[e4]
 exact List.getElem?_of_mem (stay_met hz ht he hx m (by omega) (by omega) y (by rw[e1];exact List.mem_cons_self ..) e2)
def kp (C:List Nat) (v:Int) (k:Nat):Bool:=decide (((C.getD k 0:Nat):Int)<=v)
theorem getD_of {C:List Nat} {i c:Nat} (h:C[i]?=some c):C.getD i 0=c:=by rw[List.getD_eq_getElem?_getD,h];rfl
theorem rnk_mono (C:List Nat) (v:Int) {i j:Nat} (h:i<=j):rnk C v i<=rnk C v j:=by
 unfold rnk
 have:C.take i=(C.take j).take i:=by rw[List.take_take,Nat.min_eq_left h]
 rw[this]
 exact List.Sublist.countP_le (List.take_sublist ..)
theorem rnk_kp {C:List Nat} {v:Int} {i:Nat} (hi:i<C.length) (hk:kp C v i=true):rnk C v (i+1)=rnk C v i+1:=by
 have hc:C[i]?=some C[i]:=List.getElem?_eq_getElem hi
 rw[rnk_succ hc]
 have h:=decT hk
 rw[getD_of hc] at h
 rw[if_pos h]
theorem rnk_no {C:List Nat} {v:Int} {i:Nat} (hi:i<C.length) (hk:kp C v i=false):rnk C v (i+1)=rnk C v i:=by
 have hc:C[i]?=some C[i]:=List.getElem?_eq_getElem hi
 rw[rnk_succ hc]
 have h:=of_decide_eq_false hk
 rw[getD_of hc] at h
 rw[if_neg h]
 rfl
theorem rnk_lt {C:List Nat} {v:Int} {i j:Nat} (hi:i<C.length) (hk:kp C v i=true) (h:i<j):rnk C v i<rnk C v j:=by
 have h1:=rnk_kp hi hk
 have h2:=rnk_mono C v (i:=i+1) (j:=j) h
 omega
theorem kepF_at (l:List Tk) (C:List Nat) (v:Int) (hl:C.length=l.length):∀ (n i:Nat) (t:Tk),n<=l.length->i<n->l[i]?=some t->kp C v i=true->(kepF l C v n)[rnk C v i]?=some (trnT l C v i t)
 | 0,_,_,_,h,_,_=>by omega
 | n+1,i,t,hn,hi,ht,hk=>by
  have hlen:=kepF_length l C v n (by omega) (by omega)
  have hc:C[n]?=some (C[n]'(by omega)):=List.getElem?_eq_getElem _
  obtain⟨tn,htn⟩:∃ t,l[n]?=some t:=⟨l[n]'(by omega),List.getElem?_eq_getElem _⟩
  rw[kepF_succ htn hc]
  rcases Nat.lt_or_ge i n with h|h
  ·have:=rnk_lt (by omega) hk h
   rw[List.getElem?_append_left (by omega)]
   exact kepF_at l C v hl n i t (by omega) h ht hk
  ·obtain rfl:i=n:=by omega
   rw[ht] at htn
   cases htn
   have h:=decT hk
   rw[getD_of hc] at h
   rw[if_pos h,List.getElem?_append_right (by omega),hlen,Nat.sub_self]
   rfl
theorem came_in {f:Fm} (hz:chkZ f=none) {i:Nat} {t:Tk} (ht:f.toks[i]?=some t) (he:edO t.op=false) {x:Sc} {o:List Sc} (hx:(stA f i).open_=x::o):(camZ f).getD i 0=max ((camZ f).getD x.at_ 0) t.since.toNat:=by
 have h1:=camZ_get ht
 rw[stk_open hz i (by have:=(List.getElem?_eq_some_iff.1 ht).1;omega),hx] at h1
 rw[getD_of h1]
 unfold camS
 rw[if_neg (by rw[he];decide)]
 rfl
theorem came_end {f:Fm} (hz:chkZ f=none) {i:Nat} {t:Tk} (ht:f.toks[i]?=some t) (he:edO t.op=true) {x:Sc} {o:List Sc} (hx:(stA f i).open_=x::o):(camZ f).getD i 0=(camZ f).getD x.at_ 0:=by
 have h1:=camZ_get ht
 rw[stk_open hz i (by have:=(List.getElem?_eq_some_iff.1 ht).1;omega),hx] at h1
 rw[getD_of h1]
 unfold camS
 rw[if_pos he]
 rfl
theorem kp_in {f:Fm} (hz:chkZ f=none) {i:Nat} {t:Tk} (ht:f.toks[i]?=some t) (he:edO t.op=false) {x:Sc} {o:List Sc} (hx:(stA f i).open_=x::o) (v:Int):kp (camZ f) v i=(kp (camZ f) v x.at_&&decide (t.since<=v)):=by
 have h1:=came_in hz ht he hx
 have h2:=val_since hz ht
 unfold kp
 rw[h1]
 rw[Bool.eq_iff_iff]
 simp only[Bool.and_eq_true,decide_eq_true_eq]
 omega
theorem kp_end {f:Fm} (hz:chkZ f=none) {i:Nat} {t:Tk} (ht:f.toks[i]?=some t) (he:edO t.op=true) {x:Sc} {o:List Sc} (hx:(stA f i).open_=x::o) (v:Int):kp (camZ f) v i=kp (camZ f) v x.at_:=by
 unfold kp
 rw[came_end hz ht he hx]
theorem fstB_some {l:List Tk} {C:List Nat} {v:Int}:∀ {ks:List Nat} {x:Int},fstB l C v ks=some x->∃ (j k:Nat),ks[j]?=some k/\newB' l C v k=true/\x=offAt l k
 | [],_,h=>by cases h
 | k::r,x,h=>by
  rw[fstB] at h
  split at h
  ·rename_i hn
   cases h
   exact⟨0,k,rfl,hn,rfl⟩
  ·obtain⟨j,k',h1,h2,h3⟩:=fstB_some h
   exact⟨j+1,k',h1,h2,h3⟩
theorem rul_fld {f:Fm} {o:List Sc} {ids:List Int} {i:Nat} {x:Sc} {t:Tk} (h:inOk f (x::o) ids i x t=true) (ho:t.op=2):fldB f ids i x t=true:=by
 have hr:=(inOk_in h (by rw[ho];rfl)).2.2.2.2.2
 unfold rulB at hr
 rwa [if_pos ho] at hr
theorem fld_rise {f:Fm} {ids:List Int} {i:Nat} {x:Sc} {t:Tk} (h:fldB f ids i x t=true):x.fld<=t.since/\t.since<=f.ver:=by
 unfold fldB at h
 simp only[Bool.and_eq_true] at h
 exact betT h.1.2
theorem inOk_at {f:Fm} (hz:chkZ f=none) {i:Nat} {t:Tk} (ht:f.toks[i]?=some t) {x:Sc} {o:List Sc} (hx:(stA f i).open_=x::o):inOk f (x::o) (stA f i).ids i x t=true:=by
 have h:=(val_ok hz ht).1
 cases hs:stA f i with
 | mk o' ids =>
  rw[hs] at h hx
  simp only at hx
  subst hx
  exact h
theorem blk_low {f:Fm} (hz:chkZ f=none) (v:Int) {b:Nat} {t:Tk} (ht:f.toks[b]?=some t) (ho:t.op=0\/t.op=4) (hb:0<=t.blk) :
  (0<=blkZ f.toks (camZ f) v b t/\blkZ f.toks (camZ f) v b t<=t.blk)/\∀ (j k:Nat) (u:Tk),(kidsZ f.toks b)[j]?=some k->f.toks[k]?=some u->u.op=2->u.siz≠0->kp (camZ f) v k=true->u.off+u.siz<=blkZ f.toks (camZ f) v b t:=by
 have hg:bgO t.op=true:=by rcases ho with e|e<;>rw[e]<;>rfl
 have one:∀ (j k:Nat) (u:Tk),(kidsZ f.toks b)[j]?=some k->f.toks[k]?=some u->u.op=2->u.siz≠0->∃ x o,(stA f k).open_=x::o/\x.at_=b/\x.kids=(kidsZ f.toks b).take j/\Kin f.toks x/\x.tk=t/\x.fld<=u.since/\0<=x.e0/\x.e0<=u.off/\0<u.siz/\u.off+u.siz<=t.blk:=fun j k u hj hu h2 hs=>by
  obtain⟨hkl,x,o,e1,e2,e3,e4,e5,e6⟩:=kids_met hz ht hg hj
  have hi:=rul_fld (inOk_at hz hu e1) h2
  have h3:=fld_siz hi hs
  rw[e3] at h3
  exact⟨x,o,e1,e2,e4,e5,e3,(fld_rise hi).1,e6.e0.1,h3.2.2.1,h3.2.1,h3.2.2.2⟩
 unfold blkZ
 cases hf:fstB f.toks (camZ f) v (kidsZ f.toks b) with
 | none =>
  refine⟨⟨hb,Int.le_refl _⟩,fun j k u hj hu h2 hs _=>?_⟩
  obtain⟨x,o,-,-,-,-,-,-,-,-,-,h⟩:=one j k u hj hu h2 hs
  exact h
 | some z =>
  obtain⟨j',k',hj',hn,rfl⟩:=fstB_some hf
  unfold newB' at hn
  cases hu':f.toks[k']? with
  | none=>rw[hu'] at hn;cases hn
  | some u' =>
   rw[hu'] at hn
   simp only[Bool.and_eq_true,Bool.not_eq_true',decide_eq_true_eq,decide_eq_false_iff_not] at hn
   obtain⟨n1,n2,n3⟩:=hn
   obtain⟨x,o,e1,e2,e3,e4,e5,e6,e7,e8,e9,e10⟩:=one j' k' u' hj' hu' n1 n2
   have hoff:offAt f.toks k'=u'.off:=by unfold offAt;rw[hu']
   simp only[Option.getD_some]
   rw[hoff]
   refine⟨⟨by omega,by omega⟩,fun j k u hj hu h2 hs hk=>?_⟩
   obtain⟨y,p,d1,d2,d3,d4,d5,d6,d7,d8,d9,d10⟩:=one j k u hj hu h2 hs
   have he2:edO u.op=false:=by rw[h2];rfl
   have he3:edO u'.op=false:=by rw[n1];rfl
   rw[kp_in hz hu he2 d1,d2,Bool.and_eq_true] at hk
   have hk1:=decT hk.1
   have hk2:=decT hk.2
   have hc':=came_in hz hu' he3 e1
   rw[e2] at hc'
   have hv:=val_since hz hu'
   rcases Nat.lt_trichotomy j j' with h|h|h
   ·have hm:k∈x.kids:=by
     rw[e3]
     exact List.mem_of_getElem? (i:=j) (by rw[List.getElem?_take,if_pos h];exact hj)
    have:=e4.e (by rw[e5];exact ho) k hm u hu h2 hs
    omega
   ·subst h
    rw[hj] at hj'
    cases hj'
    rw[hu] at hu'
    cases hu'
    omega
   ·have hm:k'∈y.kids:=by
     rw[d3]
     exact List.mem_of_getElem? (i:=j') (by rw[List.getElem?_take,if_pos h];exact hj')
    have:=d4.f k' hm u' hu' n1
    omega
section
variable (f:Fm) (v:Int)
structure RS (x x':Sc):Prop where
 at_:x'.at_=rnk (camZ f) v x.at_
 tk:x'.tk=trnT f.toks (camZ f) v x.at_ x.tk
 kids:x'.kids=(x.kids.filter (kp (camZ f) v)).map (rnk (camZ f) v)
 fld:x.fld<=v->x'.fld=x.fld
 row:x.row<=v->x'.row=x.row
 e0:((x.tk.op=0\/x.tk.op=4)->x.fld<=v)->x'.e0=x.e0
 all:x.tk.op=2\/x.tk.op=8->∀ k∈x.kids,kp (camZ f) v k=true
 hd:x.tk.op=10\/x.tk.op=12->∀ k,x.kids.head?=some k->kp (camZ f) v k=true
 low:x.tk.since<=v
def RO:List Sc->List Sc->Prop
 | [],o'=>o'=[]
 | x::o,o'=>if kp (camZ f) v x.at_=true then ∃ x' o'',o'=x'::o''/\RS f v x x'/\RO o o'' else RO o o'
structure RSt (s s':St):Prop where
 op:RO f v s.open_ s'.open_
 ids:∀ d∈s'.ids,d∈s.ids
end
theorem dep_sim {f:Fm} {v:Int} (op:Int):∀ {o o':List Sc},RO f v o o'->depB op o'<=depB op o
 | [],o',h=>by
  have h:o'=[]:=h
  subst h
  exact Nat.le_refl _
 | x::o,o',h=>by
  unfold RO at h
  have hx:depB op o<=depB op (x::o):=by
   unfold depB
   rw[List.filter_cons]
   split
   ·simp
   ·exact Nat.le_refl _
  split at h
  ·obtain⟨x',o'',rfl,h1,h2⟩:=h
   have ih:=dep_sim op h2
   have e:x'.tk.op=x.tk.op:=by rw[h1.tk];rfl
   unfold depB at *
   rw[List.filter_cons,List.filter_cons,e]
   split
   ·simp only[List.length_cons]
    omega
   ·exact ih
  ·exact Nat.le_trans (dep_sim op h) hx
theorem plain_trn {l:List Tk} {C:List Nat} {v:Int} {i:Nat} {t:Tk} (h:plainB t=true):plainB (trnT l C v i t)=true:=by
 by_cases ho:t.op=0\/t.op=4
 ·rcases ho with e|e
  ·unfold plainB nzs mays at h ⊢
   simp only[trnT,e] at h ⊢
   simp[subB] at h ⊢
   omega
  ·unfold plainB nzs mays at h ⊢
   simp only[trnT,e] at h ⊢
   simp[subB] at h ⊢
   omega
 ·have e:nzs (trnT l C v i t)=nzs t:=by
   unfold nzs trnT
   simp only[if_neg ho]
  unfold plainB
  rw[e]
  exact h
section
variable {f:Fm} {v:Int}
theorem at_new {k:Nat} {u:Tk} (hu:f.toks[k]?=some u) (hk:kp (camZ f) v k=true):(atF f v).toks[rnk (camZ f) v k]?=some (trnT f.toks (camZ f) v k u) :=
 kepF_at f.toks (camZ f) v (camZ_length f) f.toks.length k u (Nat.le_refl _) (List.getElem?_eq_some_iff.1 hu).1 hu hk
theorem new_len:(atF f v).toks.length=rnk (camZ f) v f.toks.length:=kepF_length _ _ _ _ (Nat.le_refl _) (by rw[camZ_length];exact Nat.le_refl _)
theorem pair_sim (hz:chkZ f=none) {i:Nat} {t:Tk} (hk:kp (camZ f) v i=true) (hg:bgO t.op=true) (h:pairB f.toks i t=true):pairB (atF f v).toks (rnk (camZ f) v i) (trnT f.toks (camZ f) v i t)=true:=by
 obtain⟨n,u,h1,h2,h3,h4,h5,h6,h7⟩:=pairB_get h
 have hed:edO u.op=true:=by rw[h5];exact edO_succ hg
 have hkn:kp (camZ f) v n=true:=by
  rcases val_tok hz h4 with ⟨-,-,x,o,e1,e2,e3⟩|⟨h,-⟩|⟨h,-⟩
  ·rw[kp_end hz h4 hed e1,show x.at_=i by omega]
   exact hk
  ·rw[hed] at h;cases h
  ·rw[hed] at h;cases h
 have hl:=camZ_length f
 have a1:=rnk_lt (C:=camZ f) (v:=v) (i:=i) (j:=n) (by omega) hk h2
 have a2:=rnk_lt (C:=camZ f) (v:=v) (i:=n) (j:=f.toks.length) (by omega) hkn h3
 have a3:=at_new h4 hkn
 unfold pairB
 have hp:(trnT f.toks (camZ f) v i t).pair=((rnk (camZ f) v n:Nat):Int):=by
  show ((rnk (camZ f) v t.pair.toNat:Nat):Int)=_
  rw[h1]
  rfl
 rw[hp,Int.toNat_natCast,a3,new_len]
 have hq:(trnT f.toks (camZ f) v n u).pair=((rnk (camZ f) v i:Nat):Int):=by
  show ((rnk (camZ f) v u.pair.toNat:Nat):Int)=_
  rw[h7]
  rfl
 simp only[Bool.and_eq_true,decide_eq_true_eq]
 exact⟨⟨by omega,by omega⟩,⟨h5,h6⟩,hq⟩
theorem name_sim {ks:List Nat} (hk:∀ k∈ks,k<f.toks.length) {s:ByteArray} (h:nameIn (atF f v).toks ((ks.filter (kp (camZ f) v)).map (rnk (camZ f) v)) s=true):nameIn f.toks ks s=true:=by
 unfold nameIn at h ⊢
 rw[List.any_eq_true] at h ⊢
 obtain⟨k',hk',hm⟩:=h
 obtain⟨k,hk1,rfl⟩:=List.mem_map.1 hk'
 obtain⟨hk2,hk3⟩:=List.mem_filter.1 hk1
 have hu:f.toks[k]?=some (f.toks[k]'(hk k hk2)):=List.getElem?_eq_getElem _
 rw[at_new hu hk3] at hm
 exact⟨k,hk2,by rw[hu];exact hm⟩
theorem val_sim {ks:List Nat} (hk:∀ k∈ks,k<f.toks.length) {s:Int} (h:valIn (atF f v).toks ((ks.filter (kp (camZ f) v)).map (rnk (camZ f) v)) s=true):valIn f.toks ks s=true:=by
 unfold valIn at h ⊢
 rw[List.any_eq_true] at h ⊢
 obtain⟨k',hk',hm⟩:=h
 obtain⟨k,hk1,rfl⟩:=List.mem_map.1 hk'
 obtain⟨hk2,hk3⟩:=List.mem_filter.1 hk1
 have hu:f.toks[k]?=some (f.toks[k]'(hk k hk2)):=List.getElem?_eq_getElem _
 rw[at_new hu hk3] at hm
 exact⟨k,hk2,by rw[hu];exact hm⟩
theorem last_sim {x x':Sc} {i:Nat} (hx:ScOk f.toks i x) (hi:i<=f.toks.length) (hK:Kin f.toks x) (h:RS f v x x') (ho:x.tk.op=0\/x.tk.op=4) {op:Int} (h0:0<=op) (hl:lastOp f.toks x<=op):lastOp (atF f v).toks x'<=op:=by
 unfold lastOp
 rw[h.kids]
 cases hg:((x.kids.filter (kp (camZ f) v)).map (rnk (camZ f) v)).getLast? with
 | none=>exact h0
 | some k' =>
  have hm:=List.mem_of_getLast? hg
  obtain⟨k,hk1,rfl⟩:=List.mem_map.1 hm
  obtain⟨hk2,hk3⟩:=List.mem_filter.1 hk1
  have hkl:k<f.toks.length:=by have:=hx.kid k hk2;omega
  have hu:f.toks[k]?=some (f.toks[k]'hkl):=List.getElem?_eq_getElem _
  simp only
  rw[at_new hu hk3]
  have:=hK.o ho k hk2 _ hu
  show (f.toks[k]'hkl).op<=op
  omega
end
section
variable {f:Fm} {v:Int} {i:Nat} {x x':Sc} {o o':List Sc} {t:Tk}
theorem RS.opE (h:RS f v x x'):x'.tk.op=x.tk.op:=by rw[h.tk];rfl
theorem RS.kidsAll (h:RS f v x x') (hx:∀ k∈x.kids,kp (camZ f) v k=true):x'.kids=x.kids.map (rnk (camZ f) v):=by
 rw[h.kids,List.filter_eq_self.2 hx]
theorem RS.nil_iff (h:RS f v x x') (ho:x.tk.op=10\/x.tk.op=12):x'.kids.length=0↔x.kids.length=0:=by
 rw[h.kids,List.length_map]
 cases hk:x.kids with
 | nil=>simp
 | cons k r =>
  have:=h.hd ho k (by rw[hk];rfl)
  rw[List.filter_cons,if_pos this]
  simp
theorem may_sim (hx:ScOk f.toks i x) (hi:i<=f.toks.length) (hK:Kin f.toks x) (h:RS f v x x') {op:Int} (hop:0<=op) (hm:mayB f.toks x op=true):mayB (atF f v).toks x' op=true:=by
 unfold mayB at hm ⊢
 rw[h.opE]
 by_cases h0:x.tk.op=0\/x.tk.op=4
 ·rw[if_pos h0] at hm ⊢
  simp only[Bool.or_eq_true,Bool.and_eq_true,decide_eq_true_eq] at hm ⊢
  rcases hm with hm|⟨hm,hl⟩
  ·exact .inl hm
  ·exact .inr ⟨hm,last_sim hx hi hK h h0 hop hl⟩
 rw[if_neg h0] at hm ⊢
 by_cases h2:x.tk.op=2
 ·rw[if_pos h2] at hm ⊢
  have:x'.kids.length=x.kids.length:=by rw[h.kidsAll (h.all (.inl h2)),List.length_map]
  rw[this]
  exact hm
 rw[if_neg h2] at hm ⊢
 by_cases h10:x.tk.op=10\/x.tk.op=12
 ·rw[if_pos h10] at hm ⊢
  have:=h.nil_iff h10
  simp only[Bool.or_eq_true,Bool.and_eq_true,decide_eq_true_eq,ne_eq] at hm ⊢
  rw[this]
  exact hm
 rw[if_neg h10] at hm ⊢
 exact hm
theorem new_sim (hx:ScOk f.toks i x) (hi:i<=f.toks.length) (h:RS f v x x') {ids ids':List Int} (hids:∀ d∈ids',d∈ids) (hn:newB f.toks ids x t=true):newB (atF f v).toks ids' x' (trnT f.toks (camZ f) v i t)=true:=by
 unfold newB at hn ⊢
 simp only[Bool.and_eq_true,Bool.not_eq_true'] at hn ⊢
 refine⟨⟨hn.1.1,?_⟩,?_⟩
 ·cases hc:ids'.contains (trnT f.toks (camZ f) v i t).id with
  | false=>rfl
  | true =>
   have h1:t.id∈ids:=hids _ (List.contains_iff_mem.1 hc)
   rw[List.contains_iff_mem.2 h1] at hn
   cases hn.1.2
 ·cases hc:nameIn (atF f v).toks x'.kids (trnT f.toks (camZ f) v i t).name with
  | false=>rfl
  | true =>
   rw[h.kids] at hc
   have h1:=name_sim (fun k hk=>by have:=hx.kid k hk;omega) hc
   rw[show nameIn f.toks x.kids t.name=true from h1] at hn
   cases hn.2
theorem row_sim (h:RS f v x x') (hl:t.since<=v) (hr:rowB f x t=true):rowB (atF f v) x' (trnT f.toks (camZ f) v i t)=true:=by
 unfold rowB at hr ⊢
 rw[h.opE]
 split at hr
 ·rename_i h4
  rw[if_pos h4]
  rw[h.tk]
  exact hr
 ·rename_i h4
  rw[if_neg h4]
  have h1:=betT hr
  rw[h.row (by omega)]
  exact decide_eq_true ⟨h1.1,hl⟩
theorem blk_sim (hz:chkZ f=none) (ht:f.toks[i]?=some t) (ho:t.op=0\/t.op=4) (hb:blkB t=true):blkB (trnT f.toks (camZ f) v i t)=true:=by
 unfold blkB at hb ⊢
 simp only[Bool.and_eq_true] at hb ⊢
 have h1:=betT hb.1
 have h2:=(blk_low hz v ht ho h1.1).1
 have e:(trnT f.toks (camZ f) v i t).blk=blkZ f.toks (camZ f) v i t:=by
  show (if t.op=0\/t.op=4 then _ else _)=_
  rw[if_pos ho]
 refine⟨decide_eq_true ⟨by rw[e];omega,?_⟩,hb.2⟩
 rw[e]
 show _<=t.full
 omega
theorem plc_sim (h:RS f v x x') (he:x'.e0=x.e0) (hp:plcB x t=true):plcB x' (trnT f.toks (camZ f) v i t)=true:=by
 have:plcB x' (trnT f.toks (camZ f) v i t)=plcB x t:=by
  unfold plcB codB memB
  rw[he,h.tk]
  rfl
 rw[this]
 exact hp
theorem enc_sim (h:RS f v x x') (he:x'.e0=x.e0) (hp:encB x t=true):encB x' (trnT f.toks (camZ f) v i t)=true:=by
 unfold encB at hp ⊢
 simp only[Bool.and_eq_true] at hp ⊢
 exact⟨⟨⟨plc_sim h he hp.1.1.1,hp.1.1.2⟩,hp.1.2⟩,hp.2⟩
theorem next_typ (hz:chkZ f=none) (ht:f.toks[i]?=some t) (ho:t.op=2) {u:Tk} (hu:f.toks[i+1]?=some u) (hv0:0<=v) (hk:kp (camZ f) v i=true):kp (camZ f) v (i+1)=true:=by
 have hb:bgO t.op=true:=by rw[ho];rfl
 have he:edO t.op=false:=by rw[ho];rfl
 have hs:(stA f (i+1)).open_=scNew i t::metL (stA f i).open_ i t:=by
  rw[stA_succ ht]
  unfold nxt
  rw[if_neg (by rw[he];decide),if_pos hb]
 have hin:=inOk_at hz hu hs
 have hpl:plainB u=true:=by
  have:=(val_ok hz hu).1
  exact okZ_plain this
 have hm:mayB f.toks (scNew i t) u.op=true:=by
  unfold inOk at hin
  simp only[Bool.and_eq_true] at hin
  exact hin.1.1.1
 have hty:tyO u.op=true:=by
  unfold mayB at hm
  have e:(scNew i t).tk.op=2:=ho
  rw[if_neg (by omega),if_pos e] at hm
  simp only[Bool.or_eq_true,Bool.and_eq_true,decide_eq_true_eq] at hm
  rcases hm with hm|hm
  ·exact hm.2
  ·exact absurd (show ([]:List Nat).length=1 from hm.1) (by decide)
 have hue:edO u.op=false:=by
  unfold tyO at hty
  rcases decT hty with e|e|e|e<;>rw[e]<;>rfl
 have hus:u.since=0:=pl_since hpl (by unfold tyO at hty;have:=decT hty;omega)
 rw[kp_in hz hu hue hs,hus]
 show (kp (camZ f) v i&&decide (0<=v))=true
 rw[hk,decide_eq_true hv0]
 rfl
theorem in_sim (hz:chkZ f=none) (ht:f.toks[i]?=some t) (ho:t.op=2) (hv0:0<=v) (hk:kp (camZ f) v i=true) (hxo:x.tk.op=0\/x.tk.op=4) (hst:(stA f i).open_=x::o) (h:RS f v x x') (he:x'.e0=x.e0) (hb:inB f.toks i x t=true):inB (atF f v).toks (rnk (camZ f) v i) x' (trnT f.toks (camZ f) v i t)=true:=by
 have hil:=(List.getElem?_eq_some_iff.1 ht).1
 unfold inB at hb ⊢
 simp only[Bool.and_eq_true] at hb ⊢
 refine⟨⟨hb.1.1,?_⟩,?_⟩
 ·have h2:=hb.1.2
  cases hu:f.toks[i+1]? with
  | none=>rw[hu] at h2;cases h2
  | some u =>
   rw[hu] at h2
   have hk1:=next_typ hz ht ho hu hv0 hk
   have h3:=at_new hu hk1
   rw[rnk_kp (by rw[camZ_length];exact hil) hk] at h3
   rw[h3]
   exact h2
 ·have h2:=hb.2
  show (if t.siz=0 then decide (t.off=0) else decide (0<t.siz/\x'.e0<=t.off/\t.off+t.siz<=x'.tk.blk))=true
  by_cases hs:t.siz=0
  ·rw[if_pos hs] at h2 ⊢
   exact h2
  ·rw[if_neg hs] at h2 ⊢
   have h3:=decT h2
   refine decide_eq_true ⟨h3.1,by rw[he];exact h3.2.1,?_⟩
   obtain⟨hok,H⟩:=val_ok hz ht
   have hx:=H.all x (by rw[hst];exact List.mem_cons_self ..)
   have hbk:x'.tk.blk=blkZ f.toks (camZ f) v x.at_ x.tk:=by
    rw[h.tk]
    show (if x.tk.op=0\/x.tk.op=4 then _ else _)=_
    rw[if_pos hxo]
   rw[hbk]
   have hmem:∃ j:Nat,(kidsZ f.toks x.at_)[j]?=some i:=kid_of hz ht (by rw[ho];rfl) hst
   obtain⟨j,hj⟩:=hmem
   exact(blk_low hz v hx.tk hxo hx.blk.1).2 j i t hj ht ho hs hk
end
end Go.Proofs.YtahogajcbncjhaaGreatDoor
