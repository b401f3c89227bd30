import Derived.Test.YtcgimchhcaankaaGreatDoorK03
namespace Go.Proofs.YtcgimchhcaankaaGreatDoor
def Took (f:Fm) (b:Nat) (t:Tk) (ks:List Nat):Prop:=∀ (j k:Nat) (u:Tk),ks[j]?=some k->f.toks[k]?=some u->∃ (x:Sc) (o:List Sc) (ids:List Int),x.at_=b/\x.tk=t/\x.kids=ks.take j/\inOk f (x::o) ids k x u=true/\edO u.op=false
theorem took_nil (f:Fm) (b:Nat) (t:Tk):Took f b t []:=fun j k u h=>by simp at h
theorem took_snoc {f:Fm} {b i:Nat} {t u:Tk} {ks:List Nat} (h:Took f b t ks) (hu:f.toks[i]?=some u) {x:Sc} {o:List Sc} {ids:List Int} (h1:x.at_=b) (h2:x.tk=t) (h3:x.kids=ks) (h4:inOk f (x::o) ids i x u=true) (h5:edO u.op=false):Took f b t (ks++[i]):=by
 intro j k v hj hv
 rcases Nat.lt_or_ge j ks.length with hl|hl
 ·rw[List.getElem?_append_left hl] at hj
  obtain⟨y,o',ids',e1,e2,e3,e4⟩:=h j k v hj hv
  exact⟨y,o',ids',e1,e2,by rw[List.take_append_of_le_length (by omega)];exact e3,e4⟩
 ·rw[List.getElem?_append_right hl] at hj
  have hj0:j-ks.length=0:=by
   rcases Nat.eq_zero_or_pos (j-ks.length) with e|e
   ·exact e
   ·rw[List.getElem?_eq_none (by simp;omega)] at hj;cases hj
  rw[hj0] at hj
  cases hj
  rw[hu] at hv
  cases hv
  exact⟨x,o,ids,h1,h2,by rw[h3,show j=ks.length by omega,List.take_left],h4,h5⟩
def TkO (f:Fm) (o:List Sc):Prop:=∀ x∈o,Took f x.at_ x.tk x.kids
def Cl2 (f:Fm) (i:Nat) (o:List Sc):Prop:=∀ b t,b<i->f.toks[b]?=some t->bgO t.op=true->(∃ x∈o,x.at_=b)\/∃ (n:Nat) (ks:List Nat),t.pair=(n:Int)/\n<i/\Chn f.toks (b+1) ks n/\(∀ k∈ks,b<k/\k<n)/\ks.Pairwise (· < ·)/\Took f b t ks
theorem tko_step {f:Fm} {s:St} {i:Nat} {t:Tk} (ht:f.toks[i]?=some t) (h:okZ f s i t=true) (hs:TkO f s.open_):TkO f (nxt s i t).open_:=by
 obtain⟨o,ids⟩:=s
 intro y hy
 unfold nxt at hy
 by_cases he:edO t.op=true
 ·rw[if_pos he] at hy
  exact hs y (List.mem_of_mem_tail hy)
 ·rw[if_neg he] at hy
  have key:∀ y∈metL o i t,Took f y.at_ y.tk y.kids:=fun y hy=>by
   rcases o with _|⟨x,o⟩
   ·cases hy
   ·rcases List.mem_cons.1 hy with rfl|hy
    ·exact took_snoc (x:=x) (o:=o) (ids:=ids) (hs x (List.mem_cons_self ..)) ht rfl rfl rfl h (by simpa using he)
    ·exact hs y (List.mem_cons_of_mem _ hy)
  have hy:y∈(if bgO t.op=true then scNew i t::metL o i t else metL o i t):=hy
  split at hy
  ·rcases List.mem_cons.1 hy with rfl|hy
   ·exact took_nil _ _ _
   ·exact key y hy
  ·exact key y hy
theorem cl2_step {f:Fm} {s:St} {i:Nat} {t:Tk} (H:Inv f i s) (ht:f.toks[i]?=some t) (h:okZ f s i t=true) (hs:Srt s.open_) (hk:TkO f s.open_) (hc:Cl2 f i s.open_):Cl2 f (i+1) (nxt s i t).open_:=by
 obtain⟨o,ids⟩:=s
 intro b u hb hu hg
 have hb':b<i\/b=i:=by omega
 rcases o with _|⟨x,o⟩
 ·obtain⟨hi,ho,_⟩:=okZ_nil h
  rcases hb' with hb' | rfl
  ·omega
  ·have hbg:bgO t.op=true:=by rw[ho];rfl
   refine .inl ⟨scNew b t,?_,rfl⟩
   unfold nxt
   rw[if_neg (by rw[bgO_end hbg];decide),if_pos hbg]
   exact List.mem_cons_self ..
 ·have hx:=H.all x (List.mem_cons_self ..)
  have h:inOk f (x::o) ids i x t=true:=h
  cases he:edO t.op with
  | true =>
   obtain⟨_,_,_,h1,h2⟩:=inOk_end h he
   have e:(nxt ⟨x::o,ids⟩ i t).open_=o:=by unfold nxt;rw[if_pos he];rfl
   rw[e]
   rcases hb' with hb' | rfl
   ·rcases hc b u hb' hu hg with ⟨y,hy,hyb⟩|⟨n,ks,h3,h4,h5,h6⟩
    ·rcases List.mem_cons.1 hy with rfl|hy
     ·subst hyb
      have:=hx.tk
      rw[hu] at this
      cases this
      exact .inr ⟨i,y.kids,h2,Nat.lt_succ_self _,H.nest.1,fun k hk=>hx.kid k hk,hs y (List.mem_cons_self ..),hk y (List.mem_cons_self ..)⟩
     ·exact .inl ⟨y,hy,hyb⟩
    ·exact .inr ⟨n,ks,h3,by omega,h5,h6⟩
   ·rw[ht] at hu
    cases hu
    rw[bgO_end hg] at he
    cases he
  | false =>
   have e:∀ y∈metX x i t::o,y∈(nxt ⟨x::o,ids⟩ i t).open_:=fun y hy=>by
    unfold nxt
    rw[if_neg (by rw[he];decide)]
    show y∈(if bgO t.op=true then scNew i t::metX x i t::o else metX x i t::o)
    split
    ·exact List.mem_cons_of_mem _ hy
    ·exact hy
   rcases hb' with hb' | rfl
   ·rcases hc b u hb' hu hg with ⟨y,hy,hyb⟩|⟨n,ks,h3,h4,h5,h6⟩
    ·rcases List.mem_cons.1 hy with rfl|hy
     ·exact .inl ⟨metX y i t,e _ (List.mem_cons_self ..),hyb⟩
     ·exact .inl ⟨y,e _ (List.mem_cons_of_mem _ hy),hyb⟩
    ·exact .inr ⟨n,ks,h3,by omega,h5,h6⟩
   ·rw[ht] at hu
    cases hu
    refine .inl ⟨scNew b t,?_,rfl⟩
    unfold nxt
    rw[if_neg (by rw[he];decide),if_pos hg]
    exact List.mem_cons_self ..
theorem run_cl2 {f:Fm}:∀ (r:List Tk) (i:Nat) (s:St),r=f.toks.drop i->i<=f.toks.length->Inv f i s->Srt s.open_->TkO f s.open_->Cl2 f i s.open_->runZ f r i s=none->Cl2 f f.toks.length []:=by
 intro r
 induction r with
 | nil =>
  intro i s hr hi H hs hk hc hz
  rw[runZ] at hz
  split at hz
  ·cases hz
  ·rename_i hn
   have h0:s.open_=[]:=Decidable.byContradiction fun e=>hn (.inr e)
   have:i=f.toks.length:=by
    have:=congrArg List.length hr
    rw[List.length_drop] at this
    simp at this
    omega
   subst this
   rwa [h0] at hc
 | cons t r ih =>
  intro i s hr hi H hs hk hc hz
  have hlt:i<f.toks.length:=by
   have:=congrArg List.length hr
   rw[List.length_drop] at this
   simp at this
   omega
  have ht:f.toks[i]?=some t:=by
   have:=congrArg (fun l=>l[0]?) hr
   simp at this
   exact this.symm
  have hr':r=f.toks.drop (i+1):=by
   have:=congrArg List.tail hr
   simpa using this
  rw[runZ] at hz
  split at hz
  ·rename_i hok
   exact ih (i+1) _ hr' hlt (inv_step H ht hok) (srt_step H hs) (tko_step ht hok hk) (cl2_step H ht hok hs hk hc) hz
  ·cases hz
theorem valid_took {f:Fm} (h:chkZ f=none) {b:Nat} {t:Tk} (ht:f.toks[b]?=some t) (hg:bgO t.op=true):∃ (n:Nat) (ks:List Nat),t.pair=(n:Int)/\n<f.toks.length/\Chn f.toks (b+1) ks n/\(∀ k∈ks,b<k/\k<n)/\ks.Pairwise (· < ·)/\Took f b t ks:=by
 unfold chkZ at h
 split at h
 ·have hc:=run_cl2 f.toks 0 ⟨[],[]⟩ rfl (Nat.zero_le _) (inv_zero f) (fun x hx=>by cases hx) (fun x hx=>by cases hx) (fun b t hb=>by omega) h
  rcases hc b t (List.getElem?_eq_some_iff.1 ht).1 ht hg with ⟨x,hx,_⟩|h
  ·cases hx
  ·exact h
 ·cases h
theorem block_ops {f:Fm} {b:Nat} {t:Tk} {ks:List Nat} (h:Took f b t ks) (ho:t.op=0\/t.op=4) {k:Nat} (hk:k∈ks) {u:Tk} (hu:f.toks[k]?=some u):u.op=2\/u.op=4\/u.op=6:=by
 obtain⟨j,hj⟩:=List.getElem?_of_mem hk
 obtain⟨x,o,ids,e1,e2,e3,e4,e5⟩:=h j k u hj hu
 obtain⟨hm,_⟩:=inOk_in e4 e5
 unfold mayB at hm
 rw[e2,if_pos ho] at hm
 simp only[Bool.or_eq_true,Bool.and_eq_true,decide_eq_true_eq] at hm
 rcases hm with hm|⟨hm,_⟩
 ·exfalso
  rw[hm] at e5
  rcases ho with ho|ho<;>rw[ho] at e5<;>exact absurd e5 (by decide)
 ·unfold ptO at hm
  have hm:=of_decide_eq_true hm
  omega
theorem first_msg {f:Fm} (h:chkZ f=none):∃ t,f.toks[0]?=some t/\t.op=0:=by
 unfold chkZ at h
 split at h
 ·cases hl:f.toks with
  | nil=>rw[hl,runZ] at h;simp at h
  | cons t r =>
   rw[hl,runZ] at h
   split at h
   ·rename_i hok
    exact⟨t,rfl,(okZ_nil hok).2.1⟩
   ·cases h
 ·cases h
def camS (st:List Nat) (t:Tk):Nat×List Nat :=
 if edO t.op then (st.headD 0,st.tail) else (max (st.headD 0) t.since.toNat,if bgO t.op then max (st.headD 0) t.since.toNat::st else st)
def camF:List Tk->List Nat->List Nat
 | [],_=>[]
 | t::r,st=>(camS st t).1::camF r (camS st t).2
def stkD:List Tk->List Nat->List Nat
 | [],st=>st
 | t::r,st=>stkD r (camS st t).2
def camZ (f:Fm):List Nat:=camF f.toks []
theorem camF_length:∀ (l:List Tk) (st:List Nat),(camF l st).length=l.length
 | [],_=>rfl
 | t::r,st=>by rw[camF,List.length_cons,camF_length r,List.length_cons]
theorem camF_append:∀ (l r:List Tk) (st:List Nat),camF (l++r) st=camF l st++camF r (stkD l st)
 | [],_,_=>rfl
 | t::l,r,st=>by rw[List.cons_append,camF,camF,stkD,camF_append l r,List.cons_append]
theorem stkD_append:∀ (l r:List Tk) (st:List Nat),stkD (l++r) st=stkD r (stkD l st)
 | [],_,_=>rfl
 | t::l,r,st=>by rw[List.cons_append,stkD,stkD,stkD_append l r]
theorem camZ_length (f:Fm):(camZ f).length=f.toks.length:=camF_length _ _
theorem take_snoc {α:Type} {l:List α} {i:Nat} {t:α} (h:l[i]?=some t):l.take (i+1)=l.take i++[t]:=by
 rw[List.take_add_one,h]
 rfl
theorem camF_get {l:List Tk} {i:Nat} {t:Tk} (h:l[i]?=some t) (st:List Nat):(camF l st)[i]?=some (camS (stkD (l.take i) st) t).1:=by
 have hi:=(List.getElem?_eq_some_iff.1 h).1
 have e:l=l.take i++(t::l.drop (i+1)):=by
  rw[(List.getElem?_eq_some_iff.1 h).2.symm,List.getElem_cons_drop,List.take_append_drop]
 have e2:camF l st=camF (l.take i) st++camF (t::l.drop (i+1)) (stkD (l.take i) st):=by
  conv=>lhs;rw[e]
  exact camF_append _ _ _
 rw[e2,List.getElem?_append_right (by rw[camF_length,List.length_take];omega),camF_length,List.length_take,Nat.min_eq_left (by omega),Nat.sub_self]
 rfl
theorem stkD_succ {l:List Tk} {i:Nat} {t:Tk} (h:l[i]?=some t) (st:List Nat):stkD (l.take (i+1)) st=(camS (stkD (l.take i) st) t).2:=by
 rw[take_snoc h,stkD_append]
 rfl
def stA (f:Fm):Nat->St
 | 0=>⟨[],[]⟩
 | i+1=>match f.toks[i]? with
  | some t=>nxt (stA f i) i t
  | none=>stA f i
theorem stA_succ {f:Fm} {i:Nat} {t:Tk} (h:f.toks[i]?=some t):stA f (i+1)=nxt (stA f i) i t:=by
 rw[stA,h]
theorem val_at {f:Fm} (hz:chkZ f=none):∀ i,i<=f.toks.length->runZ f (f.toks.drop i) i (stA f i)=none/\Inv f i (stA f i):=by
 intro i
 induction i with
 | zero =>
  intro _
  unfold chkZ at hz
  split at hz
  ·exact⟨hz,inv_zero f⟩
  ·cases hz
 | succ i ih =>
  intro hi
  obtain⟨h1,h2⟩:=ih (by omega)
  obtain⟨t,ht⟩:∃ t,f.toks[i]?=some t:=⟨f.toks[i],List.getElem?_eq_getElem (by omega)⟩
  have e:f.toks.drop i=t::f.toks.drop (i+1):=by
   rw[(List.getElem?_eq_some_iff.1 ht).2.symm,List.getElem_cons_drop]
  rw[e,runZ] at h1
  split at h1
  ·rename_i hok
   rw[stA_succ ht]
   exact⟨h1,inv_step h2 ht hok⟩
  ·cases h1
theorem val_ok {f:Fm} (hz:chkZ f=none) {i:Nat} {t:Tk} (ht:f.toks[i]?=some t):okZ f (stA f i) i t=true/\Inv f i (stA f i):=by
 have hi:=(List.getElem?_eq_some_iff.1 ht).1
 obtain⟨h1,h2⟩:=val_at hz i (by omega)
 have e:f.toks.drop i=t::f.toks.drop (i+1):=by
  rw[(List.getElem?_eq_some_iff.1 ht).2.symm,List.getElem_cons_drop]
 rw[e,runZ] at h1
 split at h1
 ·rename_i hok
  exact⟨hok,h2⟩
 ·cases h1
theorem metL_at (o:List Sc) (i:Nat) (t:Tk) (g:Nat->Nat):(metL o i t).map (fun x=>g x.at_)=o.map (fun x=>g x.at_):=by
 cases o with
 | nil=>rfl
 | cons x r=>rfl
theorem camZ_get {f:Fm} {i:Nat} {t:Tk} (ht:f.toks[i]?=some t):(camZ f)[i]?=some (camS (stkD (f.toks.take i) []) t).1:=camF_get ht []
theorem stk_open {f:Fm} (hz:chkZ f=none):∀ i,i<=f.toks.length->stkD (f.toks.take i) []=(stA f i).open_.map (fun x=>(camZ f).getD x.at_ 0):=by
 intro i
 induction i with
 | zero=>intro _;rfl
 | succ i ih =>
  intro hi
  have ih:=ih (by omega)
  obtain⟨t,ht⟩:∃ t,f.toks[i]?=some t:=⟨f.toks[i],List.getElem?_eq_getElem (by omega)⟩
  obtain⟨hok,H⟩:=val_ok hz ht
  have hc:=camZ_get ht
  rw[stkD_succ ht,stA_succ ht]
  unfold nxt
  unfold camS at hc ⊢
  by_cases he:edO t.op=true
  ·rw[if_pos he,if_pos he]
   rw[ih]
   exact(List.map_tail ..).symm
  ·rw[if_neg he] at hc
   rw[if_neg he,if_neg he]
   by_cases hb:bgO t.op=true
   ·simp only[hb,if_true] at hc ⊢
    rw[List.map_cons,metL_at (stA f i).open_ i t (fun k=>(camZ f).getD k 0)]
    have:(camZ f).getD (scNew i t).at_ 0=max ((stkD (f.toks.take i) []).headD 0) t.since.toNat:=by
     show (camZ f).getD i 0=_
     rw[List.getD_eq_getElem?_getD,hc]
     rfl
    rw[this,ih]
   ·simp only[hb] at hc ⊢
    rw[if_neg (by decide),if_neg (by decide),metL_at (stA f i).open_ i t (fun k=>(camZ f).getD k 0)]
    exact ih
theorem pl_since {t:Tk} (h:plainB t=true) (ho:¬ (t.op=0\/t.op=2\/t.op=4\/t.op=6\/t.op=15)):t.since=0:=by
 unfold plainB nzs mays at h
 by_cases e8:t.op=8
 ·rw[e8] at h;simp[subB] at h;omega
 by_cases e10:t.op=10\/t.op=12
 ·rw[if_neg (by omega),if_neg (by omega),if_neg (by omega),if_neg (by omega),if_neg (by omega),if_pos e10] at h;simp[subB] at h;omega
 by_cases e14:t.op=14
 ·rw[e14] at h;simp[subB] at h;omega
 rw[if_neg (by omega),if_neg (by omega),if_neg (by omega),if_neg (by omega),if_neg (by omega),if_neg (by omega),if_neg (by omega),if_neg (by omega)] at h
 simp[subB] at h
 omega
theorem okZ_plain {f:Fm} {s:St} {i:Nat} {t:Tk} (h:okZ f s i t=true):plainB t=true:=by
 obtain⟨o,ids⟩:=s
 cases o with
 | nil=>exact(okZ_nil h).2.2.1
 | cons x o =>
  have h:inOk f (x::o) ids i x t=true:=h
  cases he:edO t.op with
  | true=>exact(inOk_end h he).2.1
  | false=>exact(inOk_in h he).2.1
def Sin (o:List Sc):Prop:=∀ x∈o,0<=x.tk.since/\x.tk.since<=65534/\0<=x.row
theorem head_ver {f:Fm} (hz:chkZ f=none):0<=f.ver/\f.ver<=65534:=by
 unfold chkZ at hz
 split at hz
 ·rename_i h
  unfold headB at h
  simp only[Bool.and_eq_true] at h
  have:=h.1.1.1.1.2
  exact betT this
 ·cases hz
theorem okZ_since {f:Fm} {s:St} {i:Nat} {t:Tk} (hv:f.ver<=65534) (H:Inv f i s) (hs:Sin s.open_) (h:okZ f s i t=true):0<=t.since/\t.since<=65534:=by
 have hp:=okZ_plain h
 by_cases ho:t.op=0\/t.op=2\/t.op=4\/t.op=6\/t.op=15
 ·obtain⟨o,ids⟩:=s
  cases o with
  | nil =>
   have hm:=(okZ_nil h).2.2.2.2.2
   unfold msgB at hm
   simp only[Bool.and_eq_true] at hm
   have:=betT hm.1.1.1.2
   omega
  | cons x o =>
   have h:inOk f (x::o) ids i x t=true:=h
   have he:edO t.op=false:=by rcases ho with e|e|e|e|e<;>rw[e]<;>rfl
   obtain⟨hm,_,_,_,_,hr⟩:=inOk_in h he
   have hx:=H.all x (List.mem_cons_self ..)
   obtain⟨s1,s2,s3⟩:=hs x (List.mem_cons_self ..)
   have hf:=hx.fld
   unfold rulB at hr
   by_cases e2:t.op=2
   ·rw[if_pos e2] at hr
    unfold fldB at hr
    simp only[Bool.and_eq_true] at hr
    have:=betT hr.1.2
    omega
   rw[if_neg e2] at hr
   have row:rowB f x t=true->0<=t.since/\t.since<=65534:=fun hw=>by
    unfold rowB at hw
    split at hw
    ·have:=decT hw
     omega
    ·have:=betT hw
     omega
   by_cases e4:t.op=4
   ·rw[if_pos e4] at hr
    unfold grpB at hr
    simp only[Bool.and_eq_true] at hr
    exact row hr.1.1.1.1.2
   rw[if_neg e4] at hr
   by_cases e6:t.op=6
   ·rw[if_pos e6] at hr
    unfold datB at hr
    simp only[Bool.and_eq_true] at hr
    exact row hr.1.1.1.1.2
   rw[if_neg e6] at hr
   by_cases e15:t.op=15
   ·rw[if_neg (by omega),if_neg (by omega),if_neg (by omega)] at hr
    unfold choB at hr
    simp only[Bool.and_eq_true] at hr
    have:=betT hr.1.1.1
    omega
   ·exfalso
    have e0:t.op=0:=by omega
    rw[e0] at hm
    rcases may_typ hm (by rfl) hx.beg with h|h|h|h
    ·exact absurd h.2.1 (by decide)
    ·exact absurd h.2.2 (by decide)
    ·exact absurd h.2 (by decide)
    ·obtain⟨_,h|h⟩:=h<;>omega
 ·rw[pl_since hp ho]
  omega
theorem sin_step {f:Fm} {s:St} {i:Nat} {t:Tk} (hv:f.ver<=65534) (H:Inv f i s) (hs:Sin s.open_) (h:okZ f s i t=true):Sin (nxt s i t).open_:=by
 have hb:=okZ_since hv H hs h
 obtain⟨o,ids⟩:=s
 have key:∀ y∈metL o i t,0<=y.tk.since/\y.tk.since<=65534/\0<=y.row:=fun y hy=>by
  cases o with
  | nil=>cases hy
  | cons x r =>
   rcases List.mem_cons.1 hy with rfl|hy
   ·obtain⟨h1,h2,h3⟩:=hs x (List.mem_cons_self ..)
    refine⟨h1,h2,?_⟩
    show 0<=(if _ then t.since else x.row)
    split
    ·exact hb.1
    ·exact h3
   ·exact hs y (List.mem_cons_of_mem _ hy)
 intro y hy
 unfold nxt at hy
 by_cases he:edO t.op=true
 ·rw[if_pos he] at hy
  exact hs y (List.mem_of_mem_tail hy)
 ·rw[if_neg he] at hy
  have hy:y∈(if bgO t.op=true then scNew i t::metL o i t else metL o i t):=hy
  split at hy
  ·rcases List.mem_cons.1 hy with rfl|hy
   ·exact⟨hb.1,hb.2,hb.1⟩
   ·exact key y hy
  ·exact key y hy
theorem sin_at {f:Fm} (hz:chkZ f=none):∀ i,i<=f.toks.length->Sin (stA f i).open_:=by
 intro i
 induction i with
 | zero=>intro _ x hx;cases hx
 | succ i ih =>
  intro hi
  obtain⟨t,ht⟩:∃ t,f.toks[i]?=some t:=⟨f.toks[i],List.getElem?_eq_getElem (by omega)⟩
  obtain⟨hok,H⟩:=val_ok hz ht
  rw[stA_succ ht]
  exact sin_step (head_ver hz).2 H (ih (by omega)) hok
theorem val_since {f:Fm} (hz:chkZ f=none) {i:Nat} {t:Tk} (ht:f.toks[i]?=some t):0<=t.since/\t.since<=65534:=by
 obtain⟨hok,H⟩:=val_ok hz ht
 exact okZ_since (head_ver hz).2 H (sin_at hz i (by have:=(List.getElem?_eq_some_iff.1 ht).1;omega)) hok
theorem rise_from:∀ {ks:List Nat} {lo n:Nat},ks.Pairwise (· < ·)->(∀ k∈ks,lo<=k/\k<n)->ks.length<=n-lo
 | [],_,_,_,_=>Nat.zero_le _
 | k::r,lo,n,h,hn=>by
  obtain⟨h1,h2⟩:=List.pairwise_cons.1 h
  have:=rise_from (lo:=k+1) (n:=n) h2 (fun j hj=>⟨h1 j hj,(hn j (List.mem_cons_of_mem _ hj)).2⟩)
  have:=hn k (List.mem_cons_self ..)
  simp only[List.length_cons]
  omega
theorem rise_length {ks:List Nat} {n:Nat} (h:ks.Pairwise (· < ·)) (hn:∀ k∈ks,k<n):ks.length<=n:=rise_from (lo:=0) h fun k hk=>⟨Nat.zero_le _,hn k hk⟩
def kidF (l:List Tk) (n:Nat):Nat->Nat->List Nat
 | 0,_=>[]
 | m+1,k=>if k<n then k::kidF l n m ((match l[k]? with|some t=>t.pair.toNat|none=>0)+1) else []
def kidsZ (l:List Tk) (p:Nat):List Nat:=match l[p]? with|some t=>kidF l t.pair.toNat l.length (p+1)|none=>[]
theorem kidF_chn {l:List Tk} {n:Nat}:∀ {ks:List Nat} {k m:Nat},Chn l k ks n->(∀ j∈ks,j<n)->ks.length<=m->kidF l n m k=ks
 | [],k,m,h,_,_=>by
  have h:k=n:=h
  subst h
  cases m with
  | zero=>rfl
  | succ m=>rw[kidF,if_neg (Nat.lt_irrefl _)]
 | j::r,k,m,h,hn,hl=>by
  obtain⟨rfl,t,q,ht,hq,h2⟩:=h
  cases m with
  | zero=>cases hl
  | succ m =>
   rw[kidF,if_pos (hn k (List.mem_cons_self ..)),ht]
   simp only[hq,Int.toNat_natCast]
   rw[kidF_chn h2 (fun j hj=>hn j (List.mem_cons_of_mem _ hj)) (by simpa using hl)]
structure Bgn (l:List Tk) (p n:Nat) (t:Tk) (ks:List Nat):Prop where
 et:l[p]?=some t
 en:t.pair=(n:Int)
 nl:n<l.length
 bn:p<n
 ch:Chn l (p+1) ks n
 kn:∀ k∈ks,p<k/\k<n
 up:ks.Pairwise (· < ·)
theorem Bgn.kids {l:List Tk} {p n:Nat} {t:Tk} {ks:List Nat} (h:Bgn l p n t ks):kidsZ l p=ks:=by
 unfold kidsZ
 rw[h.et]
 simp only[h.en,Int.toNat_natCast]
 refine kidF_chn h.ch (fun j hj=>(h.kn j hj).2) ?_
 have:=rise_length h.up (fun k hk=>(h.kn k hk).2)
 have:=h.nl
 omega
theorem bgn_took {f:Fm} {b:Nat} {t:Tk} (hz:chkZ f=none) (ht:f.toks[b]?=some t) (hg:bgO t.op=true):∃ n ks,Bgn f.toks b n t ks/\Took f b t ks:=by
 obtain⟨n,ks,h1,h2,h3,h4,h5,h6⟩:=valid_took hz ht hg
 refine⟨n,ks,⟨ht,h1,h2,?_,h3,h4,h5⟩,h6⟩
 cases ks with
 | nil=>have:b+1=n:=h3;omega
 | cons k r=>have:=h4 k (List.mem_cons_self ..);omega
def newB' (l:List Tk) (C:List Nat) (v:Int) (k:Nat):Bool:=match l[k]? with
 | some u=>decide (u.op=2)&&(!decide (u.siz=0)&&decide (v<((C.getD k 0:Nat):Int)))
 | none=>false
def offAt (l:List Tk) (k:Nat):Int:=match l[k]? with|some t=>t.off|none=>0
def fstB (l:List Tk) (C:List Nat) (v:Int):List Nat->Option Int
 | []=>none
 | k::r=>if newB' l C v k then some (offAt l k) else fstB l C v r
def blkZ (l:List Tk) (C:List Nat) (v:Int) (i:Nat) (t:Tk):Int:=(fstB l C v (kidsZ l i)).getD t.blk
def rnk (C:List Nat) (v:Int) (n:Nat):Nat:=(C.take n).countP fun (c:Nat)=>decide ((c:Int)<=v)
def trnT (l:List Tk) (C:List Nat) (v:Int) (i:Nat) (t:Tk):Tk:={ t with pair:=(rnk C v t.pair.toNat:Nat),blk:=if t.op=0\/t.op=4 then blkZ l C v i t else t.blk }
def kepF (l:List Tk) (C:List Nat) (v:Int):Nat->List Tk
 | 0=>[]
 | n+1=>kepF l C v n++(match l[n]? with
  | some t=>if ((C.getD n 0:Nat):Int)<=v then [trnT l C v n t] else []
  | none=>[])
def atF (f:Fm) (v:Int):Fm:={ f with ver:=v,toks:=kepF f.toks (camZ f) v f.toks.length }
def fstV (f:Fm):Int:=match f.toks[0]? with|some t=>t.since|none=>0
def atE (f:Fm) (v:Int):Int:=if chkZ f=none then if fstV f<=v/\v<=f.ver then 0 else 130 else 121
def livB (f:Fm) (i v:Int):Bool:=decide (chkZ f=none)&&decide (0<=i/\i<f.toks.length)&&decide ((((camZ f).getD i.toNat 0:Nat):Int)<=v)
def verZ (f:Fm):List Nat:=if chkZ f=none then (List.range (f.ver.toNat+1)).filter fun v=>(camZ f).contains v else []
theorem rnk_succ {C:List Nat} {v:Int} {n c:Nat} (h:C[n]?=some c):rnk C v (n+1)=rnk C v n+if (c:Int)<=v then 1 else 0:=by
 unfold rnk
 rw[List.take_add_one,h,List.countP_append]
 simp only[Option.toList,List.countP_cons,List.countP_nil,Nat.zero_add]
 split<;>simp_all
theorem rnk_le (C:List Nat) (v:Int) (n:Nat):rnk C v n<=n:=by
 unfold rnk
 exact Nat.le_trans List.countP_le_length (by rw[List.length_take];omega)
theorem kepF_length (l:List Tk) (C:List Nat) (v:Int):∀ n,n<=l.length->n<=C.length->(kepF l C v n).length=rnk C v n:=by
 intro n
 induction n with
 | zero=>intro _ _;rfl
 | succ n ih =>
  intro h1 h2
  have hc:C[n]?=some C[n]:=List.getElem?_eq_getElem (by omega)
  have ht:l[n]?=some l[n]:=List.getElem?_eq_getElem (by omega)
  rw[rnk_succ hc,kepF,List.length_append,ih (by omega) (by omega),ht]
  simp only[List.getD_eq_getElem?_getD,hc,Option.getD_some]
  split<;>rfl
theorem kepF_succ {l:List Tk} {C:List Nat} {v:Int} {n c:Nat} {t:Tk} (ht:l[n]?=some t) (hc:C[n]?=some c):kepF l C v (n+1)=kepF l C v n++if (c:Int)<=v then [trnT l C v n t] else []:=by
 rw[kepF,ht]
 simp only[List.getD_eq_getElem?_getD,hc,Option.getD_some]
theorem kid_ops {f:Fm} {b:Nat} {t:Tk} {ks:List Nat} (h:Took f b t ks) (ho:t.op=0\/t.op=4) {j k k':Nat} {u u':Tk} (h1:ks[j]?=some k) (h2:f.toks[k]?=some u) (h3:ks[j+1]?=some k') (h4:f.toks[k']?=some u'):u.op<=u'.op:=by
 obtain⟨x,o,ids,e1,e2,e3,e4,e5⟩:=h (j+1) k' u' h3 h4
 obtain⟨hm,_⟩:=inOk_in e4 e5
 unfold mayB at hm
 rw[e2,if_pos ho] at hm
 simp only[Bool.or_eq_true,Bool.and_eq_true,decide_eq_true_eq] at hm
 rcases hm with hm|⟨_,hm⟩
 ·exfalso
  rw[hm] at e5
  rcases ho with ho|ho<;>rw[ho] at e5<;>exact absurd e5 (by decide)
 ·have:lastOp f.toks x=u.op:=by
   unfold lastOp
   rw[e3,List.take_add_one,h1]
   simp only[Option.toList,List.getLast?_append,List.getLast?_singleton,Option.some_or,h2]
  rw[<- this]
  exact hm
theorem kid_row {f:Fm} {b:Nat} {t:Tk} {ks:List Nat} (h:Took f b t ks) (ho:t.op=0\/t.op=4) (hk:∀ k∈ks,k<f.toks.length):∀ (d j:Nat) {k k':Nat} {u u':Tk},ks[j]?=some k->f.toks[k]?=some u->ks[j+d]?=some k'->f.toks[k']?=some u'->u.op<=u'.op:=by
 intro d
 induction d with
 | zero =>
  intro j k k' u u' h1 h2 h3 h4
  rw[Nat.add_zero,h1] at h3
  cases h3
  rw[h2] at h4
  cases h4
  exact Int.le_refl _
 | succ d ih =>
  intro j k k' u u' h1 h2 h3 h4
  have hlt:j+d<ks.length:=by have:=(List.getElem?_eq_some_iff.1 h3).1;omega
  have hm:ks[j+d]?=some ks[j+d]:=List.getElem?_eq_getElem hlt
  have hkk:=hk _ (List.mem_of_getElem? hm)
  have hm2:f.toks[ks[j+d]]?=some f.toks[ks[j+d]]:=List.getElem?_eq_getElem hkk
  exact Int.le_trans (ih j h1 h2 hm hm2) (kid_ops h ho hm hm2 h3 h4)
theorem fst_none {f:Fm} {b:Nat} {t:Tk} {ks:List Nat} (h:Took f b t ks) (ho:t.op=0\/t.op=4) (hk:∀ k∈ks,k<f.toks.length) {C:List Nat} {v:Int} {j k:Nat} {u:Tk} (h1:ks[j]?=some k) (h2:f.toks[k]?=some u) (hu:u.op≠2):fstB f.toks C v (ks.drop j)=none:=by
 have hge:2<u.op:=by
  rcases block_ops h ho (List.mem_of_getElem? h1) h2 with e|e|e
  ·exact absurd e hu
  ·omega
  ·omega
 have key:∀ l:List Nat,(∀ x∈l,newB' f.toks C v x=false)->fstB f.toks C v l=none:=by
  intro l
  induction l with
  | nil=>intro _;rfl
  | cons x r ih =>
   intro hx
   rw[fstB,if_neg (by rw[hx x (List.mem_cons_self ..)];decide)]
   exact ih fun y hy=>hx y (List.mem_cons_of_mem _ hy)
 refine key _ fun x hx=>?_
 obtain⟨d,hd⟩:=List.getElem?_of_mem hx
 rw[List.getElem?_drop] at hd
 unfold newB'
 cases hl:f.toks[x]? with
 | none=>rfl
 | some y =>
  have:=kid_row h ho hk d j h1 h2 hd hl
  have e:decide (y.op=2)=false:=decide_eq_false (by omega)
  simp only[e,Bool.false_and]
theorem val_tok {f:Fm} (hz:chkZ f=none) {i:Nat} {t:Tk} (ht:f.toks[i]?=some t) :
  (edO t.op=true/\bgO t.op=false/\∃ x o,(stA f i).open_=x::o/\t.pair=(x.at_:Int)/\x.at_<i)\/(edO t.op=false/\bgO t.op=true/\∃ n:Nat,t.pair=n/\i<n/\n<f.toks.length)\/(edO t.op=false/\bgO t.op=false/\t.pair=(i:Int)/\∃ x o,(stA f i).open_=x::o):=by
 obtain⟨hok,H⟩:=val_ok hz ht
 revert hok H
 generalize stA f i=s
 intro hok H
 obtain⟨o,ids⟩:=s
 cases o with
 | nil =>
  obtain⟨_,ho,_,_,hp,_⟩:=okZ_nil hok
  obtain⟨n,u,h1,h2,h3,_⟩:=pairB_get hp
  exact .inr (.inl ⟨by rw[ho];rfl,by rw[ho];rfl,n,h1,h2,h3⟩)
 | cons x o =>
  have h:inOk f (x::o) ids i x t=true:=hok
  have hx:=H.all x (List.mem_cons_self ..)
  cases he:edO t.op with
  | true =>
   refine .inl ⟨rfl,?_,x,o,rfl,(inOk_end h he).2.2.2.1,hx.lt⟩
   cases hb:bgO t.op with
   | false=>rfl
   | true=>rw[bgO_end hb] at he;cases he
  | false =>
   obtain⟨_,_,_,h3,h4,_⟩:=inOk_in h he
   cases hb:bgO t.op with
   | true =>
    obtain⟨n,u,h1,h2,h5,_⟩:=pairB_get (h3 hb)
    exact .inr (.inl ⟨rfl,rfl,n,h1,h2,h5⟩)
   | false=>exact .inr (.inr ⟨rfl,rfl,h4 hb,x,o,rfl⟩)
open Go.ChangeShapes Go.WideShapes Go.ChangeAt Go.RowKit
theorem ret_int {k:IntKind} {a b:Int} (h:a=b):Ending.returned (.int k a) = .returned (.int k b):=by rw[h]
theorem ret_bool {a b:Bool} (h:a=b):Ending.returned (.bool a) = .returned (.bool b):=by rw[h]
theorem bel1 (w:World) (o:Obj):Below w.heap.size w (w.alloc o):=(Below.refl _ _).alloc (Nat.le_refl _) _
abbrev kV (s r n m x:Int):Value:=.agg #[.int .i64 s,.int .i64 r,.int .u64 n,.int .u64 m,.int .u64 x]
structure KT (w:World):Prop where
 pos:1<w.heap.size
 size:∀ p:Nat,p<11->w.cell? ⟨1,5*p,none⟩=some (.int .i64 (sz p))
 reading:∀ p:Nat,p<11->w.cell? ⟨1,5*p+1,none⟩=some (.int .i64 (rd p))
 null:∀ p:Nat,p<11->w.cell? ⟨1,5*p+2,none⟩=some (.int .u64 (nl p))
 least:∀ p:Nat,p<11->w.cell? ⟨1,5*p+3,none⟩=some (.int .u64 (mn p))
 most:∀ p:Nat,p<11->w.cell? ⟨1,5*p+4,none⟩=some (.int .u64 (mx p))
theorem KT.below {w w':World} (h:KT w) {B:Nat} (hB:1<B) (hb:Below B w w'):KT w' :=
 ⟨Nat.lt_of_lt_of_le h.pos hb.size,fun p hp=>(hb.cell (p:=⟨1,5*p,none⟩) hB).trans (h.size p hp),fun p hp=>(hb.cell (p:=⟨1,5*p+1,none⟩) hB).trans (h.reading p hp),
  fun p hp=>(hb.cell (p:=⟨1,5*p+2,none⟩) hB).trans (h.null p hp),fun p hp=>(hb.cell (p:=⟨1,5*p+3,none⟩) hB).trans (h.least p hp),fun p hp=>(hb.cell (p:=⟨1,5*p+4,none⟩) hB).trans (h.most p hp)⟩
theorem kindOf_out (p:Int) (w:World) (h:p<0\/11<=p) :
  Calls Tryz.prog 134 #[.int .i64 p] w fun e w'=>e = .returned (kV 0 0 0 0 0)/\Below w.heap.size w w':=by
 rcases h with h|h
 ·go_enter Tryz.func134,Tryz.ntmps134
  go_wp2
  exact bodyPost_ret (v:=kV 0 0 0 0 0) (by simp[results,Tryz.results134,go_sem]) rfl ⟨rfl,bel1 _ _⟩
 ·have h':¬ p<0:=by omega
  go_enter Tryz.func134,Tryz.ntmps134
  go_wp2
  exact bodyPost_ret (v:=kV 0 0 0 0 0) (by simp[results,Tryz.results134,go_sem]) rfl ⟨rfl,bel1 _ _⟩
theorem kindOf_in (q:Nat) (s r n m x:Int) (w:World) (hq:q<11) (hp:1<w.heap.size) (h0:w.cell? ⟨1,5*q,none⟩=some (.int .i64 s)) (h1:w.cell? ⟨1,5*q+1,none⟩=some (.int .i64 r))
  (h2:w.cell? ⟨1,5*q+2,none⟩=some (.int .u64 n)) (h3:w.cell? ⟨1,5*q+3,none⟩=some (.int .u64 m)) (h4:w.cell? ⟨1,5*q+4,none⟩=some (.int .u64 x)) :
  Calls Tryz.prog 134 #[.int .i64 q] w fun e w'=>e = .returned (kV s r n m x)/\Below w.heap.size w w':=by
 have hc:q=0\/q=1\/q=2\/q=3\/q=4\/q=5\/q=6\/q=7\/q=8\/q=9\/q=10:=by omega
 rcases hc with rfl|rfl|rfl|rfl|rfl|rfl|rfl|rfl|rfl|rfl|rfl
 all_goals
  simp only[Nat.mul_zero,Nat.zero_add,Nat.reduceMul,Nat.reduceAdd] at h0 h1 h2 h3 h4
  go_enter Tryz.func134,Tryz.ntmps134
  go_wp2
  exact bodyPost_ret (v:=kV s r n m x) (by simp[results,Tryz.results134,go_sem]) rfl ⟨rfl,bel1 _ _⟩
theorem kindOf_any (p:Int) (w:World) (h:KT w) :
  Calls Tryz.prog 134 #[.int .i64 p] w fun e w'=>e = .returned (kV (sz p) (rd p) (nl p) (mn p) (mx p))/\Below w.heap.size w w':=by
 by_cases hp:p<0\/11<=p
 ·have e:kV (sz p) (rd p) (nl p) (mn p) (mx p)=kV 0 0 0 0 0:=by unfold sz rd nl mn mx;rw[kRow_out p hp]
  rw[e];exact kindOf_out p w hp
 ·obtain⟨q,rfl⟩:∃ q:Nat,p=q:=⟨p.toNat,by omega⟩
  exact kindOf_in q _ _ _ _ _ w (by omega) h.pos (h.size q (by omega)) (h.reading q (by omega)) (h.null q (by omega)) (h.least q (by omega)) (h.most q (by omega))
theorem word_any (s r n m x b:Int) (w:World) (hk:KOk s r) (hs:s≠0) (hb:0<=b) (hb':b<18446744073709551616) :
  Calls Tryz.prog 139 #[kV s r n m x,.int .u64 b] w fun e w'=>e = .returned (.int .u64 (wordF s r b))/\Below w.heap.size w w':=by
 rcases hk with ⟨rfl,rfl⟩|⟨rfl,rfl⟩|⟨rfl,rfl⟩|⟨rfl,rfl⟩|⟨rfl,rfl⟩|⟨rfl,rfl⟩|⟨rfl,rfl⟩|⟨rfl,rfl⟩|⟨rfl,rfl⟩|⟨rfl,rfl⟩|⟨rfl,rfl⟩
 ·exact absurd rfl hs
 all_goals
  clear hs
  go_enter Tryz.func139,Tryz.ntmps139
  go_wp2
  go_ret
  refine⟨ret_int ?_,bel1 _ _⟩
  simp only[IntKind.wrap_u64,wrap64,wordF,pw,if_true,if_false,Int.reduceEq,false_and,true_and]
  try split
  all_goals omega
end Go.Proofs.YtcgimchhcaankaaGreatDoor
