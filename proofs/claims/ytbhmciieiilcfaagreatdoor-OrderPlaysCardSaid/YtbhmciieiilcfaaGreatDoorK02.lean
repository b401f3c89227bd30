import Derived.Test.YtbhmciieiilcfaaGreatDoorK01
namespace Go.Proofs.YtbhmciieiilcfaaGreatDoor
variable {b i n p q:Nat} {ent k:Int} {f:Fm} {ks:List Nat} {l:List Tk} {r:List Lv} {s:Ms} {t u:Tk} {x y:Lv}
def Took (f:Fm) (b:Nat) (t:Tk) (ks:List Nat):Prop:=∀ (j k:Nat) (u:Tk),ks[j]?=some k->f.toks[k]?=some u->∃ (x:Sc) (o:List Sc) (ids:List Int),x.at_=b/\x.tk=t/\x.kids=ks.take j/\inOk f (x::o) ids k x u=true/\edO u.op=false
theorem took_nil (f:Fm) (b:Nat) (t:Tk):Took f b t []:=fun j k u h=>by simp at h
theorem took_snoc (h:Took f b t ks) (hu:f.toks[i]?=some u) {x:Sc} {o:List Sc} {ids:List Int} (h1:x.at_=b) (h2:x.tk=t) (h3:x.kids=ks) (h4:inOk f (x::o) ids i x u=true) (h5:edO u.op=false):Took f b t (ks++[i]):=by
 intro j k v hj hv
 rcases Nat.lt_or_ge j ks.length with hl|hl
 ·rw[List.getElem?_append_left hl] at hj
  obtain⟨y,o',ids',e1,e2,e3,e4⟩:=h j k v hj hv
  exact⟨y,o',ids',e1,e2,by rw[List.take_append_of_le_length (by omega)];exact e3,e4⟩
 ·rw[List.getElem?_append_right hl] at hj
  have hj0:j-ks.length=0:=by
   rcases Nat.eq_zero_or_pos (j-ks.length) with e|e
   ·exact e
   ·rw[List.getElem?_eq_none (by simp;omega)] at hj;cases hj
  rw[hj0] at hj
  cases hj
  rw[hu] at hv
  cases hv
  exact⟨x,o,ids,h1,h2,by rw[h3,show j=ks.length by omega,List.take_left],h4,h5⟩
def TkO (f:Fm) (o:List Sc):Prop:=∀ x∈o,Took f x.at_ x.tk x.kids
def Cl2 (f:Fm) (i:Nat) (o:List Sc):Prop:=∀ b t,b<i->f.toks[b]?=some t->bgO t.op=true->(∃ x∈o,x.at_=b)\/∃ (n:Nat) (ks:List Nat),t.pair=(n:Int)/\n<i/\Chn f.toks (b+1) ks n/\(∀ k∈ks,b<k/\k<n)/\ks.Pairwise (· < ·)/\Took f b t ks
theorem tko_step {s:St} (ht:f.toks[i]?=some t) (h:okZ f s i t=true) (hs:TkO f s.open_):TkO f (nxt s i t).open_:=by
 obtain⟨o,ids⟩:=s
 intro y hy
 unfold nxt at hy
 by_cases he:edO t.op=true
 ·rw[if_pos he] at hy
  exact hs y (List.mem_of_mem_tail hy)
 ·rw[if_neg he] at hy
  have key:∀ y∈metL o i t,Took f y.at_ y.tk y.kids:=fun y hy=>by
   rcases o with _|⟨x,o⟩
   ·cases hy
   ·rcases List.mem_cons.1 hy with rfl|hy
    ·exact took_snoc (x:=x) (o:=o) (ids:=ids) (hs x (List.mem_cons_self ..)) ht rfl rfl rfl h (by simpa using he)
    ·exact hs y (List.mem_cons_of_mem _ hy)
  have hy:y∈(if bgO t.op=true then scNew i t::metL o i t else metL o i t):=hy
  split at hy
  ·rcases List.mem_cons.1 hy with rfl|hy
   ·exact took_nil _ _ _
   ·exact key y hy
  ·exact key y hy
theorem cl2_step {s:St} (H:Inv f i s) (ht:f.toks[i]?=some t) (h:okZ f s i t=true) (hs:Srt s.open_) (hk:TkO f s.open_) (hc:Cl2 f i s.open_):Cl2 f (i+1) (nxt s i t).open_:=by
 obtain⟨o,ids⟩:=s
 intro b u hb hu hg
 have hb':b<i\/b=i:=by omega
 rcases o with _|⟨x,o⟩
 ·obtain⟨hi,ho,_⟩:=okZ_nil h
  rcases hb' with hb' | rfl
  ·omega
  ·have hbg:bgO t.op=true:=by rw[ho];rfl
   refine .inl ⟨scNew b t,?_,rfl⟩
   unfold nxt
   rw[if_neg (by rw[bgO_end hbg];decide),if_pos hbg]
   exact List.mem_cons_self ..
 ·have hx:=H.all x (List.mem_cons_self ..)
  have h:inOk f (x::o) ids i x t=true:=h
  cases he:edO t.op with
  | true =>
   obtain⟨_,_,_,h1,h2⟩:=inOk_end h he
   have e:(nxt ⟨x::o,ids⟩ i t).open_=o:=by unfold nxt;rw[if_pos he];rfl
   rw[e]
   rcases hb' with hb' | rfl
   ·rcases hc b u hb' hu hg with ⟨y,hy,hyb⟩|⟨n,ks,h3,h4,h5,h6⟩
    ·rcases List.mem_cons.1 hy with rfl|hy
     ·subst hyb
      have:=hx.tk
      rw[hu] at this
      cases this
      exact .inr ⟨i,y.kids,h2,Nat.lt_succ_self _,H.nest.1,fun k hk=>hx.kid k hk,hs y (List.mem_cons_self ..),hk y (List.mem_cons_self ..)⟩
     ·exact .inl ⟨y,hy,hyb⟩
    ·exact .inr ⟨n,ks,h3,by omega,h5,h6⟩
   ·rw[ht] at hu
    cases hu
    rw[bgO_end hg] at he
    cases he
  | false =>
   have e:∀ y∈metX x i t::o,y∈(nxt ⟨x::o,ids⟩ i t).open_:=fun y hy=>by
    unfold nxt
    rw[if_neg (by rw[he];decide)]
    show y∈(if bgO t.op=true then scNew i t::metX x i t::o else metX x i t::o)
    split
    ·exact List.mem_cons_of_mem _ hy
    ·exact hy
   rcases hb' with hb' | rfl
   ·rcases hc b u hb' hu hg with ⟨y,hy,hyb⟩|⟨n,ks,h3,h4,h5,h6⟩
    ·rcases List.mem_cons.1 hy with rfl|hy
     ·exact .inl ⟨metX y i t,e _ (List.mem_cons_self ..),hyb⟩
     ·exact .inl ⟨y,e _ (List.mem_cons_of_mem _ hy),hyb⟩
    ·exact .inr ⟨n,ks,h3,by omega,h5,h6⟩
   ·rw[ht] at hu
    cases hu
    refine .inl ⟨scNew b t,?_,rfl⟩
    unfold nxt
    rw[if_neg (by rw[he];decide),if_pos hg]
    exact List.mem_cons_self ..
theorem run_cl2:∀ (r:List Tk) (i:Nat) (s:St),r=f.toks.drop i->i<=f.toks.length->Inv f i s->Srt s.open_->TkO f s.open_->Cl2 f i s.open_->runZ f r i s=none->Cl2 f f.toks.length []:=by
 intro r
 induction r with
 | nil =>
  intro i s hr hi H hs hk hc hz
  rw[runZ] at hz
  split at hz
  ·cases hz
  ·rename_i hn
   have h0:s.open_=[]:=Decidable.byContradiction fun e=>hn (.inr e)
   have:i=f.toks.length:=by
    have:=congrArg List.length hr
    rw[List.length_drop] at this
    simp at this
    omega
   subst this
   rwa [h0] at hc
 | cons t r ih =>
  intro i s hr hi H hs hk hc hz
  have hlt:i<f.toks.length:=by
   have:=congrArg List.length hr
   rw[List.length_drop] at this
   simp at this
   omega
  have ht:f.toks[i]?=some t:=by
   have:=congrArg (fun l=>l[0]?) hr
   simp at this
   exact this.symm
  have hr':r=f.toks.drop (i+1):=by
   have:=congrArg List.tail hr
   simpa using this
  rw[runZ] at hz
  split at hz
  ·rename_i hok
   exact ih (i+1) _ hr' hlt (inv_step H ht hok) (srt_step H hs) (tko_step ht hok hk) (cl2_step H ht hok hs hk hc) hz
  ·cases hz
theorem valid_took (h:chkZ f=none) (ht:f.toks[b]?=some t) (hg:bgO t.op=true):∃ (n:Nat) (ks:List Nat),t.pair=(n:Int)/\n<f.toks.length/\Chn f.toks (b+1) ks n/\(∀ k∈ks,b<k/\k<n)/\ks.Pairwise (· < ·)/\Took f b t ks:=by
 unfold chkZ at h
 split at h
 ·have hc:=run_cl2 f.toks 0 ⟨[],[]⟩ rfl (Nat.zero_le _) (inv_zero f) (fun x hx=>by cases hx) (fun x hx=>by cases hx) (fun b t hb=>by omega) h
  rcases hc b t (List.getElem?_eq_some_iff.1 ht).1 ht hg with ⟨x,hx,_⟩|h
  ·cases hx
  ·exact h
 ·cases h
theorem block_ops (h:Took f b t ks) (ho:t.op=0\/t.op=4) {k:Nat} (hk:k∈ks) (hu:f.toks[k]?=some u):u.op=2\/u.op=4\/u.op=6:=by
 obtain⟨j,hj⟩:=List.getElem?_of_mem hk
 obtain⟨x,o,ids,e1,e2,e3,e4,e5⟩:=h j k u hj hu
 obtain⟨hm,_⟩:=inOk_in e4 e5
 unfold mayB at hm
 rw[e2,if_pos ho] at hm
 simp only[Bool.or_eq_true,Bool.and_eq_true,decide_eq_true_eq] at hm
 rcases hm with hm|⟨hm,_⟩
 ·exfalso
  rw[hm] at e5
  rcases ho with ho|ho<;>rw[ho] at e5<;>exact absurd e5 (by decide)
 ·unfold ptO at hm
  have hm:=of_decide_eq_true hm
  omega
theorem first_msg (h:chkZ f=none):∃ t,f.toks[0]?=some t/\t.op=0:=by
 unfold chkZ at h
 split at h
 ·cases hl:f.toks with
  | nil=>rw[hl,runZ] at h;simp at h
  | cons t r =>
   rw[hl,runZ] at h
   split at h
   ·rename_i hok
    exact⟨t,rfl,(okZ_nil hok).2.1⟩
   ·cases h
 ·cases h
theorem bgn_took (hz:chkZ f=none) (ht:f.toks[b]?=some t) (hg:bgO t.op=true):∃ n ks,Bgn f.toks b n t ks/\Took f b t ks:=by
 obtain⟨n,ks,h1,h2,h3,h4,h5,h6⟩:=valid_took hz ht hg
 refine⟨n,ks,⟨ht,h1,h2,?_,h3,h4,h5⟩,h6⟩
 cases ks with
 | nil=>have:b+1=n:=h3;omega
 | cons k r=>have:=h4 k (List.mem_cons_self ..);omega
structure Blk (f:Fm) (p n:Nat) (t:Tk) (ks:List Nat):Prop where
 bg:Bgn f.toks p n t ks
 op:t.op=0\/t.op=4
 kop:∀ k∈ks,∃ u,f.toks[k]?=some u/\(u.op=2\/u.op=4\/u.op=6)
theorem blk_of (hz:chkZ f=none) (ht:f.toks[p]?=some t) (ho:t.op=0\/t.op=4):∃ n ks,Blk f p n t ks:=by
 have hg:bgO t.op=true:=by rcases ho with h|h<;>rw[h]<;>rfl
 obtain⟨n,ks,h1,h2⟩:=bgn_took hz ht hg
 refine⟨n,ks,h1,ho,fun k hk=>?_⟩
 have hkl:k<f.toks.length:=by have:=(h1.kn k hk).2;have:=h1.nl;omega
 exact⟨f.toks[k],List.getElem?_eq_getElem hkl,block_ops h2 ho hk (List.getElem?_eq_getElem hkl)⟩
theorem opAt_some (h:l[i]?=some t):opAt l i=t.op:=by unfold opAt;rw[h]
theorem nmAt_some (h:l[i]?=some t):nmAt l i=t.name:=by unfold nmAt;rw[h]
theorem bpAt_some (h:l[i]?=some t):bpAt l i=t.b.p:=by unfold bpAt;rw[h]
theorem Blk.row (h:Blk f p n t ks) (hq:q∈rowZ f.toks p):∃ u,f.toks[q]?=some u/\(u.op=4\/u.op=6)/\p<q/\q<n:=by
 unfold rowZ at hq
 rw[h.bg.kids] at hq
 obtain⟨h1,h2⟩:=List.mem_filter.1 hq
 obtain⟨u,hu,ho⟩:=h.kop q h1
 rw[opAt_some hu] at h2
 simp at h2
 exact⟨u,hu,by omega,h.bg.kn q h1⟩
theorem rowZ_length (h:Blk f p n t ks):(rowZ f.toks p).length<=n:=by
 unfold rowZ
 rw[h.bg.kids]
 have:=List.length_filter_le (fun i=>!decide (opAt f.toks i=2)) ks
 have:=rise_length h.bg.up (fun k hk=>(h.bg.kn k hk).2)
 omega
theorem LvOk.blk (hz:chkZ f=none) (h:LvOk f.toks x) (h0:x.p<f.toks.length):∃ n t ks,Blk f x.p n t ks:=by
 have ht:f.toks[x.p]?=some f.toks[x.p]:=List.getElem?_eq_getElem h0
 have ho:=h.op
 rw[opAt_some ht] at ho
 obtain⟨n,ks,hb⟩:=blk_of hz ht ho
 exact⟨n,_,ks,hb⟩
theorem leaveR_suffix (l:List Tk):∀ o:List Lv,∃ a,o=a++leaveR l o/\(o≠[]->leaveR l o≠[])/\∀ x∈a,overB l x=true
 | []=>⟨[],rfl,fun h=>h,fun x hx=>by cases hx⟩
 | [x]=>⟨[],rfl,fun h=>h,fun x hx=>by cases hx⟩
 | x::y::r=>by
  rw[leaveR]
  split
  ·rename_i hx
   obtain⟨a,h1,h2,h3⟩:=leaveR_suffix l (y::r)
   refine⟨x::a,by rw[List.cons_append,<- h1],fun _=>h2 (by simp),fun z hz=>?_⟩
   rcases List.mem_cons.1 hz with rfl|hz
   ·exact hx
   ·exact h3 z hz
  ·exact⟨[],rfl,fun h=>h,fun x hx=>by cases hx⟩
theorem leaveR_ok (h:MsOk l s):MsOk l ⟨leaveR l s.op,s.ent⟩:=by
 obtain⟨a,h1,h2,h3⟩:=leaveR_suffix l s.op
 have hs:∀ x∈leaveR l s.op,x∈s.op:=fun x hx=>by rw[h1];exact List.mem_append_right _ hx
 refine⟨h2 h.ne,fun x hx=>h.all x (hs x hx),h.e0,h.e1,fun x r e hb=>?_,fun x hx=>?_,?_,?_⟩
 ·cases a with
  | nil =>
   rw[List.nil_append] at h1
   exact h.bot x r (by rw[h1];exact e) hb
  | cons y a =>
   have:x.begun=true:=h.fst x (by rw[h1,List.cons_append,List.tail_cons];have e':leaveR l s.op=x::r:=e;rw[e'];simp)
   rw[hb] at this;cases this
 ·refine h.fst x ?_
  have hx:x∈(leaveR l s.op).tail:=hx
  rw[h1]
  cases a with
  | nil=>exact hx
  | cons y a=>rw[List.cons_append,List.tail_cons];exact List.mem_append_right _ (List.mem_of_mem_tail hx)
 ·have:=h.len
  have e:=congrArg List.length h1
  rw[List.length_append] at e
  show (leaveR l s.op).length<=1+s.ent.toNat
  omega
 ·exact botB_leave l h.bt
theorem memZ_some {nm:ByteArray} (h:memZ l x k nm=some q):x.begun=true/\(rowZ l x.p)[x.come]?=some q/\knd (opAt l q)=k/\nmAt l q=nm:=by
 unfold memZ at h
 split at h
 ·rename_i hb
  split at h
  ·rename_i q' hq
   split at h
   ·rename_i hk
    cases h
    exact⟨hb,hq,hk⟩
   ·cases h
  ·cases h
 ·cases h
def InF (l:List Tk) (s:Ms):Prop:=∀ x∈s.op,x.p<l.length
theorem step_ok (hz:chkZ f=none) (h:MsOk f.toks s) (hi:InF f.toks s) (k cnt:Int) (nm:ByteArray):MsOk f.toks (stepZ f.toks s k cnt nm).2/\InF f.toks (stepZ f.toks s k cnt nm).2:=by
 have key:∀ x r,leaveR f.toks s.op=x::r->MsOk f.toks ⟨x::r,s.ent⟩/\InF f.toks ⟨x::r,s.ent⟩:=fun x r e=>by
  have:=leaveR_ok h
  rw[e] at this
  obtain⟨a,h1,_⟩:=leaveR_suffix f.toks s.op
  exact⟨this,fun y hy=>hi y (by rw[h1,e];exact List.mem_append_right _ hy)⟩
 unfold stepZ
 split
 ·exact⟨h,hi⟩
 ·by_cases hk0:k=0
  ·rw[if_pos hk0]
   split
   ·exact⟨h,hi⟩
   ·rw[if_pos hk0];exact⟨h,hi⟩
  ·rw[if_neg hk0]
   split
   ·exact⟨h,hi⟩
   ·rename_i x r e
    obtain⟨hx,hxi⟩:=key x r e
    have hxa:=hx.all x (List.mem_cons_self ..)
    rw[if_neg hk0]
    split
    ·split
     ·exact⟨h,hi⟩
     ·rename_i hnn
      refine⟨⟨by simp,fun y hy=>?_,hx.e0,hx.e1,fun y r' e hb=>?_,fun y hy=>hx.fst y hy,hx.len,botB_head hx.bt fun e=>absurd (.inl (by have:=hx.bt;rw[e] at this;exact this.1)) hnn⟩,fun y hy=>?_⟩
      ·rcases List.mem_cons.1 hy with rfl|hy
       ·exact⟨hxa.op,Nat.zero_le _,by have:=hxa.l0;show 0<=x.left-1;omega,by have:=hxa.l1;show x.left-1<=_;omega⟩
       ·exact hx.all y (List.mem_cons_of_mem _ hy)
      ·simp only[List.cons.injEq] at e
       rw[<- e.1] at hb
       cases hb
      ·rcases List.mem_cons.1 hy with rfl|hy
       ·exact hxi x (List.mem_cons_self ..)
       ·exact hxi y (List.mem_cons_of_mem _ hy)
    ·split
     ·exact⟨h,hi⟩
     ·rename_i q hm
      obtain⟨hb,hq,hkn,hnq⟩:=memZ_some hm
      have hql:=(List.getElem?_eq_some_iff.1 hq).1
      have hx1:LvOk f.toks ⟨x.p,x.left,x.begun,x.come+1⟩:=⟨hxa.op,by show x.come+1<=(rowZ f.toks x.p).length;omega,hxa.l0,hxa.l1⟩
      have ht1:∀ y∈(⟨x.p,x.left,x.begun,x.come+1⟩::r:List Lv),LvOk f.toks y/\y.p<f.toks.length:=fun y hy=>by
       rcases List.mem_cons.1 hy with rfl|hy
       ·exact⟨hx1,hxi x (List.mem_cons_self ..)⟩
       ·exact⟨hx.all y (List.mem_cons_of_mem _ hy),hxi y (List.mem_cons_of_mem _ hy)⟩
      have hr1:∀ y∈r,y.begun=true:=fun y hy=>hx.fst y hy
      have hbt:r=[]->x.left=0/\x.begun=true:=fun e=>by have:=hx.bt;rw[e] at this;exact this
      split
      ·refine⟨⟨by simp,fun y hy=>(ht1 y hy).1,hx.e0,hx.e1,fun y r' e hb'=>?_,hr1,by have:=hx.len;simpa using this,botB_head hx.bt hbt⟩,fun y hy=>(ht1 y hy).2⟩
       simp only[List.cons.injEq] at e
       rw[<- e.1] at hb'
       rw[show (Lv.mk x.p x.left x.begun (x.come+1)).begun=x.begun from rfl,hb] at hb'
       cases hb'
      ·rename_i hk3
       split
       ·exact⟨h,hi⟩
       ·rename_i hc1
        split
        ·exact⟨h,hi⟩
        ·rename_i hc2
         have he0:=hx.e0
         have he1:=hx.e1
         have hln:=hx.len
         simp only[List.length_cons] at he0 he1 hln
         split
         ·rename_i hc3
          obtain⟨n,t,ks,hbk⟩:=hxa.blk hz (hxi x (List.mem_cons_self ..))
          obtain⟨u,hu,huo,hpq,hqn⟩:=hbk.row (List.mem_of_getElem? hq)
          have hu4:u.op=4:=by
           rcases huo with e|e
           ·exact e
           ·rw[opAt_some hu,e] at hkn
            have:(3:Int)=k:=hkn
            omega
          refine⟨⟨by simp,fun y hy=>?_,by show 0<=s.ent+cnt;omega,by show s.ent+cnt<=_;omega,fun y r' e hb'=>?_,fun y hy=>?_,?_,(botB_cons (x:=⟨q,cnt,false,0⟩)).2 (botB_head hx.bt hbt)⟩,fun y hy=>?_⟩
          ·rcases List.mem_cons.1 hy with rfl|hy
           ·exact⟨.inr (by rw[opAt_some hu];exact hu4),Nat.zero_le _,by show 0<=cnt;omega,by show cnt<=_;omega⟩
           ·exact(ht1 y hy).1
          ·simp only[List.cons_append,List.nil_append,List.cons.injEq] at e
           rw[<- e.2];simp
          ·rcases List.mem_cons.1 hy with rfl|hy
           ·exact hb
           ·exact hr1 y hy
          ·show r.length+1+1<=1+(s.ent+cnt).toNat
           omega
          ·rcases List.mem_cons.1 hy with rfl|hy
           ·have:=(List.getElem?_eq_some_iff.1 hu).1;exact this
           ·exact(ht1 y hy).2
         ·refine⟨⟨by simp,fun y hy=>(ht1 y hy).1,by show 0<=s.ent+cnt;omega,by show s.ent+cnt<=_;omega,fun y r' e hb'=>?_,hr1,?_,botB_head hx.bt hbt⟩,fun y hy=>(ht1 y hy).2⟩
          ·simp only[List.nil_append,List.cons.injEq] at e
           rw[<- e.1] at hb'
           rw[show (Lv.mk x.p x.left x.begun (x.come+1)).begun=x.begun from rfl,hb] at hb'
           cases hb'
          ·show r.length+1<=1+(s.ent+cnt).toNat
           omega
theorem new_ok (hz:chkZ f=none):MsOk f.toks newZ/\InF f.toks newZ:=by
 obtain⟨t,ht,ho⟩:=first_msg hz
 refine⟨⟨by simp[newZ],fun x hx=>?_,by decide,by decide,fun x r e hb=>?_,fun x hx=>by simp[newZ] at hx,by simp[newZ],⟨rfl,rfl⟩⟩,fun x hx=>?_⟩
 ·obtain rfl:=List.mem_singleton.1 hx
  exact⟨.inl (by rw[opAt_some ht];exact ho),Nat.zero_le _,by decide,by decide⟩
 ·simp[newZ] at e
  rw[<- e.1] at hb
  cases hb
 ·obtain rfl:=List.mem_singleton.1 hx
  exact(List.getElem?_eq_some_iff.1 ht).1
structure DL where
 at_:Nat
 next:Nat
 left:Int
 block:Bool
structure DM where
 op:List DL
 group:Nat
 count:Int
 all:Int
def callD (l:List Tk) (p:Nat) (nm:ByteArray):Bool:=(fldZ l p).any fun i=>decide (nmAt l i=nm)
def leavesD (l:List Tk) (m:DM):Option DM:=match m.op with
 | d::e::r=>if m.group≠0\/0<d.left\/d.next<(rowZ l d.at_).length then none else some ⟨⟨e.at_,e.next+1,e.left,e.block⟩::r,m.group,m.count,m.all⟩
 | _=>none
def isD (l:List Tk) (q:Nat) (k:Int) (nm:ByteArray):Bool:=decide (nmAt l q=nm)&&(decide (opAt l q=4)==decide (k=1))&&(decide (opAt l q=6)==decide (k=3))
def hereD (l:List Tk) (m:DM) (k cnt:Int) (nm:ByteArray):Option DM:=match m.op with
 | []=>none
 | d::r =>
  if m.group≠0 then (if k=2 then some ⟨⟨m.group,0,m.count-1,true⟩::d::r,0,m.count,m.all⟩ else none)
  else if k=0 then (if (d.block&&callD l d.at_ nm)=true then some m else none)
  else if k=2 then (if r=[]\/d.left=0\/d.next<(rowZ l d.at_).length then none else some ⟨⟨d.at_,0,d.left-1,true⟩::r,m.group,m.count,m.all⟩)
  else match (rowZ l d.at_)[d.next]? with
   | none=>none
   | some q=>if isD l q k nm=true then (if k=1/\0<cnt then some ⟨⟨d.at_,d.next,d.left,false⟩::r,q,cnt,m.all⟩ else some ⟨⟨d.at_,d.next+1,d.left,false⟩::r,m.group,m.count,m.all⟩) else none
def mayF (l:List Tk) (k cnt:Int) (nm:ByteArray):Nat->DM->Option DM
 | 0,_=>none
 | n+1,m=>match hereD l m k cnt nm with
  | some m'=>some m'
  | none=>match leavesD l m with
   | some m'=>mayF l k cnt nm n m'
   | none=>none
def memF (l:List Tk) (k:Int) (nm:ByteArray):Nat->DM->Nat
 | 0,_=>0
 | n+1,m=>match m.op with
  | []=>0
  | d::_=>if m.group=0/\∃ q,(rowZ l d.at_)[d.next]?=some q/\isD l q k nm=true then ((rowZ l d.at_)[d.next]?).getD 0 else
   match leavesD l m with
   | some m'=>memF l k nm n m'
   | none=>0
def stepD (l:List Tk) (m:DM) (k cnt:Int) (nm:ByteArray):Int×DM :=
 if k<0\/3<k then (140,m) else
 match mayF l k cnt nm m.op.length m with
 | none=>(140,m)
 | some n=>if k=1 then
   (if cnt<0\/gmax (bpAt l (memF l k nm m.op.length m))<cnt then (141,m) else if 65536-m.all<cnt then (163,m) else (0,⟨n.op,n.group,n.count,n.all+cnt⟩))
  else (0,n)
structure RL (o:Bool) (x:Lv) (d:DL):Prop where
 a:d.at_=x.p
 f:d.left=x.left
 b:x.begun=true
 n:x.come=d.next+(if o=true then 1 else 0)
 k:d.block=decide (x.come=0)
def RLs:List Lv->List DL->Prop
 | [],[]=>True
 | x::r,d::ds=>RL true x d/\RLs r ds
 | _,_=>False
def Rel (s:Ms) (m:DM):Prop:=m.all=s.ent/\match s.op with
 | []=>False
 | x::r=>if x.begun=true then m.group=0/\∃ d ds,m.op=d::ds/\RL false x d/\RLs r ds else m.group=x.p/\0<x.p/\m.count=x.left/\0<x.left/\RLs r m.op/\r≠[]
theorem RLs_len:∀ {r:List Lv} {ds:List DL},RLs r ds->r.length=ds.length
 | [],[],_=>rfl
 | x::r,d::ds,h=>by simp only[List.length_cons];rw[RLs_len h.2]
 | [],_::_,h=>h.elim
 | _::_,[],h=>h.elim
theorem RL.shut {d:DL} (h:RL true x d):RL false x ⟨d.at_,d.next+1,d.left,d.block⟩:=⟨h.a,h.f,h.b,by have:=h.n;simpa using this,h.k⟩
theorem knd_isD (hb:Blk f p n t ks) (hq:q∈rowZ f.toks p) (hk:k=1\/k=3) (nm:ByteArray):isD f.toks q k nm=true↔knd (opAt f.toks q)=k/\nmAt f.toks q=nm:=by
 obtain⟨u,hu,huo,_⟩:=hb.row hq
 unfold isD knd
 rw[opAt_some hu]
 simp only[Bool.and_eq_true,decide_eq_true_eq,beq_iff_eq]
 rcases huo with e|e<;>rcases hk with rfl|rfl<;>rw[e]<;>simp
theorem hereD_0 {m:DM} {d:DL} {ds:List DL} (hop:m.op=d::ds) (hg:m.group=0) (cnt:Int) (nm:ByteArray):hereD l m 0 cnt nm=if (d.block&&callD l d.at_ nm)=true then some m else none:=by
 unfold hereD;rw[hop];simp[hg]
theorem hereD_2 {m:DM} {d:DL} {ds:List DL} (hop:m.op=d::ds) (hg:m.group=0) (cnt:Int) (nm:ByteArray):hereD l m 2 cnt nm=if ds=[]\/d.left=0\/d.next<(rowZ l d.at_).length then none else some ⟨⟨d.at_,0,d.left-1,true⟩::ds,0,m.count,m.all⟩:=by
 unfold hereD;rw[hop];simp[hg]
theorem hereD_m {m:DM} {d:DL} {ds:List DL} (hop:m.op=d::ds) (hg:m.group=0) (hk:k=1\/k=3) (cnt:Int) (nm:ByteArray):hereD l m k cnt nm=match (rowZ l d.at_)[d.next]? with
  | none=>none
  | some q=>if isD l q k nm=true then (if k=1/\0<cnt then some ⟨⟨d.at_,d.next,d.left,false⟩::ds,q,cnt,m.all⟩ else some ⟨⟨d.at_,d.next+1,d.left,false⟩::ds,0,m.count,m.all⟩) else none:=by
 unfold hereD;rw[hop];rcases hk with rfl|rfl<;>simp[hg]
theorem hereD_g {m:DM} {d:DL} {ds:List DL} (hop:m.op=d::ds) (hg:m.group≠0) (k cnt:Int) (nm:ByteArray):hereD l m k cnt nm=if k=2 then some ⟨⟨m.group,0,m.count-1,true⟩::d::ds,0,m.count,m.all⟩ else none:=by
 unfold hereD;rw[hop];simp[hg]
theorem rel_b {m:DM} (hb:x.begun=true):Rel ⟨x::r,ent⟩ m↔m.all=ent/\m.group=0/\∃ d ds,m.op=d::ds/\RL false x d/\RLs r ds:=by
 unfold Rel;simp[hb]
theorem rel_n {m:DM} (hb:x.begun=false):Rel ⟨x::r,ent⟩ m↔m.all=ent/\m.group=x.p/\0<x.p/\m.count=x.left/\0<x.left/\RLs r m.op/\r≠[]:=by
 unfold Rel;simp[hb]
theorem here_f {m:DM} (hR:Rel ⟨x::r,ent⟩ m) (cnt:Int) (nm:ByteArray):hereD f.toks m 0 cnt nm=if fieldB f.toks x nm=true then some m else none:=by
 cases hb:x.begun with
 | true =>
  obtain⟨_,hg,d,ds,hop,hd,_⟩:=(rel_b hb).1 hR
  rw[hereD_0 hop hg]
  have e:(d.block&&callD f.toks d.at_ nm)=fieldB f.toks x nm:=by
   unfold fieldB callD
   rw[hd.k,hd.a,hb]
   simp
  rw[e]
 | false =>
  obtain⟨_,hg,h0,_,_,hr,hne⟩:=(rel_n hb).1 hR
  have hf:fieldB f.toks x nm=false:=by unfold fieldB;rw[hb];rfl
  rw[hf]
  cases hop:m.op with
  | nil=>unfold hereD;rw[hop];simp
  | cons d ds=>rw[hereD_g hop (by omega)];simp
theorem here_n {m : DM} (ho : MsOk f.toks ⟨x :: r, ent⟩) (hR : Rel ⟨x :: r, ent⟩ m) (cnt : Int) (nm : ByteArray) :
    if x.left=0\/(x.begun=true/\wholeB f.toks x=false) then hereD f.toks m 2 cnt nm=none else ∃ m', hereD f.toks m 2 cnt nm=some m'/\Rel ⟨⟨x.p, x.left-1, true, 0⟩::r, ent⟩ m' := by
  cases hb : x.begun with
  | true =>
    obtain⟨ha, hg, d, ds, hop, hd, hds⟩ := (rel_b hb).1 hR
    have hn := hd.n
    simp only[Bool.false_eq_true, if_false, Nat.add_zero] at hn
    have hxa := ho.all x (List.mem_cons_self ..)
    rw[hereD_2 hop hg]
    have hw : wholeB f.toks x=decide (d.next=(rowZ f.toks d.at_).length) := by unfold wholeB; rw[hb, hn, hd.a]; simp
    have hle : d.next<=(rowZ f.toks d.at_).length := by rw[<- hn, hd.a]; exact hxa.le
    split
    · rename_i hc
      rw[if_pos]
      rcases hc with h|⟨_, h⟩
      · exact .inr (.inl (by rw[hd.f]; exact h))
      · rw[hw] at h
        have := of_decide_eq_false h
        exact .inr (.inr (by omega))
    · rename_i hc
      have hl : x.left≠0 := fun h => hc (.inl h)
      have hwt : wholeB f.toks x=true := by
        cases h : wholeB f.toks x with
        | true => rfl
        | false => exact absurd (.inr ⟨rfl, h⟩) hc
      rw[if_neg]
      · refine⟨_, rfl, (rel_b rfl).2 ⟨ha, rfl, _, _, rfl, ⟨hd.a, by show d.left-1=_; rw[hd.f], rfl, rfl, rfl⟩, hds⟩⟩
      · rintro(h|h|h)
        · have hr := RLs_len hds
          rw[h] at hr
          have hr0 : r=[] := List.eq_nil_of_length_eq_zero hr
          have := ho.bt
          rw[hr0] at this
          exact hl this.1
        · exact hl (by rw[<- hd.f]; exact h)
        · rw[hw] at hwt
          have := of_decide_eq_true hwt
          omega
  | false =>
    obtain⟨ha, hg, h0, hc, hl, hr, hne⟩ := (rel_n hb).1 hR
    rw [if_neg (by rintro (h | ⟨h, _⟩); · omega
                   · cases h)]
    cases hop : m.op with
    | nil => rw[hop] at hr; cases r with
      | nil => exact absurd rfl hne
      | cons y r => exact hr.elim
    | cons d ds =>
      rw[hereD_g hop (by omega), if_pos rfl]
      refine⟨_, rfl, (rel_b rfl).2 ⟨ha, rfl, _, _, rfl, ⟨hg, by show m.count-1=_; rw[hc], rfl, rfl, rfl⟩, ?_⟩⟩
      rw[hop] at hr
      exact hr
theorem here_m (hz:chkZ f=none) {m:DM} (ho:MsOk f.toks ⟨x::r,ent⟩) (hi:InF f.toks ⟨x::r,ent⟩) (hR:Rel ⟨x::r,ent⟩ m) (hk:k=1\/k=3) (cnt:Int) (nm:ByteArray) :
  match memZ f.toks x k nm with
  | none=>hereD f.toks m k cnt nm=none/\¬ (m.group=0/\∃ d ds q,m.op=d::ds/\(rowZ f.toks d.at_)[d.next]?=some q/\isD f.toks q k nm=true)
  | some q=>m.group=0/\(∃ d ds,m.op=d::ds/\(rowZ f.toks d.at_)[d.next]?=some q/\isD f.toks q k nm=true)/\∃ m',hereD f.toks m k cnt nm=some m'/\m'.all=m.all/\Rel ⟨(if k=1/\0<cnt then [⟨q,cnt,false,0⟩] else [])++⟨x.p,x.left,x.begun,x.come+1⟩::r,ent⟩ m':=by
 cases hb:x.begun with
 | true =>
  obtain⟨ha,hg,d,ds,hop,hd,hds⟩:=(rel_b hb).1 hR
  have hn:=hd.n
  simp only[Bool.false_eq_true,if_false,Nat.add_zero] at hn
  have hxa:=ho.all x (List.mem_cons_self ..)
  obtain⟨n,t,ks,hbk⟩:=hxa.blk hz (hi x (List.mem_cons_self ..))
  have hmz:memZ f.toks x k nm=match (rowZ f.toks d.at_)[d.next]? with
   | some q=>if knd (opAt f.toks q)=k/\nmAt f.toks q=nm then some q else none
   | none=>none:=by unfold memZ;rw[if_pos hb,hn,hd.a];rfl
  rw[hereD_m hop hg hk,hmz]
  cases hq:(rowZ f.toks d.at_)[d.next]? with
  | none =>
   refine⟨rfl,?_⟩
   rintro⟨_,d',ds',q',e,e2,_⟩
   rw[hop] at e
   cases e
   rw[hq] at e2
   cases e2
  | some q =>
   have hqr:q∈rowZ f.toks x.p:=by rw[<- hd.a];exact List.mem_of_getElem? hq
   have hiff:=knd_isD hbk hqr hk nm
   by_cases hc:knd (opAt f.toks q)=k/\nmAt f.toks q=nm
   ·have hI:=hiff.2 hc
    simp only[if_pos hc,hI,if_true]
    refine⟨hg,⟨d,ds,hop,hq,trivial⟩,?_⟩
    obtain⟨u,hu,huo,hpq,_⟩:=hbk.row hqr
    by_cases hc2:k=1/\0<cnt
    ·rw[if_pos hc2,if_pos hc2]
     refine⟨_,rfl,rfl,(rel_n rfl).2 ⟨ha,rfl,by show 0<q;omega,rfl,hc2.2,⟨⟨hd.a,hd.f,rfl,by show x.come+1=d.next+1;rw[hn],by simp⟩,hds⟩,by simp⟩⟩
    ·rw[if_neg hc2,if_neg hc2]
     refine⟨_,rfl,rfl,(rel_b rfl).2 ⟨ha,rfl,_,_,rfl,⟨hd.a,hd.f,rfl,by show x.come+1=d.next+1+0;rw[hn],by simp⟩,hds⟩⟩
   ·have hI:isD f.toks q k nm=false:=by
     cases h:isD f.toks q k nm with
     | true=>exact absurd (hiff.1 h) hc
     | false=>rfl
    simp only[if_neg hc,hI]
    refine⟨by simp,?_⟩
    rintro⟨_,d',ds',q',e,e2,e3⟩
    rw[hop] at e
    cases e
    rw[hq] at e2
    cases e2
    rw[hI] at e3
    cases e3
 | false =>
  obtain⟨ha,hg,h0,hc,hl,hr,hne⟩:=(rel_n hb).1 hR
  have hmz:memZ f.toks x k nm=none:=by unfold memZ;rw[hb];rfl
  rw[hmz]
  refine⟨?_,fun h=>by omega⟩
  cases hop:m.op with
  | nil=>unfold hereD;rw[hop]
  | cons d ds=>rw[hereD_g hop (by omega),if_neg (by omega)]
theorem leaves_top {m:DM} (ho:MsOk f.toks ⟨x::r,ent⟩) (hR:Rel ⟨x::r,ent⟩ m) :
  if overB f.toks x=true/\r≠[] then ∃ m',leavesD f.toks m=some m'/\m'.op.length+1=m.op.length/\m'.all=m.all/\Rel ⟨r,ent⟩ m' else leavesD f.toks m=none:=by
 cases hb:x.begun with
 | true =>
  obtain⟨ha,hg,d,ds,hop,hd,hds⟩:=(rel_b hb).1 hR
  have hn:=hd.n
  simp only[Bool.false_eq_true,if_false,Nat.add_zero] at hn
  have hxa:=ho.all x (List.mem_cons_self ..)
  have hw:overB f.toks x=(decide (d.next=(rowZ f.toks d.at_).length)&&decide (d.left=0)):=by unfold overB wholeB;rw[hb,hn,hd.a,hd.f];simp
  have hle:d.next<=(rowZ f.toks d.at_).length:=by rw[<- hn,hd.a];exact hxa.le
  have hl0:0<=d.left:=by rw[hd.f];exact hxa.l0
  cases r with
  | nil =>
   rw[if_neg (by simp)]
   cases ds with
   | nil=>unfold leavesD;rw[hop]
   | cons e ds=>exact hds.elim
  | cons y r =>
   cases ds with
   | nil=>exact hds.elim
   | cons e ds =>
    obtain⟨he,hes⟩:=hds
    have hL:leavesD f.toks m=if m.group≠0\/0<d.left\/d.next<(rowZ f.toks d.at_).length then none else some ⟨⟨e.at_,e.next+1,e.left,e.block⟩::ds,m.group,m.count,m.all⟩:=by unfold leavesD;rw[hop]
    rw[hL]
    cases hv:overB f.toks x with
    | true =>
     rw[hw] at hv
     simp only[Bool.and_eq_true,decide_eq_true_eq] at hv
     rw[if_pos ⟨rfl,by simp⟩,if_neg (by rintro(h|h|h)<;>omega)]
     exact⟨_,rfl,by rw[hop];simp,rfl,(rel_b he.b).2 ⟨ha,hg,_,_,rfl,he.shut,hes⟩⟩
    | false =>
     rw[if_neg (by simp),if_pos]
     rw[hw] at hv
     by_cases h1:d.next=(rowZ f.toks d.at_).length
     ·have h2:¬ d.left=0:=fun h=>by rw[h1,h] at hv;simp at hv
      exact .inr (.inl (by omega))
     ·exact .inr (.inr (by omega))
 | false =>
  obtain⟨ha,hg,h0,hc,hl,hr,hne⟩:=(rel_n hb).1 hR
  have hv:overB f.toks x=false:=by unfold overB wholeB;rw[hb];rfl
  rw[hv,if_neg (by simp)]
  unfold leavesD
  split
  ·rw[if_pos (.inl (by omega))]
  ·rfl
theorem rel_len {m:DM} (hR:Rel ⟨x::r,ent⟩ m):0<m.op.length:=by
 cases hb:x.begun with
 | true=>obtain⟨_,_,d,ds,hop,_⟩:=(rel_b hb).1 hR;rw[hop];simp
 | false =>
  obtain⟨_,_,_,_,_,hr,hne⟩:=(rel_n hb).1 hR
  have:=RLs_len hr
  cases r with
  | nil=>exact absurd rfl hne
  | cons y r=>simp at this;omega
theorem MsOk.tail (h:MsOk l ⟨x::y::r,ent⟩):MsOk l ⟨y::r,ent⟩ :=
 ⟨by simp,fun z hz=>h.all z (List.mem_cons_of_mem _ hz),h.e0,h.e1,fun z r' e hb=>by
  simp only[List.cons.injEq] at e
  have:=h.fst y (by simp)
  rw[e.1,hb] at this
  exact Bool.noConfusion this,fun z hz=>h.fst z (by simp at hz ⊢;exact .inr hz),by have:=h.len;simp at this ⊢;omega,h.bt⟩
theorem step_f (nm:ByteArray) (cnt:Int):∀ {n:Nat} {x:Lv} {r:List Lv} {m:DM},MsOk f.toks ⟨x::r,ent⟩->Rel ⟨x::r,ent⟩ m->m.op.length<=n->fieldB f.toks x nm=false->(∀ y∈r,y.begun=true->y.come≠0)->mayF f.toks 0 cnt nm n m=none
 | 0,_,_,_,_,_,_,_,_=>rfl
 | n+1,x,r,m,ho,hR,hn,hf,hr=>by
  rw[mayF,here_f hR,hf]
  simp only[Bool.false_eq_true,if_false]
  have hl:=leaves_top ho hR
  by_cases hv:overB f.toks x=true/\r≠[]
  ·rw[if_pos hv] at hl
   obtain⟨m',e,e2,_,hR'⟩:=hl
   rw[e]
   cases r with
   | nil=>exact absurd rfl hv.2
   | cons y r =>
    have hy:=ho.fst y (by simp)
    refine step_f nm cnt ho.tail hR' (by omega) ?_ (fun z hz=>hr z (List.mem_cons_of_mem _ hz))
    have:=hr y (List.mem_cons_self ..) hy
    unfold fieldB
    simp[this]
  ·rw[if_neg hv] at hl
   rw[hl]
theorem leave_more (h:overB l x=true):leaveR l (x::y::r)=leaveR l (y::r):=by rw[leaveR,if_pos h]
theorem leave_stay (h:¬ (overB l x=true/\r≠[])):leaveR l (x::r)=x::r:=by
 cases r with
 | nil=>rfl
 | cons y r=>rw[leaveR,if_neg (fun e=>h ⟨e,by simp⟩)]
theorem over_left (h:overB l x=true):x.left=0:=by
 unfold overB at h
 simp only[Bool.and_eq_true,decide_eq_true_eq] at h
 exact h.2
theorem over_mem (h:overB l x=true) (k:Int) (nm:ByteArray):memZ l x k nm=none:=by
 unfold overB wholeB at h
 simp only[Bool.and_eq_true,decide_eq_true_eq] at h
 unfold memZ
 rw[if_pos h.1.1,List.getElem?_eq_none (by omega)]
theorem step_n (nm:ByteArray) (cnt:Int):∀ {n:Nat} {x:Lv} {r:List Lv} {m:DM},MsOk f.toks ⟨x::r,ent⟩->Rel ⟨x::r,ent⟩ m->m.op.length<=n ->
  ∃ y r',leaveR f.toks (x::r)=y::r'/\if y.left=0\/(y.begun=true/\wholeB f.toks y=false) then mayF f.toks 2 cnt nm n m=none else ∃ m',mayF f.toks 2 cnt nm n m=some m'/\Rel ⟨⟨y.p,y.left-1,true,0⟩::r',ent⟩ m'
 | 0,x,r,m,_,hR,hn=>by have:=rel_len hR;omega
 | n+1,x,r,m,ho,hR,hn=>by
  have hl:=leaves_top ho hR
  have hh:=here_n ho hR cnt nm
  by_cases hv:overB f.toks x=true/\r≠[]
  ·rw[if_pos hv] at hl
   obtain⟨m',e,e2,_,hR'⟩:=hl
   rw[if_pos (.inl (over_left hv.1))] at hh
   rw[mayF,hh]
   simp only[e]
   cases r with
   | nil=>exact absurd rfl hv.2
   | cons y r =>
    rw[leave_more hv.1]
    exact step_n nm cnt ho.tail hR' (by omega)
  ·rw[if_neg hv] at hl
   refine⟨x,r,leave_stay hv,?_⟩
   split at hh
   ·rename_i hc
    rw[if_pos hc,mayF,hh,hl]
   ·rename_i hc
    rw[if_neg hc]
    obtain⟨m',e,e2⟩:=hh
    exact⟨m',by rw[mayF,e],e2⟩
theorem step_m (hz:chkZ f=none) (hk:k=1\/k=3) (nm:ByteArray) (cnt:Int):∀ {n:Nat} {x:Lv} {r:List Lv} {m:DM},MsOk f.toks ⟨x::r,ent⟩->InF f.toks ⟨x::r,ent⟩->Rel ⟨x::r,ent⟩ m->m.op.length<=n ->
  ∃ y r',leaveR f.toks (x::r)=y::r'/\match memZ f.toks y k nm with
   | none=>mayF f.toks k cnt nm n m=none
   | some q=>memF f.toks k nm n m=q/\∃ m',mayF f.toks k cnt nm n m=some m'/\m'.all=m.all/\Rel ⟨(if k=1/\0<cnt then [⟨q,cnt,false,0⟩] else [])++⟨y.p,y.left,y.begun,y.come+1⟩::r',ent⟩ m'
 | 0,x,r,m,_,_,hR,hn=>by have:=rel_len hR;omega
 | n+1,x,r,m,ho,hi,hR,hn=>by
  have hl:=leaves_top ho hR
  have hh:=here_m hz ho hi hR hk cnt nm
  obtain⟨d,ds,hop⟩:∃ d ds,m.op=d::ds:=by
   have:=rel_len hR
   cases h:m.op with
   | nil=>rw[h] at this;simp at this
   | cons d ds=>exact⟨d,ds,rfl⟩
  by_cases hv:overB f.toks x=true/\r≠[]
  ·rw[if_pos hv] at hl
   obtain⟨m',e,e2,e3,hR'⟩:=hl
   rw[over_mem hv.1] at hh
   obtain⟨hh,hno⟩:=hh
   have hmem:memF f.toks k nm (n+1) m=memF f.toks k nm n m':=by
    rw[memF,hop]
    simp only
    rw[if_neg (fun h=>hno ⟨h.1,d,ds,h.2.choose,hop,h.2.choose_spec⟩),e]
   have hmay:mayF f.toks k cnt nm (n+1) m=mayF f.toks k cnt nm n m':=by rw[mayF,hh,e]
   rw[hmem,hmay,<- e3]
   cases r with
   | nil=>exact absurd rfl hv.2
   | cons y r =>
    rw[leave_more hv.1]
    exact step_m hz hk nm cnt ho.tail (fun z hz=>hi z (List.mem_cons_of_mem _ hz)) hR' (by omega)
  ·rw[if_neg hv] at hl
   refine⟨x,r,leave_stay hv,?_⟩
   cases hm:memZ f.toks x k nm with
   | none =>
    rw[hm] at hh
    show mayF f.toks k cnt nm (n+1) m=none
    rw[mayF,hh.1,hl]
   | some q =>
    rw[hm] at hh
    obtain⟨hg,⟨d',ds',e1,e2,e3⟩,m',e4,e5,e6⟩:=hh
    refine⟨?_,m',by rw[mayF,e4],e5,e6⟩
    rw[e1] at hop
    cases hop
    rw[memF,e1]
    simp only
    rw[if_pos ⟨hg,q,e2,e3⟩,e2]
    rfl
theorem rls_come:∀ {r:List Lv} {ds:List DL},RLs r ds->∀ y∈r,y.come≠0
 | [],_,_,y,hy=>by cases hy
 | x::r,d::ds,h,y,hy=>by
  rcases List.mem_cons.1 hy with rfl|hy
  ·have:=h.1.n;simp at this;omega
  ·exact rls_come h.2 y hy
 | _::_,[],h,_,_=>h.elim
theorem rel_come {m:DM} (hR:Rel ⟨x::r,ent⟩ m):∀ y∈r,y.come≠0:=by
 cases hb:x.begun with
 | true=>obtain⟨_,_,d,ds,_,_,h⟩:=(rel_b hb).1 hR;exact rls_come h
 | false=>obtain⟨_,_,_,_,_,h,_⟩:=(rel_n hb).1 hR;exact rls_come h
theorem stepD_eq (hz:chkZ f=none) {m:DM} (ho:MsOk f.toks s) (hi:InF f.toks s) (hR:Rel s m) (k cnt:Int) (nm:ByteArray) :
  (stepD f.toks m k cnt nm).1=(stepZ f.toks s k cnt nm).1/\Rel (stepZ f.toks s k cnt nm).2 (stepD f.toks m k cnt nm).2:=by
 obtain⟨op,ent⟩:=s
 cases op with
 | nil=>exact absurd rfl ho.ne
 | cons x r =>
  unfold stepD stepZ
  by_cases hk:k<0\/4<=k
  ·rw[if_pos hk,if_pos (by omega)]
   exact⟨rfl,hR⟩
  ·rw[if_neg hk,if_neg (by omega)]
   have hk4:k=0\/k=2\/(k=1\/k=3):=by omega
   have hall:m.all=ent:=hR.1
   rcases hk4 with rfl|rfl|hk
   ·simp only[if_true]
    cases hf:fieldB f.toks x nm with
    | true =>
     have e:mayF f.toks 0 cnt nm m.op.length m=some m:=by
      have:=rel_len hR
      obtain⟨n,hn⟩:∃ n,m.op.length=n+1:=⟨m.op.length-1,by omega⟩
      rw[hn,mayF,here_f hR,hf]
      rfl
     rw[e]
     simp
     exact hR
    | false =>
     have e:mayF f.toks 0 cnt nm m.op.length m=none:=step_f nm cnt ho hR (Nat.le_refl _) hf (fun y hy _=>rel_come hR y hy)
     rw[e]
     simp
     exact hR
   ·obtain⟨y,r',e,h⟩:=step_n nm cnt ho hR (Nat.le_refl _)
    simp only[show ((2:Int)=0)=False by simp,if_false,e,if_true]
    by_cases hc:y.left=0\/(y.begun=true/\wholeB f.toks y=false)
    ·rw[if_pos hc] at h ⊢
     rw[h]
     exact⟨rfl,hR⟩
    ·rw[if_neg hc] at h ⊢
     obtain⟨m',e1,e2⟩:=h
     rw[e1]
     simp
     exact e2
   ·have hk0:¬ k=0:=by omega
    have hk2:¬ k=2:=by omega
    obtain⟨y,r',e,h⟩:=step_m hz hk nm cnt ho hi hR (Nat.le_refl _)
    simp only[if_neg hk0,e,if_neg hk2]
    cases hm:memZ f.toks y k nm with
    | none =>
     rw[hm] at h
     have h:mayF f.toks k cnt nm m.op.length m=none:=h
     rw[h]
     exact⟨rfl,hR⟩
    | some q =>
     rw[hm] at h
     obtain⟨h1,m',h2,h3,h4⟩:=h
     rw[h2,h1]
     simp only
     rcases hk with rfl|rfl
     ·have e3:((1:Int)=3)=False:=by simp
      simp only[e3,if_true,if_false,hall]
      by_cases hc1:cnt<0\/gmax (bpAt f.toks q)<cnt
      ·rw[if_pos hc1,if_pos hc1]
       exact⟨rfl,hR⟩
      ·rw[if_neg hc1,if_neg hc1]
       by_cases hc2:65536-ent<cnt
       ·rw[if_pos hc2,if_pos hc2]
        exact⟨rfl,hR⟩
       ·rw[if_neg hc2,if_neg hc2]
        refine⟨rfl,?_⟩
        simp only[true_and] at h4
        have h5:m'.all+cnt=ent+cnt:=by rw[h3,hall]
        obtain⟨hx,hy⟩:=h4
        exact⟨h5,hy⟩
     ·have e3:((3:Int)=1)=False:=by simp
      simp only[e3,if_true,if_false]
      refine⟨trivial,?_⟩
      simp only[e3,false_and,if_false,List.nil_append] at h4
      exact h4
def doneF (l:List Tk):Nat->DM->Bool
 | 0,_=>false
 | n+1,m=>if 1<m.op.length\/m.group≠0 then (match leavesD l m with
  | some m'=>doneF l n m'
  | none=>false) else match m.op with
  | [d]=>decide (d.next=(rowZ l 0).length)
  | _=>false
def insD (m:DM):Nat:=match m.op with
 | d::_=>d.at_
 | []=>0
def leftD (m:DM):List Int:=(m.op.reverse.map DL.left).drop 1++(if m.group≠0 then [m.count] else [])
theorem rls_left:∀ {r:List Lv} {ds:List DL},RLs r ds->r.map Lv.left=ds.map DL.left
 | [],[],_=>rfl
 | x::r,d::ds,h=>by rw[List.map_cons,List.map_cons,rls_left h.2,h.1.f]
 | [],_::_,h=>h.elim
 | _::_,[],h=>h.elim
theorem ins_eq {m:DM} (hR:Rel s m):insD m=insZ s:=by
 obtain⟨op,ent⟩:=s
 cases op with
 | nil=>exact hR.2.elim
 | cons x r =>
  unfold insD insZ
  cases hb : x.begun with
  | true =>
   obtain⟨_,_,d,ds,hop,hd,_⟩:=(rel_b hb).1 hR
   rw[hop]
   simp[hd.a,hb]
  | false =>
   obtain⟨_,_,_,_,_,hr,hne⟩:=(rel_n hb).1 hR
   cases r with
   | nil=>exact absurd rfl hne
   | cons y r =>
    cases hop : m.op with
    | nil=>rw[hop] at hr;exact hr.elim
    | cons d ds=>rw[hop] at hr;simp[hr.1.a,hb]
theorem left_eq {m:DM} (hR:Rel s m):leftD m=leftZ s:=by
 obtain⟨op,ent⟩:=s
 cases op with
 | nil=>exact hR.2.elim
 | cons x r =>
  unfold leftD leftZ
  cases hb : x.begun with
  | true =>
   obtain⟨_,hg,d,ds,hop,hd,hds⟩:=(rel_b hb).1 hR
   rw[hop,if_neg (by simp[hg]),List.append_nil]
   have e:(d::ds).reverse.map DL.left=(x::r).reverse.map Lv.left:=by
    rw[List.map_reverse,List.map_reverse,List.map_cons,List.map_cons,hd.f,rls_left hds]
   rw[e]
  | false =>
   obtain⟨_,hg,h0,hc,_,hr,hne⟩:=(rel_n hb).1 hR
   rw[if_pos (by omega),hc]
   have e:m.op.reverse.map DL.left=r.reverse.map Lv.left:=by rw[List.map_reverse,List.map_reverse,rls_left hr]
   rw[e,List.reverse_cons,List.map_append,List.map_singleton]
   have:1<=(r.reverse.map Lv.left).length:=by
    cases r with
    | nil=>exact absurd rfl hne
    | cons y r=>simp
   rw[List.drop_append_of_le_length this]
theorem done_eq:∀ {n:Nat} {x:Lv} {r:List Lv} {m:DM},MsOk f.toks ⟨x::r,ent⟩->(∀ y,(x::r).getLast?=some y->y.p=0)->Rel ⟨x::r,ent⟩ m->m.op.length<=n->doneF f.toks n m=doneB f.toks ⟨x::r,ent⟩
 | 0,x,r,m,_,_,hR,hn=>by have:=rel_len hR;omega
 | n+1,x,r,m,ho,hp,hR,hn=>by
  have hl:=leaves_top ho hR
  unfold doneB
  rw[doneF,List.all_cons]
  cases hb : x.begun with
  | true =>
   obtain⟨_,hg,d,ds,hop,hd,hds⟩:=(rel_b hb).1 hR
   have hlen:=RLs_len hds
   cases r with
   | nil =>
    cases ds with
    | cons e ds=>exact hds.elim
    | nil =>
     rw[hop,if_neg (by simp[hg])]
     have hx0:=hp x rfl
     have hb0:=ho.bt
     unfold overB wholeB
     have hn':=hd.n
     simp only[Bool.false_eq_true,if_false,Nat.add_zero] at hn'
     rw[hb,hx0,hn',hb0.1]
     simp
   | cons y r =>
    rw[if_pos (.inl (by rw[hop];simp[<- hlen]))]
    cases hv:overB f.toks x with
    | true =>
     rw[if_pos ⟨hv,by simp⟩] at hl
     obtain⟨m',e,e2,_,hR'⟩:=hl
     rw[e]
     simp only[Bool.true_and]
     exact done_eq ho.tail (fun z hz=>hp z (by rw[List.getLast?_cons_cons];exact hz)) hR' (by omega)
    | false =>
     rw[if_neg (by simp[hv])] at hl
     rw[hl]
     simp
  | false =>
   obtain⟨_,hg,h0,_,_,hr,hne⟩:=(rel_n hb).1 hR
   have hv:overB f.toks x=false:=by unfold overB wholeB;rw[hb];rfl
   rw[hv,if_neg (by simp)] at hl
   rw[if_pos (.inr (by omega)),hl,hv]
   simp
open Go.ChangeShapes Go.WideShapes Go.ChangeAt Go.RowKit
theorem ret_int {k:IntKind} {a b:Int} (h:a=b):Ending.returned (.int k a) = .returned (.int k b):=by rw[h]
theorem ret_bool {a b:Bool} (h:a=b):Ending.returned (.bool a) = .returned (.bool b):=by rw[h]
theorem bel1 (w:World) (o:Obj):Below w.heap.size w (w.alloc o):=(Below.refl _ _).alloc (Nat.le_refl _) _
abbrev kV (s r n m x:Int):Value:=.agg #[.int .i64 s,.int .i64 r,.int .u64 n,.int .u64 m,.int .u64 x]
structure KT (w:World):Prop where
 pos:1<w.heap.size
 size:∀ p:Nat,p<11->w.cell? ⟨1,5*p,none⟩=some (.int .i64 (sz p))
 reading:∀ p:Nat,p<11->w.cell? ⟨1,5*p+1,none⟩=some (.int .i64 (rd p))
 null:∀ p:Nat,p<11->w.cell? ⟨1,5*p+2,none⟩=some (.int .u64 (nl p))
 least:∀ p:Nat,p<11->w.cell? ⟨1,5*p+3,none⟩=some (.int .u64 (mn p))
 most:∀ p:Nat,p<11->w.cell? ⟨1,5*p+4,none⟩=some (.int .u64 (mx p))
theorem KT.below {w w':World} (h:KT w) {B:Nat} (hB:1<B) (hb:Below B w w'):KT w' :=
 ⟨Nat.lt_of_lt_of_le h.pos hb.size,fun p hp=>(hb.cell (p:=⟨1,5*p,none⟩) hB).trans (h.size p hp),fun p hp=>(hb.cell (p:=⟨1,5*p+1,none⟩) hB).trans (h.reading p hp),
  fun p hp=>(hb.cell (p:=⟨1,5*p+2,none⟩) hB).trans (h.null p hp),fun p hp=>(hb.cell (p:=⟨1,5*p+3,none⟩) hB).trans (h.least p hp),fun p hp=>(hb.cell (p:=⟨1,5*p+4,none⟩) hB).trans (h.most p hp)⟩
theorem kindOf_out (p:Int) (w:World) (h:p<0\/11<=p) :
  Calls Tryz.prog 129 #[.int .i64 p] w fun e w'=>e = .returned (kV 0 0 0 0 0)/\Below w.heap.size w w':=by
 rcases h with h|h
 ·go_enter Tryz.func129,Tryz.ntmps129
  go_wp2
  exact bodyPost_ret (v:=kV 0 0 0 0 0) (by simp[results,Tryz.results129,go_sem]) rfl ⟨rfl,bel1 _ _⟩
 ·have h':¬ p<0:=by omega
  go_enter Tryz.func129,Tryz.ntmps129
  go_wp2
  exact bodyPost_ret (v:=kV 0 0 0 0 0) (by simp[results,Tryz.results129,go_sem]) rfl ⟨rfl,bel1 _ _⟩
theorem kindOf_in (q:Nat) (s r n m x:Int) (w:World) (hq:q<11) (hp:1<w.heap.size) (h0:w.cell? ⟨1,5*q,none⟩=some (.int .i64 s)) (h1:w.cell? ⟨1,5*q+1,none⟩=some (.int .i64 r))
  (h2:w.cell? ⟨1,5*q+2,none⟩=some (.int .u64 n)) (h3:w.cell? ⟨1,5*q+3,none⟩=some (.int .u64 m)) (h4:w.cell? ⟨1,5*q+4,none⟩=some (.int .u64 x)) :
  Calls Tryz.prog 129 #[.int .i64 q] w fun e w'=>e = .returned (kV s r n m x)/\Below w.heap.size w w':=by
 have hc:q=0\/q=1\/q=2\/q=3\/q=4\/q=5\/q=6\/q=7\/q=8\/q=9\/q=10:=by omega
 rcases hc with rfl|rfl|rfl|rfl|rfl|rfl|rfl|rfl|rfl|rfl|rfl
 all_goals
  simp only[Nat.mul_zero,Nat.zero_add,Nat.reduceMul,Nat.reduceAdd] at h0 h1 h2 h3 h4
  go_enter Tryz.func129,Tryz.ntmps129
  go_wp2
  exact bodyPost_ret (v:=kV s r n m x) (by simp[results,Tryz.results129,go_sem]) rfl ⟨rfl,bel1 _ _⟩
theorem kindOf_any (p:Int) (w:World) (h:KT w) :
  Calls Tryz.prog 129 #[.int .i64 p] w fun e w'=>e = .returned (kV (sz p) (rd p) (nl p) (mn p) (mx p))/\Below w.heap.size w w':=by
 by_cases hp:p<0\/11<=p
 ·have e:kV (sz p) (rd p) (nl p) (mn p) (mx p)=kV 0 0 0 0 0:=by unfold sz rd nl mn mx;rw[kRow_out p hp]
  rw[e];exact kindOf_out p w hp
 ·obtain⟨q,rfl⟩:∃ q:Nat,p=q:=⟨p.toNat,by omega⟩
  exact kindOf_in q _ _ _ _ _ w (by omega) h.pos (h.size q (by omega)) (h.reading q (by omega)) (h.null q (by omega)) (h.least q (by omega)) (h.most q (by omega))
theorem word_any (s r n m x b:Int) (w:World) (hk:KOk s r) (hs:s≠0) (hb:0<=b) (hb':b<18446744073709551616) :
  Calls Tryz.prog 134 #[kV s r n m x,.int .u64 b] w fun e w'=>e = .returned (.int .u64 (wordF s r b))/\Below w.heap.size w w':=by
 rcases hk with ⟨rfl,rfl⟩|⟨rfl,rfl⟩|⟨rfl,rfl⟩|⟨rfl,rfl⟩|⟨rfl,rfl⟩|⟨rfl,rfl⟩|⟨rfl,rfl⟩|⟨rfl,rfl⟩|⟨rfl,rfl⟩|⟨rfl,rfl⟩|⟨rfl,rfl⟩
 ·exact absurd rfl hs
 all_goals
  clear hs
  go_enter Tryz.func134,Tryz.ntmps134
  go_wp2
  go_ret
  refine⟨ret_int ?_,bel1 _ _⟩
  simp only[IntKind.wrap_u64,wrap64,wordF,pw,if_true,if_false,Int.reduceEq,false_and,true_and]
  try split
  all_goals omega
theorem fits_any (s r n m x b:Int) (w:World) (hk:KOk s r) (hb:0<=b) (hb':b<18446744073709551616) :
  Calls Tryz.prog 132 #[kV s r n m x,.int .u64 b] w fun e w'=>e = .returned (.bool (fitsF s r b))/\Below w.heap.size w w':=by
 by_cases hs:s=0
 ·subst hs
  go_enter Tryz.func132,Tryz.ntmps132
  go_wp2
  go_ret
  exact⟨ret_bool rfl,(bel1 _ _).alloc (by simp) _⟩
 ·have hpos:0<s:=by unfold KOk at hk;omega
  have e:fitsF s r b=(wordF s r b==b):=by unfold fitsF;rw[decide_eq_true hpos];rfl
  rw[e]
  have hk':Hid (KOk s r):=hk
  clear hk e
  go_enter Tryz.func132,Tryz.ntmps132
  go_wp2_with (first|(go_at_call 134;refine(word_any _ _ _ _ _ _ _ hk'.out hs hb hb').mono ?_;rintro e w' ⟨rfl,hbl⟩)|(go_at_call 133;go_in))
  go_ret
  exact⟨rfl,((bel1 _ _).alloc (by simp) _).trans (hbl.mono (by simp;omega))⟩
theorem field0 (s r n m x:Int) (w:World):(Instr.field 171 (kV s r n m x) 0).run Tryz.prog w = .ok (.int .i64 s) w:=by kernel_rfl
theorem field4 (s r n m x:Int) (w:World):(Instr.field 171 (kV s r n m x) 4).run Tryz.prog w = .ok (.int .u64 x) w:=by kernel_rfl
theorem Fits_any (p b:Int) (w:World) (h:KT w) (hb:0<=b) (hb':b<18446744073709551616):Calls Tryz.prog 121 #[.int .i64 p,.int .u64 b] w fun e w'=>e = .returned (.bool (fitsF (sz p) (rd p) b))/\Below w.heap.size w w':=by
 go_enter Tryz.func121,Tryz.ntmps121
 go_wp2_with (first|(go_at_call 129;refine(kindOf_any _ _ h).mono ?_;rintro e w' ⟨rfl,hbl⟩)|(go_at_call 132;refine(fits_any _ _ _ _ _ _ _ (kok p) hb hb').mono ?_;rintro e w1 ⟨rfl,hbl1⟩))
 go_ret
 exact⟨rfl,hbl.trans (hbl1.mono hbl.size)⟩
end Go.Proofs.YtbhmciieiilcfaaGreatDoor
