import Derived.Test.YtcgimchhcaankaaGreatDoorK34
namespace Go.Proofs.YtcgimchhcaankaaGreatDoor
section
variable {f:Fm} {v:Int} {i:Nat} {x x':Sc} {o o':List Sc} {t:Tk}
theorem scNew_sim (hl:t.since<=v):RS f v (scNew i t) (scNew (rnk (camZ f) v i) (trnT f.toks (camZ f) v i t)) :=
 ⟨rfl,rfl,rfl,fun _=>rfl,fun _=>rfl,fun _=>rfl,fun _ k hk=>(by cases hk),fun _ k hk=>(by cases hk),hl⟩
theorem met_kept (hin:inOk f (x::o) (stA f i).ids i x t=true) (he:edO t.op=false) (hx:ScOk f.toks i x) (hk:kp (camZ f) v i=true) (h:RS f v x x'):RS f v (metX x i t) (metX x' (rnk (camZ f) v i) (trnT f.toks (camZ f) v i t)):=by
 obtain⟨hm,hp,hs,h3,h4,hr⟩:=inOk_in hin he
 obtain⟨r1,r2,r3,r4⟩:=rul_b hx hm he hp hr
 have ho:=h.opE
 refine⟨h.at_,h.tk,?_,fun hf=>?_,fun hf=>?_,fun hf=>?_,fun hf k hk'=>?_,fun hf k hk'=>?_,h.low⟩
 ·show x'.kids++[rnk (camZ f) v i]=((x.kids++[i]).filter _).map _
  rw[List.filter_append,List.filter_cons,if_pos hk,List.map_append,h.kids]
  rfl
 ·have hf:(if t.op=2 then t.since else x.fld)<=v:=hf
  show (if t.op=2 then t.since else x'.fld)=(if t.op=2 then t.since else x.fld)
  split
  ·rfl
  ·rename_i h2
   rw[if_neg h2] at hf
   exact h.fld hf
 ·have hf:(if (t.op=4\/t.op=6)/\x.tk.op≠4 then t.since else x.row)<=v:=hf
  show (if (t.op=4\/t.op=6)/\x'.tk.op≠4 then t.since else x'.row)=(if (t.op=4\/t.op=6)/\x.tk.op≠4 then t.since else x.row)
  rw[ho]
  split
  ·rfl
  ·rename_i h2
   rw[if_neg h2] at hf
   exact h.row hf
 ·have hf:(x.tk.op=0\/x.tk.op=4)->(if t.op=2 then t.since else x.fld)<=v:=hf
  show (if 0<t.siz/\((t.op=2/\t.pres≠2)\/x'.tk.op=8) then t.off+t.siz else x'.e0)=(if 0<t.siz/\((t.op=2/\t.pres≠2)\/x.tk.op=8) then t.off+t.siz else x.e0)
  rw[ho]
  split
  ·rfl
  ·refine h.e0 fun hb=>?_
   have:=hf hb
   split at this
   ·rename_i h2
    have:=r2 h2
    omega
   ·exact this
 ·rcases List.mem_append.1 (show k∈x.kids++[i] from hk') with hk' | hk'
  ·exact h.all hf k hk'
  ·obtain rfl:=List.mem_singleton.1 hk'
   exact hk
 ·have hk':(x.kids++[i]).head?=some k:=hk'
  cases hkk:x.kids with
  | nil =>
   rw[hkk] at hk'
   cases hk'
   exact hk
  | cons a r =>
   rw[hkk] at hk'
   cases hk'
   exact h.hd hf _ (by rw[hkk];rfl)
theorem met_drop (hin:inOk f (x::o) (stA f i).ids i x t=true) (he:edO t.op=false) (hx:ScOk f.toks i x) (hv0:0<=v) (hl:¬ t.since<=v) (hk:kp (camZ f) v i=false) (h:RS f v x x'):RS f v (metX x i t) x':=by
 obtain⟨hm,hp,hs,h3,h4,hr⟩:=inOk_in hin he
 have htyp:=may_typ hm he hx.beg
 have hlow:=h.low
 have hop:t.op=0\/t.op=2\/t.op=4\/t.op=6\/t.op=15:=Decidable.byContradiction fun hn=>by
  have:=pl_since hp hn
  omega
 have hcase:((x.tk.op=0\/x.tk.op=4)/\(t.op=2\/t.op=4\/t.op=6))\/((x.tk.op=10\/x.tk.op=12)/\x.kids≠[]/\t.op=15):=by
  rcases htyp with ⟨h,h',_⟩|⟨_,_,h⟩|⟨_,h⟩|⟨h,h'⟩
  ·unfold ptO at h'
   exact .inl ⟨h,decT h'⟩
  ·unfold tyO at h;have:=decT h;omega
  ·unfold tyO at h;have:=decT h;omega
  ·rcases h' with ⟨_,h'⟩|⟨h',h''⟩
   ·omega
   ·exact .inr ⟨h,h',h''⟩
 have h44:x.tk.op=4->¬ (t.op=4\/t.op=6):=fun hx4 ht4=>by
  have key:rowB f x t=true->False:=fun hw=>by
   unfold rowB at hw
   rw[if_pos hx4] at hw
   have:=decT hw
   omega
  unfold rulB at hr
  rcases ht4 with e|e
  ·rw[if_neg (by omega),if_pos e] at hr
   unfold grpB at hr
   simp only[Bool.and_eq_true] at hr
   exact key hr.1.1.1.1.2
  ·rw[if_neg (by omega),if_neg (by omega),if_pos e] at hr
   unfold datB at hr
   simp only[Bool.and_eq_true] at hr
   exact key hr.1.1.1.1.2
 refine⟨h.at_,h.tk,?_,fun hf=>?_,fun hf=>?_,fun hf=>?_,fun hf k hk'=>?_,fun hf k hk'=>?_,h.low⟩
 ·show x'.kids=((x.kids++[i]).filter _).map _
  rw[List.filter_append,List.filter_cons,if_neg (by rw[hk];decide),h.kids]
  simp
 ·have hf:(if t.op=2 then t.since else x.fld)<=v:=hf
  show x'.fld=(if t.op=2 then t.since else x.fld)
  split at hf
  ·omega
  ·rename_i h2
   rw[if_neg h2]
   exact h.fld hf
 ·have hf:(if (t.op=4\/t.op=6)/\x.tk.op≠4 then t.since else x.row)<=v:=hf
  show x'.row=(if (t.op=4\/t.op=6)/\x.tk.op≠4 then t.since else x.row)
  split at hf
  ·omega
  ·rename_i h2
   rw[if_neg h2]
   exact h.row hf
 ·have hf:(x.tk.op=0\/x.tk.op=4)->(if t.op=2 then t.since else x.fld)<=v:=hf
  show x'.e0=(if 0<t.siz/\((t.op=2/\t.pres≠2)\/x.tk.op=8) then t.off+t.siz else x.e0)
  have hno:¬ (0<t.siz/\((t.op=2/\t.pres≠2)\/x.tk.op=8)):=fun hc=>by
   rcases hcase with ⟨h1,h2⟩|⟨h1,h2,h3⟩
   ·have:=hf h1
    rcases hc.2 with hc|hc
    ·rw[if_pos hc.1] at this
     omega
    ·omega
   ·omega
  rw[if_neg hno]
  refine h.e0 fun hb=>?_
  have:=hf hb
  split at this
  ·omega
  ·exact this
 ·have hf:x.tk.op=2\/x.tk.op=8:=hf
  exfalso
  omega
 ·have hf:x.tk.op=10\/x.tk.op=12:=hf
  have hk':(x.kids++[i]).head?=some k:=hk'
  rcases hcase with ⟨h1,h2⟩|⟨h1,h2,h3⟩
  ·omega
  ·cases hkk:x.kids with
   | nil=>exact absurd hkk h2
   | cons a r =>
    rw[hkk] at hk'
    cases hk'
    exact h.hd hf _ (by rw[hkk];rfl)
theorem ro_cons {k:Bool} (hk:kp (camZ f) v x.at_=k):RO f v (x::o) o'=if k=true then ∃ x' o'',o'=x'::o''/\RS f v x x'/\RO f v o o'' else RO f v o o':=by
 rw[RO,hk]
theorem sim_step (hz:chkZ f=none) (hv:fstV f<=v/\v<=f.ver) (ht:f.toks[i]?=some t) {s':St} (h:RSt f v (stA f i) s') :
  if kp (camZ f) v i=true then okZ (atF f v) s' (rnk (camZ f) v i) (trnT f.toks (camZ f) v i t)=true/\RSt f v (nxt (stA f i) i t) (nxt s' (rnk (camZ f) v i) (trnT f.toks (camZ f) v i t)) else RSt f v (nxt (stA f i) i t) s':=by
 obtain⟨hok,H⟩:=val_ok hz ht
 have hv0:0<=v:=by
  obtain⟨t0,ht0,-⟩:=first_msg hz
  have h1:=val_since hz ht0
  have:fstV f=t0.since:=by unfold fstV;rw[ht0]
  omega
 obtain⟨o',ids'⟩:=s'
 have hR:=h.op
 have hI:=h.ids
 cases hst:(stA f i).open_ with
 | nil =>
  rw[hst] at hR
  have hR:o'=[]:=hR
  subst hR
  have hok':okZ f ⟨[],(stA f i).ids⟩ i t=true:=by
   cases hs:stA f i with
   | mk a b=>rw[hs] at hok hst;simp only at hst;subst hst;exact hok
  obtain⟨rfl,hop,hp,hs,hpr,hmg⟩:=okZ_nil hok'
  have hfs:fstV f=t.since:=by unfold fstV;rw[ht]
  have hg:bgO t.op=true:=by rw[hop];rfl
  have he:edO t.op=false:=by rw[hop];rfl
  have hk:kp (camZ f) v 0=true:=by
   have h1:=camZ_get ht
   unfold kp
   rw[getD_of h1]
   unfold camS
   rw[if_neg (by rw[he];decide)]
   have:=val_since hz ht
   refine decide_eq_true ?_
   show ((max 0 t.since.toNat:Nat):Int)<=v
   omega
  rw[if_pos hk]
  have hr0:rnk (camZ f) v 0=0:=rfl
  refine⟨?_,?_,?_⟩
  ·show (decide (rnk (camZ f) v 0=0)&&decide (t.op=0)&&plainB _&&symbolB t.name&&pairB _ _ _&&msgB _ _)=true
   unfold msgB at hmg ⊢
   simp only[Bool.and_eq_true] at hmg ⊢
   have h1:=betT hmg.1.1.1.2
   exact⟨⟨⟨⟨⟨decide_eq_true hr0,decide_eq_true hop⟩,plain_trn hp⟩,hs⟩,pair_sim hz hk hg hpr⟩,⟨⟨⟨⟨hmg.1.1.1.1,decide_eq_true ⟨h1.1,by show t.since<=v;omega⟩⟩,blk_sim hz ht (.inl hop) hmg.1.1.2⟩,hmg.1.2⟩,hmg.2⟩⟩
  ·unfold nxt
   rw[if_neg (by rw[he];decide),if_pos hg,hst]
   show RO f v [scNew 0 t] (if edO t.op=true then _ else _:St).open_
   rw[if_neg (by rw[he];decide)]
   show RO f v [scNew 0 t] (if bgO t.op=true then _ else _)
   rw[if_pos hg,ro_cons (x:=scNew 0 t) hk,if_pos rfl]
   exact⟨_,[],rfl,scNew_sim (by omega),rfl⟩
  ·intro d hd
   unfold nxt at hd ⊢
   rw[if_neg (by rw[he];decide)]
   have hd:d∈(if edO t.op=true then (⟨_,ids'⟩:St) else ⟨_,if ptO t.op then ids'++[t.id] else ids'⟩).ids:=hd
   rw[if_neg (by rw[he];decide)] at hd
   have hpt:ptO t.op=false:=by rw[hop];rfl
   rw[hpt] at hd ⊢
   exact hI d hd
 | cons x o =>
  have hxm:x∈(stA f i).open_:=by rw[hst];exact List.mem_cons_self ..
  have hx:=H.all x hxm
  have hin:=inOk_at hz ht hst
  rw[hst] at hR
  cases he:edO t.op with
  | true =>
   have hke:=kp_end hz ht he hst v
   have e:(nxt (stA f i) i t)=⟨o,(stA f i).ids⟩:=by unfold nxt;rw[if_pos he,hst];rfl
   rw[e]
   cases hk:kp (camZ f) v i with
   | false =>
    rw[if_neg (by decide)]
    rw[ro_cons (hke.symm.trans hk),if_neg (by decide)] at hR
    exact⟨hR,hI⟩
   | true =>
    rw[if_pos rfl]
    have hkx:=hke.symm.trans hk
    rw[ro_cons hkx,if_pos rfl] at hR
    obtain⟨x',o'',rfl,h1,h2⟩:=hR
    have hil:=(List.getElem?_eq_some_iff.1 ht).1
    have hK:=(kin_at hz i (by omega) x hxm).1
    obtain⟨m1,m2,m3,m4,m5⟩:=inOk_end hin he
    have hop:0<=t.op:=by unfold edO at he;have:=decT he;omega
    refine⟨?_,?_,?_⟩
    ·show inOk _ _ _ _ x' _=true
     unfold inOk
     simp only[Bool.and_eq_true]
     refine⟨⟨⟨may_sim hx (by omega) hK h1 hop m1,plain_trn m2⟩,m3⟩,?_⟩
     show (if edO t.op then _ else _)=true
     rw[if_pos he,Bool.and_eq_true]
     refine⟨decide_eq_true ?_,decide_eq_true ?_⟩
     ·show ((rnk (camZ f) v t.pair.toNat:Nat):Int)=_
      rw[m4,h1.at_]
      rfl
     ·rw[h1.tk]
      show ((rnk (camZ f) v x.tk.pair.toNat:Nat):Int)=_
      rw[m5]
      rfl
    ·show RO f v o (if edO t.op=true then _ else _:St).open_
     rw[if_pos he]
     exact h2
    ·intro d hd
     have hd:d∈(if edO t.op=true then (⟨_,ids'⟩:St) else _).ids:=hd
     rw[if_pos he] at hd
     exact hI d hd
  | false =>
   have hki:=kp_in hz ht he hst v
   have e:(nxt (stA f i) i t)=⟨if bgO t.op=true then scNew i t::metX x i t::o else metX x i t::o,if ptO t.op then (stA f i).ids++[t.id] else (stA f i).ids⟩:=by unfold nxt;rw[if_neg (by rw[he];decide),hst];rfl
   rw[e]
   cases hk:kp (camZ f) v i with
   | false =>
    rw[if_neg (by decide)]
    refine⟨?_,fun d hd=>?_⟩
    ·have key:RO f v (metX x i t::o) o':=by
      cases hkx:kp (camZ f) v x.at_ with
      | false =>
       rw[ro_cons hkx,if_neg (by decide)] at hR
       rw[ro_cons (x:=metX x i t) hkx,if_neg (by decide)]
       exact hR
      | true =>
       rw[ro_cons hkx,if_pos rfl] at hR
       rw[ro_cons (x:=metX x i t) hkx,if_pos rfl]
       obtain⟨x',o'',rfl,h1,h2⟩:=hR
       rw[hk,hkx,Bool.true_and] at hki
       exact⟨x',o'',rfl,met_drop hin he hx hv0 (of_decide_eq_false hki.symm) hk h1,h2⟩
     show RO f v (if bgO t.op=true then scNew i t::metX x i t::o else metX x i t::o) o'
     split
     ·rw[ro_cons (x:=scNew i t) hk,if_neg (by decide)]
      exact key
     ·exact key
    ·show d∈(if ptO t.op then (stA f i).ids++[t.id] else (stA f i).ids)
     split
     ·exact List.mem_append_left _ (hI d hd)
     ·exact hI d hd
   | true =>
    rw[if_pos rfl]
    rw[hk] at hki
    have hki2:=hki.symm
    rw[Bool.and_eq_true] at hki2
    have hkx:=hki2.1
    have hl:=decT hki2.2
    have hR0:=hR
    rw[ro_cons hkx,if_pos rfl] at hR
    obtain⟨x',o'',rfl,h1,h2⟩:=hR
    have hmk:=met_kept hin he hx hk h1
    have e':nxt ⟨x'::o'',ids'⟩ (rnk (camZ f) v i) (trnT f.toks (camZ f) v i t)=⟨if bgO t.op=true then scNew (rnk (camZ f) v i) (trnT f.toks (camZ f) v i t)::metX x' (rnk (camZ f) v i) (trnT f.toks (camZ f) v i t)::o'' else metX x' (rnk (camZ f) v i) (trnT f.toks (camZ f) v i t)::o'',if ptO t.op then ids'++[t.id] else ids'⟩:=by
     unfold nxt
     rw[if_neg (show ¬ edO (trnT f.toks (camZ f) v i t).op=true from by show ¬ edO t.op=true;rw[he];decide)]
     rfl
    refine⟨in_take hz hv0 ht he hst hk h1 hR0 hI,?_,?_⟩
    ·rw[e']
     show RO f v (if bgO t.op=true then scNew i t::metX x i t::o else metX x i t::o) (if bgO t.op=true then scNew (rnk (camZ f) v i) _::metX x' _ _::o'' else metX x' _ _::o'')
     have key:RO f v (metX x i t::o) (metX x' (rnk (camZ f) v i) (trnT f.toks (camZ f) v i t)::o''):=by
      rw[ro_cons (x:=metX x i t) hkx,if_pos rfl]
      exact⟨_,_,rfl,hmk,h2⟩
     split
     ·rw[ro_cons (x:=scNew i t) hk,if_pos rfl]
      exact⟨_,_,rfl,scNew_sim hl,key⟩
     ·exact key
    ·intro d hd
     rw[e'] at hd
     have hd:d∈(if ptO t.op then ids'++[t.id] else ids'):=hd
     show d∈(if ptO t.op then (stA f i).ids++[t.id] else (stA f i).ids)
     split at hd
     ·rename_i hp
      rw[if_pos hp]
      rcases List.mem_append.1 hd with hd|hd
      ·exact List.mem_append_left _ (hI d hd)
      ·exact List.mem_append_right _ hd
     ·rename_i hp
      rw[if_neg hp]
      exact hI d hd
theorem sim_at (hz:chkZ f=none) (hv:fstV f<=v/\v<=f.ver):∀ i,i<=f.toks.length->∃ s',RSt f v (stA f i) s'/\runZ (atF f v) (atF f v).toks 0 ⟨[],[]⟩=runZ (atF f v) ((atF f v).toks.drop (rnk (camZ f) v i)) (rnk (camZ f) v i) s':=by
 intro i
 induction i with
 | zero=>intro _;exact⟨⟨[],[]⟩,⟨rfl,fun d hd=>(by cases hd)⟩,rfl⟩
 | succ i ih =>
  intro hi
  obtain⟨s',h1,h2⟩:=ih (by omega)
  obtain⟨t,ht⟩:∃ t,f.toks[i]?=some t:=⟨f.toks[i],List.getElem?_eq_getElem (by omega)⟩
  have hs:=sim_step hz hv ht h1
  rw[stA_succ ht]
  have hcl:i<(camZ f).length:=by rw[camZ_length];omega
  cases hk:kp (camZ f) v i with
  | false =>
   rw[hk,if_neg (by decide)] at hs
   exact⟨s',hs,by rw[rnk_no hcl hk];exact h2⟩
  | true =>
   rw[hk,if_pos rfl] at hs
   refine⟨_,hs.2,?_⟩
   rw[h2,rnk_kp hcl hk]
   have h3:=at_new ht hk
   have e:(atF f v).toks.drop (rnk (camZ f) v i)=trnT f.toks (camZ f) v i t::(atF f v).toks.drop (rnk (camZ f) v i+1):=by
    rw[(List.getElem?_eq_some_iff.1 h3).2.symm,List.getElem_cons_drop]
   rw[e,runZ,if_pos hs.1]
theorem atF_valid (hz:chkZ f=none) (hv:fstV f<=v/\v<=f.ver):chkZ (atF f v)=none:=by
 obtain⟨t0,ht0,hop⟩:=first_msg hz
 have hv0:0<=v:=by
  have h1:=val_since hz ht0
  have:fstV f=t0.since:=by unfold fstV;rw[ht0]
  omega
 have hh:headB f=true:=by
  unfold chkZ at hz
  split at hz
  ·assumption
  ·cases hz
 have hh':headB (atF f v)=true:=by
  unfold headB at hh ⊢
  simp only[Bool.and_eq_true] at hh ⊢
  have h1:=betT hh.1.1.1.1.2
  have h2:(0:Int)<=f.ver/\f.ver<=mx f.hv.p:=decT hh.2
  refine⟨⟨⟨⟨⟨hh.1.1.1.1.1,decide_eq_true ⟨hv0,?_⟩⟩,hh.1.1.1.2⟩,hh.1.1.2⟩,hh.1.2⟩,decide_eq_true ⟨hv0,?_⟩⟩
  ·show v<=65534
   omega
  ·show v<=mx f.hv.p
   omega
 obtain⟨s',h1,h2⟩:=sim_at hz hv f.toks.length (Nat.le_refl _)
 unfold chkZ
 rw[if_pos hh',h2,List.drop_of_length_le (by rw[new_len];exact Nat.le_refl _),runZ]
 have hend:(stA f f.toks.length).open_=[]:=by
  have:=(val_at hz f.toks.length (Nat.le_refl _)).1
  rw[List.drop_length,runZ] at this
  split at this
  ·cases this
  ·rename_i hn
   exact Decidable.byContradiction fun e=>hn (.inr e)
 have ho:s'.open_=[]:=by
  have:=h1.op
  rw[hend] at this
  exact this
 have hpos:rnk (camZ f) v f.toks.length≠0:=by
  have hl0:=(List.getElem?_eq_some_iff.1 ht0).1
  have hk:kp (camZ f) v 0=true:=by
   have hs:=sim_step (i:=0) hz hv ht0 (s':=⟨[],[]⟩) ⟨rfl,fun d hd=>(by cases hd)⟩
   cases hk:kp (camZ f) v 0 with
   | true=>rfl
   | false =>
    exfalso
    have h1:=camZ_get ht0
    have h2:=of_decide_eq_false hk
    rw[getD_of h1] at h2
    have h3:=val_since hz ht0
    have h4:fstV f=t0.since:=by unfold fstV;rw[ht0]
    have h5:edO t0.op=false:=by rw[hop];rfl
    unfold camS at h2
    rw[if_neg (by rw[h5];decide)] at h2
    apply h2
    show ((max 0 t0.since.toNat:Nat):Int)<=v
    omega
  have:=rnk_lt (C:=camZ f) (v:=v) (by rw[camZ_length];exact hl0) hk hl0
  omega
 rw[if_neg (by rintro(h|h);exact hpos h;exact h ho)]
end
section
variable {f:Fm} {v:Int}
end
section
variable {f:Fm}
end
section
variable {f:Fm}
theorem mem_verL (f:Fm) (x:Nat):x∈verL f↔x<=f.ver.toNat/\x∈camZ f:=by
 unfold verL
 rw[List.mem_filter,List.mem_range,List.contains_iff_mem]
 constructor<;>rintro⟨h1,h2⟩<;>exact⟨by omega,h2⟩
theorem open_ne (hz:chkZ f=none) {i:Nat} {t:Tk} (ht:f.toks[i]?=some t) (hi:0<i):(stA f i).open_≠[]:=fun h=>by
 have hok:=(val_ok hz ht).1
 have hok':okZ f ⟨[],(stA f i).ids⟩ i t=true:=by
  cases hs:stA f i with
  | mk a b=>rw[hs] at hok h;simp only at h;subst h;exact hok
 have:=(okZ_nil hok').1
 omega
theorem cam_low (hz:chkZ f=none):∀ i,0<i->i<=f.toks.length->(∀ c∈stkD (f.toks.take i) [],fstV f<=(c:Int))/\∀ c∈camF (f.toks.take i) [],fstV f<=(c:Int):=by
 obtain⟨t0,ht0,hop⟩:=first_msg hz
 have hf:fstV f=t0.since:=by unfold fstV;rw[ht0]
 have hs0:=val_since hz ht0
 have he0:edO t0.op=false:=by rw[hop];rfl
 have hb0:bgO t0.op=true:=by rw[hop];rfl
 intro i
 induction i with
 | zero=>intro h;omega
 | succ i ih =>
  intro _ hi
  obtain⟨t,ht⟩:∃ t,f.toks[i]?=some t:=⟨f.toks[i],List.getElem?_eq_getElem (by omega)⟩
  rcases Nat.eq_zero_or_pos i with h0|h0
  ·subst h0
   rw[ht0] at ht
   cases ht
   have e:f.toks.take (0+1)=[t0]:=by rw[take_snoc ht0];rfl
   rw[e]
   have e1:camS [] t0=(max 0 t0.since.toNat,[max 0 t0.since.toNat]):=by
    unfold camS
    rw[if_neg (by rw[he0];decide),if_pos hb0]
    rfl
   refine⟨fun c hc=>?_,fun c hc=>?_⟩
   ·rw[stkD,stkD,e1] at hc
    obtain rfl:=List.mem_singleton.1 hc
    omega
   ·rw[camF,camF,e1] at hc
    obtain rfl:=List.mem_singleton.1 hc
    omega
  ·obtain⟨h1,h2⟩:=ih h0 (by omega)
   have hne:=open_ne hz ht h0
   have hstk:=stk_open hz i (by omega)
   have hh:fstV f<=(((stkD (f.toks.take i) []).headD 0:Nat):Int):=by
    cases hst:stkD (f.toks.take i) [] with
    | nil =>
     rw[hst] at hstk
     exact absurd (List.map_eq_nil_iff.1 hstk.symm) hne
    | cons a r=>exact h1 a (by rw[hst];exact List.mem_cons_self ..)
   have hm:fstV f<=((max ((stkD (f.toks.take i) []).headD 0) t.since.toNat:Nat):Int):=by omega
   refine⟨fun c hc=>?_,fun c hc=>?_⟩
   ·rw[stkD_succ ht] at hc
    unfold camS at hc
    split at hc
    ·exact h1 c (List.mem_of_mem_tail hc)
    ·simp only at hc
     split at hc
     ·rcases List.mem_cons.1 hc with rfl|hc
      ·exact hm
      ·exact h1 c hc
     ·exact h1 c hc
   ·rw[take_snoc ht,camF_append] at hc
    rcases List.mem_append.1 hc with hc|hc
    ·exact h2 c hc
    ·simp only[camF,List.mem_singleton] at hc
     rw[hc]
     unfold camS
     split
     ·exact hh
     ·exact hm
theorem camZ_low (hz:chkZ f=none):∀ c∈camZ f,fstV f<=(c:Int):=by
 obtain⟨t0,ht0,-⟩:=first_msg hz
 have:=(cam_low hz f.toks.length (List.getElem?_eq_some_iff.1 ht0).1 (Nat.le_refl _)).2
 rwa [List.take_length] at this
theorem fst_mem (hz:chkZ f=none):∃ n:Nat,fstV f=n/\n∈camZ f:=by
 obtain⟨t0,ht0,hop⟩:=first_msg hz
 have hf:fstV f=t0.since:=by unfold fstV;rw[ht0]
 have hs0:=val_since hz ht0
 have he0:edO t0.op=false:=by rw[hop];rfl
 have h1:=camZ_get ht0
 have e1:(camS (stkD (f.toks.take 0) []) t0).1=t0.since.toNat:=by
  show (camS [] t0).1=_
  unfold camS
  rw[if_neg (by rw[he0];decide)]
  show max 0 t0.since.toNat=_
  omega
 rw[e1] at h1
 exact⟨t0.since.toNat,by omega,List.mem_of_getElem? h1⟩
theorem verL_all (hz:chkZ f=none):(∀ x∈verL f,fstV f<=(x:Int)/\(x:Int)<=f.ver)/\(verL f).Pairwise (· < ·)/\∃ n r,verL f=n::r/\fstV f=((n:Nat):Int):=by
 obtain⟨hv0,hv1⟩:=head_ver hz
 have hp:(verL f).Pairwise (· < ·):=(List.pairwise_map.1 (verL_lt f)).imp fun h=>by omega
 refine⟨fun x hx=>?_,hp,?_⟩
 ·obtain⟨h1,h2⟩:=(mem_verL f x).1 hx
  exact⟨camZ_low hz x h2,by omega⟩
 ·obtain⟨n,hn,hm⟩:=fst_mem hz
  have hnv:fstV f<=f.ver:=by
   obtain⟨t0,ht0,hop⟩:=first_msg hz
   have hok:=(val_ok hz ht0).1
   have hok':okZ f ⟨[],[]⟩ 0 t0=true:=hok
   have hmg:=(okZ_nil hok').2.2.2.2.2
   unfold msgB at hmg
   simp only[Bool.and_eq_true] at hmg
   have:=betT hmg.1.1.1.2
   have hf:fstV f=t0.since:=by unfold fstV;rw[ht0]
   omega
  have hnm:n∈verL f:=(mem_verL f n).2 ⟨by omega,hm⟩
  cases hl:verL f with
  | nil=>rw[hl] at hnm;cases hnm
  | cons a r =>
   refine⟨a,r,rfl,?_⟩
   have ha:=((mem_verL f a).1 (by rw[hl];exact List.mem_cons_self ..)).2
   have h1:=camZ_low hz a ha
   rw[hl] at hp hnm
   rcases List.mem_cons.1 hnm with h|h
   ·rw[<- h];exact hn
   ·have:=(List.pairwise_cons.1 hp).1 n h
    omega
theorem count_step (C:List Nat) (v:Nat):(C.countP fun (c:Nat)=>decide ((c:Int)<=(v:Int)))=(C.countP fun (c:Nat)=>decide ((c:Int)<=(v:Int)-1))+C.countP fun (c:Nat)=>decide (c=v):=by
 induction C with
 | nil=>rfl
 | cons a r ih =>
  simp only[List.countP_cons]
  rw[ih]
  have:(if decide ((a:Int)<=(v:Int))=true then 1 else 0)=(if decide ((a:Int)<=(v:Int)-1)=true then 1 else 0)+(if decide (a=v)=true then 1 else 0):=by
   simp only[decide_eq_true_eq]
   split<;>split<;>split<;>omega
  omega
theorem ver_count (hz:chkZ f=none) {v:Nat} (hv:(v:Int)<=f.ver):(rnk (camZ f) ((v:Int)-1) f.toks.length≠rnk (camZ f) (v:Int) f.toks.length)↔v∈verL f:=by
 have hl:(camZ f).take f.toks.length=camZ f:=by rw[<- camZ_length f,List.take_length]
 unfold rnk
 rw[hl,count_step (camZ f) v,mem_verL]
 have hc:(0<(camZ f).countP fun (c:Nat)=>decide (c=v))↔v∈camZ f:=by
  rw[List.countP_pos_iff]
  constructor
  ·rintro⟨a,h1,h2⟩
   have:=decT h2
   subst this
   exact h1
  ·intro h
   exact⟨v,h,decide_eq_true rfl⟩
 obtain⟨hv0,-⟩:=head_ver hz
 constructor
 ·intro h
  exact⟨by omega,hc.1 (by omega)⟩
 ·rintro⟨-,h⟩
  have:=hc.2 h
  omega
end
end Go.Proofs.YtcgimchhcaankaaGreatDoor
