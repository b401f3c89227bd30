import Derived.Test.YtahogajcbncjhaaGreatDoorK29
namespace Go.Proofs.YtahogajcbncjhaaGreatDoor
section
variable {f:Fm} {v:Int} {i:Nat} {x x':Sc} {o o':List Sc} {t:Tk} {ids ids':List Int}
theorem fld_sim (hz:chkZ f=none) (ht:f.toks[i]?=some t) (ho:t.op=2) (hv0:0<=v) (hk:kp (camZ f) v i=true) (hl:t.since<=v) (hxo:x.tk.op=0\/x.tk.op=4) (hst:(stA f i).open_=x::o) (hx:ScOk f.toks i x) (hi:i<=f.toks.length) (h:RS f v x x') (hids:∀ d∈ids',d∈ids) (hb:fldB f ids i x t=true):fldB (atF f v) ids' (rnk (camZ f) v i) x' (trnT f.toks (camZ f) v i t)=true:=by
 have hrise:=fld_rise hb
 have hfl:=h.fld (by omega)
 have he:=h.e0 (fun _=>by omega)
 unfold fldB at hb ⊢
 simp only[Bool.and_eq_true] at hb ⊢
 refine⟨⟨new_sim hx hi h hids hb.1.1,decide_eq_true ⟨by rw[hfl];exact hrise.1,hl⟩⟩,?_⟩
 have h2:=hb.2
 show (if t.pres=0 then decide (t.since=x'.tk.since)&&inB _ _ x' _ else if t.pres=1 then inB _ _ x' _ else if t.pres=2 then decide (t.off=0/\t.siz=0/\t.cst.length≠0) else false)=true
 by_cases e0:t.pres=0
 ·rw[if_pos e0,Bool.and_eq_true] at h2 ⊢
  exact⟨by rw[h.tk];exact h2.1,in_sim hz ht ho hv0 hk hxo hst h he h2.2⟩
 rw[if_neg e0] at h2 ⊢
 by_cases e1:t.pres=1
 ·rw[if_pos e1] at h2 ⊢
  exact in_sim hz ht ho hv0 hk hxo hst h he h2
 rw[if_neg e1] at h2 ⊢
 exact h2
theorem cod_sim (H:Inv f i (stA f i)) (hst:(stA f i).open_=x::o) (hx:ScOk f.toks i x) (hi:i<=f.toks.length) (hkx:kp (camZ f) v x.at_=true) (h:RS f v x x') (ho:x.tk.op=10\/x.tk.op=12) (hne:x.kids≠[]):codP (atF f v).toks x'=codP f.toks x:=by
 have hn:=H.nest
 rw[hst] at hn
 obtain⟨hr,h14⟩:=hn.2.1 ho
 obtain⟨u,hu,-⟩:=h14 hne
 have hlx:x.kids.length≠0:=fun e=>hne (List.length_eq_zero_iff.1 e)
 have hk1:kp (camZ f) v (x.at_+1)=true:=by
  refine h.hd ho _ ?_
  cases hk:x.kids with
  | nil=>exact absurd hk hne
  | cons a r =>
   rw[hk] at hr
   have hlt:=hx.kid a (by rw[hk];exact List.mem_cons_self ..)
   obtain⟨n,hn⟩:∃ n,i-(x.at_+1)=n+1:=⟨i-(x.at_+1)-1,by omega⟩
   rw[hn,List.range'_succ] at hr
   cases hr
   rfl
 have h3:=at_new hu hk1
 rw[rnk_kp (by rw[camZ_length];have:=hx.lt;omega) hkx] at h3
 unfold codP
 rw[h.opE,h.at_,h3,hu,if_pos ⟨ho,fun e=>hlx ((h.nil_iff ho).1 e)⟩,if_pos ⟨ho,hlx⟩]
 rfl
theorem cho_sim (H:Inv f i (stA f i)) (hst:(stA f i).open_=x::o) (hx:ScOk f.toks i x) (hi:i<=f.toks.length) (hkx:kp (camZ f) v x.at_=true) (h:RS f v x x') (ho:x.tk.op=10\/x.tk.op=12) (hne:x.kids≠[]) (hc:choB f.toks x t=true):choB (atF f v).toks x' (trnT f.toks (camZ f) v i t)=true:=by
 have htl:x'.kids.tail=(x.kids.tail.filter (kp (camZ f) v)).map (rnk (camZ f) v):=by
  rw[h.kids]
  cases hk:x.kids with
  | nil=>exact absurd hk hne
  | cons a r =>
   have:=h.hd ho a (by rw[hk];rfl)
   rw[List.filter_cons,if_pos this]
   rfl
 have hkl:∀ k∈x.kids.tail,k<f.toks.length:=fun k hk=>by have:=hx.kid k (List.mem_of_mem_tail hk);omega
 unfold choB at hc ⊢
 rw[cod_sim H hst hx hi hkx h ho hne,h.opE]
 simp only[Bool.and_eq_true,Bool.not_eq_true'] at hc ⊢
 refine⟨⟨⟨hc.1.1.1,?_⟩,?_⟩,hc.2⟩
 ·cases hn:nameIn (atF f v).toks x'.kids.tail (trnT f.toks (camZ f) v i t).name with
  | false=>rfl
  | true =>
   rw[htl] at hn
   rw[show nameIn f.toks x.kids.tail t.name=true from name_sim hkl hn] at hc
   cases hc.1.1.2
 ·cases hn:valIn (atF f v).toks x'.kids.tail (trnT f.toks (camZ f) v i t).val with
  | false=>rfl
  | true =>
   rw[htl] at hn
   rw[show valIn f.toks x.kids.tail t.val=true from val_sim hkl hn] at hc
   cases hc.1.2
theorem in_take (hz:chkZ f=none) (hv0:0<=v) (ht:f.toks[i]?=some t) (he:edO t.op=false) (hst:(stA f i).open_=x::o) (hk:kp (camZ f) v i=true) (h:RS f v x x') (hR:RO f v (x::o) (x'::o')) (hids:∀ d∈ids',d∈(stA f i).ids):inOk (atF f v) (x'::o') ids' (rnk (camZ f) v i) x' (trnT f.toks (camZ f) v i t)=true:=by
 have hin:=inOk_at hz ht hst
 obtain⟨hok,H⟩:=val_ok hz ht
 have hxm:x∈(stA f i).open_:=by rw[hst];exact List.mem_cons_self ..
 have hx:=H.all x hxm
 have hil:=(List.getElem?_eq_some_iff.1 ht).1
 have hi:i<=f.toks.length:=by omega
 have hK:=(kin_at hz i hi x hxm).1
 rw[kp_in hz ht he hst,Bool.and_eq_true] at hk
 have hkx:=hk.1
 have hl:=decT hk.2
 have hk':kp (camZ f) v i=true:=by rw[kp_in hz ht he hst,hkx,hk.2];rfl
 obtain⟨hm,hp,hs,h3,h4,hr⟩:=inOk_in hin he
 have hop:0<=t.op:=by
  rcases may_typ hm he hx.beg with ⟨_,h,_⟩|⟨_,_,h⟩|⟨_,h⟩|⟨_,h⟩
  ·unfold ptO at h;have:=decT h;omega
  ·unfold tyO at h;have:=decT h;omega
  ·unfold tyO at h;have:=decT h;omega
  ·omega
 have hm':=may_sim hx hi hK h hop hm
 unfold inOk
 simp only[Bool.and_eq_true]
 refine⟨⟨⟨hm',plain_trn hp⟩,hs⟩,?_⟩
 show (if edO t.op then _ else _)=true
 rw[if_neg (by rw[he];decide),Bool.and_eq_true]
 refine⟨?_,?_⟩
 ·show (if bgO t.op then _ else _)=true
  split
  ·rename_i hb
   exact pair_sim hz hk' hb (h3 hb)
  ·rename_i hb
   have:=h4 (by simpa using hb)
   refine decide_eq_true ?_
   show ((rnk (camZ f) v t.pair.toNat:Nat):Int)=_
   rw[this]
   rfl
 ·have htyp:=may_typ hm he hx.beg
  unfold rulB at hr ⊢
  show (if t.op=2 then _ else _)=true
  by_cases e2:t.op=2
  ·rw[if_pos e2] at hr ⊢
   have hxo:x.tk.op=0\/x.tk.op=4:=by
    rcases htyp with ⟨h,_⟩|⟨_,_,h⟩|⟨_,h⟩|⟨_,h⟩
    ·exact h
    ·unfold tyO at h;have:=decT h;omega
    ·unfold tyO at h;have:=decT h;omega
    ·omega
   exact fld_sim hz ht e2 hv0 hk' hl hxo hst hx hi h hids hr
  rw[if_neg e2] at hr ⊢
  show (if t.op=4 then _ else _)=true
  by_cases e4:t.op=4
  ·rw[if_pos e4] at hr ⊢
   unfold grpB at hr ⊢
   simp only[Bool.and_eq_true] at hr ⊢
   have hd:=dep_sim 4 hR
   refine⟨⟨⟨⟨⟨⟨?_,new_sim hx hi h hids hr.1.1.1.1.1.2⟩,row_sim h hl hr.1.1.1.1.2⟩,blk_sim hz ht (.inr e4) hr.1.1.1.2⟩,hr.1.1.2⟩,hr.1.2⟩,hr.2⟩
   have:=decT hr.1.1.1.1.1.1
   exact decide_eq_true (by omega)
  rw[if_neg e4] at hr ⊢
  show (if t.op=6 then _ else _)=true
  by_cases e6:t.op=6
  ·rw[if_pos e6] at hr ⊢
   unfold datB at hr ⊢
   simp only[Bool.and_eq_true] at hr ⊢
   exact⟨⟨⟨⟨⟨new_sim hx hi h hids hr.1.1.1.1.1,row_sim h hl hr.1.1.1.1.2⟩,hr.1.1.1.2⟩,hr.1.1.2⟩,hr.1.2⟩,hr.2⟩
  rw[if_neg e6] at hr ⊢
  have hxt:¬ (x.tk.op=0\/x.tk.op=4):=fun hx0=>by
   rcases htyp with ⟨_,h,_⟩|⟨h,_⟩|⟨h,_⟩|⟨h,_⟩
   ·unfold ptO at h;have:=decT h;omega
   ·omega
   ·omega
   ·omega
  have he0:=h.e0 (fun h=>absurd h hxt)
  show (if t.op=8 then _ else _)=true
  by_cases e8:t.op=8
  ·rw[if_pos e8] at hr ⊢
   unfold cmpB at hr ⊢
   simp only[Bool.and_eq_true] at hr ⊢
   have hd:=dep_sim 8 hR
   have:=decT hr.1
   exact⟨decide_eq_true (by omega),plc_sim h he0 hr.2⟩
  rw[if_neg e8] at hr ⊢
  show (if t.op=10\/t.op=12 then _ else _)=true
  by_cases e10:t.op=10\/t.op=12
  ·rw[if_pos e10] at hr ⊢
   exact plc_sim h he0 hr
  rw[if_neg e10] at hr ⊢
  show (if t.op=14 then _ else _)=true
  by_cases e14:t.op=14
  ·rw[if_pos e14] at hr ⊢
   exact enc_sim h he0 hr
  rw[if_neg e14] at hr ⊢
  have hxe:(x.tk.op=10\/x.tk.op=12)/\x.kids≠[]:=by
   rcases htyp with ⟨_,h,_⟩|⟨_,_,h⟩|⟨_,h⟩|⟨h,h'⟩
   ·unfold ptO at h;have:=decT h;omega
   ·unfold tyO at h;have:=decT h;omega
   ·unfold tyO at h;have:=decT h;omega
   ·rcases h' with ⟨_,h'⟩|⟨h',_⟩
    ·omega
    ·exact⟨h,h'⟩
  exact cho_sim H hst hx hi hkx h hxe.1 hxe.2 hr
end
section
variable {f:Fm} {v:Int} {i:Nat} {x x':Sc} {o o':List Sc} {t:Tk}
theorem scNew_sim (hl:t.since<=v):RS f v (scNew i t) (scNew (rnk (camZ f) v i) (trnT f.toks (camZ f) v i t)) :=
 ⟨rfl,rfl,rfl,fun _=>rfl,fun _=>rfl,fun _=>rfl,fun _ k hk=>(by cases hk),fun _ k hk=>(by cases hk),hl⟩
theorem met_kept (hin:inOk f (x::o) (stA f i).ids i x t=true) (he:edO t.op=false) (hx:ScOk f.toks i x) (hk:kp (camZ f) v i=true) (h:RS f v x x'):RS f v (metX x i t) (metX x' (rnk (camZ f) v i) (trnT f.toks (camZ f) v i t)):=by
 obtain⟨hm,hp,hs,h3,h4,hr⟩:=inOk_in hin he
 obtain⟨r1,r2,r3,r4⟩:=rul_b hx hm he hp hr
 have ho:=h.opE
 refine⟨h.at_,h.tk,?_,fun hf=>?_,fun hf=>?_,fun hf=>?_,fun hf k hk'=>?_,fun hf k hk'=>?_,h.low⟩
 ·show x'.kids++[rnk (camZ f) v i]=((x.kids++[i]).filter _).map _
  rw[List.filter_append,List.filter_cons,if_pos hk,List.map_append,h.kids]
  rfl
 ·have hf:(if t.op=2 then t.since else x.fld)<=v:=hf
  show (if t.op=2 then t.since else x'.fld)=(if t.op=2 then t.since else x.fld)
  split
  ·rfl
  ·rename_i h2
   rw[if_neg h2] at hf
   exact h.fld hf
 ·have hf:(if (t.op=4\/t.op=6)/\x.tk.op≠4 then t.since else x.row)<=v:=hf
  show (if (t.op=4\/t.op=6)/\x'.tk.op≠4 then t.since else x'.row)=(if (t.op=4\/t.op=6)/\x.tk.op≠4 then t.since else x.row)
  rw[ho]
  split
  ·rfl
  ·rename_i h2
   rw[if_neg h2] at hf
   exact h.row hf
 ·have hf:(x.tk.op=0\/x.tk.op=4)->(if t.op=2 then t.since else x.fld)<=v:=hf
  show (if 0<t.siz/\((t.op=2/\t.pres≠2)\/x'.tk.op=8) then t.off+t.siz else x'.e0)=(if 0<t.siz/\((t.op=2/\t.pres≠2)\/x.tk.op=8) then t.off+t.siz else x.e0)
  rw[ho]
  split
  ·rfl
  ·refine h.e0 fun hb=>?_
   have:=hf hb
   split at this
   ·rename_i h2
    have:=r2 h2
    omega
   ·exact this
 ·rcases List.mem_append.1 (show k∈x.kids++[i] from hk') with hk' | hk'
  ·exact h.all hf k hk'
  ·obtain rfl:=List.mem_singleton.1 hk'
   exact hk
 ·have hk':(x.kids++[i]).head?=some k:=hk'
  cases hkk:x.kids with
  | nil =>
   rw[hkk] at hk'
   cases hk'
   exact hk
  | cons a r =>
   rw[hkk] at hk'
   cases hk'
   exact h.hd hf _ (by rw[hkk];rfl)
theorem met_drop (hin:inOk f (x::o) (stA f i).ids i x t=true) (he:edO t.op=false) (hx:ScOk f.toks i x) (hv0:0<=v) (hl:¬ t.since<=v) (hk:kp (camZ f) v i=false) (h:RS f v x x'):RS f v (metX x i t) x':=by
 obtain⟨hm,hp,hs,h3,h4,hr⟩:=inOk_in hin he
 have htyp:=may_typ hm he hx.beg
 have hlow:=h.low
 have hop:t.op=0\/t.op=2\/t.op=4\/t.op=6\/t.op=15:=Decidable.byContradiction fun hn=>by
  have:=pl_since hp hn
  omega
 have hcase:((x.tk.op=0\/x.tk.op=4)/\(t.op=2\/t.op=4\/t.op=6))\/((x.tk.op=10\/x.tk.op=12)/\x.kids≠[]/\t.op=15):=by
  rcases htyp with ⟨h,h',_⟩|⟨_,_,h⟩|⟨_,h⟩|⟨h,h'⟩
  ·unfold ptO at h'
   exact .inl ⟨h,decT h'⟩
  ·unfold tyO at h;have:=decT h;omega
  ·unfold tyO at h;have:=decT h;omega
  ·rcases h' with ⟨_,h'⟩|⟨h',h''⟩
   ·omega
   ·exact .inr ⟨h,h',h''⟩
 have h44:x.tk.op=4->¬ (t.op=4\/t.op=6):=fun hx4 ht4=>by
  have key:rowB f x t=true->False:=fun hw=>by
   unfold rowB at hw
   rw[if_pos hx4] at hw
   have:=decT hw
   omega
  unfold rulB at hr
  rcases ht4 with e|e
  ·rw[if_neg (by omega),if_pos e] at hr
   unfold grpB at hr
   simp only[Bool.and_eq_true] at hr
   exact key hr.1.1.1.1.2
  ·rw[if_neg (by omega),if_neg (by omega),if_pos e] at hr
   unfold datB at hr
   simp only[Bool.and_eq_true] at hr
   exact key hr.1.1.1.1.2
 refine⟨h.at_,h.tk,?_,fun hf=>?_,fun hf=>?_,fun hf=>?_,fun hf k hk'=>?_,fun hf k hk'=>?_,h.low⟩
 ·show x'.kids=((x.kids++[i]).filter _).map _
  rw[List.filter_append,List.filter_cons,if_neg (by rw[hk];decide),h.kids]
  simp
 ·have hf:(if t.op=2 then t.since else x.fld)<=v:=hf
  show x'.fld=(if t.op=2 then t.since else x.fld)
  split at hf
  ·omega
  ·rename_i h2
   rw[if_neg h2]
   exact h.fld hf
 ·have hf:(if (t.op=4\/t.op=6)/\x.tk.op≠4 then t.since else x.row)<=v:=hf
  show x'.row=(if (t.op=4\/t.op=6)/\x.tk.op≠4 then t.since else x.row)
  split at hf
  ·omega
  ·rename_i h2
   rw[if_neg h2]
   exact h.row hf
 ·have hf:(x.tk.op=0\/x.tk.op=4)->(if t.op=2 then t.since else x.fld)<=v:=hf
  show x'.e0=(if 0<t.siz/\((t.op=2/\t.pres≠2)\/x.tk.op=8) then t.off+t.siz else x.e0)
  have hno:¬ (0<t.siz/\((t.op=2/\t.pres≠2)\/x.tk.op=8)):=fun hc=>by
   rcases hcase with ⟨h1,h2⟩|⟨h1,h2,h3⟩
   ·have:=hf h1
    rcases hc.2 with hc|hc
    ·rw[if_pos hc.1] at this
     omega
    ·omega
   ·omega
  rw[if_neg hno]
  refine h.e0 fun hb=>?_
  have:=hf hb
  split at this
  ·omega
  ·exact this
 ·have hf:x.tk.op=2\/x.tk.op=8:=hf
  exfalso
  omega
 ·have hf:x.tk.op=10\/x.tk.op=12:=hf
  have hk':(x.kids++[i]).head?=some k:=hk'
  rcases hcase with ⟨h1,h2⟩|⟨h1,h2,h3⟩
  ·omega
  ·cases hkk:x.kids with
   | nil=>exact absurd hkk h2
   | cons a r =>
    rw[hkk] at hk'
    cases hk'
    exact h.hd hf _ (by rw[hkk];rfl)
theorem ro_cons {k:Bool} (hk:kp (camZ f) v x.at_=k):RO f v (x::o) o'=if k=true then ∃ x' o'',o'=x'::o''/\RS f v x x'/\RO f v o o'' else RO f v o o':=by
 rw[RO,hk]
theorem sim_step (hz:chkZ f=none) (hv:fstV f<=v/\v<=f.ver) (ht:f.toks[i]?=some t) {s':St} (h:RSt f v (stA f i) s') :
  if kp (camZ f) v i=true then okZ (atF f v) s' (rnk (camZ f) v i) (trnT f.toks (camZ f) v i t)=true/\RSt f v (nxt (stA f i) i t) (nxt s' (rnk (camZ f) v i) (trnT f.toks (camZ f) v i t)) else RSt f v (nxt (stA f i) i t) s':=by
 obtain⟨hok,H⟩:=val_ok hz ht
 have hv0:0<=v:=by
  obtain⟨t0,ht0,-⟩:=first_msg hz
  have h1:=val_since hz ht0
  have:fstV f=t0.since:=by unfold fstV;rw[ht0]
  omega
 obtain⟨o',ids'⟩:=s'
 have hR:=h.op
 have hI:=h.ids
 cases hst:(stA f i).open_ with
 | nil =>
  rw[hst] at hR
  have hR:o'=[]:=hR
  subst hR
  have hok':okZ f ⟨[],(stA f i).ids⟩ i t=true:=by
   cases hs:stA f i with
   | mk a b=>rw[hs] at hok hst;simp only at hst;subst hst;exact hok
  obtain⟨rfl,hop,hp,hs,hpr,hmg⟩:=okZ_nil hok'
  have hfs:fstV f=t.since:=by unfold fstV;rw[ht]
  have hg:bgO t.op=true:=by rw[hop];rfl
  have he:edO t.op=false:=by rw[hop];rfl
  have hk:kp (camZ f) v 0=true:=by
   have h1:=camZ_get ht
   unfold kp
   rw[getD_of h1]
   unfold camS
   rw[if_neg (by rw[he];decide)]
   have:=val_since hz ht
   refine decide_eq_true ?_
   show ((max 0 t.since.toNat:Nat):Int)<=v
   omega
  rw[if_pos hk]
  have hr0:rnk (camZ f) v 0=0:=rfl
  refine⟨?_,?_,?_⟩
  ·show (decide (rnk (camZ f) v 0=0)&&decide (t.op=0)&&plainB _&&symbolB t.name&&pairB _ _ _&&msgB _ _)=true
   unfold msgB at hmg ⊢
   simp only[Bool.and_eq_true] at hmg ⊢
   have h1:=betT hmg.1.1.1.2
   exact⟨⟨⟨⟨⟨decide_eq_true hr0,decide_eq_true hop⟩,plain_trn hp⟩,hs⟩,pair_sim hz hk hg hpr⟩,⟨⟨⟨⟨hmg.1.1.1.1,decide_eq_true ⟨h1.1,by show t.since<=v;omega⟩⟩,blk_sim hz ht (.inl hop) hmg.1.1.2⟩,hmg.1.2⟩,hmg.2⟩⟩
  ·unfold nxt
   rw[if_neg (by rw[he];decide),if_pos hg,hst]
   show RO f v [scNew 0 t] (if edO t.op=true then _ else _:St).open_
   rw[if_neg (by rw[he];decide)]
   show RO f v [scNew 0 t] (if bgO t.op=true then _ else _)
   rw[if_pos hg,ro_cons (x:=scNew 0 t) hk,if_pos rfl]
   exact⟨_,[],rfl,scNew_sim (by omega),rfl⟩
  ·intro d hd
   unfold nxt at hd ⊢
   rw[if_neg (by rw[he];decide)]
   have hd:d∈(if edO t.op=true then (⟨_,ids'⟩:St) else ⟨_,if ptO t.op then ids'++[t.id] else ids'⟩).ids:=hd
   rw[if_neg (by rw[he];decide)] at hd
   have hpt:ptO t.op=false:=by rw[hop];rfl
   rw[hpt] at hd ⊢
   exact hI d hd
 | cons x o =>
  have hxm:x∈(stA f i).open_:=by rw[hst];exact List.mem_cons_self ..
  have hx:=H.all x hxm
  have hin:=inOk_at hz ht hst
  rw[hst] at hR
  cases he:edO t.op with
  | true =>
   have hke:=kp_end hz ht he hst v
   have e:(nxt (stA f i) i t)=⟨o,(stA f i).ids⟩:=by unfold nxt;rw[if_pos he,hst];rfl
   rw[e]
   cases hk:kp (camZ f) v i with
   | false =>
    rw[if_neg (by decide)]
    rw[ro_cons (hke.symm.trans hk),if_neg (by decide)] at hR
    exact⟨hR,hI⟩
   | true =>
    rw[if_pos rfl]
    have hkx:=hke.symm.trans hk
    rw[ro_cons hkx,if_pos rfl] at hR
    obtain⟨x',o'',rfl,h1,h2⟩:=hR
    have hil:=(List.getElem?_eq_some_iff.1 ht).1
    have hK:=(kin_at hz i (by omega) x hxm).1
    obtain⟨m1,m2,m3,m4,m5⟩:=inOk_end hin he
    have hop:0<=t.op:=by unfold edO at he;have:=decT he;omega
    refine⟨?_,?_,?_⟩
    ·show inOk _ _ _ _ x' _=true
     unfold inOk
     simp only[Bool.and_eq_true]
     refine⟨⟨⟨may_sim hx (by omega) hK h1 hop m1,plain_trn m2⟩,m3⟩,?_⟩
     show (if edO t.op then _ else _)=true
     rw[if_pos he,Bool.and_eq_true]
     refine⟨decide_eq_true ?_,decide_eq_true ?_⟩
     ·show ((rnk (camZ f) v t.pair.toNat:Nat):Int)=_
      rw[m4,h1.at_]
      rfl
     ·rw[h1.tk]
      show ((rnk (camZ f) v x.tk.pair.toNat:Nat):Int)=_
      rw[m5]
      rfl
    ·show RO f v o (if edO t.op=true then _ else _:St).open_
     rw[if_pos he]
     exact h2
    ·intro d hd
     have hd:d∈(if edO t.op=true then (⟨_,ids'⟩:St) else _).ids:=hd
     rw[if_pos he] at hd
     exact hI d hd
  | false =>
   have hki:=kp_in hz ht he hst v
   have e:(nxt (stA f i) i t)=⟨if bgO t.op=true then scNew i t::metX x i t::o else metX x i t::o,if ptO t.op then (stA f i).ids++[t.id] else (stA f i).ids⟩:=by unfold nxt;rw[if_neg (by rw[he];decide),hst];rfl
   rw[e]
   cases hk:kp (camZ f) v i with
   | false =>
    rw[if_neg (by decide)]
    refine⟨?_,fun d hd=>?_⟩
    ·have key:RO f v (metX x i t::o) o':=by
      cases hkx:kp (camZ f) v x.at_ with
      | false =>
       rw[ro_cons hkx,if_neg (by decide)] at hR
       rw[ro_cons (x:=metX x i t) hkx,if_neg (by decide)]
       exact hR
      | true =>
       rw[ro_cons hkx,if_pos rfl] at hR
       rw[ro_cons (x:=metX x i t) hkx,if_pos rfl]
       obtain⟨x',o'',rfl,h1,h2⟩:=hR
       rw[hk,hkx,Bool.true_and] at hki
       exact⟨x',o'',rfl,met_drop hin he hx hv0 (of_decide_eq_false hki.symm) hk h1,h2⟩
     show RO f v (if bgO t.op=true then scNew i t::metX x i t::o else metX x i t::o) o'
     split
     ·rw[ro_cons (x:=scNew i t) hk,if_neg (by decide)]
      exact key
     ·exact key
    ·show d∈(if ptO t.op then (stA f i).ids++[t.id] else (stA f i).ids)
     split
     ·exact List.mem_append_left _ (hI d hd)
     ·exact hI d hd
   | true =>
    rw[if_pos rfl]
    rw[hk] at hki
    have hki2:=hki.symm
    rw[Bool.and_eq_true] at hki2
    have hkx:=hki2.1
    have hl:=decT hki2.2
    have hR0:=hR
    rw[ro_cons hkx,if_pos rfl] at hR
    obtain⟨x',o'',rfl,h1,h2⟩:=hR
    have hmk:=met_kept hin he hx hk h1
    have e':nxt ⟨x'::o'',ids'⟩ (rnk (camZ f) v i) (trnT f.toks (camZ f) v i t)=⟨if bgO t.op=true then scNew (rnk (camZ f) v i) (trnT f.toks (camZ f) v i t)::metX x' (rnk (camZ f) v i) (trnT f.toks (camZ f) v i t)::o'' else metX x' (rnk (camZ f) v i) (trnT f.toks (camZ f) v i t)::o'',if ptO t.op then ids'++[t.id] else ids'⟩:=by
     unfold nxt
     rw[if_neg (show ¬ edO (trnT f.toks (camZ f) v i t).op=true from by show ¬ edO t.op=true;rw[he];decide)]
     rfl
    refine⟨in_take hz hv0 ht he hst hk h1 hR0 hI,?_,?_⟩
    ·rw[e']
     show RO f v (if bgO t.op=true then scNew i t::metX x i t::o else metX x i t::o) (if bgO t.op=true then scNew (rnk (camZ f) v i) _::metX x' _ _::o'' else metX x' _ _::o'')
     have key:RO f v (metX x i t::o) (metX x' (rnk (camZ f) v i) (trnT f.toks (camZ f) v i t)::o''):=by
      rw[ro_cons (x:=metX x i t) hkx,if_pos rfl]
      exact⟨_,_,rfl,hmk,h2⟩
     split
     ·rw[ro_cons (x:=scNew i t) hk,if_pos rfl]
      exact⟨_,_,rfl,scNew_sim hl,key⟩
     ·exact key
    ·intro d hd
     rw[e'] at hd
     have hd:d∈(if ptO t.op then ids'++[t.id] else ids'):=hd
     show d∈(if ptO t.op then (stA f i).ids++[t.id] else (stA f i).ids)
     split at hd
     ·rename_i hp
      rw[if_pos hp]
      rcases List.mem_append.1 hd with hd|hd
      ·exact List.mem_append_left _ (hI d hd)
      ·exact List.mem_append_right _ hd
     ·rename_i hp
      rw[if_neg hp]
      exact hI d hd
theorem sim_at (hz:chkZ f=none) (hv:fstV f<=v/\v<=f.ver):∀ i,i<=f.toks.length->∃ s',RSt f v (stA f i) s'/\runZ (atF f v) (atF f v).toks 0 ⟨[],[]⟩=runZ (atF f v) ((atF f v).toks.drop (rnk (camZ f) v i)) (rnk (camZ f) v i) s':=by
 intro i
 induction i with
 | zero=>intro _;exact⟨⟨[],[]⟩,⟨rfl,fun d hd=>(by cases hd)⟩,rfl⟩
 | succ i ih =>
  intro hi
  obtain⟨s',h1,h2⟩:=ih (by omega)
  obtain⟨t,ht⟩:∃ t,f.toks[i]?=some t:=⟨f.toks[i],List.getElem?_eq_getElem (by omega)⟩
  have hs:=sim_step hz hv ht h1
  rw[stA_succ ht]
  have hcl:i<(camZ f).length:=by rw[camZ_length];omega
  cases hk:kp (camZ f) v i with
  | false =>
   rw[hk,if_neg (by decide)] at hs
   exact⟨s',hs,by rw[rnk_no hcl hk];exact h2⟩
  | true =>
   rw[hk,if_pos rfl] at hs
   refine⟨_,hs.2,?_⟩
   rw[h2,rnk_kp hcl hk]
   have h3:=at_new ht hk
   have e:(atF f v).toks.drop (rnk (camZ f) v i)=trnT f.toks (camZ f) v i t::(atF f v).toks.drop (rnk (camZ f) v i+1):=by
    rw[(List.getElem?_eq_some_iff.1 h3).2.symm,List.getElem_cons_drop]
   rw[e,runZ,if_pos hs.1]
theorem atF_valid (hz:chkZ f=none) (hv:fstV f<=v/\v<=f.ver):chkZ (atF f v)=none:=by
 obtain⟨t0,ht0,hop⟩:=first_msg hz
 have hv0:0<=v:=by
  have h1:=val_since hz ht0
  have:fstV f=t0.since:=by unfold fstV;rw[ht0]
  omega
 have hh:headB f=true:=by
  unfold chkZ at hz
  split at hz
  ·assumption
  ·cases hz
 have hh':headB (atF f v)=true:=by
  unfold headB at hh ⊢
  simp only[Bool.and_eq_true] at hh ⊢
  have h1:=betT hh.1.1.1.1.2
  have h2:(0:Int)<=f.ver/\f.ver<=mx f.hv.p:=decT hh.2
  refine⟨⟨⟨⟨⟨hh.1.1.1.1.1,decide_eq_true ⟨hv0,?_⟩⟩,hh.1.1.1.2⟩,hh.1.1.2⟩,hh.1.2⟩,decide_eq_true ⟨hv0,?_⟩⟩
  ·show v<=65534
   omega
  ·show v<=mx f.hv.p
   omega
 obtain⟨s',h1,h2⟩:=sim_at hz hv f.toks.length (Nat.le_refl _)
 unfold chkZ
 rw[if_pos hh',h2,List.drop_of_length_le (by rw[new_len];exact Nat.le_refl _),runZ]
 have hend:(stA f f.toks.length).open_=[]:=by
  have:=(val_at hz f.toks.length (Nat.le_refl _)).1
  rw[List.drop_length,runZ] at this
  split at this
  ·cases this
  ·rename_i hn
   exact Decidable.byContradiction fun e=>hn (.inr e)
 have ho:s'.open_=[]:=by
  have:=h1.op
  rw[hend] at this
  exact this
 have hpos:rnk (camZ f) v f.toks.length≠0:=by
  have hl0:=(List.getElem?_eq_some_iff.1 ht0).1
  have hk:kp (camZ f) v 0=true:=by
   have hs:=sim_step (i:=0) hz hv ht0 (s':=⟨[],[]⟩) ⟨rfl,fun d hd=>(by cases hd)⟩
   cases hk:kp (camZ f) v 0 with
   | true=>rfl
   | false =>
    exfalso
    have h1:=camZ_get ht0
    have h2:=of_decide_eq_false hk
    rw[getD_of h1] at h2
    have h3:=val_since hz ht0
    have h4:fstV f=t0.since:=by unfold fstV;rw[ht0]
    have h5:edO t0.op=false:=by rw[hop];rfl
    unfold camS at h2
    rw[if_neg (by rw[h5];decide)] at h2
    apply h2
    show ((max 0 t0.since.toNat:Nat):Int)<=v
    omega
  have:=rnk_lt (C:=camZ f) (v:=v) (by rw[camZ_length];exact hl0) hk hl0
  omega
 rw[if_neg (by rintro(h|h);exact hpos h;exact h ho)]
end
end Go.Proofs.YtahogajcbncjhaaGreatDoor
