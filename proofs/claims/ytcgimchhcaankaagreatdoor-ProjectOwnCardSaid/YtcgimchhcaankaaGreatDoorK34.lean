import Derived.Test.YtcgimchhcaankaaGreatDoorK33
namespace Go.Proofs.YtcgimchhcaankaaGreatDoor
section
variable (f:Fm) (v:Int)
structure RS (x x':Sc):Prop where
 at_:x'.at_=rnk (camZ f) v x.at_
 tk:x'.tk=trnT f.toks (camZ f) v x.at_ x.tk
 kids:x'.kids=(x.kids.filter (kp (camZ f) v)).map (rnk (camZ f) v)
 fld:x.fld<=v->x'.fld=x.fld
 row:x.row<=v->x'.row=x.row
 e0:((x.tk.op=0\/x.tk.op=4)->x.fld<=v)->x'.e0=x.e0
 all:x.tk.op=2\/x.tk.op=8->∀ k∈x.kids,kp (camZ f) v k=true
 hd:x.tk.op=10\/x.tk.op=12->∀ k,x.kids.head?=some k->kp (camZ f) v k=true
 low:x.tk.since<=v
def RO:List Sc->List Sc->Prop
 | [],o'=>o'=[]
 | x::o,o'=>if kp (camZ f) v x.at_=true then ∃ x' o'',o'=x'::o''/\RS f v x x'/\RO o o'' else RO o o'
structure RSt (s s':St):Prop where
 op:RO f v s.open_ s'.open_
 ids:∀ d∈s'.ids,d∈s.ids
end
theorem dep_sim {f:Fm} {v:Int} (op:Int):∀ {o o':List Sc},RO f v o o'->depB op o'<=depB op o
 | [],o',h=>by
  have h:o'=[]:=h
  subst h
  exact Nat.le_refl _
 | x::o,o',h=>by
  unfold RO at h
  have hx:depB op o<=depB op (x::o):=by
   unfold depB
   rw[List.filter_cons]
   split
   ·simp
   ·exact Nat.le_refl _
  split at h
  ·obtain⟨x',o'',rfl,h1,h2⟩:=h
   have ih:=dep_sim op h2
   have e:x'.tk.op=x.tk.op:=by rw[h1.tk];rfl
   unfold depB at *
   rw[List.filter_cons,List.filter_cons,e]
   split
   ·simp only[List.length_cons]
    omega
   ·exact ih
  ·exact Nat.le_trans (dep_sim op h) hx
theorem plain_trn {l:List Tk} {C:List Nat} {v:Int} {i:Nat} {t:Tk} (h:plainB t=true):plainB (trnT l C v i t)=true:=by
 by_cases ho:t.op=0\/t.op=4
 ·rcases ho with e|e
  ·unfold plainB nzs mays at h ⊢
   simp only[trnT,e] at h ⊢
   simp[subB] at h ⊢
   omega
  ·unfold plainB nzs mays at h ⊢
   simp only[trnT,e] at h ⊢
   simp[subB] at h ⊢
   omega
 ·have e:nzs (trnT l C v i t)=nzs t:=by
   unfold nzs trnT
   simp only[if_neg ho]
  unfold plainB
  rw[e]
  exact h
section
variable {f:Fm} {v:Int}
theorem at_new {k:Nat} {u:Tk} (hu:f.toks[k]?=some u) (hk:kp (camZ f) v k=true):(atF f v).toks[rnk (camZ f) v k]?=some (trnT f.toks (camZ f) v k u) :=
 kepF_at f.toks (camZ f) v (camZ_length f) f.toks.length k u (Nat.le_refl _) (List.getElem?_eq_some_iff.1 hu).1 hu hk
theorem new_len:(atF f v).toks.length=rnk (camZ f) v f.toks.length:=kepF_length _ _ _ _ (Nat.le_refl _) (by rw[camZ_length];exact Nat.le_refl _)
theorem pair_sim (hz:chkZ f=none) {i:Nat} {t:Tk} (hk:kp (camZ f) v i=true) (hg:bgO t.op=true) (h:pairB f.toks i t=true):pairB (atF f v).toks (rnk (camZ f) v i) (trnT f.toks (camZ f) v i t)=true:=by
 obtain⟨n,u,h1,h2,h3,h4,h5,h6,h7⟩:=pairB_get h
 have hed:edO u.op=true:=by rw[h5];exact edO_succ hg
 have hkn:kp (camZ f) v n=true:=by
  rcases val_tok hz h4 with ⟨-,-,x,o,e1,e2,e3⟩|⟨h,-⟩|⟨h,-⟩
  ·rw[kp_end hz h4 hed e1,show x.at_=i by omega]
   exact hk
  ·rw[hed] at h;cases h
  ·rw[hed] at h;cases h
 have hl:=camZ_length f
 have a1:=rnk_lt (C:=camZ f) (v:=v) (i:=i) (j:=n) (by omega) hk h2
 have a2:=rnk_lt (C:=camZ f) (v:=v) (i:=n) (j:=f.toks.length) (by omega) hkn h3
 have a3:=at_new h4 hkn
 unfold pairB
 have hp:(trnT f.toks (camZ f) v i t).pair=((rnk (camZ f) v n:Nat):Int):=by
  show ((rnk (camZ f) v t.pair.toNat:Nat):Int)=_
  rw[h1]
  rfl
 rw[hp,Int.toNat_natCast,a3,new_len]
 have hq:(trnT f.toks (camZ f) v n u).pair=((rnk (camZ f) v i:Nat):Int):=by
  show ((rnk (camZ f) v u.pair.toNat:Nat):Int)=_
  rw[h7]
  rfl
 simp only[Bool.and_eq_true,decide_eq_true_eq]
 exact⟨⟨by omega,by omega⟩,⟨h5,h6⟩,hq⟩
theorem name_sim {ks:List Nat} (hk:∀ k∈ks,k<f.toks.length) {s:ByteArray} (h:nameIn (atF f v).toks ((ks.filter (kp (camZ f) v)).map (rnk (camZ f) v)) s=true):nameIn f.toks ks s=true:=by
 unfold nameIn at h ⊢
 rw[List.any_eq_true] at h ⊢
 obtain⟨k',hk',hm⟩:=h
 obtain⟨k,hk1,rfl⟩:=List.mem_map.1 hk'
 obtain⟨hk2,hk3⟩:=List.mem_filter.1 hk1
 have hu:f.toks[k]?=some (f.toks[k]'(hk k hk2)):=List.getElem?_eq_getElem _
 rw[at_new hu hk3] at hm
 exact⟨k,hk2,by rw[hu];exact hm⟩
theorem val_sim {ks:List Nat} (hk:∀ k∈ks,k<f.toks.length) {s:Int} (h:valIn (atF f v).toks ((ks.filter (kp (camZ f) v)).map (rnk (camZ f) v)) s=true):valIn f.toks ks s=true:=by
 unfold valIn at h ⊢
 rw[List.any_eq_true] at h ⊢
 obtain⟨k',hk',hm⟩:=h
 obtain⟨k,hk1,rfl⟩:=List.mem_map.1 hk'
 obtain⟨hk2,hk3⟩:=List.mem_filter.1 hk1
 have hu:f.toks[k]?=some (f.toks[k]'(hk k hk2)):=List.getElem?_eq_getElem _
 rw[at_new hu hk3] at hm
 exact⟨k,hk2,by rw[hu];exact hm⟩
theorem last_sim {x x':Sc} {i:Nat} (hx:ScOk f.toks i x) (hi:i<=f.toks.length) (hK:Kin f.toks x) (h:RS f v x x') (ho:x.tk.op=0\/x.tk.op=4) {op:Int} (h0:0<=op) (hl:lastOp f.toks x<=op):lastOp (atF f v).toks x'<=op:=by
 unfold lastOp
 rw[h.kids]
 cases hg:((x.kids.filter (kp (camZ f) v)).map (rnk (camZ f) v)).getLast? with
 | none=>exact h0
 | some k' =>
  have hm:=List.mem_of_getLast? hg
  obtain⟨k,hk1,rfl⟩:=List.mem_map.1 hm
  obtain⟨hk2,hk3⟩:=List.mem_filter.1 hk1
  have hkl:k<f.toks.length:=by have:=hx.kid k hk2;omega
  have hu:f.toks[k]?=some (f.toks[k]'hkl):=List.getElem?_eq_getElem _
  simp only
  rw[at_new hu hk3]
  have:=hK.o ho k hk2 _ hu
  show (f.toks[k]'hkl).op<=op
  omega
end
section
variable {f:Fm} {v:Int} {i:Nat} {x x':Sc} {o o':List Sc} {t:Tk}
theorem RS.opE (h:RS f v x x'):x'.tk.op=x.tk.op:=by rw[h.tk];rfl
theorem RS.kidsAll (h:RS f v x x') (hx:∀ k∈x.kids,kp (camZ f) v k=true):x'.kids=x.kids.map (rnk (camZ f) v):=by
 rw[h.kids,List.filter_eq_self.2 hx]
theorem RS.nil_iff (h:RS f v x x') (ho:x.tk.op=10\/x.tk.op=12):x'.kids.length=0↔x.kids.length=0:=by
 rw[h.kids,List.length_map]
 cases hk:x.kids with
 | nil=>simp
 | cons k r =>
  have:=h.hd ho k (by rw[hk];rfl)
  rw[List.filter_cons,if_pos this]
  simp
theorem may_sim (hx:ScOk f.toks i x) (hi:i<=f.toks.length) (hK:Kin f.toks x) (h:RS f v x x') {op:Int} (hop:0<=op) (hm:mayB f.toks x op=true):mayB (atF f v).toks x' op=true:=by
 unfold mayB at hm ⊢
 rw[h.opE]
 by_cases h0:x.tk.op=0\/x.tk.op=4
 ·rw[if_pos h0] at hm ⊢
  simp only[Bool.or_eq_true,Bool.and_eq_true,decide_eq_true_eq] at hm ⊢
  rcases hm with hm|⟨hm,hl⟩
  ·exact .inl hm
  ·exact .inr ⟨hm,last_sim hx hi hK h h0 hop hl⟩
 rw[if_neg h0] at hm ⊢
 by_cases h2:x.tk.op=2
 ·rw[if_pos h2] at hm ⊢
  have:x'.kids.length=x.kids.length:=by rw[h.kidsAll (h.all (.inl h2)),List.length_map]
  rw[this]
  exact hm
 rw[if_neg h2] at hm ⊢
 by_cases h10:x.tk.op=10\/x.tk.op=12
 ·rw[if_pos h10] at hm ⊢
  have:=h.nil_iff h10
  simp only[Bool.or_eq_true,Bool.and_eq_true,decide_eq_true_eq,ne_eq] at hm ⊢
  rw[this]
  exact hm
 rw[if_neg h10] at hm ⊢
 exact hm
theorem new_sim (hx:ScOk f.toks i x) (hi:i<=f.toks.length) (h:RS f v x x') {ids ids':List Int} (hids:∀ d∈ids',d∈ids) (hn:newB f.toks ids x t=true):newB (atF f v).toks ids' x' (trnT f.toks (camZ f) v i t)=true:=by
 unfold newB at hn ⊢
 simp only[Bool.and_eq_true,Bool.not_eq_true'] at hn ⊢
 refine⟨⟨hn.1.1,?_⟩,?_⟩
 ·cases hc:ids'.contains (trnT f.toks (camZ f) v i t).id with
  | false=>rfl
  | true =>
   have h1:t.id∈ids:=hids _ (List.contains_iff_mem.1 hc)
   rw[List.contains_iff_mem.2 h1] at hn
   cases hn.1.2
 ·cases hc:nameIn (atF f v).toks x'.kids (trnT f.toks (camZ f) v i t).name with
  | false=>rfl
  | true =>
   rw[h.kids] at hc
   have h1:=name_sim (fun k hk=>by have:=hx.kid k hk;omega) hc
   rw[show nameIn f.toks x.kids t.name=true from h1] at hn
   cases hn.2
theorem row_sim (h:RS f v x x') (hl:t.since<=v) (hr:rowB f x t=true):rowB (atF f v) x' (trnT f.toks (camZ f) v i t)=true:=by
 unfold rowB at hr ⊢
 rw[h.opE]
 split at hr
 ·rename_i h4
  rw[if_pos h4]
  rw[h.tk]
  exact hr
 ·rename_i h4
  rw[if_neg h4]
  have h1:=betT hr
  rw[h.row (by omega)]
  exact decide_eq_true ⟨h1.1,hl⟩
theorem blk_sim (hz:chkZ f=none) (ht:f.toks[i]?=some t) (ho:t.op=0\/t.op=4) (hb:blkB t=true):blkB (trnT f.toks (camZ f) v i t)=true:=by
 unfold blkB at hb ⊢
 simp only[Bool.and_eq_true] at hb ⊢
 have h1:=betT hb.1
 have h2:=(blk_low hz v ht ho h1.1).1
 have e:(trnT f.toks (camZ f) v i t).blk=blkZ f.toks (camZ f) v i t:=by
  show (if t.op=0\/t.op=4 then _ else _)=_
  rw[if_pos ho]
 refine⟨decide_eq_true ⟨by rw[e];omega,?_⟩,hb.2⟩
 rw[e]
 show _<=t.full
 omega
theorem plc_sim (h:RS f v x x') (he:x'.e0=x.e0) (hp:plcB x t=true):plcB x' (trnT f.toks (camZ f) v i t)=true:=by
 have:plcB x' (trnT f.toks (camZ f) v i t)=plcB x t:=by
  unfold plcB codB memB
  rw[he,h.tk]
  rfl
 rw[this]
 exact hp
theorem enc_sim (h:RS f v x x') (he:x'.e0=x.e0) (hp:encB x t=true):encB x' (trnT f.toks (camZ f) v i t)=true:=by
 unfold encB at hp ⊢
 simp only[Bool.and_eq_true] at hp ⊢
 exact⟨⟨⟨plc_sim h he hp.1.1.1,hp.1.1.2⟩,hp.1.2⟩,hp.2⟩
theorem next_typ (hz:chkZ f=none) (ht:f.toks[i]?=some t) (ho:t.op=2) {u:Tk} (hu:f.toks[i+1]?=some u) (hv0:0<=v) (hk:kp (camZ f) v i=true):kp (camZ f) v (i+1)=true:=by
 have hb:bgO t.op=true:=by rw[ho];rfl
 have he:edO t.op=false:=by rw[ho];rfl
 have hs:(stA f (i+1)).open_=scNew i t::metL (stA f i).open_ i t:=by
  rw[stA_succ ht]
  unfold nxt
  rw[if_neg (by rw[he];decide),if_pos hb]
 have hin:=inOk_at hz hu hs
 have hpl:plainB u=true:=by
  have:=(val_ok hz hu).1
  exact okZ_plain this
 have hm:mayB f.toks (scNew i t) u.op=true:=by
  unfold inOk at hin
  simp only[Bool.and_eq_true] at hin
  exact hin.1.1.1
 have hty:tyO u.op=true:=by
  unfold mayB at hm
  have e:(scNew i t).tk.op=2:=ho
  rw[if_neg (by omega),if_pos e] at hm
  simp only[Bool.or_eq_true,Bool.and_eq_true,decide_eq_true_eq] at hm
  rcases hm with hm|hm
  ·exact hm.2
  ·exact absurd (show ([]:List Nat).length=1 from hm.1) (by decide)
 have hue:edO u.op=false:=by
  unfold tyO at hty
  rcases decT hty with e|e|e|e<;>rw[e]<;>rfl
 have hus:u.since=0:=pl_since hpl (by unfold tyO at hty;have:=decT hty;omega)
 rw[kp_in hz hu hue hs,hus]
 show (kp (camZ f) v i&&decide (0<=v))=true
 rw[hk,decide_eq_true hv0]
 rfl
theorem in_sim (hz:chkZ f=none) (ht:f.toks[i]?=some t) (ho:t.op=2) (hv0:0<=v) (hk:kp (camZ f) v i=true) (hxo:x.tk.op=0\/x.tk.op=4) (hst:(stA f i).open_=x::o) (h:RS f v x x') (he:x'.e0=x.e0) (hb:inB f.toks i x t=true):inB (atF f v).toks (rnk (camZ f) v i) x' (trnT f.toks (camZ f) v i t)=true:=by
 have hil:=(List.getElem?_eq_some_iff.1 ht).1
 unfold inB at hb ⊢
 simp only[Bool.and_eq_true] at hb ⊢
 refine⟨⟨hb.1.1,?_⟩,?_⟩
 ·have h2:=hb.1.2
  cases hu:f.toks[i+1]? with
  | none=>rw[hu] at h2;cases h2
  | some u =>
   rw[hu] at h2
   have hk1:=next_typ hz ht ho hu hv0 hk
   have h3:=at_new hu hk1
   rw[rnk_kp (by rw[camZ_length];exact hil) hk] at h3
   rw[h3]
   exact h2
 ·have h2:=hb.2
  show (if t.siz=0 then decide (t.off=0) else decide (0<t.siz/\x'.e0<=t.off/\t.off+t.siz<=x'.tk.blk))=true
  by_cases hs:t.siz=0
  ·rw[if_pos hs] at h2 ⊢
   exact h2
  ·rw[if_neg hs] at h2 ⊢
   have h3:=decT h2
   refine decide_eq_true ⟨h3.1,by rw[he];exact h3.2.1,?_⟩
   obtain⟨hok,H⟩:=val_ok hz ht
   have hx:=H.all x (by rw[hst];exact List.mem_cons_self ..)
   have hbk:x'.tk.blk=blkZ f.toks (camZ f) v x.at_ x.tk:=by
    rw[h.tk]
    show (if x.tk.op=0\/x.tk.op=4 then _ else _)=_
    rw[if_pos hxo]
   rw[hbk]
   have hmem:∃ j:Nat,(kidsZ f.toks x.at_)[j]?=some i:=kid_of hz ht (by rw[ho];rfl) hst
   obtain⟨j,hj⟩:=hmem
   exact(blk_low hz v hx.tk hxo hx.blk.1).2 j i t hj ht ho hs hk
end
section
variable {f:Fm} {v:Int} {i:Nat} {x x':Sc} {o o':List Sc} {t:Tk} {ids ids':List Int}
theorem fld_sim (hz:chkZ f=none) (ht:f.toks[i]?=some t) (ho:t.op=2) (hv0:0<=v) (hk:kp (camZ f) v i=true) (hl:t.since<=v) (hxo:x.tk.op=0\/x.tk.op=4) (hst:(stA f i).open_=x::o) (hx:ScOk f.toks i x) (hi:i<=f.toks.length) (h:RS f v x x') (hids:∀ d∈ids',d∈ids) (hb:fldB f ids i x t=true):fldB (atF f v) ids' (rnk (camZ f) v i) x' (trnT f.toks (camZ f) v i t)=true:=by
 have hrise:=fld_rise hb
 have hfl:=h.fld (by omega)
 have he:=h.e0 (fun _=>by omega)
 unfold fldB at hb ⊢
 simp only[Bool.and_eq_true] at hb ⊢
 refine⟨⟨new_sim hx hi h hids hb.1.1,decide_eq_true ⟨by rw[hfl];exact hrise.1,hl⟩⟩,?_⟩
 have h2:=hb.2
 show (if t.pres=0 then decide (t.since=x'.tk.since)&&inB _ _ x' _ else if t.pres=1 then inB _ _ x' _ else if t.pres=2 then decide (t.off=0/\t.siz=0/\t.cst.length≠0) else false)=true
 by_cases e0:t.pres=0
 ·rw[if_pos e0,Bool.and_eq_true] at h2 ⊢
  exact⟨by rw[h.tk];exact h2.1,in_sim hz ht ho hv0 hk hxo hst h he h2.2⟩
 rw[if_neg e0] at h2 ⊢
 by_cases e1:t.pres=1
 ·rw[if_pos e1] at h2 ⊢
  exact in_sim hz ht ho hv0 hk hxo hst h he h2
 rw[if_neg e1] at h2 ⊢
 exact h2
theorem cod_sim (H:Inv f i (stA f i)) (hst:(stA f i).open_=x::o) (hx:ScOk f.toks i x) (hi:i<=f.toks.length) (hkx:kp (camZ f) v x.at_=true) (h:RS f v x x') (ho:x.tk.op=10\/x.tk.op=12) (hne:x.kids≠[]):codP (atF f v).toks x'=codP f.toks x:=by
 have hn:=H.nest
 rw[hst] at hn
 obtain⟨hr,h14⟩:=hn.2.1 ho
 obtain⟨u,hu,-⟩:=h14 hne
 have hlx:x.kids.length≠0:=fun e=>hne (List.length_eq_zero_iff.1 e)
 have hk1:kp (camZ f) v (x.at_+1)=true:=by
  refine h.hd ho _ ?_
  cases hk:x.kids with
  | nil=>exact absurd hk hne
  | cons a r =>
   rw[hk] at hr
   have hlt:=hx.kid a (by rw[hk];exact List.mem_cons_self ..)
   obtain⟨n,hn⟩:∃ n,i-(x.at_+1)=n+1:=⟨i-(x.at_+1)-1,by omega⟩
   rw[hn,List.range'_succ] at hr
   cases hr
   rfl
 have h3:=at_new hu hk1
 rw[rnk_kp (by rw[camZ_length];have:=hx.lt;omega) hkx] at h3
 unfold codP
 rw[h.opE,h.at_,h3,hu,if_pos ⟨ho,fun e=>hlx ((h.nil_iff ho).1 e)⟩,if_pos ⟨ho,hlx⟩]
 rfl
theorem cho_sim (H:Inv f i (stA f i)) (hst:(stA f i).open_=x::o) (hx:ScOk f.toks i x) (hi:i<=f.toks.length) (hkx:kp (camZ f) v x.at_=true) (h:RS f v x x') (ho:x.tk.op=10\/x.tk.op=12) (hne:x.kids≠[]) (hc:choB f.toks x t=true):choB (atF f v).toks x' (trnT f.toks (camZ f) v i t)=true:=by
 have htl:x'.kids.tail=(x.kids.tail.filter (kp (camZ f) v)).map (rnk (camZ f) v):=by
  rw[h.kids]
  cases hk:x.kids with
  | nil=>exact absurd hk hne
  | cons a r =>
   have:=h.hd ho a (by rw[hk];rfl)
   rw[List.filter_cons,if_pos this]
   rfl
 have hkl:∀ k∈x.kids.tail,k<f.toks.length:=fun k hk=>by have:=hx.kid k (List.mem_of_mem_tail hk);omega
 unfold choB at hc ⊢
 rw[cod_sim H hst hx hi hkx h ho hne,h.opE]
 simp only[Bool.and_eq_true,Bool.not_eq_true'] at hc ⊢
 refine⟨⟨⟨hc.1.1.1,?_⟩,?_⟩,hc.2⟩
 ·cases hn:nameIn (atF f v).toks x'.kids.tail (trnT f.toks (camZ f) v i t).name with
  | false=>rfl
  | true =>
   rw[htl] at hn
   rw[show nameIn f.toks x.kids.tail t.name=true from name_sim hkl hn] at hc
   cases hc.1.1.2
 ·cases hn:valIn (atF f v).toks x'.kids.tail (trnT f.toks (camZ f) v i t).val with
  | false=>rfl
  | true =>
   rw[htl] at hn
   rw[show valIn f.toks x.kids.tail t.val=true from val_sim hkl hn] at hc
   cases hc.1.2
theorem in_take (hz:chkZ f=none) (hv0:0<=v) (ht:f.toks[i]?=some t) (he:edO t.op=false) (hst:(stA f i).open_=x::o) (hk:kp (camZ f) v i=true) (h:RS f v x x') (hR:RO f v (x::o) (x'::o')) (hids:∀ d∈ids',d∈(stA f i).ids):inOk (atF f v) (x'::o') ids' (rnk (camZ f) v i) x' (trnT f.toks (camZ f) v i t)=true:=by
 have hin:=inOk_at hz ht hst
 obtain⟨hok,H⟩:=val_ok hz ht
 have hxm:x∈(stA f i).open_:=by rw[hst];exact List.mem_cons_self ..
 have hx:=H.all x hxm
 have hil:=(List.getElem?_eq_some_iff.1 ht).1
 have hi:i<=f.toks.length:=by omega
 have hK:=(kin_at hz i hi x hxm).1
 rw[kp_in hz ht he hst,Bool.and_eq_true] at hk
 have hkx:=hk.1
 have hl:=decT hk.2
 have hk':kp (camZ f) v i=true:=by rw[kp_in hz ht he hst,hkx,hk.2];rfl
 obtain⟨hm,hp,hs,h3,h4,hr⟩:=inOk_in hin he
 have hop:0<=t.op:=by
  rcases may_typ hm he hx.beg with ⟨_,h,_⟩|⟨_,_,h⟩|⟨_,h⟩|⟨_,h⟩
  ·unfold ptO at h;have:=decT h;omega
  ·unfold tyO at h;have:=decT h;omega
  ·unfold tyO at h;have:=decT h;omega
  ·omega
 have hm':=may_sim hx hi hK h hop hm
 unfold inOk
 simp only[Bool.and_eq_true]
 refine⟨⟨⟨hm',plain_trn hp⟩,hs⟩,?_⟩
 show (if edO t.op then _ else _)=true
 rw[if_neg (by rw[he];decide),Bool.and_eq_true]
 refine⟨?_,?_⟩
 ·show (if bgO t.op then _ else _)=true
  split
  ·rename_i hb
   exact pair_sim hz hk' hb (h3 hb)
  ·rename_i hb
   have:=h4 (by simpa using hb)
   refine decide_eq_true ?_
   show ((rnk (camZ f) v t.pair.toNat:Nat):Int)=_
   rw[this]
   rfl
 ·have htyp:=may_typ hm he hx.beg
  unfold rulB at hr ⊢
  show (if t.op=2 then _ else _)=true
  by_cases e2:t.op=2
  ·rw[if_pos e2] at hr ⊢
   have hxo:x.tk.op=0\/x.tk.op=4:=by
    rcases htyp with ⟨h,_⟩|⟨_,_,h⟩|⟨_,h⟩|⟨_,h⟩
    ·exact h
    ·unfold tyO at h;have:=decT h;omega
    ·unfold tyO at h;have:=decT h;omega
    ·omega
   exact fld_sim hz ht e2 hv0 hk' hl hxo hst hx hi h hids hr
  rw[if_neg e2] at hr ⊢
  show (if t.op=4 then _ else _)=true
  by_cases e4:t.op=4
  ·rw[if_pos e4] at hr ⊢
   unfold grpB at hr ⊢
   simp only[Bool.and_eq_true] at hr ⊢
   have hd:=dep_sim 4 hR
   refine⟨⟨⟨⟨⟨⟨?_,new_sim hx hi h hids hr.1.1.1.1.1.2⟩,row_sim h hl hr.1.1.1.1.2⟩,blk_sim hz ht (.inr e4) hr.1.1.1.2⟩,hr.1.1.2⟩,hr.1.2⟩,hr.2⟩
   have:=decT hr.1.1.1.1.1.1
   exact decide_eq_true (by omega)
  rw[if_neg e4] at hr ⊢
  show (if t.op=6 then _ else _)=true
  by_cases e6:t.op=6
  ·rw[if_pos e6] at hr ⊢
   unfold datB at hr ⊢
   simp only[Bool.and_eq_true] at hr ⊢
   exact⟨⟨⟨⟨⟨new_sim hx hi h hids hr.1.1.1.1.1,row_sim h hl hr.1.1.1.1.2⟩,hr.1.1.1.2⟩,hr.1.1.2⟩,hr.1.2⟩,hr.2⟩
  rw[if_neg e6] at hr ⊢
  have hxt:¬ (x.tk.op=0\/x.tk.op=4):=fun hx0=>by
   rcases htyp with ⟨_,h,_⟩|⟨h,_⟩|⟨h,_⟩|⟨h,_⟩
   ·unfold ptO at h;have:=decT h;omega
   ·omega
   ·omega
   ·omega
  have he0:=h.e0 (fun h=>absurd h hxt)
  show (if t.op=8 then _ else _)=true
  by_cases e8:t.op=8
  ·rw[if_pos e8] at hr ⊢
   unfold cmpB at hr ⊢
   simp only[Bool.and_eq_true] at hr ⊢
   have hd:=dep_sim 8 hR
   have:=decT hr.1
   exact⟨decide_eq_true (by omega),plc_sim h he0 hr.2⟩
  rw[if_neg e8] at hr ⊢
  show (if t.op=10\/t.op=12 then _ else _)=true
  by_cases e10:t.op=10\/t.op=12
  ·rw[if_pos e10] at hr ⊢
   exact plc_sim h he0 hr
  rw[if_neg e10] at hr ⊢
  show (if t.op=14 then _ else _)=true
  by_cases e14:t.op=14
  ·rw[if_pos e14] at hr ⊢
   exact enc_sim h he0 hr
  rw[if_neg e14] at hr ⊢
  have hxe:(x.tk.op=10\/x.tk.op=12)/\x.kids≠[]:=by
   rcases htyp with ⟨_,h,_⟩|⟨_,_,h⟩|⟨_,h⟩|⟨h,h'⟩
   ·unfold ptO at h;have:=decT h;omega
   ·unfold tyO at h;have:=decT h;omega
   ·unfold tyO at h;have:=decT h;omega
   ·rcases h' with ⟨_,h'⟩|⟨h',_⟩
    ·omega
    ·exact⟨h,h'⟩
  exact cho_sim H hst hx hi hkx h hxe.1 hxe.2 hr
end
end Go.Proofs.YtcgimchhcaankaaGreatDoor
