import Derived.Test.YtahogajcbncjhaaGreatDoorK30
import Derived.Test.YtahogajcbncjhaaGreatDoorK28
namespace Go.Proofs.YtahogajcbncjhaaGreatDoor
section
variable {f:Fm} {v:Int}
theorem sim_stA (hz:chkZ f=none) (hv:fstV f<=v/\v<=f.ver):∀ i,i<=f.toks.length->RSt f v (stA f i) (stA (atF f v) (rnk (camZ f) v i)):=by
 intro i
 induction i with
 | zero=>intro _;exact⟨rfl,fun d hd=>(by cases hd)⟩
 | succ i ih =>
  intro hi
  obtain⟨t,ht⟩:∃ t,f.toks[i]?=some t:=⟨f.toks[i],List.getElem?_eq_getElem (by omega)⟩
  have hs:=sim_step hz hv ht (ih (by omega))
  rw[stA_succ ht]
  have hcl:i<(camZ f).length:=by rw[camZ_length];omega
  cases hk:kp (camZ f) v i with
  | false =>
   rw[hk,if_neg (by decide)] at hs
   rw[rnk_no hcl hk]
   exact hs
  | true =>
   rw[hk,if_pos rfl] at hs
   rw[rnk_kp hcl hk,stA_succ (at_new ht hk)]
   exact hs.2
theorem open_sim (hz:chkZ f=none) (hv:fstV f<=v/\v<=f.ver) {i:Nat} (hi:i<=f.toks.length) {x:Sc} {o:List Sc} (hx:(stA f i).open_=x::o) (hk:kp (camZ f) v x.at_=true):∃ x' o',(stA (atF f v) (rnk (camZ f) v i)).open_=x'::o'/\RS f v x x':=by
 have h:=(sim_stA hz hv i hi).op
 rw[hx,ro_cons hk,if_pos rfl] at h
 obtain⟨x',o',h1,h2,-⟩:=h
 exact⟨x',o',h1,h2⟩
theorem cam_sim (hz:chkZ f=none) (hv:fstV f<=v/\v<=f.ver):∀ n i,i<n->i<f.toks.length->kp (camZ f) v i=true->(camZ (atF f v)).getD (rnk (camZ f) v i) 0=(camZ f).getD i 0:=by
 have hz':=atF_valid hz hv
 intro n
 induction n with
 | zero=>intro i h;omega
 | succ n ih =>
  intro i h hil hk
  obtain⟨t,ht⟩:∃ t,f.toks[i]?=some t:=⟨f.toks[i],List.getElem?_eq_getElem hil⟩
  have ht':=at_new ht hk
  obtain⟨hok,H⟩:=val_ok hz ht
  cases hst:(stA f i).open_ with
  | nil =>
   have hok':okZ f ⟨[],(stA f i).ids⟩ i t=true:=by
    cases hs:stA f i with
    | mk a b=>rw[hs] at hok hst;simp only at hst;subst hst;exact hok
   obtain⟨rfl,hop,-⟩:=okZ_nil hok'
   have h1:=camZ_get ht
   have h2:=camZ_get ht'
   rw[getD_of h1]
   have h2:(camZ (atF f v))[rnk (camZ f) v 0]?=some (camS (stkD ((atF f v).toks.take 0) []) (trnT f.toks (camZ f) v 0 t)).1:=h2
   rw[getD_of h2]
   rfl
  | cons x o =>
   have hxm:x∈(stA f i).open_:=by rw[hst];exact List.mem_cons_self ..
   have hlt:=(H.all x hxm).lt
   cases he:edO t.op with
   | true =>
    have hkx:kp (camZ f) v x.at_=true:=(kp_end hz ht he hst v).symm.trans hk
    obtain⟨x',o',h1,h2⟩:=open_sim hz hv (by omega) hst hkx
    rw[came_end hz ht he hst,came_end hz' ht' he h1,h2.at_]
    exact ih x.at_ (by omega) (by omega) hkx
   | false =>
    have hki:=kp_in hz ht he hst v
    rw[hk] at hki
    have hkx:kp (camZ f) v x.at_=true:=by
     have:=hki.symm
     rw[Bool.and_eq_true] at this
     exact this.1
    obtain⟨x',o',h1,h2⟩:=open_sim hz hv (by omega) hst hkx
    rw[came_in hz ht he hst,came_in hz' ht' he h1,h2.at_,ih x.at_ (by omega) (by omega) hkx]
    rfl
theorem camG (hz:chkZ f=none) (hv:fstV f<=v/\v<=f.ver) {i:Nat} (hil:i<f.toks.length) (hk:kp (camZ f) v i=true):(camZ (atF f v)).getD (rnk (camZ f) v i) 0=(camZ f).getD i 0:=cam_sim hz hv (i+1) i (by omega) hil hk
theorem kp_sim (hz:chkZ f=none) (hv:fstV f<=v/\v<=f.ver) (u:Int) {i:Nat} (hil:i<f.toks.length) (hk:kp (camZ f) v i=true):kp (camZ (atF f v)) u (rnk (camZ f) v i)=kp (camZ f) u i:=by
 unfold kp
 rw[camG hz hv hil hk]
theorem kp_le {C:List Nat} {u:Int} (hu:u<=v) {i:Nat} (h:kp C u i=true):kp C v i=true:=by
 have:=decT h
 exact decide_eq_true (by omega)
theorem rnk_comp (hz:chkZ f=none) (hv:fstV f<=v/\v<=f.ver) {u:Int} (hu:u<=v):∀ n,n<=f.toks.length->rnk (camZ (atF f v)) u (rnk (camZ f) v n)=rnk (camZ f) u n:=by
 intro n
 induction n with
 | zero=>intro _;rfl
 | succ n ih =>
  intro hn
  have ih:=ih (by omega)
  have hcl:n<(camZ f).length:=by rw[camZ_length];omega
  cases hk:kp (camZ f) v n with
  | false =>
   have hku:kp (camZ f) u n=false:=by
    cases h:kp (camZ f) u n with
    | false=>rfl
    | true=>rw[kp_le hu h] at hk;cases hk
   rw[rnk_no hcl hk,rnk_no hcl hku,ih]
  | true =>
   have hl':rnk (camZ f) v n<(camZ (atF f v)).length:=by
    rw[camZ_length,new_len]
    exact rnk_lt hcl hk (by omega)
   have hs:=kp_sim hz hv u (by omega) hk
   rw[rnk_kp hcl hk]
   cases hku:kp (camZ f) u n with
   | false=>rw[rnk_no hl' (hs.trans hku),rnk_no hcl hku,ih]
   | true=>rw[rnk_kp hl' (hs.trans hku),rnk_kp hcl hku,ih]
theorem kids_sim (hz:chkZ f=none) (hv:fstV f<=v/\v<=f.ver) {b:Nat} {t:Tk} (ht:f.toks[b]?=some t) (hg:bgO t.op=true) (hk:kp (camZ f) v b=true):kidsZ (atF f v).toks (rnk (camZ f) v b)=((kidsZ f.toks b).filter (kp (camZ f) v)).map (rnk (camZ f) v):=by
 have hz':=atF_valid hz hv
 obtain⟨m,x,o,h1,h2,-,h4,h5,h6,h7,-⟩:=close_at hz ht hg
 obtain⟨m',y,o',g1,g2,-,g4,g5,g6,g7,-⟩:=close_at hz' (at_new ht hk) (show bgO t.op=true from hg)
 have hm:m'=rnk (camZ f) v m:=by
  have:((rnk (camZ f) v t.pair.toNat:Nat):Int)=(m':Int):=g1
  rw[h1,Int.toNat_natCast] at this
  omega
 subst hm
 obtain⟨x',o'',e1,e2⟩:=open_sim hz hv (by omega) h4 (by rw[h5];exact hk)
 rw[g4] at e1
 cases e1
 rw[g7,e2.kids,h7]
theorem fstB_none {l:List Tk} {C:List Nat} {v:Int}:∀ {ks:List Nat},(∀ k∈ks,newB' l C v k=false)->fstB l C v ks=none
 | [],_=>rfl
 | k::r,h=>by
  rw[fstB,if_neg (by rw[h k (List.mem_cons_self ..)];decide)]
  exact fstB_none fun x hx=>h x (List.mem_cons_of_mem _ hx)
theorem fstB_all {l:List Tk} {C:List Nat} {v:Int}:∀ {ks:List Nat},fstB l C v ks=none->∀ k∈ks,newB' l C v k=false
 | [],_,k,hk=>by cases hk
 | a::r,h,k,hk=>by
  rw[fstB] at h
  split at h
  ·cases h
  ·rename_i hn
   rcases List.mem_cons.1 hk with rfl|hk
   ·simpa using hn
   ·exact fstB_all h k hk
theorem fstB_app {l:List Tk} {C:List Nat} {v:Int}:∀ {a:List Nat} {k:Nat} {r:List Nat},(∀ x∈a,newB' l C v x=false)->newB' l C v k=true->fstB l C v (a++k::r)=some (offAt l k)
 | [],k,r,_,h=>by rw[List.nil_append,fstB,if_pos h]
 | x::a,k,r,h,h'=>by
  rw[List.cons_append,fstB,if_neg (by rw[h x (List.mem_cons_self ..)];decide)]
  exact fstB_app (fun y hy=>h y (List.mem_cons_of_mem _ hy)) h'
theorem fstB_cut {l:List Tk} {C:List Nat} {v:Int}:∀ {ks:List Nat} {z:Int},fstB l C v ks=some z->∃ a k r,ks=a++k::r/\(∀ x∈a,newB' l C v x=false)/\newB' l C v k=true/\z=offAt l k
 | [],_,h=>by cases h
 | x::ks,z,h=>by
  rw[fstB] at h
  split at h
  ·rename_i hn
   cases h
   exact⟨[],x,ks,rfl,fun y hy=>(by cases hy),hn,rfl⟩
  ·rename_i hn
   obtain⟨a,k,r,rfl,h1,h2,h3⟩:=fstB_cut h
   refine⟨x::a,k,r,rfl,fun y hy=>?_,h2,h3⟩
   rcases List.mem_cons.1 hy with rfl|hy
   ·simpa using hn
   ·exact h1 y hy
def szB (l:List Tk) (k:Nat):Bool:=match l[k]? with
 | some u=>decide (u.op=2) && !decide (u.siz=0)
 | none=>false
theorem newB_eq (l:List Tk) (C:List Nat) (v:Int) (k:Nat):newB' l C v k=(szB l k && !kp C v k):=by
 unfold newB' szB kp
 cases l[k]? with
 | none=>rfl
 | some u =>
  simp only
  rw[Bool.and_assoc]
  congr 2
  rw[Bool.eq_iff_iff]
  simp
theorem sz_sim {k:Nat} (hkl:k<f.toks.length) (hk:kp (camZ f) v k=true):szB (atF f v).toks (rnk (camZ f) v k)=szB f.toks k/\offAt (atF f v).toks (rnk (camZ f) v k)=offAt f.toks k:=by
 have hu:f.toks[k]?=some (f.toks[k]'hkl):=List.getElem?_eq_getElem _
 unfold szB offAt
 rw[at_new hu hk,hu]
 exact⟨rfl,rfl⟩
theorem sz_front (hz:chkZ f=none) {b:Nat} {t:Tk} (ht:f.toks[b]?=some t) (hg:bgO t.op=true) (hkb:kp (camZ f) v b=true) {a:List Nat} {k:Nat} {r:List Nat} (hks:kidsZ f.toks b=a++k::r) (h1:szB f.toks k=true) (h2:kp (camZ f) v k=false):∀ x∈r,szB f.toks x=true->kp (camZ f) v x=false:=by
 intro x hx hs
 cases hkx:kp (camZ f) v x with
 | false=>rfl
 | true =>
  exfalso
  obtain⟨j,hj⟩:=List.getElem?_of_mem hx
  have hj':(kidsZ f.toks b)[a.length+(j+1)]?=some x:=by
   rw[hks,List.getElem?_append_right (by omega),show a.length+(j+1)-a.length=j+1 by omega]
   exact hj
  obtain⟨hkl,y,o,e1,e2,e3,e4,e5,e6⟩:=kids_met hz ht hg hj'
  have hkm:k∈y.kids:=by
   rw[e4]
   refine List.mem_of_getElem? (i:=a.length) ?_
   rw[List.getElem?_take,if_pos (by omega),hks,List.getElem?_append_right (Nat.le_refl _),Nat.sub_self]
   rfl
  have hku:∃ u,f.toks[k]?=some u/\u.op=2:=by
   unfold szB at h1
   cases hu:f.toks[k]? with
   | none=>rw[hu] at h1;cases h1
   | some u =>
    rw[hu] at h1
    simp only[Bool.and_eq_true] at h1
    exact⟨u,rfl,decT h1.1⟩
  have hxu:∃ u,f.toks[x]?=some u/\u.op=2:=by
   unfold szB at hs
   cases hu:f.toks[x]? with
   | none=>rw[hu] at hs;cases hs
   | some u =>
    rw[hu] at hs
    simp only[Bool.and_eq_true] at hs
    exact⟨u,rfl,decT hs.1⟩
  obtain⟨u,hu,hu2⟩:=hku
  obtain⟨w,hw,hw2⟩:=hxu
  have h3:=e5.f k hkm u hu hu2
  have h4:=(fld_rise (rul_fld (inOk_at hz hw e1) hw2)).1
  have hke:=kp_in hz hw (by rw[hw2];rfl) e1 v
  rw[hkx,e2,hkb,Bool.true_and] at hke
  have h5:=decT hke.symm
  have hj2:(kidsZ f.toks b)[a.length]?=some k:=by
   rw[hks,List.getElem?_append_right (Nat.le_refl _),Nat.sub_self]
   rfl
  obtain⟨-,y2,o2,d1,d2,-⟩:=kids_met hz ht hg hj2
  have hke2:=kp_in hz hu (by rw[hu2];rfl) d1 v
  rw[h2,d2,hkb,Bool.true_and] at hke2
  have h6:=of_decide_eq_false hke2.symm
  omega
theorem blk_comp (hz:chkZ f=none) (hv:fstV f<=v/\v<=f.ver) {u:Int} (hu:u<=v) {b:Nat} {t:Tk} (ht:f.toks[b]?=some t) (ho:t.op=0\/t.op=4) (hk:kp (camZ f) v b=true):blkZ (atF f v).toks (camZ (atF f v)) u (rnk (camZ f) v b) (trnT f.toks (camZ f) v b t)=blkZ f.toks (camZ f) u b t:=by
 have hg:bgO t.op=true:=by rcases ho with e|e<;>rw[e]<;>rfl
 have hbk:(trnT f.toks (camZ f) v b t).blk=blkZ f.toks (camZ f) v b t:=by
  show (if t.op=0\/t.op=4 then _ else _)=_
  rw[if_pos ho]
 have hkl:∀ k∈kidsZ f.toks b,k<f.toks.length:=fun k hk=>by
  obtain⟨j,hj⟩:=List.getElem?_of_mem hk
  exact(kids_met hz ht hg hj).1
 have new:∀ k∈kidsZ f.toks b,kp (camZ f) v k=true->newB' (atF f v).toks (camZ (atF f v)) u (rnk (camZ f) v k)=newB' f.toks (camZ f) u k:=fun k hm hk=>by
  rw[newB_eq,newB_eq,(sz_sim (hkl k hm) hk).1,kp_sim hz hv u (hkl k hm) hk]
 have mem:∀ k'∈((kidsZ f.toks b).filter (kp (camZ f) v)).map (rnk (camZ f) v),∃ k∈kidsZ f.toks b,kp (camZ f) v k=true/\k'=rnk (camZ f) v k:=fun k' h=>by
  obtain⟨k,h1,rfl⟩:=List.mem_map.1 h
  obtain⟨h2,h3⟩:=List.mem_filter.1 h1
  exact⟨k,h2,h3,rfl⟩
 unfold blkZ
 rw[kids_sim hz hv ht hg hk,hbk]
 cases hf:fstB f.toks (camZ f) u (kidsZ f.toks b) with
 | none =>
  have h1:=fstB_all hf
  rw[fstB_none fun k' hk'=>by
   obtain⟨k,m1,m2,rfl⟩:=mem k' hk'
   rw[new k m1 m2]
   exact h1 k m1]
  show blkZ f.toks (camZ f) v b t=t.blk
  unfold blkZ
  rw[fstB_none fun k hk'=>by
   have:=h1 k hk'
   rw[newB_eq] at this ⊢
   cases hs:szB f.toks k with
   | false=>rfl
   | true =>
    rw[hs,Bool.true_and] at this
    rw[kp_le (v:=v) hu (by simpa using this)]
    rfl]
  rfl
 | some z =>
  obtain⟨a,k,r,hks,h1,h2,rfl⟩:=fstB_cut hf
  have hkm:k∈kidsZ f.toks b:=by rw[hks];simp
  have ham:∀ x∈a,x∈kidsZ f.toks b:=fun x hx=>by rw[hks];simp[hx]
  have hrm:∀ x∈r,x∈kidsZ f.toks b:=fun x hx=>by rw[hks];simp[hx]
  have h2':=h2
  rw[newB_eq,Bool.and_eq_true] at h2'
  cases hkv:kp (camZ f) v k with
  | true =>
   rw[hks,List.filter_append,List.filter_cons,if_pos hkv,List.map_append,List.map_cons]
   rw[fstB_app (fun k' hk'=>by
    obtain⟨y,y1,rfl⟩:=List.mem_map.1 hk'
    obtain⟨y2,y3⟩:=List.mem_filter.1 y1
    rw[new y (ham y y2) y3]
    exact h1 y y2) (by rw[new k hkm hkv];exact h2)]
   simp only[Option.getD_some]
   exact(sz_sim (hkl k hkm) hkv).2
  | false =>
   have hfr:=sz_front hz ht hg hk hks h2'.1 hkv
   rw[fstB_none fun k' hk'=>by
    obtain⟨y,m1,m2,rfl⟩:=mem k' hk'
    rw[new y m1 m2]
    rw[hks] at m1
    rcases List.mem_append.1 m1 with m1|m1
    ·exact h1 y m1
    ·rcases List.mem_cons.1 m1 with rfl|m1
     ·rw[hkv] at m2;cases m2
     ·rw[newB_eq]
      cases hs:szB f.toks y with
      | false=>rfl
      | true=>rw[hfr y m1 hs] at m2;cases m2]
   show blkZ f.toks (camZ f) v b t=offAt f.toks k
   unfold blkZ
   rw[hks,fstB_app (fun y hy=>by
    have:=h1 y hy
    rw[newB_eq] at this ⊢
    cases hs:szB f.toks y with
    | false=>rfl
    | true =>
     rw[hs,Bool.true_and] at this
     rw[kp_le (v:=v) hu (by simpa using this)]
     rfl) (by rw[newB_eq,h2'.1,hkv];rfl)]
   rfl
theorem trn_comp (hz:chkZ f=none) (hv:fstV f<=v/\v<=f.ver) {u:Int} (hu:u<=v) {b:Nat} {t:Tk} (ht:f.toks[b]?=some t) (hk:kp (camZ f) v b=true):trnT (atF f v).toks (camZ (atF f v)) u (rnk (camZ f) v b) (trnT f.toks (camZ f) v b t)=trnT f.toks (camZ f) u b t:=by
 have hp:rnk (camZ (atF f v)) u (trnT f.toks (camZ f) v b t).pair.toNat=rnk (camZ f) u t.pair.toNat:=by
  show rnk _ u (((rnk (camZ f) v t.pair.toNat:Nat):Int)).toNat=_
  rw[Int.toNat_natCast]
  refine rnk_comp hz hv hu _ ?_
  rcases val_tok hz ht with ⟨-,-,x,o,-,e,e2⟩|⟨-,-,m,e,-,e2⟩|⟨-,-,e,-⟩
  ·have:=(List.getElem?_eq_some_iff.1 ht).1;omega
  ·omega
  ·have:=(List.getElem?_eq_some_iff.1 ht).1;omega
 have hb:(if (trnT f.toks (camZ f) v b t).op=0\/(trnT f.toks (camZ f) v b t).op=4 then blkZ (atF f v).toks (camZ (atF f v)) u (rnk (camZ f) v b) (trnT f.toks (camZ f) v b t) else (trnT f.toks (camZ f) v b t).blk)=(if t.op=0\/t.op=4 then blkZ f.toks (camZ f) u b t else t.blk):=by
  show (if t.op=0\/t.op=4 then _ else (if t.op=0\/t.op=4 then _ else t.blk))=_
  split
  ·rename_i ho
   exact blk_comp hz hv hu ht ho hk
  ·rfl
 unfold trnT at hp hb ⊢
 simp only at hp hb ⊢
 rw[hp,hb]
theorem kep_comp (hz:chkZ f=none) (hv:fstV f<=v/\v<=f.ver) {u:Int} (hu:u<=v):∀ n,n<=f.toks.length->kepF (atF f v).toks (camZ (atF f v)) u (rnk (camZ f) v n)=kepF f.toks (camZ f) u n:=by
 intro n
 induction n with
 | zero=>intro _;rfl
 | succ n ih =>
  intro hn
  have ih:=ih (by omega)
  have hcl:n<(camZ f).length:=by rw[camZ_length];omega
  obtain⟨t,ht⟩:∃ t,f.toks[n]?=some t:=⟨f.toks[n],List.getElem?_eq_getElem (by omega)⟩
  have hc:(camZ f)[n]?=some ((camZ f)[n]'hcl):=List.getElem?_eq_getElem _
  rw[kepF_succ ht hc]
  have hkd:∀ w:Int,kp (camZ f) w n=decide ((((camZ f)[n]'hcl:Nat):Int)<=w):=fun w=>by unfold kp;rw[getD_of hc]
  cases hk:kp (camZ f) v n with
  | false =>
   rw[hkd] at hk
   have:=of_decide_eq_false hk
   rw[rnk_no hcl (by rw[hkd];exact hk),ih,if_neg (by omega),List.append_nil]
  | true =>
   have hl':rnk (camZ f) v n<(camZ (atF f v)).length:=by
    rw[camZ_length,new_len]
    exact rnk_lt hcl hk (by omega)
   have hc':(camZ (atF f v))[rnk (camZ f) v n]?=some ((camZ f)[n]'hcl):=by
    have h1:=camG hz hv (by omega) hk
    rw[getD_of hc] at h1
    have h2:(camZ (atF f v))[rnk (camZ f) v n]?=some ((camZ (atF f v))[rnk (camZ f) v n]'hl'):=List.getElem?_eq_getElem _
    rw[getD_of h2] at h1
    rw[h2,h1]
   rw[rnk_kp hcl hk,kepF_succ (at_new ht hk) hc',ih,trn_comp hz hv hu ht hk]
theorem fst_sim (hz:chkZ f=none) (hv:fstV f<=v/\v<=f.ver):fstV (atF f v)=fstV f:=by
 obtain⟨t0,ht0,hop⟩:=first_msg hz
 have hf:fstV f=t0.since:=by unfold fstV;rw[ht0]
 have hk:kp (camZ f) v 0=true:=by
  have h1:=camZ_get ht0
  unfold kp
  rw[getD_of h1]
  have h5:edO t0.op=false:=by rw[hop];rfl
  have h3:=val_since hz ht0
  unfold camS
  rw[if_neg (by rw[h5];decide)]
  refine decide_eq_true ?_
  show ((max 0 t0.since.toNat:Nat):Int)<=v
  omega
 have h1:(atF f v).toks[0]?=some (trnT f.toks (camZ f) v 0 t0):=at_new ht0 hk
 unfold fstV
 rw[h1,ht0]
 rfl
theorem at_comp (hz:chkZ f=none) (hv:fstV f<=v/\v<=f.ver) {u:Int} (hu:u<=v):atE (atF f v) u=atE f u/\atG (atF f v) u=atG f u:=by
 have hz':=atF_valid hz hv
 have h1:atE (atF f v) u=atE f u:=by
  unfold atE
  rw[if_pos hz',if_pos hz,fst_sim hz hv]
  have e:(atF f v).ver=v:=rfl
  rw[e]
  by_cases h:fstV f<=u
  ·rw[if_pos ⟨h,hu⟩,if_pos ⟨h,by omega⟩]
  ·rw[if_neg (fun hh=>h hh.1),if_neg (fun hh=>h hh.1)]
 refine⟨h1,?_⟩
 unfold atG
 rw[h1]
 split
 ·have h2:=kep_comp hz hv hu f.toks.length (Nat.le_refl _)
  rw[<- new_len (f:=f) (v:=v)] at h2
  show ({ (atF f v) with ver:=u,toks:=kepF (atF f v).toks (camZ (atF f v)) u (atF f v).toks.length }:Fm)={ f with ver:=u,toks:=kepF f.toks (camZ f) u f.toks.length }
  rw[h2]
  rfl
 ·rfl
end
def toldB (op:Int):Bool:=decide (op=0\/op=2\/op=4\/op=6\/op=15)
def snF (l:List Tk) (i:Nat):Nat->Int
 | 0=>0
 | n+1=>match l[n]? with
  | some t=>if (n=i\/(i:Int)<t.pair)/\toldB t.op=true then max (snF l i n) t.since else snF l i n
  | none=>snF l i n
theorem snF_nonneg (l:List Tk) (i:Nat):∀ n,0<=snF l i n
 | 0=>Int.le_refl _
 | n+1=>by
  have:=snF_nonneg l i n
  rw[snF]
  split
  ·split
   ·omega
   ·exact this
  ·exact this
theorem snF_mono (l:List Tk) (i:Nat) {m n:Nat} (h:m<=n):snF l i m<=snF l i n:=by
 induction n with
 | zero=>rw[show m=0 by omega];exact Int.le_refl _
 | succ n ih =>
  rcases Nat.lt_or_ge m (n+1) with h1|h1
  ·have ih:=ih (by omega)
   rw[snF]
   split
   ·split
    ·omega
    ·exact ih
   ·exact ih
  ·rw[show m=n+1 by omega];exact Int.le_refl _
theorem snF_ge {l:List Tk} {i k n:Nat} {t:Tk} (ht:l[k]?=some t) (hk:k<n) (h1:k=i\/(i:Int)<t.pair) (h2:toldB t.op=true):t.since<=snF l i n:=by
 have h:=snF_mono l i (m:=k+1) (n:=n) hk
 rw[snF,ht] at h
 simp only at h
 rw[if_pos ⟨h1,h2⟩] at h
 omega
theorem snF_le {l:List Tk} {i:Nat} {c:Int} (hc:0<=c):∀ n,(∀ k t,k<n->l[k]?=some t->(k=i\/(i:Int)<t.pair)->toldB t.op=true->t.since<=c)->snF l i n<=c
 | 0,_=>hc
 | n+1,h=>by
  have ih:=snF_le hc n fun k t hk=>h k t (by omega)
  rw[snF]
  cases ht:l[n]? with
  | none=>exact ih
  | some t =>
   simp only
   split
   ·rename_i hh
    have:=h n t (by omega) ht hh.1 hh.2
    omega
   ·exact ih
def mxO:List Sc->Nat
 | []=>0
 | y::r=>max (mxO r) y.tk.since.toNat
theorem mxO_met (o:List Sc) (i:Nat) (t:Tk):mxO (metL o i t)=mxO o:=by
 cases o with
 | nil=>rfl
 | cons x r=>rfl
theorem mxO_ge {o:List Sc}:∀ {y},y∈o->y.tk.since.toNat<=mxO o:=by
 induction o with
 | nil=>intro y h;cases h
 | cons x r ih =>
  intro y h
  rw[mxO]
  rcases List.mem_cons.1 h with rfl|h
  ·omega
  ·have:=ih h
   omega
theorem mxO_is:∀ (o:List Sc),mxO o=0\/∃ y∈o,mxO o=y.tk.since.toNat
 | []=>.inl rfl
 | x::r=>by
  rw[mxO]
  rcases Nat.le_total (mxO r) x.tk.since.toNat with h|h
  ·exact .inr ⟨x,List.mem_cons_self ..,by omega⟩
  ·rcases mxO_is r with h1|⟨y,h1,h2⟩
   ·exact .inl (by omega)
   ·exact .inr ⟨y,List.mem_cons_of_mem _ h1,by omega⟩
section
variable {f:Fm}
def CamO (f:Fm):List Sc->Prop
 | []=>True
 | y::r=>(camZ f).getD y.at_ 0=mxO (y::r)/\CamO f r
theorem CamO.met {o:List Sc} (h:CamO f o) (i:Nat) (t:Tk):CamO f (metL o i t):=by
 cases o with
 | nil=>exact h
 | cons x r=>exact h
theorem camO_at (hz:chkZ f=none):∀ i,i<=f.toks.length->CamO f (stA f i).open_/\Cls f.toks i (stA f i).open_:=by
 intro i
 induction i with
 | zero=>intro _;exact⟨trivial,fun b t hb=>by omega⟩
 | succ i ih =>
  intro hi
  obtain⟨h1,h2⟩:=ih (by omega)
  obtain⟨t,ht⟩:∃ t,f.toks[i]?=some t:=⟨f.toks[i],List.getElem?_eq_getElem (by omega)⟩
  obtain⟨hok,H⟩:=val_ok hz ht
  have hsr:∀ i,i<=f.toks.length->Srt (stA f i).open_:=by
   intro i
   induction i with
   | zero=>intro _ y hy;cases hy
   | succ i ih =>
    intro hi
    obtain⟨t,ht⟩:∃ t,f.toks[i]?=some t:=⟨f.toks[i],List.getElem?_eq_getElem (by omega)⟩
    rw[stA_succ ht]
    exact srt_step (val_ok hz ht).2 (ih (by omega))
  have hc:=cls_step H ht hok (hsr i (by omega)) h2
  rw[stA_succ ht]
  refine⟨?_,hc⟩
  unfold nxt
  cases he:edO t.op with
  | true =>
   rw[if_pos rfl]
   cases hso:(stA f i).open_ with
   | nil=>trivial
   | cons x r=>rw[hso] at h1;exact h1.2
  | false =>
   rw[if_neg (by decide)]
   show CamO f (if bgO t.op=true then scNew i t::metL (stA f i).open_ i t else metL (stA f i).open_ i t)
   split
   ·refine⟨?_,h1.met i t⟩
    show (camZ f).getD i 0=max (mxO (metL (stA f i).open_ i t)) t.since.toNat
    rw[mxO_met]
    have h3:=camZ_get ht
    rw[stk_open hz i (by omega)] at h3
    rw[getD_of h3]
    unfold camS
    rw[if_neg (by rw[he];decide)]
    show max (((stA f i).open_.map _).headD 0) t.since.toNat=_
    cases hso:(stA f i).open_ with
    | nil=>rfl
    | cons x r =>
     rw[hso] at h1
     show max ((camZ f).getD x.at_ 0) t.since.toNat=_
     rw[h1.1]
   ·exact h1.met i t
theorem came_mx (hz:chkZ f=none) {i:Nat} {t:Tk} (ht:f.toks[i]?=some t) (he:edO t.op=false):(camZ f).getD i 0=max (mxO (stA f i).open_) t.since.toNat:=by
 have hil:=(List.getElem?_eq_some_iff.1 ht).1
 have h1:=(camO_at hz i (by omega)).1
 have h3:=camZ_get ht
 rw[stk_open hz i (by omega)] at h3
 rw[getD_of h3]
 unfold camS
 rw[if_neg (by rw[he];decide)]
 show max (((stA f i).open_.map _).headD 0) t.since.toNat=_
 cases hso:(stA f i).open_ with
 | nil=>rfl
 | cons x r =>
  rw[hso] at h1
  show max ((camZ f).getD x.at_ 0) t.since.toNat=_
  rw[h1.1]
theorem told_since (hz:chkZ f=none) {i:Nat} {t:Tk} (ht:f.toks[i]?=some t) (h:toldB t.op=false):t.since=0 :=
 pl_since (okZ_plain (val_ok hz ht).1) (of_decide_eq_false h)
theorem sn_in (hz:chkZ f=none) {i:Nat} {t:Tk} (ht:f.toks[i]?=some t) (he:edO t.op=false):snF f.toks i (i+1)=(((camZ f).getD i 0:Nat):Int):=by
 have hil:=(List.getElem?_eq_some_iff.1 ht).1
 rw[came_mx hz ht he]
 obtain⟨hok,H⟩:=val_ok hz ht
 have hcl:=(camO_at hz i (by omega)).2
 have hst:=val_since hz ht
 apply Int.le_antisymm
 ·refine snF_le (by omega) _ fun k u hk hu h1 h2=>?_
  rcases h1 with rfl|h1
  ·rw[ht] at hu
   cases hu
   omega
  ·rcases Nat.lt_or_ge k i with hki|hki
   ·have hb:bgO u.op=true:=by
     rcases val_tok hz hu with ⟨-,-,x,o,-,e,e2⟩|⟨-,h,-⟩|⟨-,-,e,-⟩
     ·omega
     ·exact h
     ·omega
    rcases hcl k u hki hu hb with ⟨y,hy,hyk⟩|⟨n,ks,e1,e2,-⟩
    ·have hyt:=(H.all y hy).tk
     rw[hyk,hu] at hyt
     have hyt:y.tk=u:=by cases hyt;rfl
     have:=mxO_ge hy
     rw[hyt] at this
     omega
    ·omega
   ·rw[show k=i by omega,ht] at hu
    cases hu
    omega
 ·have hown:t.since<=snF f.toks i (i+1):=by
   cases h2:toldB t.op with
   | true=>exact snF_ge ht (by omega) (.inl rfl) h2
   | false=>rw[told_since hz ht h2];exact snF_nonneg _ _ _
  have hop:((mxO (stA f i).open_:Nat):Int)<=snF f.toks i (i+1):=by
   rcases mxO_is (stA f i).open_ with h|⟨y,hy,h⟩
   ·rw[h];exact snF_nonneg _ _ _
   ·rw[h]
    have hx:=H.all y hy
    have hys:=val_since hz hx.tk
    have hle:y.tk.since<=snF f.toks i (i+1):=by
     cases h2:toldB y.tk.op with
     | false=>rw[told_since hz hx.tk h2];exact snF_nonneg _ _ _
     | true =>
      refine snF_ge hx.tk (by have:=hx.lt;omega) (.inr ?_) h2
      have h3:=hx.le
      obtain⟨n,u,e1,e2,e3,e4,e5,-⟩:=pairB_get hx.pr
      have hne:n≠i:=fun e=>by
       subst e
       rw[ht] at e4
       cases e4
       rw[e5,edO_succ hx.beg] at he
       cases he
      omega
    omega
  omega
def mnF (l:List Tk) (C:List Nat) (v:Int):Int->List Nat->Int
 | w,[]=>w
 | w,k::r=>mnF l C v (if newB' l C v k then min w (offAt l k) else w) r
theorem mnF_none {l:List Tk} {C:List Nat} {v:Int}:∀ {ks:List Nat} {w:Int},(∀ k∈ks,newB' l C v k=true->w<=offAt l k)->mnF l C v w ks=w
 | [],_,_=>rfl
 | k::r,w,h=>by
  rw[mnF]
  have:(if newB' l C v k then min w (offAt l k) else w)=w:=by
   split
   ·rename_i hn
    have:=h k (List.mem_cons_self ..) hn
    omega
   ·rfl
  rw[this]
  exact mnF_none fun x hx=>h x (List.mem_cons_of_mem _ hx)
theorem mnF_app {l:List Tk} {C:List Nat} {v:Int}:∀ (a b:List Nat) (w:Int),mnF l C v w (a++b)=mnF l C v (mnF l C v w a) b
 | [],_,_=>rfl
 | k::a,b,w=>by rw[List.cons_append,mnF,mnF,mnF_app a b]
theorem mn_blk (hz:chkZ f=none) (v:Int) {b:Nat} {t:Tk} (ht:f.toks[b]?=some t) (ho:t.op=0\/t.op=4):mnF f.toks (camZ f) v t.blk (kidsZ f.toks b)=blkZ f.toks (camZ f) v b t:=by
 have hg:bgO t.op=true:=by rcases ho with e|e<;>rw[e]<;>rfl
 have szu:∀ k,newB' f.toks (camZ f) v k=true->∃ u,f.toks[k]?=some u/\u.op=2/\u.siz≠0/\offAt f.toks k=u.off:=fun k hn=>by
  unfold newB' at hn
  cases hu:f.toks[k]? with
  | none=>rw[hu] at hn;cases hn
  | some u =>
   rw[hu] at hn
   simp only[Bool.and_eq_true,Bool.not_eq_true',decide_eq_true_eq,decide_eq_false_iff_not] at hn
   exact⟨u,rfl,hn.1,hn.2.1,by unfold offAt;rw[hu]⟩
 unfold blkZ
 cases hf:fstB f.toks (camZ f) v (kidsZ f.toks b) with
 | none =>
  have h1:=fstB_all hf
  rw[mnF_none fun k hk hn=>by rw[h1 k hk] at hn;cases hn]
  rfl
 | some z =>
  obtain⟨a,k,r,hks,h1,h2,rfl⟩:=fstB_cut hf
  obtain⟨u,hu,hu2,hus,huo⟩:=szu k h2
  have hj:(kidsZ f.toks b)[a.length]?=some k:=by
   rw[hks,List.getElem?_append_right (Nat.le_refl _),Nat.sub_self]
   rfl
  obtain⟨-,x,o,e1,e2,e3,e4,e5,e6⟩:=kids_met hz ht hg hj
  have hfs:=fld_siz (rul_fld (inOk_at hz hu e1) hu2) hus
  rw[e3] at hfs
  have hA:mnF f.toks (camZ f) v t.blk a=t.blk:=mnF_none fun y hy hn=>by rw[h1 y hy] at hn;cases hn
  rw[hks,mnF_app,hA,mnF,if_pos h2]
  have hmin:min t.blk (offAt f.toks k)=offAt f.toks k:=by omega
  rw[hmin]
  rw[mnF_none fun y hy hn=>?_]
  ·rfl
  ·obtain⟨w,hw,hw2,hws,hwo⟩:=szu y hn
   obtain⟨j,hjy⟩:=List.getElem?_of_mem hy
   have hj':(kidsZ f.toks b)[a.length+(j+1)]?=some y:=by
    rw[hks,List.getElem?_append_right (by omega),show a.length+(j+1)-a.length=j+1 by omega]
    exact hjy
   obtain⟨-,x2,o2,d1,d2,d3,d4,d5,d6⟩:=kids_met hz ht hg hj'
   have hkm:k∈x2.kids:=by
    rw[d4]
    refine List.mem_of_getElem? (i:=a.length) ?_
    rw[List.getElem?_take,if_pos (by omega)]
    exact hj
   have h3:=d5.e (by rw[d3];exact ho) k hkm u hu hu2 hus
   have h4:=fld_siz (rul_fld (inOk_at hz hw d1) hw2) hws
   omega
end
end Go.Proofs.YtahogajcbncjhaaGreatDoor
