import Derived.Test.YtjlbcdnkglaheaaGreatDoorK03
namespace Go.Proofs.YtjlbcdnkglaheaaGreatDoor
set_option maxRecDepth 1000000
set_option maxHeartbeats 16000000
theorem bgn_took {f:Fm} {b:Nat} {t:Tk} (hz:chkZ f=none) (ht:f.toks[b]?=some t) (hg:bgO t.op=true):∃ n ks,Bgn f.toks b n t ks/\Took f b t ks:=by
 obtain⟨n,ks,h1,h2,h3,h4,h5,h6⟩:=valid_took hz ht hg
 refine⟨n,ks,⟨ht,h1,h2,?_,h3,h4,h5⟩,h6⟩
 cases ks with
 | nil=>have:b+1=n:=h3;omega
 | cons k r=>have:=h4 k (List.mem_cons_self ..);omega
structure Blk (f:Fm) (p n:Nat) (t:Tk) (ks:List Nat):Prop where
 bg:Bgn f.toks p n t ks
 op:t.op=0\/t.op=4
 kop:∀ k∈ks,∃ u,f.toks[k]?=some u/\(u.op=2\/u.op=4\/u.op=6)
theorem blk_of {f:Fm} {p:Nat} {t:Tk} (hz:chkZ f=none) (ht:f.toks[p]?=some t) (ho:t.op=0\/t.op=4):∃ n ks,Blk f p n t ks:=by
 have hg:bgO t.op=true:=by rcases ho with h|h<;>rw[h]<;>rfl
 obtain⟨n,ks,h1,h2⟩:=bgn_took hz ht hg
 refine⟨n,ks,h1,ho,fun k hk=>?_⟩
 have hkl:k<f.toks.length:=by have:=(h1.kn k hk).2;have:=h1.nl;omega
 exact⟨f.toks[k],List.getElem?_eq_getElem hkl,block_ops h2 ho hk (List.getElem?_eq_getElem hkl)⟩
theorem opAt_some {l:List Tk} {i:Nat} {t:Tk} (h:l[i]?=some t):opAt l i=t.op:=by unfold opAt;rw[h]
theorem nmAt_some {l:List Tk} {i:Nat} {t:Tk} (h:l[i]?=some t):nmAt l i=t.name:=by unfold nmAt;rw[h]
theorem bpAt_some {l:List Tk} {i:Nat} {t:Tk} (h:l[i]?=some t):bpAt l i=t.b.p:=by unfold bpAt;rw[h]
theorem Blk.row {f:Fm} {p n:Nat} {t:Tk} {ks:List Nat} (h:Blk f p n t ks) {q:Nat} (hq:q∈rowZ f.toks p):∃ u,f.toks[q]?=some u/\(u.op=4\/u.op=6)/\p<q/\q<n:=by
 unfold rowZ at hq
 rw[h.bg.kids] at hq
 obtain⟨h1,h2⟩:=List.mem_filter.1 hq
 obtain⟨u,hu,ho⟩:=h.kop q h1
 rw[opAt_some hu] at h2
 simp at h2
 exact⟨u,hu,by omega,h.bg.kn q h1⟩
theorem rowZ_length {f:Fm} {p n:Nat} {t:Tk} {ks:List Nat} (h:Blk f p n t ks):(rowZ f.toks p).length<=n:=by
 unfold rowZ
 rw[h.bg.kids]
 have:=List.length_filter_le (fun i=>!decide (opAt f.toks i=2)) ks
 have:=rise_length h.bg.up (fun k hk=>(h.bg.kn k hk).2)
 omega
theorem LvOk.blk {f:Fm} {x:Lv} (hz:chkZ f=none) (h:LvOk f.toks x) (h0:x.p<f.toks.length):∃ n t ks,Blk f x.p n t ks:=by
 have ht:f.toks[x.p]?=some f.toks[x.p]:=List.getElem?_eq_getElem h0
 have ho:=h.op
 rw[opAt_some ht] at ho
 obtain⟨n,ks,hb⟩:=blk_of hz ht ho
 exact⟨n,_,ks,hb⟩
theorem leaveR_suffix (l:List Tk):∀ o:List Lv,∃ a,o=a++leaveR l o/\(o≠[]->leaveR l o≠[])/\∀ x∈a,overB l x=true
 | []=>⟨[],rfl,fun h=>h,fun x hx=>by cases hx⟩
 | [x]=>⟨[],rfl,fun h=>h,fun x hx=>by cases hx⟩
 | x::y::r=>by
  rw[leaveR]
  split
  ·rename_i hx
   obtain⟨a,h1,h2,h3⟩:=leaveR_suffix l (y::r)
   refine⟨x::a,by rw[List.cons_append,<- h1],fun _=>h2 (by simp),fun z hz=>?_⟩
   rcases List.mem_cons.1 hz with rfl|hz
   ·exact hx
   ·exact h3 z hz
  ·exact⟨[],rfl,fun h=>h,fun x hx=>by cases hx⟩
theorem leaveR_ok {l:List Tk} {s:Ms} (h:MsOk l s):MsOk l ⟨leaveR l s.op,s.ent⟩:=by
 obtain⟨a,h1,h2,h3⟩:=leaveR_suffix l s.op
 have hs:∀ x∈leaveR l s.op,x∈s.op:=fun x hx=>by rw[h1];exact List.mem_append_right _ hx
 refine⟨h2 h.ne,fun x hx=>h.all x (hs x hx),h.e0,h.e1,fun x r e hb=>?_,fun x hx=>?_,?_,?_⟩
 ·cases a with
  | nil =>
   rw[List.nil_append] at h1
   exact h.bot x r (by rw[h1];exact e) hb
  | cons y a =>
   have:x.begun=true:=h.fst x (by rw[h1,List.cons_append,List.tail_cons];have e':leaveR l s.op=x::r:=e;rw[e'];simp)
   rw[hb] at this;cases this
 ·refine h.fst x ?_
  have hx:x∈(leaveR l s.op).tail:=hx
  rw[h1]
  cases a with
  | nil=>exact hx
  | cons y a=>rw[List.cons_append,List.tail_cons];exact List.mem_append_right _ (List.mem_of_mem_tail hx)
 ·have:=h.len
  have e:=congrArg List.length h1
  rw[List.length_append] at e
  show (leaveR l s.op).length<=1+s.ent.toNat
  omega
 ·exact botB_leave l h.bt
theorem memZ_some {l:List Tk} {x:Lv} {k:Int} {nm:ByteArray} {q:Nat} (h:memZ l x k nm=some q):x.begun=true/\(rowZ l x.p)[x.come]?=some q/\knd (opAt l q)=k/\nmAt l q=nm:=by
 unfold memZ at h
 split at h
 ·rename_i hb
  split at h
  ·rename_i q' hq
   split at h
   ·rename_i hk
    cases h
    exact⟨hb,hq,hk⟩
   ·cases h
  ·cases h
 ·cases h
def InF (l:List Tk) (s:Ms):Prop:=∀ x∈s.op,x.p<l.length
theorem step_ok {f:Fm} (hz:chkZ f=none) {s:Ms} (h:MsOk f.toks s) (hi:InF f.toks s) (k cnt:Int) (nm:ByteArray):MsOk f.toks (stepZ f.toks s k cnt nm).2/\InF f.toks (stepZ f.toks s k cnt nm).2:=by
 have key:∀ x r,leaveR f.toks s.op=x::r->MsOk f.toks ⟨x::r,s.ent⟩/\InF f.toks ⟨x::r,s.ent⟩:=fun x r e=>by
  have:=leaveR_ok h
  rw[e] at this
  obtain⟨a,h1,_⟩:=leaveR_suffix f.toks s.op
  exact⟨this,fun y hy=>hi y (by rw[h1,e];exact List.mem_append_right _ hy)⟩
 unfold stepZ
 split
 ·exact⟨h,hi⟩
 ·by_cases hk0:k=0
  ·rw[if_pos hk0]
   split
   ·exact⟨h,hi⟩
   ·rw[if_pos hk0];exact⟨h,hi⟩
  ·rw[if_neg hk0]
   split
   ·exact⟨h,hi⟩
   ·rename_i x r e
    obtain⟨hx,hxi⟩:=key x r e
    have hxa:=hx.all x (List.mem_cons_self ..)
    rw[if_neg hk0]
    split
    ·split
     ·exact⟨h,hi⟩
     ·rename_i hnn
      refine⟨⟨by simp,fun y hy=>?_,hx.e0,hx.e1,fun y r' e hb=>?_,fun y hy=>hx.fst y hy,hx.len,botB_head hx.bt fun e=>absurd (.inl (by have:=hx.bt;rw[e] at this;exact this.1)) hnn⟩,fun y hy=>?_⟩
      ·rcases List.mem_cons.1 hy with rfl|hy
       ·exact⟨hxa.op,Nat.zero_le _,by have:=hxa.l0;show 0<=x.left-1;omega,by have:=hxa.l1;show x.left-1<=_;omega⟩
       ·exact hx.all y (List.mem_cons_of_mem _ hy)
      ·simp only[List.cons.injEq] at e
       rw[<- e.1] at hb
       cases hb
      ·rcases List.mem_cons.1 hy with rfl|hy
       ·exact hxi x (List.mem_cons_self ..)
       ·exact hxi y (List.mem_cons_of_mem _ hy)
    ·split
     ·exact⟨h,hi⟩
     ·rename_i q hm
      obtain⟨hb,hq,hkn,hnq⟩:=memZ_some hm
      have hql:=(List.getElem?_eq_some_iff.1 hq).1
      have hx1:LvOk f.toks ⟨x.p,x.left,x.begun,x.come+1⟩:=⟨hxa.op,by show x.come+1<=(rowZ f.toks x.p).length;omega,hxa.l0,hxa.l1⟩
      have ht1:∀ y∈(⟨x.p,x.left,x.begun,x.come+1⟩::r:List Lv),LvOk f.toks y/\y.p<f.toks.length:=fun y hy=>by
       rcases List.mem_cons.1 hy with rfl|hy
       ·exact⟨hx1,hxi x (List.mem_cons_self ..)⟩
       ·exact⟨hx.all y (List.mem_cons_of_mem _ hy),hxi y (List.mem_cons_of_mem _ hy)⟩
      have hr1:∀ y∈r,y.begun=true:=fun y hy=>hx.fst y hy
      have hbt:r=[]->x.left=0/\x.begun=true:=fun e=>by have:=hx.bt;rw[e] at this;exact this
      split
      ·refine⟨⟨by simp,fun y hy=>(ht1 y hy).1,hx.e0,hx.e1,fun y r' e hb'=>?_,hr1,by have:=hx.len;simpa using this,botB_head hx.bt hbt⟩,fun y hy=>(ht1 y hy).2⟩
       simp only[List.cons.injEq] at e
       rw[<- e.1] at hb'
       rw[show (Lv.mk x.p x.left x.begun (x.come+1)).begun=x.begun from rfl,hb] at hb'
       cases hb'
      ·rename_i hk3
       split
       ·exact⟨h,hi⟩
       ·rename_i hc1
        split
        ·exact⟨h,hi⟩
        ·rename_i hc2
         have he0:=hx.e0
         have he1:=hx.e1
         have hln:=hx.len
         simp only[List.length_cons] at he0 he1 hln
         split
         ·rename_i hc3
          obtain⟨n,t,ks,hbk⟩:=hxa.blk hz (hxi x (List.mem_cons_self ..))
          obtain⟨u,hu,huo,hpq,hqn⟩:=hbk.row (List.mem_of_getElem? hq)
          have hu4:u.op=4:=by
           rcases huo with e|e
           ·exact e
           ·rw[opAt_some hu,e] at hkn
            have:(3:Int)=k:=hkn
            omega
          refine⟨⟨by simp,fun y hy=>?_,by show 0<=s.ent+cnt;omega,by show s.ent+cnt<=_;omega,fun y r' e hb'=>?_,fun y hy=>?_,?_,(botB_cons (x:=⟨q,cnt,false,0⟩)).2 (botB_head hx.bt hbt)⟩,fun y hy=>?_⟩
          ·rcases List.mem_cons.1 hy with rfl|hy
           ·exact⟨.inr (by rw[opAt_some hu];exact hu4),Nat.zero_le _,by show 0<=cnt;omega,by show cnt<=_;omega⟩
           ·exact(ht1 y hy).1
          ·simp only[List.cons_append,List.nil_append,List.cons.injEq] at e
           rw[<- e.2];simp
          ·rcases List.mem_cons.1 hy with rfl|hy
           ·exact hb
           ·exact hr1 y hy
          ·show r.length+1+1<=1+(s.ent+cnt).toNat
           omega
          ·rcases List.mem_cons.1 hy with rfl|hy
           ·have:=(List.getElem?_eq_some_iff.1 hu).1;exact this
           ·exact(ht1 y hy).2
         ·refine⟨⟨by simp,fun y hy=>(ht1 y hy).1,by show 0<=s.ent+cnt;omega,by show s.ent+cnt<=_;omega,fun y r' e hb'=>?_,hr1,?_,botB_head hx.bt hbt⟩,fun y hy=>(ht1 y hy).2⟩
          ·simp only[List.nil_append,List.cons.injEq] at e
           rw[<- e.1] at hb'
           rw[show (Lv.mk x.p x.left x.begun (x.come+1)).begun=x.begun from rfl,hb] at hb'
           cases hb'
          ·show r.length+1<=1+(s.ent+cnt).toNat
           omega
theorem new_ok {f:Fm} (hz:chkZ f=none):MsOk f.toks newZ/\InF f.toks newZ:=by
 obtain⟨t,ht,ho⟩:=first_msg hz
 refine⟨⟨by simp[newZ],fun x hx=>?_,by decide,by decide,fun x r e hb=>?_,fun x hx=>by simp[newZ] at hx,by simp[newZ],⟨rfl,rfl⟩⟩,fun x hx=>?_⟩
 ·obtain rfl:=List.mem_singleton.1 hx
  exact⟨.inl (by rw[opAt_some ht];exact ho),Nat.zero_le _,by decide,by decide⟩
 ·simp[newZ] at e
  rw[<- e.1] at hb
  cases hb
 ·obtain rfl:=List.mem_singleton.1 hx
  exact(List.getElem?_eq_some_iff.1 ht).1
open Go.ChangeShapes Go.WideShapes Go.ChangeAt Go.RowKit
theorem ret_int {k:IntKind} {a b:Int} (h:a=b):Ending.returned (.int k a) = .returned (.int k b):=by rw[h]
theorem ret_bool {a b:Bool} (h:a=b):Ending.returned (.bool a) = .returned (.bool b):=by rw[h]
theorem bcell {W w1:World} (hb:Below W.heap.size W w1):(∀ b o,b<W.heap.size->w1.cell? ⟨b,o,none⟩=W.cell? ⟨b,o,none⟩)/\(∀ b o,b<W.heap.size->w1.frozen? ⟨b,o,none⟩=W.frozen? ⟨b,o,none⟩) :=
 ⟨fun b o h=>hb.cell (p:=⟨b,o,none⟩) h,fun b o h=>hb.frozen (p:=⟨b,o,none⟩) h⟩
theorem bel1 (w:World) (o:Obj):Below w.heap.size w (w.alloc o):=(Below.refl _ _).alloc (Nat.le_refl _) _
abbrev kV (s r n m x:Int):Value:=.agg #[.int .i64 s,.int .i64 r,.int .u64 n,.int .u64 m,.int .u64 x]
structure KT (w:World):Prop where
 pos:0<w.heap.size
 size:∀ p:Nat,p<11->w.cell? ⟨0,5*p,none⟩=some (.int .i64 (sz p))
 reading:∀ p:Nat,p<11->w.cell? ⟨0,5*p+1,none⟩=some (.int .i64 (rd p))
 null:∀ p:Nat,p<11->w.cell? ⟨0,5*p+2,none⟩=some (.int .u64 (nl p))
 least:∀ p:Nat,p<11->w.cell? ⟨0,5*p+3,none⟩=some (.int .u64 (mn p))
 most:∀ p:Nat,p<11->w.cell? ⟨0,5*p+4,none⟩=some (.int .u64 (mx p))
theorem KT.below {w w':World} (h:KT w) {B:Nat} (hB:0<B) (hb:Below B w w'):KT w' :=
 ⟨Nat.lt_of_lt_of_le h.pos hb.size,fun p hp=>(hb.cell (p:=⟨0,5*p,none⟩) hB).trans (h.size p hp),fun p hp=>(hb.cell (p:=⟨0,5*p+1,none⟩) hB).trans (h.reading p hp),
  fun p hp=>(hb.cell (p:=⟨0,5*p+2,none⟩) hB).trans (h.null p hp),fun p hp=>(hb.cell (p:=⟨0,5*p+3,none⟩) hB).trans (h.least p hp),fun p hp=>(hb.cell (p:=⟨0,5*p+4,none⟩) hB).trans (h.most p hp)⟩
theorem kindOf_out (p:Int) (w:World) (h:p<0\/11<=p) :
  Calls Tryz.prog 60 #[.int .i64 p] w fun e w'=>e = .returned (kV 0 0 0 0 0)/\Below w.heap.size w w':=by
 rcases h with h|h
 ·go_enter Tryz.func60,Tryz.ntmps60
  go_wp2
  exact bodyPost_ret (v:=kV 0 0 0 0 0) (by simp[results,Tryz.results60,go_sem]) rfl ⟨rfl,bel1 _ _⟩
 ·have h':¬ p<0:=by omega
  go_enter Tryz.func60,Tryz.ntmps60
  go_wp2
  exact bodyPost_ret (v:=kV 0 0 0 0 0) (by simp[results,Tryz.results60,go_sem]) rfl ⟨rfl,bel1 _ _⟩
theorem kindOf_in (q:Nat) (s r n m x:Int) (w:World) (hq:q<11) (hp:0<w.heap.size) (h0:w.cell? ⟨0,5*q,none⟩=some (.int .i64 s)) (h1:w.cell? ⟨0,5*q+1,none⟩=some (.int .i64 r))
  (h2:w.cell? ⟨0,5*q+2,none⟩=some (.int .u64 n)) (h3:w.cell? ⟨0,5*q+3,none⟩=some (.int .u64 m)) (h4:w.cell? ⟨0,5*q+4,none⟩=some (.int .u64 x)) :
  Calls Tryz.prog 60 #[.int .i64 q] w fun e w'=>e = .returned (kV s r n m x)/\Below w.heap.size w w':=by
 have hc:q=0\/q=1\/q=2\/q=3\/q=4\/q=5\/q=6\/q=7\/q=8\/q=9\/q=10:=by omega
 rcases hc with rfl|rfl|rfl|rfl|rfl|rfl|rfl|rfl|rfl|rfl|rfl
 all_goals
  simp only[Nat.mul_zero,Nat.zero_add,Nat.reduceMul,Nat.reduceAdd] at h0 h1 h2 h3 h4
  go_enter Tryz.func60,Tryz.ntmps60
  go_wp2
  exact bodyPost_ret (v:=kV s r n m x) (by simp[results,Tryz.results60,go_sem]) rfl ⟨rfl,bel1 _ _⟩
theorem kindOf_any (p:Int) (w:World) (h:KT w) :
  Calls Tryz.prog 60 #[.int .i64 p] w fun e w'=>e = .returned (kV (sz p) (rd p) (nl p) (mn p) (mx p))/\Below w.heap.size w w':=by
 by_cases hp:p<0\/11<=p
 ·have e:kV (sz p) (rd p) (nl p) (mn p) (mx p)=kV 0 0 0 0 0:=by unfold sz rd nl mn mx;rw[kRow_out p hp]
  rw[e];exact kindOf_out p w hp
 ·obtain⟨q,rfl⟩:∃ q:Nat,p=q:=⟨p.toNat,by omega⟩
  exact kindOf_in q _ _ _ _ _ w (by omega) h.pos (h.size q (by omega)) (h.reading q (by omega)) (h.null q (by omega)) (h.least q (by omega)) (h.most q (by omega))
theorem word_any (s r n m x b:Int) (w:World) (hk:KOk s r) (hs:s≠0) (hb:0<=b) (hb':b<18446744073709551616) :
  Calls Tryz.prog 100 #[kV s r n m x,.int .u64 b] w fun e w'=>e = .returned (.int .u64 (wordF s r b))/\Below w.heap.size w w':=by
 rcases hk with ⟨rfl,rfl⟩|⟨rfl,rfl⟩|⟨rfl,rfl⟩|⟨rfl,rfl⟩|⟨rfl,rfl⟩|⟨rfl,rfl⟩|⟨rfl,rfl⟩|⟨rfl,rfl⟩|⟨rfl,rfl⟩|⟨rfl,rfl⟩|⟨rfl,rfl⟩
 ·exact absurd rfl hs
 all_goals
  clear hs
  go_enter Tryz.func100,Tryz.ntmps100
  go_wp2
  go_ret
  refine⟨ret_int ?_,bel1 _ _⟩
  simp only[IntKind.wrap_u64,wrap64,wordF,pw,if_true,if_false,Int.reduceEq,false_and,true_and]
  try split
  all_goals omega
theorem fits_any (s r n m x b:Int) (w:World) (hk:KOk s r) (hb:0<=b) (hb':b<18446744073709551616) :
  Calls Tryz.prog 61 #[kV s r n m x,.int .u64 b] w fun e w'=>e = .returned (.bool (fitsF s r b))/\Below w.heap.size w w':=by
 by_cases hs:s=0
 ·subst hs
  go_enter Tryz.func61,Tryz.ntmps61
  go_wp2
  go_ret
  exact⟨ret_bool rfl,(bel1 _ _).alloc (by simp) _⟩
 ·have hpos:0<s:=by unfold KOk at hk;omega
  have e:fitsF s r b=(wordF s r b==b):=by unfold fitsF;rw[decide_eq_true hpos];rfl
  rw[e]
  have hk':Hid (KOk s r):=hk
  clear hk e
  go_enter Tryz.func61,Tryz.ntmps61
  go_wp2_with (first|(go_at_call 100;refine(word_any _ _ _ _ _ _ _ hk'.out hs hb hb').mono ?_;rintro e w' ⟨rfl,hbl⟩)|(go_at_call 99;go_in))
  go_ret
  exact⟨rfl,((bel1 _ _).alloc (by simp) _).trans (hbl.mono (by simp;omega))⟩
theorem field0 (s r n m x:Int) (w:World):(Instr.field 148 (kV s r n m x) 0).run Tryz.prog w = .ok (.int .i64 s) w:=by kernel_rfl
theorem field4 (s r n m x:Int) (w:World):(Instr.field 148 (kV s r n m x) 4).run Tryz.prog w = .ok (.int .u64 x) w:=by kernel_rfl
theorem Fits_any (p b:Int) (w:World) (h:KT w) (hb:0<=b) (hb':b<18446744073709551616):Calls Tryz.prog 35 #[.int .i64 p,.int .u64 b] w fun e w'=>e = .returned (.bool (fitsF (sz p) (rd p) b))/\Below w.heap.size w w':=by
 go_enter Tryz.func35,Tryz.ntmps35
 go_wp2_with (first|(go_at_call 60;refine(kindOf_any _ _ h).mono ?_;rintro e w' ⟨rfl,hbl⟩)|(go_at_call 61;refine(fits_any _ _ _ _ _ _ _ (kok p) hb hb').mono ?_;rintro e w1 ⟨rfl,hbl1⟩))
 go_ret
 exact⟨rfl,hbl.trans (hbl1.mono hbl.size)⟩
open Go.Shelf
abbrev spV (s:Sp):Value:=.agg #[.int .i64 s.p,.int .i64 s.o]
theorem rb {a b:Bool} (h:a=b):Ending.returned (.bool a) = .returned (.bool b):=by rw[h]
theorem isBetween_any (n a b:Int) (w:World):Calls Tryz.prog 74 #[.int .i64 n,.int .i64 a,.int .i64 b] w fun r w'=>r = .returned (.bool (bet n a b))/\w'=w:=by
 unfold bet
 by_cases h:a<=n
 ·have d:decide (a<=n)=true:=decide_eq_true h
  go_enter Tryz.func74,Tryz.ntmps74
  go_wp2_with fail
  go_ret
  exact⟨rb (by simp[h]),rfl⟩
 ·have d:decide (a<=n)=false:=decide_eq_false h
  go_enter Tryz.func74,Tryz.ntmps74
  go_wp2_with fail
  go_ret
  exact⟨rb (by simp),rfl⟩
theorem isNumber_any (p:Int) (w:World):Calls Tryz.prog 112 #[.int .i64 p] w fun r w'=>r = .returned (.bool (numB p))/\w'=w:=by
 unfold numB
 by_cases h5:p=5
 ·subst h5
  go_enter Tryz.func112,Tryz.ntmps112
  go_wp2_with fail
  go_ret
  exact⟨rfl,rfl⟩
 have d5:(p==5)=false:=beq_eq_false_iff_ne.2 h5
 by_cases h6:p=6
 ·subst h6
  go_enter Tryz.func112,Tryz.ntmps112
  go_wp2_with fail
  go_ret
  exact⟨rfl,rfl⟩
 have d6:(p==6)=false:=beq_eq_false_iff_ne.2 h6
 go_enter Tryz.func112,Tryz.ntmps112
 go_wp2_with fail
 go_ret
 exact⟨rb (by rw[Bool.eq_iff_iff];simp[h5,h6]),rfl⟩
theorem size_any (p:Int) (w:World) (h:KT w):Calls Tryz.prog 59 #[.int .i64 p] w fun e w'=>e = .returned (.int .i64 (sz p))/\Below w.heap.size w w':=by
 have hf:=field0
 go_enter Tryz.func59,Tryz.ntmps59
 go_wp2_with (go_at_call 60;refine(kindOf_any _ _ h).mono ?_;rintro e w' ⟨rfl,hbl⟩)
 go_ret
 exact⟨rfl,hbl⟩
theorem max_any (p:Int) (w:World) (h:KT w):Calls Tryz.prog 38 #[.int .i64 p] w fun e w'=>e = .returned (.int .u64 (mx p))/\Below w.heap.size w w':=by
 have hf:=field4
 go_enter Tryz.func38,Tryz.ntmps38
 go_wp2_with (go_at_call 60;refine(kindOf_any _ _ h).mono ?_;rintro e w' ⟨rfl,hbl⟩)
 go_ret
 exact⟨rfl,hbl⟩
theorem KT.up {w w':World} (h:KT w) (hb:Below w.heap.size w w'):KT w':=h.below h.pos hb
theorem KT.al {w:World} (h:KT w) (o:Obj):KT (w.alloc o):=h.up (bel1 _ _)
theorem sz_b (p:Int):0<=sz p/\sz p<=8:=by
 rcases prim_cases p with h|rfl|rfl|rfl|rfl|rfl|rfl|rfl|rfl|rfl|rfl|rfl
 ·unfold sz;rw[kRow_out p h];decide
 all_goals decide
def i64ok (x:Int):Prop:=-9223372036854775808<=x/\x<=9223372036854775807
def u64ok (x:Int):Prop:=0<=x/\x<=18446744073709551615
theorem al_le (w:World) (o:Obj):w.heap.size<=(w.alloc o).heap.size:=by rw[World.size_alloc];omega
theorem heap_al (w:World) (o:Obj):(w.alloc o).heap[w.heap.size]?=some o:=by show (w.heap.push o)[w.heap.size]?=_;rw[Array.getElem?_push,if_pos rfl]
theorem cell_at {w:World} {g:Nat} {cs:Array Value} {ty:TypeId} (h:w.heap[g]?=some (.cells cs ty)) (o:Nat):w.cell? ⟨g,o,none⟩=cs[o]?:=by simp only[World.cell?,h];rfl
theorem drw {B:Nat} {a w:World} (h:Below B a w):Below B a w.drew:=⟨h.os,h.tape,h.output,h.size,h.block⟩
theorem own_cell {w W:World} {o:Obj} {cs:Array Value} {ty:TypeId} (e:o = .cells cs ty) (h:Below (w.heap.size+1) (w.alloc o) W) (k:Nat):W.cell? ⟨w.heap.size,k,none⟩=cs[k]?:=by
 subst e
 rw[h.cell (p:=⟨w.heap.size,k,none⟩) (Nat.lt_succ_self _)]
 exact cell_at (heap_al _ _) k
theorem bel2 {w W:World} {o:Obj} (h:Below (w.heap.size+1) (w.alloc o) W):Below w.heap.size w W:=(bel1 w o).trans (h.mono (Nat.le_succ _))
theorem bel0 (w:World) (o:Obj):Below (w.heap.size+1) (w.alloc o) (w.alloc o):=Below.refl _ _
theorem bel_call {B:Nat} {a W w':World} (h:Below B a W) (hB:B<=a.heap.size) (hb:Below W.heap.size W w'):Below B a w':=h.trans (hb.mono (Nat.le_trans hB h.size))
theorem callB {B:Nat} {a:World} {f:FuncId} {ag:Array Value} {v:Value} (hB:B<=a.heap.size) (h:∀ W,Below B a W->Calls Tryz.prog f ag W fun e w'=>e = .returned v/\Below W.heap.size W w'):∀ W,Below B a W->Calls Tryz.prog f ag W fun e w'=>e = .returned v/\Below B a w' :=
 fun W hW=>(h W hW).mono fun _ _ ⟨h1,h2⟩=>⟨h1,bel_call hW hB h2⟩
theorem callS {p:World->Prop} {f:FuncId} {ag:Array Value} {v:Value} (h:∀ W,Calls Tryz.prog f ag W fun e w'=>e = .returned v/\w'=W):∀ W,p W->Calls Tryz.prog f ag W fun e w'=>e = .returned v/\p w' :=
 fun W hW=>(h W).mono fun _ _ ⟨h1,h2⟩=>⟨h1,h2▸hW⟩
theorem ent_isNumber:∀ ag w,(callFunc 112 ag).run Tryz.prog w = .ok (.enter 112 ag) w:=enters_of Tryz.func112 (by kernel_rfl) rfl
theorem ent_size:∀ ag w,(callFunc 59 ag).run Tryz.prog w = .ok (.enter 59 ag) w:=enters_of Tryz.func59 (by kernel_rfl) rfl
theorem ent_isBetween:∀ ag w,(callFunc 74 ag).run Tryz.prog w = .ok (.enter 74 ag) w:=enters_of Tryz.func74 (by kernel_rfl) rfl
theorem ktb {w W:World} {o:Obj} (h:KT w) (hb:Below (w.heap.size+1) (w.alloc o) W):KT W:=h.up (bel2 hb)
theorem szal (w:World) (o:Obj):w.heap.size+1<=(w.alloc o).heap.size:=by rw[World.size_alloc];omega
theorem liesIn_any (s:Sp) (n:Int) (w:World) (h:KT w) (hn:0<=n/\n<=9223372036854775807):Calls Tryz.prog 106 #[spV s,.int .i64 n] w fun r w'=>r = .returned (.bool (lieB s n))/\Below w.heap.size w w':=by
 obtain⟨p,p0,pB,hN,f0,f1,cN,cS⟩:∃ p:World->Prop,p (w.alloc (.cells #[.int .i64 s.p,.int .i64 s.o] 25)).drew/\(∀ W,p W->Below w.heap.size w W)/\Nonempty (CW p)/\(∀ θ:CW p,θ.w.cell? ⟨w.heap.size,0,none⟩=some (.int .i64 s.p))/\(∀ θ:CW p,θ.w.cell? ⟨w.heap.size,1,none⟩=some (.int .i64 s.o)) /\
   (∀ W,p W->Calls Tryz.prog 112 #[.int .i64 s.p] W fun e w'=>e = .returned (.bool (numB s.p))/\p w')/\(∀ W,p W->Calls Tryz.prog 59 #[.int .i64 s.p] W fun e w'=>e = .returned (.int .i64 (sz s.p))/\p w') :=
  ⟨Below (w.heap.size+1) (w.alloc (.cells #[.int .i64 s.p,.int .i64 s.o] 25)),drw (bel0 _ _),fun _ h=>bel2 h,⟨⟨_,bel0 _ _⟩⟩,fun θ=>own_cell rfl θ.h 0,fun θ=>own_cell rfl θ.h 1,callS (isNumber_any s.p),callB (szal _ _) (fun W hW=>size_any s.p W (ktb h hW))⟩
 have hz:=sz_b s.p
 have hw:IntKind.i64.wrap (n-sz s.p)=n-sz s.p:=by rw[IntKind.wrap_i64];omega
 unfold lieB
 rcases ch2 (numB s.p) (decide (0<=s.o)) with k1|⟨k1,k2⟩|⟨k1,k2⟩
 all_goals
  rw[k1] at cN ⊢
  go_enter Tryz.func106,Tryz.ntmps106
  go_wp2_with fail
  refine wp_region_lp p (by kernel_rfl) (by kernel_rfl) (fun _ _ d _ _ h=>by cases d<;>exact h) p0 fun W hp=>?_
  repeat (first|(refine lx_one rfl ?_;(first|go_big_quiet_skip|(go_big_quiet_want;go_big_quiet_op;go_big_quiet_on));refine wpQuiet_nil ?_)|(refine lx_p1 ent_isNumber cN hp rfl (by rfl) ?_;intro W hp;simp only[pts])|(refine lx_p1 ent_size cS hp rfl (by rfl) ?_;intro W hp;simp only[pts])|(refine lx_skip (by rfl) ?_;simp only[pts]))
  refine lx_done ?_
  go_wp2_with fail
  go_ret
  exact⟨rb (by simp_all<;>omega),pB _ hp⟩
theorem meet_any (s t:Sp) (w:World) (h:KT w) (hs:0<=s.o/\s.o<=9223372036854775700) (ht:0<=t.o/\t.o<=9223372036854775700):Calls Tryz.prog 107 #[spV s,spV t] w fun r w'=>r = .returned (.bool (!aptB s t))/\Below w.heap.size w w':=by
 have hz:=sz_b s.p
 have hy:=sz_b t.p
 obtain⟨p,p0,pB,hN,f0,f1,f2,f3,cS,cT⟩:∃ p:World->Prop,p ((w.alloc (.cells #[.int .i64 s.p,.int .i64 s.o] 25)).alloc (.cells #[.int .i64 t.p,.int .i64 t.o] 25)).drew/\(∀ W,p W->Below w.heap.size w W)/\Nonempty (CW p)/\(∀ θ:CW p,θ.w.cell? ⟨w.heap.size,0,none⟩=some (.int .i64 s.p))/\(∀ θ:CW p,θ.w.cell? ⟨w.heap.size,1,none⟩=some (.int .i64 s.o))/\(∀ θ:CW p,θ.w.cell? ⟨w.heap.size+1,0,none⟩=some (.int .i64 t.p))/\(∀ θ:CW p,θ.w.cell? ⟨w.heap.size+1,1,none⟩=some (.int .i64 t.o)) /\
   (∀ W,p W->Calls Tryz.prog 59 #[.int .i64 s.p] W fun e w'=>e = .returned (.int .i64 (sz s.p))/\p w')/\(∀ W,p W->Calls Tryz.prog 59 #[.int .i64 t.p] W fun e w'=>e = .returned (.int .i64 (sz t.p))/\p w'):=by
  have q1:∀ W,Below (w.heap.size+2) ((w.alloc (.cells #[.int .i64 s.p,.int .i64 s.o] 25)).alloc (.cells #[.int .i64 t.p,.int .i64 t.o] 25)) W->Below (w.heap.size+1) (w.alloc (.cells #[.int .i64 s.p,.int .i64 s.o] 25)) W:=fun W h=>by
   have:=(bel1 (w.alloc (.cells #[.int .i64 s.p,.int .i64 s.o] 25)) (.cells #[.int .i64 t.p,.int .i64 t.o] 25)).trans (h.mono (by rw[World.size_alloc];omega))
   rwa [World.size_alloc] at this
  have q2:∀ W,Below (w.heap.size+2) ((w.alloc (.cells #[.int .i64 s.p,.int .i64 s.o] 25)).alloc (.cells #[.int .i64 t.p,.int .i64 t.o] 25)) W->∀ k,W.cell? ⟨w.heap.size+1,k,none⟩=(#[.int .i64 t.p,.int .i64 t.o]:Array Value)[k]?:=fun W h k=>by
   have:=own_cell (w:=w.alloc (.cells #[.int .i64 s.p,.int .i64 s.o] 25)) (o:=(.cells #[.int .i64 t.p,.int .i64 t.o] 25)) rfl (W:=W) (by rw[World.size_alloc];exact h) k
   rwa [World.size_alloc] at this
  exact⟨Below (w.heap.size+2) ((w.alloc (.cells #[.int .i64 s.p,.int .i64 s.o] 25)).alloc (.cells #[.int .i64 t.p,.int .i64 t.o] 25)),drw (Below.refl _ _),fun _ h=>bel2 (q1 _ h),⟨⟨_,Below.refl _ _⟩⟩,fun θ=>own_cell rfl (q1 _ θ.h) 0,fun θ=>own_cell rfl (q1 _ θ.h) 1,fun θ=>q2 _ θ.h 0,fun θ=>q2 _ θ.h 1,
   callB (by rw[World.size_alloc,World.size_alloc];omega) (fun W hW=>size_any s.p W (ktb h (q1 _ hW))),callB (by rw[World.size_alloc,World.size_alloc];omega) (fun W hW=>size_any t.p W (ktb h (q1 _ hW)))⟩
 have hw1:IntKind.i64.wrap (t.o+sz t.p)=t.o+sz t.p:=by rw[IntKind.wrap_i64];omega
 have hw2:IntKind.i64.wrap (s.o+sz s.p)=s.o+sz s.p:=by rw[IntKind.wrap_i64];omega
 unfold aptB
 rcases Bool.eq_false_or_eq_true (decide (s.o<t.o+sz t.p)) with k1|k1
 all_goals
  go_enter Tryz.func107,Tryz.ntmps107
  go_wp2_with fail
  refine wp_region_lp p (by kernel_rfl) (by kernel_rfl) (fun _ _ d _ _ h=>by cases d<;>exact h) p0 fun W hp=>?_
  repeat (first|(refine lx_one rfl ?_;(first|go_big_quiet_skip|(go_big_quiet_want;go_big_quiet_op;go_big_quiet_on));refine wpQuiet_nil ?_)|(refine lx_p1 ent_size cS hp rfl (by rfl) ?_;intro W hp;simp only[pts])|(refine lx_p1 ent_size cT hp rfl (by rfl) ?_;intro W hp;simp only[pts])|(refine lx_skip (by rfl) ?_;simp only[pts]))
  refine lx_done ?_
  go_wp2_with fail
  go_ret
  exact⟨rb (by
   simp only[decide_eq_true_eq,decide_eq_false_iff_not] at k1
   rw[Bool.eq_iff_iff]
   simp
   omega),pB _ hp⟩
theorem canTell_any (s:Sp) (n:Int) (w:World) (h:KT w) (hn:0<=n/\n<=9223372036854775807):Calls Tryz.prog 76 #[spV s,.int .i64 n] w fun r w'=>r = .returned (.bool (telB s n))/\Below w.heap.size w w':=by
 have hw:IntKind.u64.wrap n=n:=by rw[IntKind.wrap_u64];omega
 unfold telB
 go_enter Tryz.func76,Tryz.ntmps76
 go_wp2_with (go_at_call 38;refine(max_any _ _ (h.al _)).mono ?_;rintro _ w1 ⟨rfl,hb⟩)
 go_ret
 exact⟨rb (by simp[hn.1]),(bel1 _ _).trans (hb.mono (al_le _ _))⟩
theorem drop_at {α:Type} {l:List α} {j:Nat} {a:α} (h:l[j]?=some a):l.drop j=a::l.drop (j+1):=by
 obtain⟨h1,h2⟩:=List.getElem?_eq_some_iff.1 h
 rw[List.drop_eq_getElem_cons h1,h2]
theorem take_at {α:Type} {l:List α} {j:Nat} {a:α} (h:l[j]?=some a):l.take (j+1)=l.take j++[a]:=by
 rw[List.take_add_one,h];rfl
def spOk (n:Int):List Sp->List Sp->Bool
 | _,[]=>true
 | pre,s::r=>lieB s n&&pre.all (aptB s)&&spOk n (pre++[s]) r
structure SpRow (w:World) (g o:Nat) (l:List Sp):Prop where
 c:∀ (i:Nat) (s:Sp),l[i]?=some s->w.cell? ⟨g,o+i*2,none⟩=some (.int .i64 s.p)/\w.cell? ⟨g,o+i*2+1,none⟩=some (.int .i64 s.o)
theorem SpRow.below {w w':World} {g o B:Nat} {l:List Sp} (h:SpRow w g o l) (hg:g<B) (hb:Below B w w'):SpRow w' g o l :=
 ⟨fun i s hs=>⟨(hb.cell (p:=⟨g,o+i*2,none⟩) hg).trans (h.c i s hs).1,(hb.cell (p:=⟨g,o+i*2+1,none⟩) hg).trans (h.c i s hs).2⟩⟩
theorem areSpots_any (l:List Sp) (n:Int) (g o cp:Nat) (w:World) (h:KT w) (hg:g<w.heap.size) (hr:SpRow w g o l) (hl:l.length<=4) (hcp:l.length<=cp) (hn:0<=n/\n<=9223372036854775000) :
  Calls Tryz.prog 75 #[.int .i64 n,.slice (some ⟨g,o,none⟩) l.length cp] w fun r w'=>r = .returned (.bool (spOk n [] l))/\Below w.heap.size w w':=by
 obtain⟨Z,hZ⟩:∃ Z,spOk n [] l=Z:=⟨_,rfl⟩
 rw[hZ]
 go_enter Tryz.func75,Tryz.ntmps75
 go_wp2_with fail
 go_loopw [11] (fun q wr=>∃ j:Nat,j<=l.length/\q = .int .i64 j/\Below w.heap.size w wr/\(∀ t∈l.take j,lieB t n=true)/\spOk n (l.take j) (l.drop j)=Z) (fun q _=>l.length-(RowKit.intOf q).toNat)
 case atStart=>exact⟨0,Nat.zero_le _,rfl,Below.refl _ _,fun t ht=>absurd ht List.not_mem_nil,hZ⟩
 case round =>
  obtain⟨wo,hwo⟩:∃ wo,wo=wr:=⟨_,rfl⟩
  subst hwo
  obtain⟨j,hj,rfl,hB,hL,hR⟩:=hrel
  by_cases hlt:j<l.length
  ·obtain⟨s,hs⟩:∃ s,l[j]?=some s:=⟨l[j],List.getElem?_eq_getElem hlt⟩
   obtain⟨c0,c1⟩:=(hr.below hg hB).c j s hs
   have hlti:(j:Int)<l.length:=by omega
   have hji:(j:Int)<=cp:=by omega
   rw[drop_at hs,spOk] at hR
   have cL:=fun W hW=>liesIn_any s n W hW (by omega)
   cases k1:lieB s n with
   | false =>
    rw[k1] at hR cL
    simp only[Bool.false_and] at hR
    subst hR
    go_wp2_with (go_at_call 106;refine(cL _ (h.up (hB.alloc hB.size _))).mono ?_;rintro _ w1 ⟨rfl,hb⟩)
    go_ret
    exact⟨rfl,(hB.alloc hB.size _).trans (hb.mono (hB.alloc hB.size _).size)⟩
   | true =>
    rw[k1] at hR cL
    simp only[Bool.true_and] at hR
    have hin:(l.take j).length=j:=by rw[List.length_take];omega
    have ls:=k1
    unfold lieB at ls
    rw[Bool.and_eq_true] at ls
    have ls:=decT ls.2
    have hz:=sz_b s.p
    cases k2:(l.take j).all (aptB s) with
    | false =>
     rw[k2] at hR
     simp only[Bool.false_and] at hR
     subst hR
     go_wp2_with (go_at_call 106;refine(cL _ (h.up (hB.alloc hB.size _))).mono ?_;rintro _ w1 ⟨rfl,hb⟩)
     have hA:=hB.alloc hB.size (.cells #[.int .i64 s.p,.int .i64 s.o] 25)
     have hC:Below (wo.heap.size+1) (wo.alloc (.cells #[.int .i64 s.p,.int .i64 s.o] 25)) w1:=(Below.refl _ _).trans (hb.mono (szal _ _))
     go_loopw [24] (fun q wq=>∃ k:Nat,k<=j/\q = .int .i64 k/\Below (wo.heap.size+1) (wo.alloc (.cells #[.int .i64 s.p,.int .i64 s.o] 25)) wq/\((l.take j).drop k).all (aptB s)=false) (fun q _=>j-(RowKit.intOf q).toNat)
     case atStart=>exact⟨0,Nat.zero_le _,rfl,hC,k2⟩
     case round =>
      obtain⟨k,hk,rfl,hD,hQ⟩:=hrel
      have hE:Below w.heap.size w wr:=hA.trans (hD.mono (Nat.le_succ_of_le hB.size))
      by_cases hkj:k<j
      ·obtain⟨t,ht⟩:∃ t,l[k]?=some t:=⟨l[k],List.getElem?_eq_getElem (by omega)⟩
       have ht2:(l.take j)[k]?=some t:=by rw[List.getElem?_take,if_pos hkj];exact ht
       obtain⟨d0,d1⟩:=(hr.below hg hE).c k t ht
       have hlo:wo.heap.size<wr.heap.size:=Nat.lt_of_lt_of_le (szal _ _) hD.size
       have e0:(wr.alloc (.cells #[.int .i64 t.p,.int .i64 t.o] 25)).cell? ⟨wo.heap.size,0,none⟩=some (.int .i64 s.p):=((bel1 wr _).cell (p:=⟨wo.heap.size,0,none⟩) hlo).trans (own_cell rfl hD 0)
       have e1:(wr.alloc (.cells #[.int .i64 t.p,.int .i64 t.o] 25)).cell? ⟨wo.heap.size,1,none⟩=some (.int .i64 s.o):=((bel1 wr _).cell (p:=⟨wo.heap.size,1,none⟩) hlo).trans (own_cell rfl hD 1)
       have lt:=hL t (List.mem_of_getElem? ht2)
       unfold lieB at lt
       rw[Bool.and_eq_true] at lt
       have lt:=decT lt.2
       have hy:=sz_b t.p
       have hkji:(k:Int)<j:=by omega
       rw[drop_at ht2,List.all_cons] at hQ
       have cM:=fun W hW=>meet_any s t W hW (by omega) (by omega)
       cases k3:aptB s t with
       | false =>
        rw[k3] at cM
        go_wp2_with (go_at_call 107;refine(cM _ (h.up (hE.alloc hE.size _))).mono ?_;rintro _ w2 ⟨rfl,hb2⟩)
        go_ret
        exact⟨rfl,(hE.alloc hE.size _).trans (hb2.mono (hE.alloc hE.size _).size)⟩
       | true =>
        rw[k3] at cM hQ
        simp only[Bool.true_and] at hQ
        go_wp2_with (go_at_call 107;refine(cM _ (h.up (hE.alloc hE.size _))).mono ?_;rintro _ w2 ⟨rfl,hb2⟩)
        go_roundw
        case rel=>exact⟨k+1,by omega,by go_num,(hD.alloc (Nat.le_trans (szal _ _) hD.size) _).trans (hb2.mono (Nat.le_trans (Nat.le_trans (szal _ _) hD.size) (al_le _ _))),hQ⟩
        case measure=>simp[RowKit.intOf];omega
      ·obtain rfl:k=j:=by omega
       rw[List.drop_eq_nil_of_le (by omega)] at hQ
       cases hQ
    | true =>
     rw[k2] at hR
     simp only[Bool.true_and] at hR
     go_wp2_with (go_at_call 106;refine(cL _ (h.up (hB.alloc hB.size _))).mono ?_;rintro _ w1 ⟨rfl,hb⟩)
     have hA:=hB.alloc hB.size (.cells #[.int .i64 s.p,.int .i64 s.o] 25)
     have hC:Below (wo.heap.size+1) (wo.alloc (.cells #[.int .i64 s.p,.int .i64 s.o] 25)) w1:=(Below.refl _ _).trans (hb.mono (szal _ _))
     go_loopw [24] (fun q wq=>∃ k:Nat,k<=j/\q = .int .i64 k/\Below (wo.heap.size+1) (wo.alloc (.cells #[.int .i64 s.p,.int .i64 s.o] 25)) wq/\((l.take j).drop k).all (aptB s)=true) (fun q _=>j-(RowKit.intOf q).toNat)
     case atStart=>exact⟨0,Nat.zero_le _,rfl,hC,k2⟩
     case round =>
      obtain⟨k,hk,rfl,hD,hQ⟩:=hrel
      have hE:Below w.heap.size w wr:=hA.trans (hD.mono (Nat.le_succ_of_le hB.size))
      by_cases hkj:k<j
      ·obtain⟨t,ht⟩:∃ t,l[k]?=some t:=⟨l[k],List.getElem?_eq_getElem (by omega)⟩
       have ht2:(l.take j)[k]?=some t:=by rw[List.getElem?_take,if_pos hkj];exact ht
       obtain⟨d0,d1⟩:=(hr.below hg hE).c k t ht
       have hlo:wo.heap.size<wr.heap.size:=Nat.lt_of_lt_of_le (szal _ _) hD.size
       have e0:(wr.alloc (.cells #[.int .i64 t.p,.int .i64 t.o] 25)).cell? ⟨wo.heap.size,0,none⟩=some (.int .i64 s.p):=((bel1 wr _).cell (p:=⟨wo.heap.size,0,none⟩) hlo).trans (own_cell rfl hD 0)
       have e1:(wr.alloc (.cells #[.int .i64 t.p,.int .i64 t.o] 25)).cell? ⟨wo.heap.size,1,none⟩=some (.int .i64 s.o):=((bel1 wr _).cell (p:=⟨wo.heap.size,1,none⟩) hlo).trans (own_cell rfl hD 1)
       have lt:=hL t (List.mem_of_getElem? ht2)
       unfold lieB at lt
       rw[Bool.and_eq_true] at lt
       have lt:=decT lt.2
       have hy:=sz_b t.p
       have hkji:(k:Int)<j:=by omega
       rw[drop_at ht2,List.all_cons] at hQ
       have cM:=fun W hW=>meet_any s t W hW (by omega) (by omega)
       rw[Bool.and_eq_true] at hQ
       rw[hQ.1] at cM
       go_wp2_with (go_at_call 107;refine(cM _ (h.up (hE.alloc hE.size _))).mono ?_;rintro _ w2 ⟨rfl,hb2⟩)
       go_roundw
       case rel=>exact⟨k+1,by omega,by go_num,(hD.alloc (Nat.le_trans (szal _ _) hD.size) _).trans (hb2.mono (Nat.le_trans (Nat.le_trans (szal _ _) hD.size) (al_le _ _))),hQ.2⟩
       case measure=>simp[RowKit.intOf];omega
      ·obtain rfl:k=j:=by omega
       rw[List.drop_eq_nil_of_le (by omega)] at hQ
       go_wp2_with fail
       go_roundw
       case rel =>
        refine⟨k+1,by omega,by go_num,hE,?_,?_⟩
        ·intro t ht
         rw[take_at hs] at ht
         rcases List.mem_append.1 ht with ht|ht
         ·exact hL t ht
         ·rw[List.mem_singleton.1 ht];exact k1
        ·rw[take_at hs];exact hR
       case measure=>simp[RowKit.intOf];omega
  ·obtain rfl:j=l.length:=by omega
   rw[List.drop_length,spOk] at hR
   subst hR
   go_wp2_with fail
   go_ret
   exact⟨rfl,hB⟩
end Go.Proofs.YtjlbcdnkglaheaaGreatDoor
