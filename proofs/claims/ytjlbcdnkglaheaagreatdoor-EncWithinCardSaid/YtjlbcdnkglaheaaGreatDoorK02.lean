import Derived.Test.YtjlbcdnkglaheaaGreatDoorK01
import Derived.Deep.RegionHeld
import Derived.Shelf.Abstract
import Derived.Deep.AppendLies
namespace Go.Proofs.YtjlbcdnkglaheaaGreatDoor
def Took (f:Fm) (b:Nat) (t:Tk) (ks:List Nat):Prop:=∀ (j k:Nat) (u:Tk),ks[j]?=some k->f.toks[k]?=some u->∃ (x:Sc) (o:List Sc) (ids:List Int),x.at_=b/\x.tk=t/\x.kids=ks.take j/\inOk f (x::o) ids k x u=true/\edO u.op=false
theorem took_nil (f:Fm) (b:Nat) (t:Tk):Took f b t []:=fun j k u h=>by simp at h
theorem took_snoc {f:Fm} {b i:Nat} {t u:Tk} {ks:List Nat} (h:Took f b t ks) (hu:f.toks[i]?=some u) {x:Sc} {o:List Sc} {ids:List Int} (h1:x.at_=b) (h2:x.tk=t) (h3:x.kids=ks) (h4:inOk f (x::o) ids i x u=true) (h5:edO u.op=false):Took f b t (ks++[i]):=by
 intro j k v hj hv
 rcases Nat.lt_or_ge j ks.length with hl|hl
 ·rw[List.getElem?_append_left hl] at hj
  obtain⟨y,o',ids',e1,e2,e3,e4⟩:=h j k v hj hv
  exact⟨y,o',ids',e1,e2,by rw[List.take_append_of_le_length (by omega)];exact e3,e4⟩
 ·rw[List.getElem?_append_right hl] at hj
  have hj0:j-ks.length=0:=by
   rcases Nat.eq_zero_or_pos (j-ks.length) with e|e
   ·exact e
   ·rw[List.getElem?_eq_none (by simp;omega)] at hj;cases hj
  rw[hj0] at hj
  cases hj
  rw[hu] at hv
  cases hv
  exact⟨x,o,ids,h1,h2,by rw[h3,show j=ks.length by omega,List.take_left],h4,h5⟩
def TkO (f:Fm) (o:List Sc):Prop:=∀ x∈o,Took f x.at_ x.tk x.kids
def Cl2 (f:Fm) (i:Nat) (o:List Sc):Prop:=∀ b t,b<i->f.toks[b]?=some t->bgO t.op=true->(∃ x∈o,x.at_=b)\/∃ (n:Nat) (ks:List Nat),t.pair=(n:Int)/\n<i/\Chn f.toks (b+1) ks n/\(∀ k∈ks,b<k/\k<n)/\ks.Pairwise (· < ·)/\Took f b t ks
theorem tko_step {f:Fm} {s:St} {i:Nat} {t:Tk} (ht:f.toks[i]?=some t) (h:okZ f s i t=true) (hs:TkO f s.open_):TkO f (nxt s i t).open_:=by
 obtain⟨o,ids⟩:=s
 intro y hy
 unfold nxt at hy
 by_cases he:edO t.op=true
 ·rw[if_pos he] at hy
  exact hs y (List.mem_of_mem_tail hy)
 ·rw[if_neg he] at hy
  have key:∀ y∈metL o i t,Took f y.at_ y.tk y.kids:=fun y hy=>by
   rcases o with _|⟨x,o⟩
   ·cases hy
   ·rcases List.mem_cons.1 hy with rfl|hy
    ·exact took_snoc (x:=x) (o:=o) (ids:=ids) (hs x (List.mem_cons_self ..)) ht rfl rfl rfl h (by simpa using he)
    ·exact hs y (List.mem_cons_of_mem _ hy)
  have hy:y∈(if bgO t.op=true then scNew i t::metL o i t else metL o i t):=hy
  split at hy
  ·rcases List.mem_cons.1 hy with rfl|hy
   ·exact took_nil _ _ _
   ·exact key y hy
  ·exact key y hy
theorem cl2_step {f:Fm} {s:St} {i:Nat} {t:Tk} (H:Inv f i s) (ht:f.toks[i]?=some t) (h:okZ f s i t=true) (hs:Srt s.open_) (hk:TkO f s.open_) (hc:Cl2 f i s.open_):Cl2 f (i+1) (nxt s i t).open_:=by
 obtain⟨o,ids⟩:=s
 intro b u hb hu hg
 have hb':b<i\/b=i:=by omega
 rcases o with _|⟨x,o⟩
 ·obtain⟨hi,ho,_⟩:=okZ_nil h
  rcases hb' with hb' | rfl
  ·omega
  ·have hbg:bgO t.op=true:=by rw[ho];rfl
   refine .inl ⟨scNew b t,?_,rfl⟩
   unfold nxt
   rw[if_neg (by rw[bgO_end hbg];decide),if_pos hbg]
   exact List.mem_cons_self ..
 ·have hx:=H.all x (List.mem_cons_self ..)
  have h:inOk f (x::o) ids i x t=true:=h
  cases he:edO t.op with
  | true =>
   obtain⟨_,_,_,h1,h2⟩:=inOk_end h he
   have e:(nxt ⟨x::o,ids⟩ i t).open_=o:=by unfold nxt;rw[if_pos he];rfl
   rw[e]
   rcases hb' with hb' | rfl
   ·rcases hc b u hb' hu hg with ⟨y,hy,hyb⟩|⟨n,ks,h3,h4,h5,h6⟩
    ·rcases List.mem_cons.1 hy with rfl|hy
     ·subst hyb
      have:=hx.tk
      rw[hu] at this
      cases this
      exact .inr ⟨i,y.kids,h2,Nat.lt_succ_self _,H.nest.1,fun k hk=>hx.kid k hk,hs y (List.mem_cons_self ..),hk y (List.mem_cons_self ..)⟩
     ·exact .inl ⟨y,hy,hyb⟩
    ·exact .inr ⟨n,ks,h3,by omega,h5,h6⟩
   ·rw[ht] at hu
    cases hu
    rw[bgO_end hg] at he
    cases he
  | false =>
   have e:∀ y∈metX x i t::o,y∈(nxt ⟨x::o,ids⟩ i t).open_:=fun y hy=>by
    unfold nxt
    rw[if_neg (by rw[he];decide)]
    show y∈(if bgO t.op=true then scNew i t::metX x i t::o else metX x i t::o)
    split
    ·exact List.mem_cons_of_mem _ hy
    ·exact hy
   rcases hb' with hb' | rfl
   ·rcases hc b u hb' hu hg with ⟨y,hy,hyb⟩|⟨n,ks,h3,h4,h5,h6⟩
    ·rcases List.mem_cons.1 hy with rfl|hy
     ·exact .inl ⟨metX y i t,e _ (List.mem_cons_self ..),hyb⟩
     ·exact .inl ⟨y,e _ (List.mem_cons_of_mem _ hy),hyb⟩
    ·exact .inr ⟨n,ks,h3,by omega,h5,h6⟩
   ·rw[ht] at hu
    cases hu
    refine .inl ⟨scNew b t,?_,rfl⟩
    unfold nxt
    rw[if_neg (by rw[he];decide),if_pos hg]
    exact List.mem_cons_self ..
theorem run_cl2 {f:Fm}:∀ (r:List Tk) (i:Nat) (s:St),r=f.toks.drop i->i<=f.toks.length->Inv f i s->Srt s.open_->TkO f s.open_->Cl2 f i s.open_->runZ f r i s=none->Cl2 f f.toks.length []:=by
 intro r
 induction r with
 | nil =>
  intro i s hr hi H hs hk hc hz
  rw[runZ] at hz
  split at hz
  ·cases hz
  ·rename_i hn
   have h0:s.open_=[]:=Decidable.byContradiction fun e=>hn (.inr e)
   have:i=f.toks.length:=by
    have:=congrArg List.length hr
    rw[List.length_drop] at this
    simp at this
    omega
   subst this
   rwa [h0] at hc
 | cons t r ih =>
  intro i s hr hi H hs hk hc hz
  have hlt:i<f.toks.length:=by
   have:=congrArg List.length hr
   rw[List.length_drop] at this
   simp at this
   omega
  have ht:f.toks[i]?=some t:=by
   have:=congrArg (fun l=>l[0]?) hr
   simp at this
   exact this.symm
  have hr':r=f.toks.drop (i+1):=by
   have:=congrArg List.tail hr
   simpa using this
  rw[runZ] at hz
  split at hz
  ·rename_i hok
   exact ih (i+1) _ hr' hlt (inv_step H ht hok) (srt_step H hs) (tko_step ht hok hk) (cl2_step H ht hok hs hk hc) hz
  ·cases hz
theorem valid_took {f:Fm} (h:chkZ f=none) {b:Nat} {t:Tk} (ht:f.toks[b]?=some t) (hg:bgO t.op=true):∃ (n:Nat) (ks:List Nat),t.pair=(n:Int)/\n<f.toks.length/\Chn f.toks (b+1) ks n/\(∀ k∈ks,b<k/\k<n)/\ks.Pairwise (· < ·)/\Took f b t ks:=by
 unfold chkZ at h
 split at h
 ·have hc:=run_cl2 f.toks 0 ⟨[],[]⟩ rfl (Nat.zero_le _) (inv_zero f) (fun x hx=>by cases hx) (fun x hx=>by cases hx) (fun b t hb=>by omega) h
  rcases hc b t (List.getElem?_eq_some_iff.1 ht).1 ht hg with ⟨x,hx,_⟩|h
  ·cases hx
  ·exact h
 ·cases h
theorem block_ops {f:Fm} {b:Nat} {t:Tk} {ks:List Nat} (h:Took f b t ks) (ho:t.op=0\/t.op=4) {k:Nat} (hk:k∈ks) {u:Tk} (hu:f.toks[k]?=some u):u.op=2\/u.op=4\/u.op=6:=by
 obtain⟨j,hj⟩:=List.getElem?_of_mem hk
 obtain⟨x,o,ids,e1,e2,e3,e4,e5⟩:=h j k u hj hu
 obtain⟨hm,_⟩:=inOk_in e4 e5
 unfold mayB at hm
 rw[e2,if_pos ho] at hm
 simp only[Bool.or_eq_true,Bool.and_eq_true,decide_eq_true_eq] at hm
 rcases hm with hm|⟨hm,_⟩
 ·exfalso
  rw[hm] at e5
  rcases ho with ho|ho<;>rw[ho] at e5<;>exact absurd e5 (by decide)
 ·unfold ptO at hm
  have hm:=of_decide_eq_true hm
  omega
theorem first_msg {f:Fm} (h:chkZ f=none):∃ t,f.toks[0]?=some t/\t.op=0:=by
 unfold chkZ at h
 split at h
 ·cases hl:f.toks with
  | nil=>rw[hl,runZ] at h;simp at h
  | cons t r =>
   rw[hl,runZ] at h
   split at h
   ·rename_i hok
    exact⟨t,rfl,(okZ_nil hok).2.1⟩
   ·cases h
 ·cases h
def stA (f:Fm):Nat->St
 | 0=>⟨[],[]⟩
 | i+1=>match f.toks[i]? with
  | some t=>nxt (stA f i) i t
  | none=>stA f i
theorem stA_succ {f:Fm} {i:Nat} {t:Tk} (h:f.toks[i]?=some t):stA f (i+1)=nxt (stA f i) i t:=by
 rw[stA,h]
theorem val_at {f:Fm} (hz:chkZ f=none):∀ i,i<=f.toks.length->runZ f (f.toks.drop i) i (stA f i)=none/\Inv f i (stA f i):=by
 intro i
 induction i with
 | zero =>
  intro _
  unfold chkZ at hz
  split at hz
  ·exact⟨hz,inv_zero f⟩
  ·cases hz
 | succ i ih =>
  intro hi
  obtain⟨h1,h2⟩:=ih (by omega)
  obtain⟨t,ht⟩:∃ t,f.toks[i]?=some t:=⟨f.toks[i],List.getElem?_eq_getElem (by omega)⟩
  have e:f.toks.drop i=t::f.toks.drop (i+1):=by
   rw[(List.getElem?_eq_some_iff.1 ht).2.symm,List.getElem_cons_drop]
  rw[e,runZ] at h1
  split at h1
  ·rename_i hok
   rw[stA_succ ht]
   exact⟨h1,inv_step h2 ht hok⟩
  ·cases h1
theorem val_ok {f:Fm} (hz:chkZ f=none) {i:Nat} {t:Tk} (ht:f.toks[i]?=some t):okZ f (stA f i) i t=true/\Inv f i (stA f i):=by
 have hi:=(List.getElem?_eq_some_iff.1 ht).1
 obtain⟨h1,h2⟩:=val_at hz i (by omega)
 have e:f.toks.drop i=t::f.toks.drop (i+1):=by
  rw[(List.getElem?_eq_some_iff.1 ht).2.symm,List.getElem_cons_drop]
 rw[e,runZ] at h1
 split at h1
 ·rename_i hok
  exact⟨hok,h2⟩
 ·cases h1
open Go.ChangeShapes Go.WideShapes Go.ChangeAt Go.RowKit
def rdK:Op->Bool
 | .move _=>true
 | .assign _=>true
 | .pick _ _ _=>true
 | .build _ _=>true
 | .load _ _=>true
 | .nilCheck _=>true
 | .binOp _ _ _ _ _=>true
 | .unOp _ _ _=>true
 | .convert _ _ _=>true
 | .slice _ _ _ _ _=>true
 | .fieldAddr _ _ _=>true
 | .field _ _ _=>true
 | .indexAddr _ _ _=>true
 | .index _ _ _=>true
 | .extract _ _=>true
 | .call { callee:=.builtin .len,args:=_,argTypes:=_ }=>true
 | _=>false
section
variable {P:Program} {ops:Array Oper} {C:World->Prop} {Q:Exit->Act->World->Prop} {md:Region.Mode}
def ValOnly (s:Sem Next):Prop:=∀ (P:Program) (W W':World) (n:Next),s.run P W = .ok n W'->∃ u,n = .value u
theorem valOnly_v (s:Sem Value):ValOnly (do let x <- s;pure (Next.value x)):=fun P W W' n h=>by
 simp only[Sem.run_bind] at h
 cases hs:s.run P W with
 | ok u w' =>
  rw[hs] at h
  simp only[Result.andThen_ok,Sem.run_pure] at h
  cases h
  exact⟨_,rfl⟩
 | halt x w'=>rw[hs] at h;cases h
theorem valOnly_pure (v:Value):ValOnly (pure (Next.value v)):=fun P W W' n h=>by cases h;exact⟨_,rfl⟩
theorem valOnly_bind {α:Type} (s:Sem α) (f:α->Sem Next) (h:∀ x,ValOnly (f x)):ValOnly (s >>= f):=fun P W W' n h'=>by
 simp only[Sem.run_bind] at h'
 cases hs:s.run P W with
 | ok u w'=>rw[hs] at h';exact h u P w' W' n h'
 | halt x w'=>rw[hs] at h';cases h'
theorem valOnly_nil:ValOnly (runtimePanic .nilDeref):=fun P W W' n h=>by
 revert h
 simp[go_sem]
theorem rd_valOnly {o:Oper} {ρ:Operand->Value} (hr:rdK o.op=true):ValOnly (execOp ρ o):=by
 obtain⟨d,op,ty,ps,af,gd⟩:=o
 cases op
 case pick=>exact valOnly_bind _ _ fun _=>valOnly_pure _
 case nilCheck x =>
  unfold execOp
  dsimp only
  split
  ·exact valOnly_nil
  ·exact valOnly_nil
  ·exact valOnly_nil
  ·split
   ·exact valOnly_nil
   ·refine valOnly_bind _ _ fun _=>valOnly_bind _ _ fun _=>?_
    split
    ·exact valOnly_bind _ _ fun _=>valOnly_pure _
    ·exact valOnly_pure _
   ·exact valOnly_pure _
  ·exact valOnly_pure _
 case call c =>
  obtain⟨cl,ar,at_⟩:=c
  cases cl with
  | value f=>exact Bool.noConfusion (show false=true from hr)
  | invoke r m=>exact Bool.noConfusion (show false=true from hr)
  | builtin b =>
   cases b
   case len=>exact valOnly_v _
   all_goals exact Bool.noConfusion (show false=true from hr)
 all_goals first
  | exact Bool.noConfusion (show false=true from hr)
  | exact valOnly_pure _
  | exact valOnly_v _
theorem rd_value {o:Oper} {a:Act} {W:World} {v:Value} (hr:rdK o.op=true) (h:o.quietAt P a C W v):(execOp a.eval o).run P W = .ok (.value v) W:=by
 have hv:=rd_valOnly (ρ:=a.eval) hr P W
 unfold Oper.quietAt at h
 cases hs:(execOp a.eval o).run P W with
 | ok n w' =>
  obtain⟨u,rfl⟩:=hv w' n hs
  rw[hs] at h
  obtain⟨rfl,rfl⟩:=h
  rfl
 | halt x w'=>rw[hs] at h;exact h.elim
def schB (md:Region.Mode) (ops:Array Oper):List Nat->Array Bool->Bool
 | [],listed=>(Region.ready md ops listed).isEmpty
 | i::r,listed=>(match ops[i]? with
  | some o=>if rdK o.op then Region.free md ops listed i&&(Region.ready md ops listed).contains i else Region.ready md ops listed==[i]
  | none=>false)&&schB md ops r (listed.setIfInBounds i true)
def wpSch (P:Program) (ops:Array Oper) (C:World->Prop) (Q:Exit->Act->World->Prop):List Nat->Act->World->Prop
 | [],a,w=>Q .normal a w
 | i::r,a,w=>match ops[i]? with
  | none=>False
  | some o=>if Region.wanted o (yielded ops a.tmps)=true then (if rdK o.op=true then o.quiet P a C (fun a'=>wpSch P ops C Q r a' w) else Oper.wp P o a w (fun a' w'=>C w'/\wpSch P ops C Q r a' w') Q) else wpSch P ops C Q r (a.put o.dst undef) w
theorem wpAnyH_sch (hs:Region.noSelect ops=true) (hQ:∀ c (a:Act) d v w,Q (.panic c) (a.put d v) w->Q (.panic c) a w):∀ (sc:List Nat) (listed:Array Bool) (a:Act) (w:World),schB md ops sc listed=true->C w->wpSch P ops C Q sc a w->wpAnyH P md ops Q C sc.length listed a w
 | [],listed,a,w,hv,_,h=>wpAnyH_done (by simpa[schB] using hv) h _
 | i::r,listed,a,w,hv,hC,h=>by
  unfold schB at hv
  rw[Bool.and_eq_true] at hv
  obtain⟨h1,h2⟩:=hv
  unfold wpSch at h
  cases ho:ops[i]? with
  | none=>rw[ho] at h1;cases h1
  | some o =>
   rw[ho] at h1 h
   dsimp only at h1 h
   rw[List.length_cons]
   by_cases hr:rdK o.op=true
   ·rw[if_pos hr,Bool.and_eq_true] at h1
    by_cases hw:Region.wanted o (yielded ops a.tmps)=true
    ·rw[if_pos hw,if_pos hr] at h
     obtain⟨v,hv,h⟩:=h
     exact wpAnyH_take ho hs h1.1 h1.2 (fun c a w=>hQ c a o.dst v w) (.inl ⟨hw,fun W hW=>rd_value hr (hv W hW)⟩) hC (wpAnyH_sch hs hQ r _ _ _ h2 hC h)
    ·rw[if_neg hw] at h
     rw[Bool.not_eq_true] at hw
     exact wpAnyH_take ho hs h1.1 h1.2 (fun c a w=>hQ c a o.dst undef w) (.inr ⟨hw,rfl⟩) hC (wpAnyH_sch hs hQ r _ _ _ h2 hC h)
   ·rw[if_neg hr,beq_iff_eq] at h1
    refine wpAnyH_all h1 (by simp) fun j hj=>?_
    rw[List.mem_singleton.1 hj]
    unfold wpOp
    rw[ho]
    dsimp only
    by_cases hw:Region.wanted o (yielded ops a.tmps)=true
    ·rw[if_pos hw,if_neg hr] at h
     rw[if_pos hw]
     exact .inl (Oper.wp_mono (fun a' w' h'=>⟨h'.1,wpAnyH_sch hs hQ r _ _ _ h2 h'.1 h'.2⟩) h)
    ·rw[if_neg hw] at h
     rw[if_neg hw]
     exact⟨hC,wpAnyH_sch hs hQ r _ _ _ h2 hC h⟩
def wpLx (P:Program) (ops:Array Oper) (C:World->Prop) (Q:Exit->Act->World->Prop):List Oper->Act->World->Prop
 | [],a,w=>Q .normal a w
 | o::r,a,w=>if Region.wanted o (yielded ops a.tmps)=true then (if rdK o.op=true then o.quiet P a C (fun a'=>wpLx P ops C Q r a' w) else Oper.wp P o a w (fun a' w'=>C w'/\wpLx P ops C Q r a' w') Q) else wpLx P ops C Q r (a.put o.dst undef) w
theorem wpSch_of:∀ (sc:List Nat) (l:List Oper) (a:Act) (w:World),sc.map (fun i=>ops[i]?)=l.map some->wpLx P ops C Q l a w->wpSch P ops C Q sc a w
 | [],[],_,_,_,h=>h
 | [],_::_,_,_,e,_=>by cases e
 | _::_,[],_,_,e,_=>by cases e
 | i::r,o::l,a,w,e,h=>by
  simp only[List.map_cons,List.cons.injEq] at e
  unfold wpSch
  rw[e.1]
  unfold wpLx at h
  dsimp only
  split
  ·rename_i hw
   rw[if_pos hw] at h
   split
   ·rename_i hr
    rw[if_pos hr] at h
    exact Oper.quiet_mono (fun a' h'=>wpSch_of r l a' w e.2 h') h
   ·rename_i hr
    rw[if_neg hr] at h
    exact Oper.wp_mono (fun a' w' h'=>⟨h'.1,wpSch_of r l a' w' e.2 h'.2⟩) h
  ·rename_i hw
   rw[if_neg hw] at h
   exact wpSch_of r l _ w e.2 h
variable {d:Option Tmp} {op:Op} {ty:TypeId} {ps:String} {af:Array Edge} {gd:Option (Nat×Bool)} {r:List Oper} {a:Act} {w:World}
structure Lx (P:Program) (ops:Array Oper) (C:World->Prop) (Q:Exit->Act->World->Prop) (l:List Oper) (a:Act) (w:World):Prop where
 out:wpLx P ops C Q l a w
theorem lx_skip (hw:Region.wanted ⟨d,op,ty,ps,af,gd⟩ (yielded ops a.tmps)=false) (h:Lx P ops C Q r (a.put d undef) w):Lx P ops C Q (⟨d,op,ty,ps,af,gd⟩::r) a w:=by
 refine⟨?_⟩
 unfold wpLx
 rw[if_neg (by rw[hw];decide)]
 exact h.out
theorem lx_read (hw:Region.wanted ⟨d,op,ty,ps,af,gd⟩ (yielded ops a.tmps)=true) (hr:rdK op=true) (h:∀ K:Act->Prop,(∀ a',Lx P ops C Q r a' w->K a')->Oper.quiet P ⟨d,op,ty,ps,af,gd⟩ a C K):Lx P ops C Q (⟨d,op,ty,ps,af,gd⟩::r) a w:=by
 refine⟨?_⟩
 unfold wpLx
 rw[if_pos hw,if_pos hr]
 exact h _ fun _ h=>h.out
theorem lx_act (hw:Region.wanted ⟨d,op,ty,ps,af,gd⟩ (yielded ops a.tmps)=true) (hr:rdK op=false) (h:∀ K:Act->World->Prop,(∀ a' w',C w'->Lx P ops C Q r a' w'->K a' w')->Oper.wp P ⟨d,op,ty,ps,af,gd⟩ a w K Q):Lx P ops C Q (⟨d,op,ty,ps,af,gd⟩::r) a w:=by
 refine⟨?_⟩
 unfold wpLx
 rw[if_pos hw,if_neg (by rw[hr];decide)]
 exact h _ fun _ _ h1 h2=>⟨h1,h2.out⟩
theorem lx_one (hr:rdK op=true) (h:wpQuiet P ops C (fun a'=>Lx P ops C Q r a' w) [⟨d,op,ty,ps,af,gd⟩] a):Lx P ops C Q (⟨d,op,ty,ps,af,gd⟩::r) a w:=by
 unfold wpQuiet at h
 by_cases hw:Region.wanted ⟨d,op,ty,ps,af,gd⟩ (yielded ops a.tmps)=true
 ·rw[if_pos hw] at h
  refine lx_read hw hr fun K hK=>?_
  exact Oper.quiet_mono (fun a' h'=>hK a' h') h
 ·rw[if_neg hw] at h
  exact lx_skip (by simpa using hw) h
theorem lx_done (h:Q .normal a w):Lx P ops C Q [] a w:=⟨h⟩
theorem lx_call1 {f:FuncId} {x1:Operand} {y1:Value} {tx:Array TypeId} {v:Value} {R:World->Prop} (hen:∀ ag w,(callFunc f ag).run P w = .ok (.enter f ag) w) (hc:Calls P f #[y1] w fun e w'=>e = .returned v/\R w') (h1:a.eval x1=y1) (hw:Region.wanted ⟨d,.call { callee:=.value (.func f),args:=#[x1],argTypes:=tx },ty,ps,af,gd⟩ (yielded ops a.tmps)=true)
  (h:∀ w',R w'->C w'/\Lx P ops C Q r (a.put d v) w'):Lx P ops C Q (⟨d,.call { callee:=.value (.func f),args:=#[x1],argTypes:=tx },ty,ps,af,gd⟩::r) a w :=
 lx_act hw rfl fun K hK=>by
  have hf:a.eval (.func f) = .func (.func f) #[] #[]:=rfl
  unfold Oper.wp execOp
  simp only[resolve,invoke,Sem.run_bind,hf]
  simp[Deferred.ofValue,hen,Oper.upon_enter,h1]
  refine hc.mono ?_
  rintro e w' ⟨rfl,hp⟩
  exact hK _ _ (h w' hp).1 (h w' hp).2
theorem lx_call2 {f:FuncId} {x1 x2:Operand} {y1 y2:Value} {tx:Array TypeId} {v:Value} {R:World->Prop} (hen:∀ ag w,(callFunc f ag).run P w = .ok (.enter f ag) w) (hc:Calls P f #[y1,y2] w fun e w'=>e = .returned v/\R w') (h1:a.eval x1=y1) (h2:a.eval x2=y2) (hw:Region.wanted ⟨d,.call { callee:=.value (.func f),args:=#[x1,x2],argTypes:=tx },ty,ps,af,gd⟩ (yielded ops a.tmps)=true)
  (h:∀ w',R w'->C w'/\Lx P ops C Q r (a.put d v) w'):Lx P ops C Q (⟨d,.call { callee:=.value (.func f),args:=#[x1,x2],argTypes:=tx },ty,ps,af,gd⟩::r) a w :=
 lx_act hw rfl fun K hK=>by
  have hf:a.eval (.func f) = .func (.func f) #[] #[]:=rfl
  unfold Oper.wp execOp
  simp only[resolve,invoke,Sem.run_bind,hf]
  simp[Deferred.ofValue,hen,Oper.upon_enter,h1,h2]
  refine hc.mono ?_
  rintro e w' ⟨rfl,hp⟩
  exact hK _ _ (h w' hp).1 (h w' hp).2
theorem lx_call3 {f:FuncId} {x1 x2 x3:Operand} {y1 y2 y3:Value} {tx:Array TypeId} {v:Value} {R:World->Prop} (hen:∀ ag w,(callFunc f ag).run P w = .ok (.enter f ag) w) (hc:Calls P f #[y1,y2,y3] w fun e w'=>e = .returned v/\R w') (h1:a.eval x1=y1) (h2:a.eval x2=y2) (h3:a.eval x3=y3) (hw:Region.wanted ⟨d,.call { callee:=.value (.func f),args:=#[x1,x2,x3],argTypes:=tx },ty,ps,af,gd⟩ (yielded ops a.tmps)=true)
  (h:∀ w',R w'->C w'/\Lx P ops C Q r (a.put d v) w'):Lx P ops C Q (⟨d,.call { callee:=.value (.func f),args:=#[x1,x2,x3],argTypes:=tx },ty,ps,af,gd⟩::r) a w :=
 lx_act hw rfl fun K hK=>by
  have hf:a.eval (.func f) = .func (.func f) #[] #[]:=rfl
  unfold Oper.wp execOp
  simp only[resolve,invoke,Sem.run_bind,hf]
  simp[Deferred.ofValue,hen,Oper.upon_enter,h1,h2,h3]
  refine hc.mono ?_
  rintro e w' ⟨rfl,hp⟩
  exact hK _ _ (h w' hp).1 (h w' hp).2
theorem range_map (l:List Oper):(List.range l.length).map (fun i=>l.toArray[i]?)=l.map some:=by
 apply List.ext_getElem?
 intro i
 rw[List.getElem?_map,List.getElem?_map]
 by_cases hi:i<l.length
 ·rw[List.getElem?_range hi]
  simp[hi]
 ·rw[List.getElem?_eq_none (by simpa using hi),List.getElem?_eq_none (by omega)]
  rfl
end
structure CW (p:World->Prop) where
 w:World
 h:p w
section
variable {P:Program} {ops:Array Oper} {Q:Exit->Act->World->Prop} {d:Option Tmp} {ty:TypeId} {ps:String} {af:Array Edge} {gd:Option (Nat×Bool)} {r:List Oper} {a:Act} {w:World} {p:World->Prop}
theorem lx_p1 {f:FuncId} {x1:Operand} {y1:Value} {tx:Array TypeId} {v:Value} (hen:∀ ag w,(callFunc f ag).run P w = .ok (.enter f ag) w) (hc:∀ W,p W->Calls P f #[y1] W fun e w'=>e = .returned v/\p w') (hp:p w) (h1:a.eval x1=y1) (hw:Region.wanted ⟨d,.call { callee:=.value (.func f),args:=#[x1],argTypes:=tx },ty,ps,af,gd⟩ (yielded ops a.tmps)=true)
  (h:∀ w',p w'->Lx P ops (fun W=>∃ θ:CW p,W=θ.w) Q r (a.put d v) w'):Lx P ops (fun W=>∃ θ:CW p,W=θ.w) Q (⟨d,.call { callee:=.value (.func f),args:=#[x1],argTypes:=tx },ty,ps,af,gd⟩::r) a w :=
 lx_call1 hen (hc w hp) h1 hw fun w' hp'=>⟨⟨⟨w',hp'⟩,rfl⟩,h w' hp'⟩
theorem lx_p2 {f:FuncId} {x1 x2:Operand} {y1 y2:Value} {tx:Array TypeId} {v:Value} (hen:∀ ag w,(callFunc f ag).run P w = .ok (.enter f ag) w) (hc:∀ W,p W->Calls P f #[y1,y2] W fun e w'=>e = .returned v/\p w') (hp:p w) (h1:a.eval x1=y1) (h2:a.eval x2=y2) (hw:Region.wanted ⟨d,.call { callee:=.value (.func f),args:=#[x1,x2],argTypes:=tx },ty,ps,af,gd⟩ (yielded ops a.tmps)=true)
  (h:∀ w',p w'->Lx P ops (fun W=>∃ θ:CW p,W=θ.w) Q r (a.put d v) w'):Lx P ops (fun W=>∃ θ:CW p,W=θ.w) Q (⟨d,.call { callee:=.value (.func f),args:=#[x1,x2],argTypes:=tx },ty,ps,af,gd⟩::r) a w :=
 lx_call2 hen (hc w hp) h1 h2 hw fun w' hp'=>⟨⟨⟨w',hp'⟩,rfl⟩,h w' hp'⟩
theorem lx_p3 {f:FuncId} {x1 x2 x3:Operand} {y1 y2 y3:Value} {tx:Array TypeId} {v:Value} (hen:∀ ag w,(callFunc f ag).run P w = .ok (.enter f ag) w) (hc:∀ W,p W->Calls P f #[y1,y2,y3] W fun e w'=>e = .returned v/\p w') (hp:p w) (h1:a.eval x1=y1) (h2:a.eval x2=y2) (h3:a.eval x3=y3) (hw:Region.wanted ⟨d,.call { callee:=.value (.func f),args:=#[x1,x2,x3],argTypes:=tx },ty,ps,af,gd⟩ (yielded ops a.tmps)=true)
  (h:∀ w',p w'->Lx P ops (fun W=>∃ θ:CW p,W=θ.w) Q r (a.put d v) w'):Lx P ops (fun W=>∃ θ:CW p,W=θ.w) Q (⟨d,.call { callee:=.value (.func f),args:=#[x1,x2,x3],argTypes:=tx },ty,ps,af,gd⟩::r) a w :=
 lx_call3 hen (hc w hp) h1 h2 h3 hw fun w' hp'=>⟨⟨⟨w',hp'⟩,rfl⟩,h w' hp'⟩
end
theorem wp_region_lx {P:Program} {Q:Exit->Act->World->Prop} {id:Nat} {a:Act} {w:World} {l:List Oper} (p:World->Prop) (hm:P.follows .mixedOrders=true) (hv:(Region.noSelect l.toArray&&schB .any l.toArray (List.range l.length) (Array.replicate l.length false))=true)
  (hQ:∀ c (a:Act) d v w,Q (.panic c) (a.put d v) w->Q (.panic c) a w) (hp:p w.drew) (h:Lx P l.toArray (fun W=>∃ θ:CW p,W=θ.w) Q l a w.drew):(Code.region id l.toArray true).wp P Q a w:=by
 rw[Bool.and_eq_true] at hv
 refine wp_region_held (S:=fun W=>∃ θ:CW p,W=θ.w) hm ?_
 have:=wpAnyH_sch hv.1 hQ _ _ a w.drew hv.2 ⟨⟨_,hp⟩,rfl⟩ (wpSch_of _ _ _ _ (range_map l) h.out)
 rw[List.length_range] at this
 simpa using this
theorem wp_region_lp {P:Program} {Q:Exit->Act->World->Prop} {id:Nat} {a:Act} {w:World} {l:List Oper} (p:World->Prop) (hm:P.follows .mixedOrders=true) (hv:(Region.noSelect l.toArray&&schB .any l.toArray (List.range l.length) (Array.replicate l.length false))=true)
  (hQ:∀ c (a:Act) d v w,Q (.panic c) (a.put d v) w->Q (.panic c) a w) (hp:p w.drew) (h:∀ W,p W->Lx P l.toArray (fun W=>∃ θ:CW p,W=θ.w) Q l a W):(Code.region id l.toArray true).wp P Q a w :=
 wp_region_lx p hm hv hQ hp (h _ hp)
theorem wp_region_px {P:Program} {Q:Exit->Act->World->Prop} {id:Nat} {a:Act} {w:World} {l:List Oper} (p:World->Prop) (sc:List Nat) (l':List Oper) (hl:sc.map (fun i=>l.toArray[i]?)=l'.map some) (hm:P.follows .mixedOrders=true) (hv:(Region.noSelect l.toArray&&schB .any l.toArray sc (Array.replicate l.length false)&&(sc.length==l.length))=true)
  (hQ:∀ c (a:Act) d v w,Q (.panic c) (a.put d v) w->Q (.panic c) a w) (hp:p w.drew) (h:Lx P l.toArray (fun W=>∃ θ:CW p,W=θ.w) Q l' a w.drew):(Code.region id l.toArray true).wp P Q a w:=by
 rw[Bool.and_eq_true,Bool.and_eq_true,beq_iff_eq] at hv
 refine wp_region_held (S:=fun W=>∃ θ:CW p,W=θ.w) hm ?_
 have:=wpAnyH_sch hv.1.1 hQ _ _ a w.drew hv.1.2 ⟨⟨_,hp⟩,rfl⟩ (wpSch_of _ _ _ _ hl h.out)
 rw[hv.2] at this
 simpa using this
theorem ch2:∀ a b:Bool,a=false\/(a=true/\b=false)\/(a=true/\b=true):=by decide
theorem ch3:∀ a b c:Bool,a=false\/(a=true/\b=false)\/(a=true/\b=true/\c=false)\/(a=true/\b=true/\c=true):=by decide
theorem ch4:∀ a b c d:Bool,a=false\/(a=true/\b=false)\/(a=true/\b=true/\c=false)\/(a=true/\b=true/\c=true/\d=false)\/(a=true/\b=true/\c=true/\d=true):=by decide
theorem ch5:∀ a b c d e:Bool,a=false\/(a=true/\b=false)\/(a=true/\b=true/\c=false)\/(a=true/\b=true/\c=true/\d=false)\/(a=true/\b=true/\c=true/\d=true/\e=false)\/(a=true/\b=true/\c=true/\d=true/\e=true):=by decide
theorem ch6:∀ a b c d e f:Bool,a=false\/(a=true/\b=false)\/(a=true/\b=true/\c=false)\/(a=true/\b=true/\c=true/\d=false)\/(a=true/\b=true/\c=true/\d=true/\e=false)\/(a=true/\b=true/\c=true/\d=true/\e=true/\f=false)\/(a=true/\b=true/\c=true/\d=true/\e=true/\f=true):=by
 intro a b c d e f
 cases a<;>cases b<;>cases c<;>cases d<;>cases e<;>cases f<;>simp
theorem pts:(∀ (a:Act) (d:Tmp) (v:Value),a.put (some d) v={ a with tmps:=a.tmps.setIfInBounds d v })/\(∀ (a:Act) (v:Value),a.put none v=a)/\(∀ (l:List Value) (i:Nat) (v:Value),l.toArray.setIfInBounds i v=(l.set i v).toArray)/\(∀ (l:List Value) (x v:Value),(x::l).set 0 v=v::l)/\(∀ (l:List Value) (x v:Value) (n:Nat),(x::l).set (n+1) v=x::l.set n v) :=
 ⟨fun _ _ _=>rfl,fun _ _=>rfl,fun _ _ _=>List.setIfInBounds_toArray ..,fun _ _ _=>rfl,fun _ _ _ _=>rfl⟩
open Go.Shelf Go.Maps
theorem nbel (w:World) (o:Obj):Below w.heap.size w (w.alloc o):=(Below.refl _ _).alloc (Nat.le_refl _) _
theorem thnK (w:World) (o:Obj):(w.alloc o).heap[w.heap.size]?=some o:=by
 show (w.heap.push o)[w.heap.size]?=some o
 simp
def cI (n:Nat):Value:=.int .i64 (n:Int)
theorem own_lower {w:World} {H H' n z:Nat} {ty:TypeId} {v:Value} {xs:List Value} (h:w.ownsRow H ty z v n xs) (hH:H'<=H):w.ownsRow H' ty z v n xs:=by
 refine⟨h.1,?_⟩
 rcases h.2 with h0|⟨g,cap,cur,e,hb',r⟩
 ·exact .inl h0
 ·exact .inr ⟨g,cap,cur,e,Nat.le_trans hH hb',r⟩
theorem own_keep {W W':World} {base:Nat} {e:TypeId} {s:Nat} {v:Value} {n:Nat} {xs:List Value} (h:W.ownsRow base e s v n xs) (hb:Below W.heap.size W W'):W'.ownsRow base e s v n xs:=by
 refine⟨h.1,?_⟩
 rcases h.2 with h0|⟨g,cap,cur,rfl,hb',hg,r⟩
 ·exact .inl h0
 ·exact .inr ⟨g,cap,cur,rfl,hb',(hb.block g (Array.getElem?_eq_some_iff.1 hg).1).trans hg,r⟩
theorem grown_below {H:Nat} {w Wp w':World} {v:Value} (hW:Below w.heap.size w Wp) (q2:Wp.grownBy w' v.ownBlock) (hH:H<=w.heap.size) (hv:∀ k,v.ownBlock=some k->H<=k):Below H w w' :=
 ⟨q2.os.trans hW.os,q2.tape.trans hW.tape,q2.output.trans hW.output,Nat.le_trans hW.size q2.size,fun j hj=>(q2.block j (by have:=hW.size;omega) (fun e=>by have:=hv j e.symm;omega)).trans (hW.block j (by omega))⟩
theorem ap_step {P:Program} {w:World} {ops:Array Oper} {rest:List Oper} {o:Oper} {a:Act} {Q:Exit->Act->World->Prop} (hgd:o.guard=none) (s x:Operand) (t tx:TypeId)
  (ho:o.op = .call { callee:=.builtin .append,args:=#[s,x],argTypes:=#[t,tx] }) (sv xv:Value) (hs:a.eval s=sv) (hx:a.eval x=xv) (Post:Value->World->Prop)
  (hrun:∃ v w',(∀ ty,(Builtin.append_ #[t,tx] ty #[sv,xv]).run P w = .ok v w')/\Post v w')
  (h:∀ v w',Post v w'->wpList P ops Q rest (a.put o.dst v) w'):wpList P ops Q (o::rest) a w:=by
 obtain⟨v,w',hr,hp⟩:=hrun
 refine wpList_plain hgd fun _ hK=>?_
 unfold Oper.wp execOp
 simp only[ho,resolve,invoke,builtin,Sem.run_bind,Sem.run_pure,Result.andThen_ok,List.map_toArray,List.map_cons,List.map_nil,hs,hx,hr]
 exact hK _ _ (h v w' hp)
theorem pick_map (l:List Oper):∀ sc:List Nat,sc.all (fun i=>decide (i<l.length))=true->sc.map (fun i=>l.toArray[i]?)=(sc.filterMap fun i=>l[i]?).map some
 | [],_=>rfl
 | i::r,h=>by
  rw[List.all_cons,Bool.and_eq_true,decide_eq_true_eq] at h
  rw[List.map_cons,List.filterMap_cons,List.getElem?_eq_getElem h.1,pick_map l r h.2]
  simp[h.1]
theorem wp_region_pp {P:Program} {Q:Exit->Act->World->Prop} {id:Nat} {a:Act} {w:World} {l:List Oper} (p:World->Prop) (sc:List Nat) (hm:P.follows .mixedOrders=true) (hv:(Region.noSelect l.toArray&&schB .any l.toArray sc (Array.replicate l.length false)&&(sc.length==l.length)&&sc.all (fun i=>decide (i<l.length)))=true)
  (hQ:∀ c (a:Act) d v w,Q (.panic c) (a.put d v) w->Q (.panic c) a w) (hp:p w.drew) (h:Lx P l.toArray (fun W=>∃ θ:CW p,W=θ.w) Q (sc.filterMap fun i=>l[i]?) a w.drew):(Code.region id l.toArray true).wp P Q a w:=by
 rw[Bool.and_eq_true] at hv
 exact wp_region_px p sc _ (pick_map l sc hv.2) hm hv.1 hQ hp h
end Go.Proofs.YtjlbcdnkglaheaaGreatDoor
