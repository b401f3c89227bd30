import Derived.Test.YtekpgklllfobfaaGreatDoorProg
import Derived.WalkSpells
import Derived.WalkLawsBesides
import Derived.ProofKit
import Derived.BigQuiet
import Derived.Deep.RegionHeld
import Derived.Shelf.Abstract
import Derived.Deep.AppendLies
import Derived.OpenShut
namespace Go.Proofs.YtekpgklllfobfaaGreatDoor
set_option maxRecDepth 1000000
set_option maxHeartbeats 16000000
def lv:List Nat->Nat
 | []=>0
 | x::r=>x+16777216*lv r
def lok (a:List Nat):Prop:=∀ x∈a,x<16777216
def trm (a:List Nat):Prop:=a.getLast?≠some 0
theorem lv_snoc:∀ (a:List Nat) (x:Nat),lv (a++[x])=lv a+16777216 ^ a.length*x
 | [],x=>by simp[lv]
 | y::r,x=>by
  rw[List.cons_append,lv,lv_snoc r x,lv,List.length_cons,Nat.pow_succ,Nat.mul_add]
  have:16777216*(16777216 ^ r.length*x)=16777216 ^ r.length*16777216*x:=by rw[<- Nat.mul_assoc,Nat.mul_comm 16777216]
  omega
theorem lok_snoc {a:List Nat} {x:Nat} (h:lok a) (hx:x<16777216):lok (a++[x]):=fun y hy=>by
 rcases List.mem_append.1 hy with h1|h1
 ·exact h y h1
 ·rw[List.mem_singleton.1 h1];exact hx
theorem lv_lt:∀ {a:List Nat},lok a->lv a<16777216 ^ a.length
 | [],_=>by simp[lv]
 | x::r,h=>by
  have h1:=h x (List.mem_cons_self ..)
  have h2:=lv_lt (a:=r) fun y hy=>h y (List.mem_cons_of_mem _ hy)
  rw[lv,List.length_cons,Nat.pow_succ]
  omega
theorem lv_take_succ {a:List Nat} {i x:Nat} (h:a[i]?=some x):lv (a.take (i+1))=lv (a.take i)+16777216 ^ i*x:=by
 have hi:=(List.getElem?_eq_some_iff.1 h).1
 rw[List.take_add_one,h]
 show lv (a.take i++[x])=_
 rw[lv_snoc,List.length_take,Nat.min_eq_left (by omega)]
theorem lv_pop {a:List Nat} {x:Nat} (hx:x=0):lv (a++[x])=lv a:=by
 rw[lv_snoc,hx]
 simp
theorem trm_pos {a:List Nat} {x:Nat} (hx:x≠0):trm (a++[x]):=by
 unfold trm
 rw[List.getLast?_append]
 simpa using hx
theorem trm_nil:trm []:=by unfold trm;simp
theorem snoc_of {a:List Nat} (h:a≠[]):∃ b x,a=b++[x]:=⟨a.dropLast,a.getLast h,(List.dropLast_concat_getLast h).symm⟩
theorem trm_lo {a:List Nat} (ht:trm a) (hn:a≠[]):16777216 ^ (a.length-1)<=lv a:=by
 obtain⟨b,x,rfl⟩:=snoc_of hn
 have hx:x≠0:=fun e=>by unfold trm at ht;rw[List.getLast?_append] at ht;simp[e] at ht
 rw[lv_snoc,List.length_append,List.length_singleton,Nat.add_sub_cancel]
 have:16777216 ^ b.length*1<=16777216 ^ b.length*x:=Nat.mul_le_mul_left _ (by omega)
 omega
theorem lv_len_lt {a b:List Nat} (ha:lok a) (hb:trm b) (h:a.length<b.length):lv a<lv b:=by
 have h1:=lv_lt ha
 have h2:=trm_lo hb (fun e=>by rw[e] at h;simp at h)
 have h3:16777216 ^ a.length<=16777216 ^ (b.length-1):=Nat.pow_le_pow_right (by omega) (by omega)
 omega
theorem lv_cmp {a b:List Nat} (ha:lok a) {i x y:Nat} (hx:a[i]?=some x) (hy:b[i]?=some y) (hs:a.drop (i+1)=b.drop (i+1)) (h:x<y):lv a<lv b:=by
 have hi:=(List.getElem?_eq_some_iff.1 hx).1
 have split:∀ {l:List Nat} {z:Nat},l[i]?=some z->lv l=lv (l.take i)+16777216 ^ i*(z+16777216*lv (l.drop (i+1))):=fun {l z} hz=>by
  have hi2:=(List.getElem?_eq_some_iff.1 hz).1
  have app:∀ (p q:List Nat),lv (p++q)=lv p+16777216 ^ p.length*lv q:=by
   intro p q
   induction p with
   | nil=>simp[lv]
   | cons c p ih =>
    rw[List.cons_append,lv,ih,lv,List.length_cons,Nat.pow_succ,Nat.mul_add]
    have:16777216*(16777216 ^ p.length*lv q)=16777216 ^ p.length*16777216*lv q:=by rw[<- Nat.mul_assoc,Nat.mul_comm 16777216]
    omega
  have e:l=l.take i++(z::l.drop (i+1)):=by
   rw[(List.getElem?_eq_some_iff.1 hz).2.symm,List.getElem_cons_drop,List.take_append_drop]
  conv=>lhs;rw[e]
  rw[app,List.length_take,Nat.min_eq_left (by omega),lv]
 rw[split hx,split hy,hs]
 have h1:lv (a.take i)<16777216 ^ i:=by
  have:=lv_lt (a:=a.take i) fun z hz=>ha z (List.mem_of_mem_take hz)
  rwa [List.length_take,Nat.min_eq_left (by omega)] at this
 have h2:16777216 ^ i*(x+16777216*lv (b.drop (i+1))+1)<=16777216 ^ i*(y+16777216*lv (b.drop (i+1))):=Nat.mul_le_mul_left _ (by omega)
 rw[Nat.mul_add,Nat.mul_one] at h2
 omega
open Go.ChangeShapes Go.WideShapes Go.ChangeAt Go.RowKit
def rdK:Op->Bool
 | .move _=>true
 | .assign _=>true
 | .pick _ _ _=>true
 | .build _ _=>true
 | .load _ _=>true
 | .nilCheck _=>true
 | .binOp _ _ _ _ _=>true
 | .unOp _ _ _=>true
 | .convert _ _ _=>true
 | .slice _ _ _ _ _=>true
 | .fieldAddr _ _ _=>true
 | .field _ _ _=>true
 | .indexAddr _ _ _=>true
 | .index _ _ _=>true
 | .extract _ _=>true
 | .call { callee:=.builtin .len,args:=_,argTypes:=_ }=>true
 | _=>false
section
variable {P:Program} {ops:Array Oper} {C:World->Prop} {Q:Exit->Act->World->Prop} {md:Region.Mode}
def ValOnly (s:Sem Next):Prop:=∀ (P:Program) (W W':World) (n:Next),s.run P W = .ok n W'->∃ u,n = .value u
theorem valOnly_v (s:Sem Value):ValOnly (do let x <- s;pure (Next.value x)):=fun P W W' n h=>by
 simp only[Sem.run_bind] at h
 cases hs:s.run P W with
 | ok u w' =>
  rw[hs] at h
  simp only[Result.andThen_ok,Sem.run_pure] at h
  cases h
  exact⟨_,rfl⟩
 | halt x w'=>rw[hs] at h;cases h
theorem valOnly_pure (v:Value):ValOnly (pure (Next.value v)):=fun P W W' n h=>by cases h;exact⟨_,rfl⟩
theorem valOnly_bind {α:Type} (s:Sem α) (f:α->Sem Next) (h:∀ x,ValOnly (f x)):ValOnly (s >>= f):=fun P W W' n h'=>by
 simp only[Sem.run_bind] at h'
 cases hs:s.run P W with
 | ok u w'=>rw[hs] at h';exact h u P w' W' n h'
 | halt x w'=>rw[hs] at h';cases h'
theorem valOnly_nil:ValOnly (runtimePanic .nilDeref):=fun P W W' n h=>by
 revert h
 simp[go_sem]
theorem rd_valOnly {o:Oper} {ρ:Operand->Value} (hr:rdK o.op=true):ValOnly (execOp ρ o):=by
 obtain⟨d,op,ty,ps,af,gd⟩:=o
 cases op
 case pick=>exact valOnly_bind _ _ fun _=>valOnly_pure _
 case nilCheck x =>
  unfold execOp
  dsimp only
  split
  ·exact valOnly_nil
  ·exact valOnly_nil
  ·exact valOnly_nil
  ·split
   ·exact valOnly_nil
   ·refine valOnly_bind _ _ fun _=>valOnly_bind _ _ fun _=>?_
    split
    ·exact valOnly_bind _ _ fun _=>valOnly_pure _
    ·exact valOnly_pure _
   ·exact valOnly_pure _
  ·exact valOnly_pure _
 case call c =>
  obtain⟨cl,ar,at_⟩:=c
  cases cl with
  | value f=>exact Bool.noConfusion (show false=true from hr)
  | invoke r m=>exact Bool.noConfusion (show false=true from hr)
  | builtin b =>
   cases b
   case len=>exact valOnly_v _
   all_goals exact Bool.noConfusion (show false=true from hr)
 all_goals first
  | exact Bool.noConfusion (show false=true from hr)
  | exact valOnly_pure _
  | exact valOnly_v _
theorem rd_value {o:Oper} {a:Act} {W:World} {v:Value} (hr:rdK o.op=true) (h:o.quietAt P a C W v):(execOp a.eval o).run P W = .ok (.value v) W:=by
 have hv:=rd_valOnly (ρ:=a.eval) hr P W
 unfold Oper.quietAt at h
 cases hs:(execOp a.eval o).run P W with
 | ok n w' =>
  obtain⟨u,rfl⟩:=hv w' n hs
  rw[hs] at h
  obtain⟨rfl,rfl⟩:=h
  rfl
 | halt x w'=>rw[hs] at h;exact h.elim
def schB (md:Region.Mode) (ops:Array Oper):List Nat->Array Bool->Bool
 | [],listed=>(Region.ready md ops listed).isEmpty
 | i::r,listed=>(match ops[i]? with
  | some o=>if rdK o.op then Region.free md ops listed i&&(Region.ready md ops listed).contains i else Region.ready md ops listed==[i]
  | none=>false)&&schB md ops r (listed.setIfInBounds i true)
def wpSch (P:Program) (ops:Array Oper) (C:World->Prop) (Q:Exit->Act->World->Prop):List Nat->Act->World->Prop
 | [],a,w=>Q .normal a w
 | i::r,a,w=>match ops[i]? with
  | none=>False
  | some o=>if Region.wanted o (yielded ops a.tmps)=true then (if rdK o.op=true then o.quiet P a C (fun a'=>wpSch P ops C Q r a' w) else Oper.wp P o a w (fun a' w'=>C w'/\wpSch P ops C Q r a' w') Q) else wpSch P ops C Q r (a.put o.dst undef) w
theorem wpAnyH_sch (hs:Region.noSelect ops=true) (hQ:∀ c (a:Act) d v w,Q (.panic c) (a.put d v) w->Q (.panic c) a w):∀ (sc:List Nat) (listed:Array Bool) (a:Act) (w:World),schB md ops sc listed=true->C w->wpSch P ops C Q sc a w->wpAnyH P md ops Q C sc.length listed a w
 | [],listed,a,w,hv,_,h=>wpAnyH_done (by simpa[schB] using hv) h _
 | i::r,listed,a,w,hv,hC,h=>by
  unfold schB at hv
  rw[Bool.and_eq_true] at hv
  obtain⟨h1,h2⟩:=hv
  unfold wpSch at h
  cases ho:ops[i]? with
  | none=>rw[ho] at h1;cases h1
  | some o =>
   rw[ho] at h1 h
   dsimp only at h1 h
   rw[List.length_cons]
   by_cases hr:rdK o.op=true
   ·rw[if_pos hr,Bool.and_eq_true] at h1
    by_cases hw:Region.wanted o (yielded ops a.tmps)=true
    ·rw[if_pos hw,if_pos hr] at h
     obtain⟨v,hv,h⟩:=h
     exact wpAnyH_take ho hs h1.1 h1.2 (fun c a w=>hQ c a o.dst v w) (.inl ⟨hw,fun W hW=>rd_value hr (hv W hW)⟩) hC (wpAnyH_sch hs hQ r _ _ _ h2 hC h)
    ·rw[if_neg hw] at h
     rw[Bool.not_eq_true] at hw
     exact wpAnyH_take ho hs h1.1 h1.2 (fun c a w=>hQ c a o.dst undef w) (.inr ⟨hw,rfl⟩) hC (wpAnyH_sch hs hQ r _ _ _ h2 hC h)
   ·rw[if_neg hr,beq_iff_eq] at h1
    refine wpAnyH_all h1 (by simp) fun j hj=>?_
    rw[List.mem_singleton.1 hj]
    unfold wpOp
    rw[ho]
    dsimp only
    by_cases hw:Region.wanted o (yielded ops a.tmps)=true
    ·rw[if_pos hw,if_neg hr] at h
     rw[if_pos hw]
     exact .inl (Oper.wp_mono (fun a' w' h'=>⟨h'.1,wpAnyH_sch hs hQ r _ _ _ h2 h'.1 h'.2⟩) h)
    ·rw[if_neg hw] at h
     rw[if_neg hw]
     exact⟨hC,wpAnyH_sch hs hQ r _ _ _ h2 hC h⟩
def wpLx (P:Program) (ops:Array Oper) (C:World->Prop) (Q:Exit->Act->World->Prop):List Oper->Act->World->Prop
 | [],a,w=>Q .normal a w
 | o::r,a,w=>if Region.wanted o (yielded ops a.tmps)=true then (if rdK o.op=true then o.quiet P a C (fun a'=>wpLx P ops C Q r a' w) else Oper.wp P o a w (fun a' w'=>C w'/\wpLx P ops C Q r a' w') Q) else wpLx P ops C Q r (a.put o.dst undef) w
theorem wpSch_of:∀ (sc:List Nat) (l:List Oper) (a:Act) (w:World),sc.map (fun i=>ops[i]?)=l.map some->wpLx P ops C Q l a w->wpSch P ops C Q sc a w
 | [],[],_,_,_,h=>h
 | [],_::_,_,_,e,_=>by cases e
 | _::_,[],_,_,e,_=>by cases e
 | i::r,o::l,a,w,e,h=>by
  simp only[List.map_cons,List.cons.injEq] at e
  unfold wpSch
  rw[e.1]
  unfold wpLx at h
  dsimp only
  split
  ·rename_i hw
   rw[if_pos hw] at h
   split
   ·rename_i hr
    rw[if_pos hr] at h
    exact Oper.quiet_mono (fun a' h'=>wpSch_of r l a' w e.2 h') h
   ·rename_i hr
    rw[if_neg hr] at h
    exact Oper.wp_mono (fun a' w' h'=>⟨h'.1,wpSch_of r l a' w' e.2 h'.2⟩) h
  ·rename_i hw
   rw[if_neg hw] at h
   exact wpSch_of r l _ w e.2 h
variable {d:Option Tmp} {op:Op} {ty:TypeId} {ps:String} {af:Array Edge} {gd:Option (Nat×Bool)} {r:List Oper} {a:Act} {w:World}
structure Lx (P:Program) (ops:Array Oper) (C:World->Prop) (Q:Exit->Act->World->Prop) (l:List Oper) (a:Act) (w:World):Prop where
 out:wpLx P ops C Q l a w
theorem lx_skip (hw:Region.wanted ⟨d,op,ty,ps,af,gd⟩ (yielded ops a.tmps)=false) (h:Lx P ops C Q r (a.put d undef) w):Lx P ops C Q (⟨d,op,ty,ps,af,gd⟩::r) a w:=by
 refine⟨?_⟩
 unfold wpLx
 rw[if_neg (by rw[hw];decide)]
 exact h.out
theorem lx_read (hw:Region.wanted ⟨d,op,ty,ps,af,gd⟩ (yielded ops a.tmps)=true) (hr:rdK op=true) (h:∀ K:Act->Prop,(∀ a',Lx P ops C Q r a' w->K a')->Oper.quiet P ⟨d,op,ty,ps,af,gd⟩ a C K):Lx P ops C Q (⟨d,op,ty,ps,af,gd⟩::r) a w:=by
 refine⟨?_⟩
 unfold wpLx
 rw[if_pos hw,if_pos hr]
 exact h _ fun _ h=>h.out
theorem lx_act (hw:Region.wanted ⟨d,op,ty,ps,af,gd⟩ (yielded ops a.tmps)=true) (hr:rdK op=false) (h:∀ K:Act->World->Prop,(∀ a' w',C w'->Lx P ops C Q r a' w'->K a' w')->Oper.wp P ⟨d,op,ty,ps,af,gd⟩ a w K Q):Lx P ops C Q (⟨d,op,ty,ps,af,gd⟩::r) a w:=by
 refine⟨?_⟩
 unfold wpLx
 rw[if_pos hw,if_neg (by rw[hr];decide)]
 exact h _ fun _ _ h1 h2=>⟨h1,h2.out⟩
theorem lx_one (hr:rdK op=true) (h:wpQuiet P ops C (fun a'=>Lx P ops C Q r a' w) [⟨d,op,ty,ps,af,gd⟩] a):Lx P ops C Q (⟨d,op,ty,ps,af,gd⟩::r) a w:=by
 unfold wpQuiet at h
 by_cases hw:Region.wanted ⟨d,op,ty,ps,af,gd⟩ (yielded ops a.tmps)=true
 ·rw[if_pos hw] at h
  refine lx_read hw hr fun K hK=>?_
  exact Oper.quiet_mono (fun a' h'=>hK a' h') h
 ·rw[if_neg hw] at h
  exact lx_skip (by simpa using hw) h
theorem lx_done (h:Q .normal a w):Lx P ops C Q [] a w:=⟨h⟩
theorem lx_call1 {f:FuncId} {x1:Operand} {y1:Value} {tx:Array TypeId} {v:Value} {R:World->Prop} (hen:∀ ag w,(callFunc f ag).run P w = .ok (.enter f ag) w) (hc:Calls P f #[y1] w fun e w'=>e = .returned v/\R w') (h1:a.eval x1=y1) (hw:Region.wanted ⟨d,.call { callee:=.value (.func f),args:=#[x1],argTypes:=tx },ty,ps,af,gd⟩ (yielded ops a.tmps)=true)
  (h:∀ w',R w'->C w'/\Lx P ops C Q r (a.put d v) w'):Lx P ops C Q (⟨d,.call { callee:=.value (.func f),args:=#[x1],argTypes:=tx },ty,ps,af,gd⟩::r) a w :=
 lx_act hw rfl fun K hK=>by
  have hf:a.eval (.func f) = .func (.func f) #[] #[]:=rfl
  unfold Oper.wp execOp
  simp only[resolve,invoke,Sem.run_bind,hf]
  simp[Deferred.ofValue,hen,Oper.upon_enter,h1]
  refine hc.mono ?_
  rintro e w' ⟨rfl,hp⟩
  exact hK _ _ (h w' hp).1 (h w' hp).2
theorem range_map (l:List Oper):(List.range l.length).map (fun i=>l.toArray[i]?)=l.map some:=by
 apply List.ext_getElem?
 intro i
 rw[List.getElem?_map,List.getElem?_map]
 by_cases hi:i<l.length
 ·rw[List.getElem?_range hi]
  simp[hi]
 ·rw[List.getElem?_eq_none (by simpa using hi),List.getElem?_eq_none (by omega)]
  rfl
end
structure CW (p:World->Prop) where
 w:World
 h:p w
section
variable {P:Program} {ops:Array Oper} {Q:Exit->Act->World->Prop} {d:Option Tmp} {ty:TypeId} {ps:String} {af:Array Edge} {gd:Option (Nat×Bool)} {r:List Oper} {a:Act} {w:World} {p:World->Prop}
theorem lx_p1 {f:FuncId} {x1:Operand} {y1:Value} {tx:Array TypeId} {v:Value} (hen:∀ ag w,(callFunc f ag).run P w = .ok (.enter f ag) w) (hc:∀ W,p W->Calls P f #[y1] W fun e w'=>e = .returned v/\p w') (hp:p w) (h1:a.eval x1=y1) (hw:Region.wanted ⟨d,.call { callee:=.value (.func f),args:=#[x1],argTypes:=tx },ty,ps,af,gd⟩ (yielded ops a.tmps)=true)
  (h:∀ w',p w'->Lx P ops (fun W=>∃ θ:CW p,W=θ.w) Q r (a.put d v) w'):Lx P ops (fun W=>∃ θ:CW p,W=θ.w) Q (⟨d,.call { callee:=.value (.func f),args:=#[x1],argTypes:=tx },ty,ps,af,gd⟩::r) a w :=
 lx_call1 hen (hc w hp) h1 hw fun w' hp'=>⟨⟨⟨w',hp'⟩,rfl⟩,h w' hp'⟩
end
theorem wp_region_lx {P:Program} {Q:Exit->Act->World->Prop} {id:Nat} {a:Act} {w:World} {l:List Oper} (p:World->Prop) (hm:P.follows .mixedOrders=true) (hv:(Region.noSelect l.toArray&&schB .any l.toArray (List.range l.length) (Array.replicate l.length false))=true)
  (hQ:∀ c (a:Act) d v w,Q (.panic c) (a.put d v) w->Q (.panic c) a w) (hp:p w.drew) (h:Lx P l.toArray (fun W=>∃ θ:CW p,W=θ.w) Q l a w.drew):(Code.region id l.toArray true).wp P Q a w:=by
 rw[Bool.and_eq_true] at hv
 refine wp_region_held (S:=fun W=>∃ θ:CW p,W=θ.w) hm ?_
 have:=wpAnyH_sch hv.1 hQ _ _ a w.drew hv.2 ⟨⟨_,hp⟩,rfl⟩ (wpSch_of _ _ _ _ (range_map l) h.out)
 rw[List.length_range] at this
 simpa using this
theorem wp_region_px {P:Program} {Q:Exit->Act->World->Prop} {id:Nat} {a:Act} {w:World} {l:List Oper} (p:World->Prop) (sc:List Nat) (l':List Oper) (hl:sc.map (fun i=>l.toArray[i]?)=l'.map some) (hm:P.follows .mixedOrders=true) (hv:(Region.noSelect l.toArray&&schB .any l.toArray sc (Array.replicate l.length false)&&(sc.length==l.length))=true)
  (hQ:∀ c (a:Act) d v w,Q (.panic c) (a.put d v) w->Q (.panic c) a w) (hp:p w.drew) (h:Lx P l.toArray (fun W=>∃ θ:CW p,W=θ.w) Q l' a w.drew):(Code.region id l.toArray true).wp P Q a w:=by
 rw[Bool.and_eq_true,Bool.and_eq_true,beq_iff_eq] at hv
 refine wp_region_held (S:=fun W=>∃ θ:CW p,W=θ.w) hm ?_
 have:=wpAnyH_sch hv.1.1 hQ _ _ a w.drew hv.1.2 ⟨⟨_,hp⟩,rfl⟩ (wpSch_of _ _ _ _ hl h.out)
 rw[hv.2] at this
 simpa using this
theorem pts:(∀ (a:Act) (d:Tmp) (v:Value),a.put (some d) v={ a with tmps:=a.tmps.setIfInBounds d v })/\(∀ (a:Act) (v:Value),a.put none v=a)/\(∀ (l:List Value) (i:Nat) (v:Value),l.toArray.setIfInBounds i v=(l.set i v).toArray)/\(∀ (l:List Value) (x v:Value),(x::l).set 0 v=v::l)/\(∀ (l:List Value) (x v:Value) (n:Nat),(x::l).set (n+1) v=x::l.set n v) :=
 ⟨fun _ _ _=>rfl,fun _ _=>rfl,fun _ _ _=>List.setIfInBounds_toArray ..,fun _ _ _=>rfl,fun _ _ _ _=>rfl⟩
open Go.Shelf Go.Maps
theorem nbel (w:World) (o:Obj):Below w.heap.size w (w.alloc o):=(Below.refl _ _).alloc (Nat.le_refl _) _
theorem thnK (w:World) (o:Obj):(w.alloc o).heap[w.heap.size]?=some o:=by
 show (w.heap.push o)[w.heap.size]?=some o
 simp
def cI (n:Nat):Value:=.int .i64 (n:Int)
def NRow (W:World) (base:Nat) (v:Value) (ns:List Nat):Prop:=W.ownsRow base 3 1 v ns.length (ns.map cI)
theorem own_lower {w:World} {H H' n z:Nat} {ty:TypeId} {v:Value} {xs:List Value} (h:w.ownsRow H ty z v n xs) (hH:H'<=H):w.ownsRow H' ty z v n xs:=by
 refine⟨h.1,?_⟩
 rcases h.2 with h0|⟨g,cap,cur,e,hb',r⟩
 ·exact .inl h0
 ·exact .inr ⟨g,cap,cur,e,Nat.le_trans hH hb',r⟩
theorem own_keep {W W':World} {base:Nat} {e:TypeId} {s:Nat} {v:Value} {n:Nat} {xs:List Value} (h:W.ownsRow base e s v n xs) (hb:Below W.heap.size W W'):W'.ownsRow base e s v n xs:=by
 refine⟨h.1,?_⟩
 rcases h.2 with h0|⟨g,cap,cur,rfl,hb',hg,r⟩
 ·exact .inl h0
 ·exact .inr ⟨g,cap,cur,rfl,hb',(hb.block g (Array.getElem?_eq_some_iff.1 hg).1).trans hg,r⟩
theorem NRow.below {W W':World} {base:Nat} {v:Value} {ns:List Nat} (h:NRow W base v ns) (hb:Below W.heap.size W W'):NRow W' base v ns:=own_keep h hb
theorem NRow.low {W:World} {base base':Nat} {v:Value} {ns:List Nat} (h:NRow W base v ns) (hB:base'<=base):NRow W base' v ns:=own_lower h hB
theorem NRow.nil (W:World) (base:Nat):NRow W base (.slice none 0 0) []:=World.ownsRow_nil _ _ _ 1
theorem NRow.shape {W:World} {base:Nat} {v:Value} {ns:List Nat} (h:NRow W base v ns):∃ pp cp,v = .slice pp ns.length cp/\∀ (i n:Nat),ns[i]?=some n->∃ g,pp=some ⟨g,0,none⟩/\g<W.heap.size/\W.cell? ⟨g,i,none⟩=some (.int .i64 (n:Int)):=by
 rcases h.2 with ⟨hv,hn⟩|⟨g,cap,cur,hv,_,hg,hc,_,hs,ht⟩
 ·refine⟨none,0,by rw[hv,hn],fun i n hi=>?_⟩
  rw[List.eq_nil_of_length_eq_zero hn] at hi
  cases hi
 ·refine⟨_,_,hv,fun i n hi=>⟨g,rfl,(Array.getElem?_eq_some_iff.1 hg).1,?_⟩⟩
  have hi2:(ns.map cI)[i]?=some (.int .i64 (n:Int)):=by rw[List.getElem?_map,hi];rfl
  rw[<- ht] at hi2
  rw[List.getElem?_take] at hi2
  split at hi2
  ·simp only[World.cell?,hg]
   rw[<- hi2,Array.getElem?_toList]
   rfl
  ·cases hi2
theorem grown_below {H:Nat} {w Wp w':World} {v:Value} (hW:Below w.heap.size w Wp) (q2:Wp.grownBy w' v.ownBlock) (hH:H<=w.heap.size) (hv:∀ k,v.ownBlock=some k->H<=k):Below H w w' :=
 ⟨q2.os.trans hW.os,q2.tape.trans hW.tape,q2.output.trans hW.output,Nat.le_trans hW.size q2.size,fun j hj=>(q2.block j (by have:=hW.size;omega) (fun e=>by have:=hv j e.symm;omega)).trans (hW.block j (by omega))⟩
theorem infoInt:(Tryz.prog.info? 3).map (fun i=>(i.zero,i.size,i.bytes))=some (some (.int .i64 0),1,8):=by kernel_rfl
theorem n_ap {wr:World} {base:Nat} {v:Value} {ns:List Nat} (k:Nat) (h:NRow wr base v ns) (hl:ns.length+1<=977343669134) (hb:base<=wr.heap.size) :
  ∃ v' w',(∀ ty,(Builtin.append_ #[65,65] ty #[v,.slice (some ⟨wr.heap.size,0,none⟩) 1 1]).run Tryz.prog (wr.alloc (.cells #[.int .i64 (k:Int)] 3)) = .ok v' w')/\(NRow w' base v' (ns++[k])/\Below base wr w'):=by
 obtain⟨i0,hi,hz⟩:=Option.map_eq_some_iff.1 infoInt
 simp only[Prod.mk.injEq] at hz
 have h1:=own_keep h (nbel wr (.cells #[.int .i64 (k:Int)] 3))
 have hN:∀ (j:Nat) (u:Value),[Value.int .i64 (k:Int)][j]?=some u->(wr.alloc (.cells #[.int .i64 (k:Int)] 3)).cell? ((⟨wr.heap.size,0,none⟩:Addr).add j)=some u:=World.news_of_block (thnK wr _)
 have hr:=run_append_own_at (P:=Tryz.prog) (wr.alloc (.cells #[.int .i64 (k:Int)] 3)) base 65 0 3 i0 _ 1 8 Tryz.underlying65 hi hz.1 hz.2.1 hz.2.2 rfl (by decide) v ns.length (ns.map cI) h1 ⟨wr.heap.size,0,none⟩ 1 1 [.int .i64 (k:Int)] rfl hN (fun u hu=>by rw[List.mem_singleton.1 hu];rfl) (by simp only[maxLen];omega) (by omega) (by simp;omega)
 obtain⟨v',w',h2,h3,h4,_⟩:=hr
 refine⟨v',w',fun _=>h2,?_,grown_below (nbel _ _) h4 hb (fun j hj=>(h.lt j hj).1)⟩
 unfold NRow
 rw[List.length_append,List.map_append]
 exact h3
theorem ap_step {P:Program} {w:World} {ops:Array Oper} {rest:List Oper} {o:Oper} {a:Act} {Q:Exit->Act->World->Prop} (hgd:o.guard=none) (s x:Operand) (t tx:TypeId)
  (ho:o.op = .call { callee:=.builtin .append,args:=#[s,x],argTypes:=#[t,tx] }) (sv xv:Value) (hs:a.eval s=sv) (hx:a.eval x=xv) (Post:Value->World->Prop)
  (hrun:∃ v w',(∀ ty,(Builtin.append_ #[t,tx] ty #[sv,xv]).run P w = .ok v w')/\Post v w')
  (h:∀ v w',Post v w'->wpList P ops Q rest (a.put o.dst v) w'):wpList P ops Q (o::rest) a w:=by
 obtain⟨v,w',hr,hp⟩:=hrun
 refine wpList_plain hgd fun _ hK=>?_
 unfold Oper.wp execOp
 simp only[ho,resolve,invoke,builtin,Sem.run_bind,Sem.run_pure,Result.andThen_ok,List.map_toArray,List.map_cons,List.map_nil,hs,hx,hr]
 exact hK _ _ (h v w' hp)
def ch (s:ByteArray) (i:Nat):Nat:=(s.data.toList.getD i 0).toNat
theorem tl_len (t:ByteArray):t.data.toList.length=t.size:=Array.length_toList
theorem ch_lt (s:ByteArray) (i:Nat):ch s i<256:=UInt8.toNat_lt _
theorem ch_get (s:ByteArray) (i:Nat) (h:i<s.size):(s[i]'h).toNat=ch s i:=by
 have h2:i<s.data.toList.length:=by rw[tl_len];exact h
 simp only[ch,List.getD,List.getElem?_eq_getElem h2,Option.getD_some]
 congr 1
theorem size_ext (s:ByteArray) (a b:Nat) (h:b<=s.size):(s.extract a b).size=b-a:=by
 rw[ByteArray.size_extract];omega
theorem list_ext (s:ByteArray) (a b:Nat):(s.extract a b).data.toList=(s.data.toList.drop a).take (b-a):=by
 rw[ByteArray.data_extract,Array.toList_extract,List.extract_eq_take_drop]
theorem ch_ext (s:ByteArray) (a b i:Nat) (hi:i<b-a):ch (s.extract a b) i=ch s (a+i):=by
 unfold ch
 rw[list_ext]
 simp only[List.getD]
 rw[List.getElem?_take_of_lt hi,List.getElem?_drop]
theorem ch_app_l (a b:ByteArray) (i:Nat) (h:i<a.size):ch (a++b) i=ch a i:=by
 unfold ch
 rw[ByteArray.data_append,Array.toList_append,List.getD,List.getD,List.getElem?_append_left (by rw[tl_len];exact h)]
theorem ch_app_r (a b:ByteArray) (i:Nat):ch (a++b) (a.size+i)=ch b i:=by
 unfold ch
 rw[ByteArray.data_append,Array.toList_append,List.getD,List.getD,List.getElem?_append_right (by rw[tl_len];omega),tl_len,Nat.add_sub_cancel_left]
theorem ba_ext {a b:ByteArray} (h:a.data.toList=b.data.toList):a=b:=by
 cases a;cases b;congr 1;exact Array.toList_inj.1 h
theorem ret_bool {a b:Bool} (h:a=b):Ending.returned (.bool a) = .returned (.bool b):=by rw[h]
theorem bel1 (w:World) (o:Obj):Below w.heap.size w (w.alloc o):=(Below.refl _ _).alloc (Nat.le_refl _) _
theorem idx {w:World} (s:ByteArray) (i:Nat) (h:i<s.size) (k:IntKind):(Instr.index 9 (.string s) (.int k (i:Int))).run Tryz.prog w = .ok (.int .u8 (ch s i:Int)) w:=by
 rw[run_index_string w 9 s k i Tryz.underlying9,dif_pos ⟨by omega,by omega⟩]
 simp only[Int.toNat_natCast,ch_get]
def dgB (c:Nat):Bool:=decide (48<=c)&&decide (c<=57)
def wtZ (c:Nat):Int:=if 48<=c/\c<=57 then (c:Int)-48 else if 97<=c/\c<=102 then (c:Int)-87 else if 65<=c/\c<=70 then (c:Int)-55 else -1
def rok (hex:Bool) (c:Nat):Bool:=dgB c||(hex&&decide (0<=wtZ c))
def rwN (s:ByteArray) (hex:Bool) (i:Nat):Nat->Nat
 | 0=>i
 | m+1=>if i<s.size/\rok hex (ch s i)=true then rwN s hex (i+1) m else i
theorem rnb {a b:Bool} (h:a=b):Ending.returned (.bool a) = .returned (.bool b):=by rw[h]
theorem rni {a b:Int} (h:a=b):Ending.returned (.int .i64 a) = .returned (.int .i64 b):=by rw[h]
theorem rdigit3 (c:Nat) (w:World):Calls Tryz.prog 54 #[.int .u8 (c:Int)] w fun e w'=>e = .returned (.bool (dgB c))/\w'=w:=by
 unfold dgB
 by_cases h:48<=c
 ·go_enter Tryz.func54,Tryz.ntmps54
  go_wp2
  go_ret
  exact⟨rnb (by simp[h];omega),rfl⟩
 ·have d:decide (48<=(c:Int))=false:=by simp;omega
  go_enter Tryz.func54,Tryz.ntmps54
  go_wp2
  go_ret
  exact⟨rnb (by simp;omega),rfl⟩
theorem rworth3 (c:Nat) (hc:c<256) (w:World):Calls Tryz.prog 55 #[.int .u8 (c:Int)] w fun e w'=>e = .returned (.int .i64 (wtZ c))/\w'=w:=by
 have cD:=rdigit3 c w
 have:(48<=c/\c<=57)\/(97<=c/\c<=102)\/(65<=c/\c<=70)\/(¬ (48<=c/\c<=57)/\¬ (97<=c/\c<=102)/\¬ (65<=c/\c<=70)):=by omega
 unfold wtZ
 rcases this with h|h|h|h
 ·have g:dgB c=true:=by unfold dgB;simp;omega
  rw[g] at cD
  rw[if_pos h]
  go_enter Tryz.func55,Tryz.ntmps55
  go_wp2_with (go_at_call 54;refine cD.mono ?_;clear cD;rintro _ w1 ⟨rfl,rfl⟩)
  go_ret
  exact⟨rni (by omega),rfl⟩
 ·have g:dgB c=false:=by unfold dgB;simp;omega
  have d1:decide (97<=(c:Int))=true:=by simp;omega
  have d2:decide ((c:Int)<=102)=true:=by simp;omega
  rw[g] at cD
  rw[if_neg (by omega),if_pos h]
  go_enter Tryz.func55,Tryz.ntmps55
  go_wp2_with (go_at_call 54;refine cD.mono ?_;clear cD;rintro _ w1 ⟨rfl,rfl⟩)
  go_ret
  exact⟨rni (by omega),rfl⟩
 ·have g:dgB c=false:=by unfold dgB;simp;omega
  have d1:decide (97<=(c:Int))=false:=by simp;omega
  have d2:decide (65<=(c:Int))=true:=by simp;omega
  have d3:decide ((c:Int)<=70)=true:=by simp;omega
  rw[g] at cD
  rw[if_neg (by omega),if_neg (by omega),if_pos h]
  go_enter Tryz.func55,Tryz.ntmps55
  go_wp2_with (go_at_call 54;refine cD.mono ?_;clear cD;rintro _ w1 ⟨rfl,rfl⟩)
  go_ret
  exact⟨rni (by omega),rfl⟩
 ·have g:dgB c=false:=by unfold dgB;simp;omega
  rw[g] at cD
  rw[if_neg h.1,if_neg h.2.1,if_neg h.2.2]
  have d0:(97<=c/\102<c)\/(c<97):=by omega
  rcases d0 with k|k
  ·have d1:decide (97<=(c:Int))=true:=by simp;omega
   have d2:decide ((c:Int)<=102)=false:=by simp;omega
   have d3:decide (65<=(c:Int))=true:=by simp;omega
   have d4:decide ((c:Int)<=70)=false:=by simp;omega
   go_enter Tryz.func55,Tryz.ntmps55
   go_wp2_with (go_at_call 54;refine cD.mono ?_;clear cD;rintro _ w1 ⟨rfl,rfl⟩)
   go_ret
   exact⟨rfl,rfl⟩
  ·have d1:decide (97<=(c:Int))=false:=by simp;omega
   by_cases k2:65<=c
   ·have d3:decide (65<=(c:Int))=true:=by simp;omega
    have d4:decide ((c:Int)<=70)=false:=by simp;omega
    go_enter Tryz.func55,Tryz.ntmps55
    go_wp2_with (go_at_call 54;refine cD.mono ?_;clear cD;rintro _ w1 ⟨rfl,rfl⟩)
    go_ret
    exact⟨rfl,rfl⟩
   ·have d3:decide (65<=(c:Int))=false:=by simp;omega
    go_enter Tryz.func55,Tryz.ntmps55
    go_wp2_with (go_at_call 54;refine cD.mono ?_;clear cD;rintro _ w1 ⟨rfl,rfl⟩)
    go_ret
    exact⟨rfl,rfl⟩
theorem rwN_no {s:ByteArray} {hex:Bool} {i m:Nat} (h:m=0\/¬ i<s.size\/rok hex (ch s i)=false):rwN s hex i m=i:=by
 cases m with
 | zero=>rfl
 | succ m =>
  rw[rwN,if_neg]
  rintro⟨h1,h2⟩
  rcases h with h|h|h
  ·omega
  ·exact h h1
  ·rw[h2] at h;exact Bool.noConfusion h
theorem rwN_yes {s:ByteArray} {hex:Bool} {i m:Nat} (hm:0<m) (h1:i<s.size) (h2:rok hex (ch s i)=true):rwN s hex i m=rwN s hex (i+1) (m-1):=by
 obtain⟨k,rfl⟩:∃ k,m=k+1:=⟨m-1,by omega⟩
 rw[rwN,if_pos ⟨h1,h2⟩,Nat.add_sub_cancel]
theorem rrow3 (s:ByteArray) (i:Nat) (hex:Bool) (m:Nat) (w:World) (hi:i<=s.size) (hm:m<=4611686018427387904) (hs:s.size<=4611686018427387904) :
  Calls Tryz.prog 34 #[.string s,.int .i64 (i:Int),.bool hex,.int .i64 (m:Int)] w fun e w'=>e = .returned (.int .i64 (rwN s hex i m:Int))/\w'=w:=by
 go_enter Tryz.func34,Tryz.ntmps34
 go_wp2_with fail
 go_loop [1,9] (fun q n=>∃ a k:Nat,q = .int .i64 (a:Int)/\n = .int .i64 (k:Int)/\k<=m/\a<=s.size/\Hid (rwN s hex i m=rwN s hex a (m-k))) (fun q _=>s.size-(RowKit.intOf q).toNat)
 case atStart=>exact⟨i,0,rfl,by go_num,Nat.zero_le _,hi,rfl⟩
 case round =>
  obtain⟨a,k,rfl,rfl,hk,ha,hI⟩:=hrel
  by_cases hlt:a<s.size
  ·have l1:decide ((a:Int)<(s.size:Int))=true:=by simp;omega
   by_cases hkm:k<m
   ·have l2:decide ((k:Int)<(m:Int))=true:=by simp;omega
    have ix:∀ w:World,(Instr.index 9 (.string s) (.int .i64 (a:Int))).run Tryz.prog w = .ok (.int .u8 (ch s a:Int)) w:=fun w=>idx (w:=w) s a hlt .i64
    have ch256:=ch_lt s a
    have cD:=fun w=>rdigit3 (ch s a) w
    have cW:=fun w=>rworth3 (ch s a) ch256 w
    cases hb:rok hex (ch s a)
    ·have hz:Hid (rwN s hex i m=a):=hI.out.trans (rwN_no (Or.inr (Or.inr hb)))
     unfold rok at hb
     have hd:dgB (ch s a)=false:=by cases hd:dgB (ch s a);rfl;rw[hd] at hb;cases hb
     rw[hd] at hb cD
     cases hex
     ·clear hb hI cW
      go_wp2_with (go_at_call 54;refine(cD _).mono ?_;rintro e w1 ⟨rfl,rfl⟩)
      go_ret
      exact⟨by rw[hz.out];rfl,rfl⟩
     ·have hw:¬ 0<=wtZ (ch s a):=by simpa using hb
      clear hb hI
      go_wp2_with (first|(go_at_call 54;refine(cD _).mono ?_;rintro e w1 ⟨rfl,rfl⟩)|(go_at_call 55;refine(cW _).mono ?_;rintro e w1 ⟨rfl,rfl⟩))
      go_ret
      exact⟨by rw[hz.out];rfl,rfl⟩
    ·have hz:Hid (rwN s hex i m=rwN s hex (a+1) (m-(k+1))):=hI.out.trans (by rw[rwN_yes (by omega) hlt hb,Nat.sub_sub])
     unfold rok at hb
     cases hd:dgB (ch s a)
     ·rw[hd] at hb cD
      obtain rfl:hex=true:=by cases hex;simp at hb;rfl
      have hw:0<=wtZ (ch s a):=by simpa using hb
      clear hb hI
      go_wp2_with (first|(go_at_call 54;refine(cD _).mono ?_;rintro e w1 ⟨rfl,rfl⟩)|(go_at_call 55;refine(cW _).mono ?_;rintro e w1 ⟨rfl,rfl⟩))
      go_round
      case rel=>exact⟨a+1,k+1,by go_num,by go_num,by omega,by omega,hz⟩
      case measure=>simp[RowKit.intOf];omega
     ·rw[hd] at cD
      clear hb hI cW
      go_wp2_with (go_at_call 54;refine(cD _).mono ?_;rintro e w1 ⟨rfl,rfl⟩)
      go_round
      case rel=>exact⟨a+1,k+1,by go_num,by go_num,by omega,by omega,hz⟩
      case measure=>simp[RowKit.intOf];omega
   ·have l2:decide ((k:Int)<(m:Int))=false:=by simp;omega
    have hz:Hid (rwN s hex i m=a):=hI.out.trans (rwN_no (Or.inl (by omega)))
    clear hI
    go_wp2_with fail
    go_ret
    exact⟨by rw[hz.out];rfl,rfl⟩
  ·have l1:decide ((a:Int)<(s.size:Int))=false:=by simp;omega
   have hz:Hid (rwN s hex i m=a):=hI.out.trans (rwN_no (Or.inr (Or.inl hlt)))
   clear hI
   go_wp2_with fail
   go_ret
   exact⟨by rw[hz.out];rfl,rfl⟩
theorem nret {a b:Bool} (h:a=b):Ending.returned (.bool a) = .returned (.bool b):=by rw[h]
theorem nidx {w:World} (s:ByteArray) (i:Nat) (h:i<s.size) (k:IntKind):(Instr.index 9 (.string s) (.int k (i:Int))).run Tryz.prog w = .ok (.int .u8 (ch s i:Int)) w:=by
 rw[run_index_string w 9 s k i Tryz.underlying9,dif_pos ⟨by omega,by omega⟩]
 simp only[Int.toNat_natCast,ch_get]
def nlet (c:Nat):Bool:=(decide (65<=c)&&decide (c<=90))||(decide (97<=c)&&decide (c<=122))
def ndig (c:Nat):Bool:=decide (48<=c)&&decide (c<=57)
def nsym (c:Nat):Bool:=nlet c||ndig c||decide (c=95)
def symbolB (s:ByteArray):Bool:=decide (0<s.size/\s.size<=64/\ndig (ch s 0)=false/\∀ i,i<s.size->nsym (ch s i)=true)
theorem nisDigit (c:Nat) (w:World):Calls Tryz.prog 67 #[.int .u8 (c:Int)] w fun e w'=>e = .returned (.bool (ndig c))/\w'=w:=by
 unfold ndig
 by_cases h:48<=c
 ·go_enter Tryz.func67,Tryz.ntmps67
  go_wp2
  go_ret
  exact⟨nret (by simp[h];omega),rfl⟩
 ·have d:decide (48<=(c:Int))=false:=by simp;omega
  go_enter Tryz.func67,Tryz.ntmps67
  go_wp2
  go_ret
  exact⟨nret (by simp;omega),rfl⟩
theorem nisLetter (c:Nat) (w:World):Calls Tryz.prog 101 #[.int .u8 (c:Int)] w fun e w'=>e = .returned (.bool (nlet c))/\w'=w:=by
 have:(c<65)\/(65<=c/\c<=90)\/(90<c/\c<97)\/(97<=c/\c<=122)\/122<c:=by omega
 rcases this with h|h|h|h|h
 ·have d1:decide (65<=(c:Int))=false:=by simp;omega
  have d3:decide (97<=(c:Int))=false:=by simp;omega
  have g:nlet c=false:=by unfold nlet;simp;omega
  rw[g]
  go_enter Tryz.func101,Tryz.ntmps101
  go_wp2
  go_ret
  exact⟨rfl,rfl⟩
 ·have d1:decide (65<=(c:Int))=true:=by simp;omega
  have d2:decide ((c:Int)<=90)=true:=by simp;omega
  have g:nlet c=true:=by unfold nlet;simp;omega
  rw[g]
  go_enter Tryz.func101,Tryz.ntmps101
  go_wp2
  go_ret
  exact⟨rfl,rfl⟩
 ·have d1:decide (65<=(c:Int))=true:=by simp;omega
  have d2:decide ((c:Int)<=90)=false:=by simp;omega
  have d3:decide (97<=(c:Int))=false:=by simp;omega
  have g:nlet c=false:=by unfold nlet;simp;omega
  rw[g]
  go_enter Tryz.func101,Tryz.ntmps101
  go_wp2
  go_ret
  exact⟨rfl,rfl⟩
 ·have d1:decide (65<=(c:Int))=true:=by simp;omega
  have d2:decide ((c:Int)<=90)=false:=by simp;omega
  have d3:decide (97<=(c:Int))=true:=by simp;omega
  have d4:decide ((c:Int)<=122)=true:=by simp;omega
  have g:nlet c=true:=by unfold nlet;simp;omega
  rw[g]
  go_enter Tryz.func101,Tryz.ntmps101
  go_wp2
  go_ret
  exact⟨rfl,rfl⟩
 ·have d1:decide (65<=(c:Int))=true:=by simp;omega
  have d2:decide ((c:Int)<=90)=false:=by simp;omega
  have d3:decide (97<=(c:Int))=true:=by simp;omega
  have d4:decide ((c:Int)<=122)=false:=by simp;omega
  have g:nlet c=false:=by unfold nlet;simp;omega
  rw[g]
  go_enter Tryz.func101,Tryz.ntmps101
  go_wp2
  go_ret
  exact⟨rfl,rfl⟩
end Go.Proofs.YtekpgklllfobfaaGreatDoor
