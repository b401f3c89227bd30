import Derived.Test.YtjlbcdnkglaheaaGreatDoorK02
namespace Go.Proofs.YtjlbcdnkglaheaaGreatDoor
open Go.ChangeShapes Go.WideShapes Go.ChangeAt Go.RowKit
theorem wpAnyH_narrow {P:Program} {md:Region.Mode} {ops:Array Oper} {Q:Exit->Act->World->Prop} {S S':World->Prop} (hSS:∀ w,S' w->S w):∀ (fuel:Nat) (listed:Array Bool) (a:Act) (w:World),wpAnyH P md ops Q S' fuel listed a w->wpAnyH P md ops Q S fuel listed a w
 | 0,_,_,_,h=>h
 | fuel+1,_,_,_,h=>⟨h.1,fun i hi=>wpOp_mono (fun a' w' h'=>⟨hSS _ h'.1,wpAnyH_narrow hSS fuel _ a' w' h'.2⟩) (h.2 i hi)⟩
def wpLy (P:Program) (ops:Array Oper) (Q:Exit->Act->World->Prop):List Oper->(World->Prop)->Act->World->Prop
 | [],_,a,w=>Q .normal a w
 | o::r,C,a,w=>if Region.wanted o (yielded ops a.tmps)=true then (if rdK o.op=true then o.quiet P a C (fun a'=>wpLy P ops Q r C a' w) else Oper.wp P o a w (fun a' w'=>∃ C':World->Prop,(∀ W,C' W->C W)/\C' w'/\wpLy P ops Q r C' a' w') Q) else wpLy P ops Q r C (a.put o.dst undef) w
section
variable {P:Program} {md:Region.Mode} {ops:Array Oper} {Q:Exit->Act->World->Prop}
theorem wpAnyH_ly (hs:Region.noSelect ops=true) (hQ:∀ c (a:Act) d v w,Q (.panic c) (a.put d v) w->Q (.panic c) a w):∀ (sc:List Nat) (l:List Oper) (C:World->Prop) (listed:Array Bool) (a:Act) (w:World),sc.map (fun i=>ops[i]?)=l.map some->schB md ops sc listed=true->C w->wpLy P ops Q l C a w->wpAnyH P md ops Q C sc.length listed a w
 | [],[],_,listed,a,w,_,hv,_,h=>wpAnyH_done (by simpa[schB] using hv) h _
 | [],_::_,_,_,_,_,e,_,_,_=>by cases e
 | _::_,[],_,_,_,_,e,_,_,_=>by cases e
 | i::r,o::l,C,listed,a,w,e,hv,hC,h=>by
  simp only[List.map_cons,List.cons.injEq] at e
  obtain⟨ho,e⟩:=e
  unfold schB at hv
  rw[Bool.and_eq_true,ho] at hv
  obtain⟨h1,h2⟩:=hv
  dsimp only at h1
  unfold wpLy at h
  rw[List.length_cons]
  by_cases hr:rdK o.op=true
  ·rw[if_pos hr,Bool.and_eq_true] at h1
   by_cases hw:Region.wanted o (yielded ops a.tmps)=true
   ·rw[if_pos hw,if_pos hr] at h
    obtain⟨v,hv,h⟩:=h
    exact wpAnyH_take ho hs h1.1 h1.2 (fun c a w=>hQ c a o.dst v w) (.inl ⟨hw,fun W hW=>rd_value hr (hv W hW)⟩) hC (wpAnyH_ly hs hQ r l C _ _ _ e h2 hC h)
   ·rw[if_neg hw] at h
    rw[Bool.not_eq_true] at hw
    exact wpAnyH_take ho hs h1.1 h1.2 (fun c a w=>hQ c a o.dst undef w) (.inr ⟨hw,rfl⟩) hC (wpAnyH_ly hs hQ r l C _ _ _ e h2 hC h)
  ·rw[if_neg hr,beq_iff_eq] at h1
   refine wpAnyH_all h1 (by simp) fun j hj=>?_
   rw[List.mem_singleton.1 hj]
   unfold wpOp
   rw[ho]
   dsimp only
   by_cases hw:Region.wanted o (yielded ops a.tmps)=true
   ·rw[if_pos hw,if_neg hr] at h
    rw[if_pos hw]
    refine .inl (Oper.wp_mono (fun a' w' h'=>?_) h)
    obtain⟨C',hCC,hc,h''⟩:=h'
    exact⟨hCC _ hc,wpAnyH_narrow hCC _ _ _ _ (wpAnyH_ly hs hQ r l C' _ _ _ e h2 hc h'')⟩
   ·rw[if_neg hw] at h
    rw[if_neg hw]
    exact⟨hC,wpAnyH_ly hs hQ r l C _ _ _ e h2 hC h⟩
structure Ly (P:Program) (ops:Array Oper) (Q:Exit->Act->World->Prop) (C:World->Prop) (l:List Oper) (a:Act) (w:World):Prop where
 out:wpLy P ops Q l C a w
variable {d:Option Tmp} {op:Op} {ty:TypeId} {ps:String} {af:Array Edge} {gd:Option (Nat×Bool)} {r:List Oper} {a:Act} {w:World} {C:World->Prop}
theorem ly_skip (hw:Region.wanted ⟨d,op,ty,ps,af,gd⟩ (yielded ops a.tmps)=false) (h:Ly P ops Q C r (a.put d undef) w):Ly P ops Q C (⟨d,op,ty,ps,af,gd⟩::r) a w:=by
 refine⟨?_⟩
 unfold wpLy
 rw[if_neg (by rw[hw];decide)]
 exact h.out
theorem ly_read (hw:Region.wanted ⟨d,op,ty,ps,af,gd⟩ (yielded ops a.tmps)=true) (hr:rdK op=true) (h:∀ K:Act->Prop,(∀ a',Ly P ops Q C r a' w->K a')->Oper.quiet P ⟨d,op,ty,ps,af,gd⟩ a C K):Ly P ops Q C (⟨d,op,ty,ps,af,gd⟩::r) a w:=by
 refine⟨?_⟩
 unfold wpLy
 rw[if_pos hw,if_pos hr]
 exact h _ fun _ h=>h.out
theorem ly_act (hw:Region.wanted ⟨d,op,ty,ps,af,gd⟩ (yielded ops a.tmps)=true) (hr:rdK op=false) (h:∀ K:Act->World->Prop,(∀ a' w' (C':World->Prop),(∀ W,C' W->C W)->C' w'->Ly P ops Q C' r a' w'->K a' w')->Oper.wp P ⟨d,op,ty,ps,af,gd⟩ a w K Q):Ly P ops Q C (⟨d,op,ty,ps,af,gd⟩::r) a w:=by
 refine⟨?_⟩
 unfold wpLy
 rw[if_pos hw,if_neg (by rw[hr];decide)]
 exact h _ fun _ _ C' h0 h1 h2=>⟨C',h0,h1,h2.out⟩
theorem ly_one (hr:rdK op=true) (h:wpQuiet P ops C (fun a'=>Ly P ops Q C r a' w) [⟨d,op,ty,ps,af,gd⟩] a):Ly P ops Q C (⟨d,op,ty,ps,af,gd⟩::r) a w:=by
 unfold wpQuiet at h
 by_cases hw:Region.wanted ⟨d,op,ty,ps,af,gd⟩ (yielded ops a.tmps)=true
 ·rw[if_pos hw] at h
  refine ly_read hw hr fun K hK=>?_
  exact Oper.quiet_mono (fun a' h'=>hK a' h') h
 ·rw[if_neg hw] at h
  exact ly_skip (by simpa using hw) h
theorem ly_done (h:Q .normal a w):Ly P ops Q C [] a w:=⟨h⟩
theorem ly_ld {t:TypeId} {x:Operand} {p v:Value} (hl:∀ W,C W->(Instr.loadAt t p).run P W = .ok v W) (hx:a.eval x=p) (hw:Region.wanted ⟨d,.load t x,ty,ps,af,gd⟩ (yielded ops a.tmps)=true) (h:Ly P ops Q C r (a.put d v) w):Ly P ops Q C (⟨d,.load t x,ty,ps,af,gd⟩::r) a w :=
 ly_read hw rfl fun K hK=>⟨v,fun W hW=>by
  unfold Oper.quietAt execOp
  simp only[hx,hl W hW,Sem.run_bind,Result.andThen_ok,Sem.run_pure]
  exact⟨rfl,rfl⟩,hK _ h⟩
theorem ly_call1 {f:FuncId} {x1:Operand} {y1:Value} {tx:Array TypeId} {R:Value->World->Prop} (hen:∀ ag w,(callFunc f ag).run P w = .ok (.enter f ag) w) (hc:Calls P f #[y1] w fun e w'=>∃ v,e = .returned v/\R v w') (h1:a.eval x1=y1) (hw:Region.wanted ⟨d,.call { callee:=.value (.func f),args:=#[x1],argTypes:=tx },ty,ps,af,gd⟩ (yielded ops a.tmps)=true)
  (h:∀ v w',R v w'->∃ C':World->Prop,(∀ W,C' W->C W)/\C' w'/\Ly P ops Q C' r (a.put d v) w'):Ly P ops Q C (⟨d,.call { callee:=.value (.func f),args:=#[x1],argTypes:=tx },ty,ps,af,gd⟩::r) a w :=
 ly_act hw rfl fun K hK=>by
  have hf:a.eval (.func f) = .func (.func f) #[] #[]:=rfl
  unfold Oper.wp execOp
  simp only[resolve,invoke,Sem.run_bind,hf]
  simp[Deferred.ofValue,hen,Oper.upon_enter,h1]
  refine hc.mono ?_
  rintro e w' ⟨v,rfl,hp⟩
  obtain⟨C',q1,q2,q3⟩:=h v w' hp
  exact hK _ _ C' q1 q2 q3
theorem ly_call2 {f:FuncId} {x1 x2:Operand} {y1 y2:Value} {tx:Array TypeId} {R:Value->World->Prop} (hen:∀ ag w,(callFunc f ag).run P w = .ok (.enter f ag) w) (hc:Calls P f #[y1,y2] w fun e w'=>∃ v,e = .returned v/\R v w') (h1:a.eval x1=y1) (h2:a.eval x2=y2) (hw:Region.wanted ⟨d,.call { callee:=.value (.func f),args:=#[x1,x2],argTypes:=tx },ty,ps,af,gd⟩ (yielded ops a.tmps)=true)
  (h:∀ v w',R v w'->∃ C':World->Prop,(∀ W,C' W->C W)/\C' w'/\Ly P ops Q C' r (a.put d v) w'):Ly P ops Q C (⟨d,.call { callee:=.value (.func f),args:=#[x1,x2],argTypes:=tx },ty,ps,af,gd⟩::r) a w :=
 ly_act hw rfl fun K hK=>by
  have hf:a.eval (.func f) = .func (.func f) #[] #[]:=rfl
  unfold Oper.wp execOp
  simp only[resolve,invoke,Sem.run_bind,hf]
  simp[Deferred.ofValue,hen,Oper.upon_enter,h1,h2]
  refine hc.mono ?_
  rintro e w' ⟨v,rfl,hp⟩
  obtain⟨C',q1,q2,q3⟩:=h v w' hp
  exact hK _ _ C' q1 q2 q3
end
theorem wp_region_ly {P:Program} {Q:Exit->Act->World->Prop} {id:Nat} {a:Act} {w:World} {l:List Oper} (C:World->Prop) (hm:P.follows .mixedOrders=true) (hv:(Region.noSelect l.toArray&&schB .any l.toArray (List.range l.length) (Array.replicate l.length false))=true)
  (hQ:∀ c (a:Act) d v w,Q (.panic c) (a.put d v) w->Q (.panic c) a w) (hp:C w.drew) (h:Ly P l.toArray Q C l a w.drew):(Code.region id l.toArray true).wp P Q a w:=by
 rw[Bool.and_eq_true] at hv
 refine wp_region_held (S:=C) hm ?_
 have:=wpAnyH_ly hv.1 hQ _ _ C _ a w.drew (range_map l) hv.2 hp h.out
 rw[List.length_range] at this
 simpa using this
theorem wp_region_lz {P:Program} {Q:Exit->Act->World->Prop} {id:Nat} {a:Act} {w:World} {l:List Oper} (C:World->Prop) (sc:List Nat) (hm:P.follows .mixedOrders=true) (hv:(Region.noSelect l.toArray&&schB .any l.toArray sc (Array.replicate l.length false)&&(sc.length==l.length)&&sc.all (fun i=>decide (i<l.length)))=true)
  (hQ:∀ c (a:Act) d v w,Q (.panic c) (a.put d v) w->Q (.panic c) a w) (hp:C w.drew) (h:Ly P l.toArray Q C (sc.filterMap fun i=>l[i]?) a w.drew):(Code.region id l.toArray true).wp P Q a w:=by
 rw[Bool.and_eq_true,Bool.and_eq_true,Bool.and_eq_true,beq_iff_eq] at hv
 refine wp_region_held (S:=C) hm ?_
 have:=wpAnyH_ly hv.1.1.1 hQ _ _ C _ a w.drew (pick_map l sc hv.2) hv.1.1.2 hp h.out
 rw[hv.1.2] at this
 simpa using this
open Go
section
variable {P:Program} {ops:Array Oper} {Q:Exit->Act->World->Prop} {md:Region.Mode} {S:World->Prop} {z:Nat}
def wpAnyF (P:Program) (md:Region.Mode) (ops:Array Oper) (Q:Exit->Act->World->Prop) (S:World->Prop) (z:Nat):Nat->Array Bool->Act->World->Prop
 | 0,listed,a,w=>Region.ready md ops listed=[]/\Q .normal a w
 | fuel+1,listed,a,w =>
  (Region.ready md ops listed=[]->Q .normal a w) /\
  ∀ i∈Region.ready md ops listed,wpOp P ops Q i (fun a' w'=>(i≠z->S w')/\wpAnyF P md ops Q S z fuel (listed.setIfInBounds i true) a' w') a w
theorem wpAny_of_F:∀ (fuel:Nat) (listed:Array Bool) (a:Act) (w:World),wpAnyF P md ops Q S z fuel listed a w->wpAny P md ops Q fuel listed a w
 | 0,_,_,_,h=>h
 | fuel+1,_,_,_,h=>⟨h.1,fun i hi=>wpOp_mono (fun a' w' h'=>wpAny_of_F fuel _ a' w' h'.2) (h.2 i hi)⟩
def waitsB (md:Region.Mode) (ops:Array Oper) (z i:Nat):Bool:=match ops[z]? with
 | some o=>o.after.any fun e=>Region.binds md e&&e.on==i
 | none=>true
theorem not_ready {i:Nat} {listed:Array Bool} (hw:waitsB md ops z i=true) (hi:i∈Region.ready md ops listed):z∉Region.ready md ops listed:=fun hz=>by
 obtain⟨_,oz,hoz,hall⟩:=mem_ready.1 hz
 unfold waitsB at hw
 rw[hoz] at hw
 obtain⟨e,he,hb⟩:=Array.any_eq_true'.1 hw
 simp only[Bool.and_eq_true,beq_iff_eq] at hb
 have h1:=hall e he hb.1
 rw[hb.2] at h1
 have h0:=(mem_ready.1 hi).1
 rcases Nat.lt_or_ge i listed.size with h' | h'
 ·simp[h'] at h0 h1;rw[h0] at h1;cases h1
 ·simp[Array.getElem?_eq_none h'] at h1
theorem wpAnyF_first {i:Nat} {oi:Oper} {v:Value} (hi:ops[i]?=some oi) (hsel:∀ (j:Nat) (o:Oper) cs b,ops[j]?=some o->o.op ≠ .select cs b)
  (hQ:∀ c a w,Q (.panic c) (a.put oi.dst v) w->Q (.panic c) a w) (hw:waitsB md ops z i=true) (hiz:i≠z) :
  ∀ (fuel:Nat) (listed:Array Bool) (a:Act) (w:World),
   (∀ j oj,ops[j]?=some oj->j≠i->listed.getD j true=false->(∀ e∈oj.after,Region.binds md e=true->e.on≠i)->oi.apart ops oj=true) ->
   i∈Region.ready md ops listed->YieldsIf P ops S oi v a->S w ->
   wpAnyF P md ops Q S z fuel (listed.setIfInBounds i true) (a.put oi.dst v) w->wpAnyF P md ops Q S z (fuel+1) listed a w:=by
 intro fuel
 induction fuel with
 | zero =>
  intro listed a w _ hr hy hS H
  refine⟨fun h=>(by rw[h] at hr;cases hr),fun j hj=>?_⟩
  by_cases hji:j=i
  ·subst hji;exact hy.wpOp hi hS ⟨fun _=>hS,H⟩
  ·have:=ready_mono hj hji
   rw[H.1] at this
   cases this
 | succ fuel ih =>
  intro listed a w hfree hr hy hS H
  refine⟨fun h=>(by rw[h] at hr;cases hr),fun j hj=>?_⟩
  by_cases hji:j=i
  ·subst hji;exact hy.wpOp hi hS ⟨fun _=>hS,H⟩
  ·have hjz:j≠z:=fun e=>not_ready hw hr (e▸hj)
   have h1:=H.2 j (ready_mono hj hji)
   obtain⟨hjun,oj,hoj,hall⟩:=mem_ready.1 hj
   have hnot:∀ e∈oj.after,Region.binds md e=true->e.on≠i:=fun e he hb heq=>by
    have h1:=hall e he hb
    have h0:=(mem_ready.1 hr).1
    rw[heq] at h1
    rcases Nat.lt_or_ge i listed.size with h' | h'
    ·simp[h'] at h0 h1;rw[h0] at h1;cases h1
    ·simp[Array.getElem?_eq_none h'] at h1
   have h2:=wpOp_putIf hoj (hfree j oj hoj hji hjun hnot) (fun cs b=>hsel i oi cs b hi) (fun cs b=>hsel j oj cs b hoj) hQ hy h1
   have hfree':∀ k ok,ops[k]?=some ok->k≠i->(listed.setIfInBounds j true).getD k true=false ->
     (∀ e∈ok.after,Region.binds md e=true->e.on≠i)->oi.apart ops ok=true:=fun k ok hk hki hun hno=>by
    refine hfree k ok hk hki ?_ hno
    by_cases hjk:j=k
    ·subst hjk;exact hjun
    ·rw[getD_set_ne true hjk] at hun;exact hun
   refine wpOp_mono (fun a' w' h3=>⟨h3.2.1,ih (listed.setIfInBounds j true) a' w' hfree' (ready_mono hr (Ne.symm hji)) h3.1 (h3.2.1 hjz) ?_⟩) h2
   rw[Array.setIfInBounds_comm _ _ hji]
   exact h3.2.2
theorem wpAnyF_take {i:Nat} {oi:Oper} {v:Value} {fuel:Nat} {listed:Array Bool} {a:Act} {w:World} (hi:ops[i]?=some oi)
  (hs:Region.noSelect ops=true) (hf:Region.free md ops listed i=true) (hr:(Region.ready md ops listed).contains i=true) (hw:(waitsB md ops z i && !(i==z))=true)
  (hQ:∀ c a w,Q (.panic c) (a.put oi.dst v) w->Q (.panic c) a w) (hy:YieldsIf P ops S oi v a) (hS:S w)
  (h:wpAnyF P md ops Q S z fuel (listed.setIfInBounds i true) (a.put oi.dst v) w):wpAnyF P md ops Q S z (fuel+1) listed a w:=by
 simp only[Bool.and_eq_true,Bool.not_eq_true',beq_eq_false_iff_ne] at hw
 exact wpAnyF_first hi (Region.noSelect_spec hs) hQ hw.1 hw.2 fuel listed a w (Region.free_spec hi hf) (by simpa using hr) hy hS h
theorem wpAnyF_done {listed:Array Bool} {a:Act} {w:World} (hr:Region.ready md ops listed=[]) (h:Q .normal a w):∀ fuel,wpAnyF P md ops Q S z fuel listed a w
 | 0=>⟨hr,h⟩
 | _+1=>⟨fun _=>h,by rw[hr];simp⟩
theorem wp_region_F {id:Nat} (z:Nat) (S:World->Prop) {a:Act} {w:World} (hm:P.follows .mixedOrders=true) (hS:S w.drew)
  (h:S w.drew->wpAnyF P .any ops Q S z ops.size (Array.replicate ops.size false) a w.drew):(Code.region id ops true).wp P Q a w :=
 wp_region_any hm (wpAny_of_F _ _ _ _ (h hS))
end
theorem wpAnyF_narrow {P:Program} {md:Region.Mode} {ops:Array Oper} {Q:Exit->Act->World->Prop} {S S':World->Prop} {z:Nat} (hSS:∀ w,S' w->S w):∀ (fuel:Nat) (listed:Array Bool) (a:Act) (w:World),wpAnyF P md ops Q S' z fuel listed a w->wpAnyF P md ops Q S z fuel listed a w
 | 0,_,_,_,h=>h
 | fuel+1,_,_,_,h=>⟨h.1,fun i hi=>wpOp_mono (fun a' w' h'=>⟨fun hz=>hSS _ (h'.1 hz),wpAnyF_narrow hSS fuel _ a' w' h'.2⟩) (h.2 i hi)⟩
def schF (md:Region.Mode) (ops:Array Oper) (z:Nat):List Nat->Array Bool->Bool
 | [],listed=>(Region.ready md ops listed).isEmpty
 | i::r,listed=>(match ops[i]? with
  | some o=>if rdK o.op then (Region.free md ops listed i&&(Region.ready md ops listed).contains i&&(waitsB md ops z i && !(i==z)))||(Region.ready md ops listed==[i]) else Region.ready md ops listed==[i]&&(r.isEmpty==(i==z))
  | none=>false)&&schF md ops z r (listed.setIfInBounds i true)
def wpLw (P:Program) (ops:Array Oper) (Q:Exit->Act->World->Prop):List Oper->(World->Prop)->Act->World->Prop
 | [],_,a,w=>Q .normal a w
 | o::r,C,a,w=>if Region.wanted o (yielded ops a.tmps)=true then (if rdK o.op=true then o.quiet P a C (fun a'=>wpLw P ops Q r C a' w) else Oper.wp P o a w (fun a' w'=>∃ C':World->Prop,(r=[]\/((∀ W,C' W->C W)/\C' w'))/\wpLw P ops Q r C' a' w') Q) else wpLw P ops Q r C (a.put o.dst undef) w
section
variable {P:Program} {md:Region.Mode} {ops:Array Oper} {Q:Exit->Act->World->Prop} {z:Nat}
theorem wpAnyF_lw (hs:Region.noSelect ops=true) (hQ:∀ c (a:Act) d v w,Q (.panic c) (a.put d v) w->Q (.panic c) a w):∀ (sc:List Nat) (l:List Oper) (C:World->Prop) (listed:Array Bool) (a:Act) (w:World),sc.map (fun i=>ops[i]?)=l.map some->schF md ops z sc listed=true->C w->wpLw P ops Q l C a w->wpAnyF P md ops Q C z sc.length listed a w
 | [],[],_,listed,a,w,_,hv,_,h=>wpAnyF_done (by simpa[schF] using hv) h _
 | [],_::_,_,_,_,_,e,_,_,_=>by cases e
 | _::_,[],_,_,_,_,e,_,_,_=>by cases e
 | i::r,o::l,C,listed,a,w,e,hv,hC,h=>by
  simp only[List.map_cons,List.cons.injEq] at e
  obtain⟨ho,e⟩:=e
  unfold schF at hv
  rw[Bool.and_eq_true,ho] at hv
  obtain⟨h1,h2⟩:=hv
  dsimp only at h1
  unfold wpLw at h
  rw[List.length_cons]
  by_cases hr:rdK o.op=true
  ·rw[if_pos hr,Bool.or_eq_true] at h1
   have key:∀ v,YieldsIf P ops C o v a->wpAnyF P md ops Q C z r.length (listed.setIfInBounds i true) (a.put o.dst v) w->wpAnyF P md ops Q C z (r.length+1) listed a w:=fun v hy hn=>by
    rcases h1 with h1|h1
    ·rw[Bool.and_eq_true,Bool.and_eq_true] at h1
     exact wpAnyF_take ho hs h1.1.1 h1.1.2 h1.2 (fun c a w=>hQ c a o.dst v w) hy hC hn
    ·rw[beq_iff_eq] at h1
     refine⟨fun h0=>absurd (h1▸h0) (by simp),fun j hj=>?_⟩
     rw[h1] at hj
     rw[List.mem_singleton.1 hj]
     exact hy.wpOp ho hC ⟨fun _=>hC,hn⟩
   by_cases hw:Region.wanted o (yielded ops a.tmps)=true
   ·rw[if_pos hw,if_pos hr] at h
    obtain⟨v,hv,h⟩:=h
    exact key v (.inl ⟨hw,fun W hW=>rd_value hr (hv W hW)⟩) (wpAnyF_lw hs hQ r l C _ _ _ e h2 hC h)
   ·rw[if_neg hw] at h
    rw[Bool.not_eq_true] at hw
    exact key undef (.inr ⟨hw,rfl⟩) (wpAnyF_lw hs hQ r l C _ _ _ e h2 hC h)
  ·rw[if_neg hr,Bool.and_eq_true,beq_iff_eq,beq_iff_eq] at h1
   obtain⟨h1,hl⟩:=h1
   refine⟨fun h0=>absurd (h1▸h0) (by simp),fun j hj=>?_⟩
   rw[h1] at hj
   rw[List.mem_singleton.1 hj]
   unfold wpOp
   rw[ho]
   dsimp only
   by_cases hw:Region.wanted o (yielded ops a.tmps)=true
   ·rw[if_pos hw,if_neg hr] at h
    rw[if_pos hw]
    refine .inl (Oper.wp_mono (fun a' w' h'=>?_) h)
    obtain⟨C',hCC,h''⟩:=h'
    cases r with
    | nil =>
     have hz:i=z:=by simpa using hl.symm
     cases l with
     | nil=>exact⟨fun hne=>absurd hz hne,wpAnyF_done (by simpa[schF] using h2) h'' _⟩
     | cons o2 l2=>cases e
    | cons j2 r2 =>
     cases l with
     | nil=>cases e
     | cons o2 l2 =>
      rcases hCC with hn|⟨hCC,hc⟩
      ·cases hn
      ·exact⟨fun _=>hCC _ hc,wpAnyF_narrow hCC _ _ _ _ (wpAnyF_lw hs hQ (j2::r2) (o2::l2) C' _ _ _ e h2 hc h'')⟩
   ·rw[if_neg hw] at h
    rw[if_neg hw]
    exact⟨fun _=>hC,wpAnyF_lw hs hQ r l C _ _ _ e h2 hC h⟩
structure Lw (P:Program) (ops:Array Oper) (Q:Exit->Act->World->Prop) (C:World->Prop) (l:List Oper) (a:Act) (w:World):Prop where
 out:wpLw P ops Q l C a w
variable {d:Option Tmp} {op:Op} {ty:TypeId} {ps:String} {af:Array Edge} {gd:Option (Nat×Bool)} {r:List Oper} {a:Act} {w:World} {C:World->Prop}
theorem lw_skip (hw:Region.wanted ⟨d,op,ty,ps,af,gd⟩ (yielded ops a.tmps)=false) (h:Lw P ops Q C r (a.put d undef) w):Lw P ops Q C (⟨d,op,ty,ps,af,gd⟩::r) a w:=by
 refine⟨?_⟩
 unfold wpLw
 rw[if_neg (by rw[hw];decide)]
 exact h.out
theorem lw_read (hw:Region.wanted ⟨d,op,ty,ps,af,gd⟩ (yielded ops a.tmps)=true) (hr:rdK op=true) (h:∀ K:Act->Prop,(∀ a',Lw P ops Q C r a' w->K a')->Oper.quiet P ⟨d,op,ty,ps,af,gd⟩ a C K):Lw P ops Q C (⟨d,op,ty,ps,af,gd⟩::r) a w:=by
 refine⟨?_⟩
 unfold wpLw
 rw[if_pos hw,if_pos hr]
 exact h _ fun _ h=>h.out
theorem lw_act (hw:Region.wanted ⟨d,op,ty,ps,af,gd⟩ (yielded ops a.tmps)=true) (hr:rdK op=false) (h:∀ K:Act->World->Prop,(∀ a' w' (C':World->Prop),(r=[]\/((∀ W,C' W->C W)/\C' w'))->Lw P ops Q C' r a' w'->K a' w')->Oper.wp P ⟨d,op,ty,ps,af,gd⟩ a w K Q):Lw P ops Q C (⟨d,op,ty,ps,af,gd⟩::r) a w:=by
 refine⟨?_⟩
 unfold wpLw
 rw[if_pos hw,if_neg (by rw[hr];decide)]
 exact h _ fun _ _ C' h0 h2=>⟨C',h0,h2.out⟩
theorem lw_one (hr:rdK op=true) (h:wpQuiet P ops C (fun a'=>Lw P ops Q C r a' w) [⟨d,op,ty,ps,af,gd⟩] a):Lw P ops Q C (⟨d,op,ty,ps,af,gd⟩::r) a w:=by
 unfold wpQuiet at h
 by_cases hw:Region.wanted ⟨d,op,ty,ps,af,gd⟩ (yielded ops a.tmps)=true
 ·rw[if_pos hw] at h
  refine lw_read hw hr fun K hK=>?_
  exact Oper.quiet_mono (fun a' h'=>hK a' h') h
 ·rw[if_neg hw] at h
  exact lw_skip (by simpa using hw) h
theorem lw_done (h:Q .normal a w):Lw P ops Q C [] a w:=⟨h⟩
theorem lw_bs {t:TypeId} {n:Nat} {xs:Array (Nat×Operand)} {ys:Array (Nat×Value)} {v:Value} {w':World} (hr:(Instr.buildSlice t n ys).run P w = .ok v w') (hC:C w') (hx:(xs.map fun (i,x)=>(i,a.eval x))=ys) (hw:Region.wanted ⟨d,.buildSlice t n xs,ty,ps,af,gd⟩ (yielded ops a.tmps)=true) (h:Lw P ops Q C r (a.put d v) w'):Lw P ops Q C (⟨d,.buildSlice t n xs,ty,ps,af,gd⟩::r) a w :=
 lw_act hw rfl fun K hK=>by
  unfold Oper.wp execOp
  simp only[hx,hr,Sem.run_bind,Result.andThen_ok]
  exact hK _ _ C (.inr ⟨fun _ h=>h,hC⟩) h
theorem lw_ap {s x:Operand} {t tx:TypeId} {sv xv:Value} {Post:Value->World->Prop} (hrun:∃ v w',(∀ ty,(Builtin.append_ #[t,tx] ty #[sv,xv]).run P w = .ok v w')/\Post v w') (hs:a.eval s=sv) (hx:a.eval x=xv) (hw:Region.wanted ⟨d,.call { callee:=.builtin .append,args:=#[s,x],argTypes:=#[t,tx] },ty,ps,af,gd⟩ (yielded ops a.tmps)=true)
  (h:∀ v w',Post v w'->C w'/\Lw P ops Q C r (a.put d v) w'):Lw P ops Q C (⟨d,.call { callee:=.builtin .append,args:=#[s,x],argTypes:=#[t,tx] },ty,ps,af,gd⟩::r) a w :=
 lw_act hw rfl fun K hK=>by
  obtain⟨v,w',hr,hp⟩:=hrun
  unfold Oper.wp execOp
  simp only[resolve,invoke,builtin,Sem.run_bind,Sem.run_pure,Result.andThen_ok,List.map_toArray,List.map_cons,List.map_nil,hs,hx,hr]
  exact hK _ _ C (.inr ⟨fun _ h=>h,(h v w' hp).1⟩) (h v w' hp).2
theorem lw_st {t:TypeId} {x y:Operand} {p v:Value} {w':World} (hr:(Instr.storeAt t p v).run P w = .ok () w') (hx:a.eval x=p) (hy:a.eval y=v) (hw:Region.wanted ⟨d,.store t x y,ty,ps,af,gd⟩ (yielded ops a.tmps)=true) (h:Q .normal (a.put d undef) w'):Lw P ops Q C [⟨d,.store t x y,ty,ps,af,gd⟩] a w :=
 lw_act hw rfl fun K hK=>by
  unfold Oper.wp execOp
  simp only[hx,hy,hr,Sem.run_bind,Result.andThen_ok]
  exact hK _ _ C (.inl rfl) (lw_done h)
end
theorem wp_region_lw {P:Program} {Q:Exit->Act->World->Prop} {id:Nat} {a:Act} {w:World} {l:List Oper} (z:Nat) (C:World->Prop) (hm:P.follows .mixedOrders=true) (hv:(Region.noSelect l.toArray&&schF .any l.toArray z (List.range l.length) (Array.replicate l.length false))=true)
  (hQ:∀ c (a:Act) d v w,Q (.panic c) (a.put d v) w->Q (.panic c) a w) (hp:C w.drew) (h:Lw P l.toArray Q C l a w.drew):(Code.region id l.toArray true).wp P Q a w:=by
 rw[Bool.and_eq_true] at hv
 refine wp_region_F z C hm hp fun _=>?_
 have:=wpAnyF_lw (z:=z) hv.1 hQ _ _ C _ a w.drew (range_map l) hv.2 hp h.out
 rw[List.length_range] at this
 simpa using this
open Go.Shelf Go.Maps
theorem ap_genP {W:World} {base:Nat} {t e:TypeId} {z:Value} {size bytes n:Nat} {v:Value} {xs:List Value} (ht:Tryz.prog.underlying t=some (.slice e)) (hi:(Tryz.prog.info? e).map (fun i=>(i.zero,i.size,i.bytes))=some (some z,size,bytes)) (hz:z.cells.size=size) (hsz:0<size)
  (own:W.ownsRow base e size v n xs) (cs:List Value) (hcs:cs.length=size) (h1:∀ u∈cs,u.oneCell'=true) (hn:(n+1)*bytes<=140737488355328) (hn':n+1<=140737488355328) (hbase:base<=W.heap.size) :
  ∃ v' w',(∀ ty,(Builtin.append_ #[t,t] ty #[v,.slice (some ⟨W.heap.size,0,none⟩) 1 1]).run Tryz.prog (W.alloc (.cells cs.toArray e)) = .ok v' w')/\(w'.ownsRow base e size v' (n+1) (xs++cs)/\Below base W w'/\(∀ j,j<W.heap.size->v.ownBlock≠some j->w'.heap[j]?=W.heap[j]?)/\∀ k,v'.ownBlock=some k->v.ownBlock=some k\/W.heap.size<=k):=by
 obtain⟨i0,hi0,hz0⟩:=Option.map_eq_some_iff.1 hi
 simp only[Prod.mk.injEq] at hz0
 have hB:=nbel W (.cells cs.toArray e)
 have hO:=own_keep own hB
 have hN:∀ (j:Nat) (u:Value),cs[j]?=some u->(W.alloc (.cells cs.toArray e)).cell? ((⟨W.heap.size,0,none⟩:Addr).add j)=some u:=World.news_of_block (thnK W _)
 have hs:(W.alloc (.cells cs.toArray e)).heap.size=W.heap.size+1:=World.size_alloc _ _
 have hr:=run_append_own_at (P:=Tryz.prog) (W.alloc (.cells cs.toArray e)) base t 0 e i0 z size bytes ht hi0 hz0.1 hz0.2.1 hz0.2.2 hz hsz v n xs hO ⟨W.heap.size,0,none⟩ 1 1 cs (by rw[hcs,Nat.one_mul]) hN h1 (by simp only[maxLen];omega) hn (by omega)
 obtain⟨v',w',q1,q2,q3,_,q5⟩:=hr
 refine⟨v',w',fun _=>q1,q2,grown_below hB q3 hbase (fun j hj=>(own.lt j hj).1),fun j hj hn=>(q3.block j (by omega) (fun e=>hn e.symm)).trans (hB.block j hj),fun k hk=>?_⟩
 rcases q5 with q5|q5
 ·exact .inl (by rw[<- q5];exact hk)
 ·rw[q5] at hk
  cases hk
  exact .inr (by omega)
def lvB (t:Tk):Bool:=decide (t.op=14/\¬ t.pres=2)
def lvF (l:List Tk):Nat->Nat->List Nat
 | _,0=>[]
 | k,m+1=>(if (l[k]?).any lvB=true then [k] else [])++lvF l (k+1) m
theorem lvF_yes {l:List Tk} {k m:Nat} {u:Tk} (hu:l[k]?=some u) (h:lvB u=true):lvF l k (m+1)=[k]++lvF l (k+1) m:=by
 rw[lvF,if_pos (by rw[hu];exact h)]
theorem lvF_no {l:List Tk} {k m:Nat} {u:Tk} (hu:l[k]?=some u) (h:lvB u=false):lvF l k (m+1)=lvF l (k+1) m:=by
 rw[lvF,if_neg (by rw[hu];show ¬ lvB u=true;rw[h];decide),List.nil_append]
theorem rise_from:∀ {ks:List Nat} {lo n:Nat},ks.Pairwise (· < ·)->(∀ k∈ks,lo<=k/\k<n)->ks.length<=n-lo
 | [],_,_,_,_=>Nat.zero_le _
 | k::r,lo,n,h,hn=>by
  obtain⟨h1,h2⟩:=List.pairwise_cons.1 h
  have:=rise_from (lo:=k+1) (n:=n) h2 (fun j hj=>⟨h1 j hj,(hn j (List.mem_cons_of_mem _ hj)).2⟩)
  have:=hn k (List.mem_cons_self ..)
  simp only[List.length_cons]
  omega
theorem rise_length {ks:List Nat} {n:Nat} (h:ks.Pairwise (· < ·)) (hn:∀ k∈ks,k<n):ks.length<=n:=rise_from (lo:=0) h fun k hk=>⟨Nat.zero_le _,hn k hk⟩
def kidF (l:List Tk) (n:Nat):Nat->Nat->List Nat
 | 0,_=>[]
 | m+1,k=>if k<n then k::kidF l n m ((match l[k]? with|some t=>t.pair.toNat|none=>0)+1) else []
def kidsZ (l:List Tk) (p:Nat):List Nat:=match l[p]? with|some t=>kidF l t.pair.toNat l.length (p+1)|none=>[]
theorem kidF_chn {l:List Tk} {n:Nat}:∀ {ks:List Nat} {k m:Nat},Chn l k ks n->(∀ j∈ks,j<n)->ks.length<=m->kidF l n m k=ks
 | [],k,m,h,_,_=>by
  have h:k=n:=h
  subst h
  cases m with
  | zero=>rfl
  | succ m=>rw[kidF,if_neg (Nat.lt_irrefl _)]
 | j::r,k,m,h,hn,hl=>by
  obtain⟨rfl,t,q,ht,hq,h2⟩:=h
  cases m with
  | zero=>cases hl
  | succ m =>
   rw[kidF,if_pos (hn k (List.mem_cons_self ..)),ht]
   simp only[hq,Int.toNat_natCast]
   rw[kidF_chn h2 (fun j hj=>hn j (List.mem_cons_of_mem _ hj)) (by simpa using hl)]
structure Bgn (l:List Tk) (p n:Nat) (t:Tk) (ks:List Nat):Prop where
 et:l[p]?=some t
 en:t.pair=(n:Int)
 nl:n<l.length
 bn:p<n
 ch:Chn l (p+1) ks n
 kn:∀ k∈ks,p<k/\k<n
 up:ks.Pairwise (· < ·)
theorem Bgn.kids {l:List Tk} {p n:Nat} {t:Tk} {ks:List Nat} (h:Bgn l p n t ks):kidsZ l p=ks:=by
 unfold kidsZ
 rw[h.et]
 simp only[h.en,Int.toNat_natCast]
 refine kidF_chn h.ch (fun j hj=>(h.kn j hj).2) ?_
 have:=rise_length h.up (fun k hk=>(h.kn k hk).2)
 have:=h.nl
 omega
def opAt (l:List Tk) (i:Nat):Int:=match l[i]? with|some t=>t.op|none=>0
def nmAt (l:List Tk) (i:Nat):ByteArray:=match l[i]? with|some t=>t.name|none=>⟨#[]⟩
def bpAt (l:List Tk) (i:Nat):Int:=match l[i]? with|some t=>t.b.p|none=>0
def calledB (l:List Tk) (i:Nat):Bool:=match l[i]? with|some t=>!decide (t.pres=2) && !(lvF l (i+1) (t.pair.toNat-(i+1))).isEmpty|none=>false
def rowZ (l:List Tk) (p:Nat):List Nat:=(kidsZ l p).filter fun i=>!decide (opAt l i=2)
def fldZ (l:List Tk) (p:Nat):List Nat:=(kidsZ l p).filter fun i=>decide (opAt l i=2)&&calledB l i
def gmax (p:Int):Int:=if p=5 then 254 else if p=6 then 65534 else 4294967294
def knd (op:Int):Int:=if op=6 then 3 else 1
structure Lv where
 p:Nat
 left:Int
 begun:Bool
 come:Nat
structure Ms where
 op:List Lv
 ent:Int
def wholeB (l:List Tk) (x:Lv):Bool:=x.begun&&decide (x.come=(rowZ l x.p).length)
def overB (l:List Tk) (x:Lv):Bool:=wholeB l x&&decide (x.left=0)
def leaveR (l:List Tk):List Lv->List Lv
 | []=>[]
 | [x]=>[x]
 | x::y::r=>if overB l x=true then leaveR l (y::r) else x::y::r
def fieldB (l:List Tk) (x:Lv) (nm:ByteArray):Bool:=x.begun&&decide (x.come=0)&&(fldZ l x.p).any fun i=>decide (nmAt l i=nm)
def memZ (l:List Tk) (x:Lv) (k:Int) (nm:ByteArray):Option Nat :=
 if x.begun=true then match (rowZ l x.p)[x.come]? with
  | some q=>if knd (opAt l q)=k/\nmAt l q=nm then some q else none
  | none=>none
 else none
def stepZ (l:List Tk) (s:Ms) (k cnt:Int) (nm:ByteArray):Int×Ms :=
 if k<0\/4<=k then (140,s) else
 match (if k=0 then s.op else leaveR l s.op) with
 | []=>(140,s)
 | x::r =>
  if k=0 then (if fieldB l x nm=true then 0 else 140,s)
  else if k=2 then (if x.left=0\/(x.begun=true/\wholeB l x=false) then (140,s) else (0,⟨⟨x.p,x.left-1,true,0⟩::r,s.ent⟩))
  else match memZ l x k nm with
   | none=>(140,s)
   | some q =>
    if k=3 then (0,⟨⟨x.p,x.left,x.begun,x.come+1⟩::r,s.ent⟩)
    else if cnt<0\/gmax (bpAt l q)<cnt then (141,s)
    else if 65536-s.ent<cnt then (163,s)
    else (0,⟨(if 0<cnt then [⟨q,cnt,false,0⟩] else [])++⟨x.p,x.left,x.begun,x.come+1⟩::r,s.ent+cnt⟩)
def doneB (l:List Tk) (s:Ms):Bool:=s.op.all (overB l)
def insZ (s:Ms):Nat:=match s.op with
 | []=>0
 | x::r=>if x.begun=true then x.p else match r with | []=>x.p|y::_=>y.p
def newZ:Ms:=⟨[⟨0,0,true,0⟩],0⟩
structure LvOk (l:List Tk) (x:Lv):Prop where
 op:opAt l x.p=0\/opAt l x.p=4
 le:x.come<=(rowZ l x.p).length
 l0:0<=x.left
 l1:x.left<=65536
def botB:List Lv->Prop
 | []=>True
 | [x]=>x.left=0/\x.begun=true
 | _::y::r=>botB (y::r)
theorem botB_cons {x y:Lv} {r:List Lv}:botB (x::y::r)↔botB (y::r):=Iff.rfl
theorem botB_head {x x':Lv} {r:List Lv} (h:botB (x::r)) (h0:r=[]->x'.left=0/\x'.begun=true):botB (x'::r):=by
 cases r with
 | nil=>exact h0 rfl
 | cons y r=>exact h
theorem botB_leave (l:List Tk):∀ {o:List Lv},botB o->botB (leaveR l o)
 | [],h=>h
 | [_],h=>h
 | x::y::r,h=>by
  rw[leaveR]
  split
  ·exact botB_leave l (o:=y::r) h
  ·exact h
structure MsOk (l:List Tk) (s:Ms):Prop where
 ne:s.op≠[]
 all:∀ x∈s.op,LvOk l x
 e0:0<=s.ent
 e1:s.ent<=65536
 bot:∀ x r,s.op=x::r->x.begun=false->r≠[]
 fst:∀ x∈s.op.tail,x.begun=true
 len:s.op.length<=1+s.ent.toNat
 bt:botB s.op
end Go.Proofs.YtjlbcdnkglaheaaGreatDoor
