import Derived.Test.YtcgimchhcaankaaGreatDoorK01
import Derived.OpenShut
namespace Go.Proofs.YtcgimchhcaankaaGreatDoor
open Go
section
variable {P:Program} {ops:Array Oper} {Q:Exit->Act->World->Prop} {md:Region.Mode} {S:World->Prop} {z:Nat}
def wpAnyF (P:Program) (md:Region.Mode) (ops:Array Oper) (Q:Exit->Act->World->Prop) (S:World->Prop) (z:Nat):Nat->Array Bool->Act->World->Prop
 | 0,listed,a,w=>Region.ready md ops listed=[]/\Q .normal a w
 | fuel+1,listed,a,w =>
  (Region.ready md ops listed=[]->Q .normal a w) /\
  ∀ i∈Region.ready md ops listed,wpOp P ops Q i (fun a' w'=>(i≠z->S w')/\wpAnyF P md ops Q S z fuel (listed.setIfInBounds i true) a' w') a w
theorem wpAny_of_F:∀ (fuel:Nat) (listed:Array Bool) (a:Act) (w:World),wpAnyF P md ops Q S z fuel listed a w->wpAny P md ops Q fuel listed a w
 | 0,_,_,_,h=>h
 | fuel+1,_,_,_,h=>⟨h.1,fun i hi=>wpOp_mono (fun a' w' h'=>wpAny_of_F fuel _ a' w' h'.2) (h.2 i hi)⟩
def waitsB (md:Region.Mode) (ops:Array Oper) (z i:Nat):Bool:=match ops[z]? with
 | some o=>o.after.any fun e=>Region.binds md e&&e.on==i
 | none=>true
theorem not_ready {i:Nat} {listed:Array Bool} (hw:waitsB md ops z i=true) (hi:i∈Region.ready md ops listed):z∉Region.ready md ops listed:=fun hz=>by
 obtain⟨_,oz,hoz,hall⟩:=mem_ready.1 hz
 unfold waitsB at hw
 rw[hoz] at hw
 obtain⟨e,he,hb⟩:=Array.any_eq_true'.1 hw
 simp only[Bool.and_eq_true,beq_iff_eq] at hb
 have h1:=hall e he hb.1
 rw[hb.2] at h1
 have h0:=(mem_ready.1 hi).1
 rcases Nat.lt_or_ge i listed.size with h' | h'
 ·simp[h'] at h0 h1;rw[h0] at h1;cases h1
 ·simp[Array.getElem?_eq_none h'] at h1
theorem wpAnyF_first {i:Nat} {oi:Oper} {v:Value} (hi:ops[i]?=some oi) (hsel:∀ (j:Nat) (o:Oper) cs b,ops[j]?=some o->o.op ≠ .select cs b)
  (hQ:∀ c a w,Q (.panic c) (a.put oi.dst v) w->Q (.panic c) a w) (hw:waitsB md ops z i=true) (hiz:i≠z) :
  ∀ (fuel:Nat) (listed:Array Bool) (a:Act) (w:World),
   (∀ j oj,ops[j]?=some oj->j≠i->listed.getD j true=false->(∀ e∈oj.after,Region.binds md e=true->e.on≠i)->oi.apart ops oj=true) ->
   i∈Region.ready md ops listed->YieldsIf P ops S oi v a->S w ->
   wpAnyF P md ops Q S z fuel (listed.setIfInBounds i true) (a.put oi.dst v) w->wpAnyF P md ops Q S z (fuel+1) listed a w:=by
 intro fuel
 induction fuel with
 | zero =>
  intro listed a w _ hr hy hS H
  refine⟨fun h=>(by rw[h] at hr;cases hr),fun j hj=>?_⟩
  by_cases hji:j=i
  ·subst hji;exact hy.wpOp hi hS ⟨fun _=>hS,H⟩
  ·have:=ready_mono hj hji
   rw[H.1] at this
   cases this
 | succ fuel ih =>
  intro listed a w hfree hr hy hS H
  refine⟨fun h=>(by rw[h] at hr;cases hr),fun j hj=>?_⟩
  by_cases hji:j=i
  ·subst hji;exact hy.wpOp hi hS ⟨fun _=>hS,H⟩
  ·have hjz:j≠z:=fun e=>not_ready hw hr (e▸hj)
   have h1:=H.2 j (ready_mono hj hji)
   obtain⟨hjun,oj,hoj,hall⟩:=mem_ready.1 hj
   have hnot:∀ e∈oj.after,Region.binds md e=true->e.on≠i:=fun e he hb heq=>by
    have h1:=hall e he hb
    have h0:=(mem_ready.1 hr).1
    rw[heq] at h1
    rcases Nat.lt_or_ge i listed.size with h' | h'
    ·simp[h'] at h0 h1;rw[h0] at h1;cases h1
    ·simp[Array.getElem?_eq_none h'] at h1
   have h2:=wpOp_putIf hoj (hfree j oj hoj hji hjun hnot) (fun cs b=>hsel i oi cs b hi) (fun cs b=>hsel j oj cs b hoj) hQ hy h1
   have hfree':∀ k ok,ops[k]?=some ok->k≠i->(listed.setIfInBounds j true).getD k true=false ->
     (∀ e∈ok.after,Region.binds md e=true->e.on≠i)->oi.apart ops ok=true:=fun k ok hk hki hun hno=>by
    refine hfree k ok hk hki ?_ hno
    by_cases hjk:j=k
    ·subst hjk;exact hjun
    ·rw[getD_set_ne true hjk] at hun;exact hun
   refine wpOp_mono (fun a' w' h3=>⟨h3.2.1,ih (listed.setIfInBounds j true) a' w' hfree' (ready_mono hr (Ne.symm hji)) h3.1 (h3.2.1 hjz) ?_⟩) h2
   rw[Array.setIfInBounds_comm _ _ hji]
   exact h3.2.2
theorem wpAnyF_take {i:Nat} {oi:Oper} {v:Value} {fuel:Nat} {listed:Array Bool} {a:Act} {w:World} (hi:ops[i]?=some oi)
  (hs:Region.noSelect ops=true) (hf:Region.free md ops listed i=true) (hr:(Region.ready md ops listed).contains i=true) (hw:(waitsB md ops z i && !(i==z))=true)
  (hQ:∀ c a w,Q (.panic c) (a.put oi.dst v) w->Q (.panic c) a w) (hy:YieldsIf P ops S oi v a) (hS:S w)
  (h:wpAnyF P md ops Q S z fuel (listed.setIfInBounds i true) (a.put oi.dst v) w):wpAnyF P md ops Q S z (fuel+1) listed a w:=by
 simp only[Bool.and_eq_true,Bool.not_eq_true',beq_eq_false_iff_ne] at hw
 exact wpAnyF_first hi (Region.noSelect_spec hs) hQ hw.1 hw.2 fuel listed a w (Region.free_spec hi hf) (by simpa using hr) hy hS h
theorem wpAnyF_done {listed:Array Bool} {a:Act} {w:World} (hr:Region.ready md ops listed=[]) (h:Q .normal a w):∀ fuel,wpAnyF P md ops Q S z fuel listed a w
 | 0=>⟨hr,h⟩
 | _+1=>⟨fun _=>h,by rw[hr];simp⟩
theorem wp_region_F {id:Nat} (z:Nat) (S:World->Prop) {a:Act} {w:World} (hm:P.follows .mixedOrders=true) (hS:S w.drew)
  (h:S w.drew->wpAnyF P .any ops Q S z ops.size (Array.replicate ops.size false) a w.drew):(Code.region id ops true).wp P Q a w :=
 wp_region_any hm (wpAny_of_F _ _ _ _ (h hS))
end
open Go.ChangeShapes Go.WideShapes Go.ChangeAt Go.RowKit
theorem wpAnyF_narrow {P:Program} {md:Region.Mode} {ops:Array Oper} {Q:Exit->Act->World->Prop} {S S':World->Prop} {z:Nat} (hSS:∀ w,S' w->S w):∀ (fuel:Nat) (listed:Array Bool) (a:Act) (w:World),wpAnyF P md ops Q S' z fuel listed a w->wpAnyF P md ops Q S z fuel listed a w
 | 0,_,_,_,h=>h
 | fuel+1,_,_,_,h=>⟨h.1,fun i hi=>wpOp_mono (fun a' w' h'=>⟨fun hz=>hSS _ (h'.1 hz),wpAnyF_narrow hSS fuel _ a' w' h'.2⟩) (h.2 i hi)⟩
def schF (md:Region.Mode) (ops:Array Oper) (z:Nat):List Nat->Array Bool->Bool
 | [],listed=>(Region.ready md ops listed).isEmpty
 | i::r,listed=>(match ops[i]? with
  | some o=>if rdK o.op then (Region.free md ops listed i&&(Region.ready md ops listed).contains i&&(waitsB md ops z i && !(i==z)))||(Region.ready md ops listed==[i]) else Region.ready md ops listed==[i]&&(r.isEmpty==(i==z))
  | none=>false)&&schF md ops z r (listed.setIfInBounds i true)
def wpLw (P:Program) (ops:Array Oper) (Q:Exit->Act->World->Prop):List Oper->(World->Prop)->Act->World->Prop
 | [],_,a,w=>Q .normal a w
 | o::r,C,a,w=>if Region.wanted o (yielded ops a.tmps)=true then (if rdK o.op=true then o.quiet P a C (fun a'=>wpLw P ops Q r C a' w) else Oper.wp P o a w (fun a' w'=>∃ C':World->Prop,(r=[]\/((∀ W,C' W->C W)/\C' w'))/\wpLw P ops Q r C' a' w') Q) else wpLw P ops Q r C (a.put o.dst undef) w
section
variable {P:Program} {md:Region.Mode} {ops:Array Oper} {Q:Exit->Act->World->Prop} {z:Nat}
theorem wpAnyF_lw (hs:Region.noSelect ops=true) (hQ:∀ c (a:Act) d v w,Q (.panic c) (a.put d v) w->Q (.panic c) a w):∀ (sc:List Nat) (l:List Oper) (C:World->Prop) (listed:Array Bool) (a:Act) (w:World),sc.map (fun i=>ops[i]?)=l.map some->schF md ops z sc listed=true->C w->wpLw P ops Q l C a w->wpAnyF P md ops Q C z sc.length listed a w
 | [],[],_,listed,a,w,_,hv,_,h=>wpAnyF_done (by simpa[schF] using hv) h _
 | [],_::_,_,_,_,_,e,_,_,_=>by cases e
 | _::_,[],_,_,_,_,e,_,_,_=>by cases e
 | i::r,o::l,C,listed,a,w,e,hv,hC,h=>by
  simp only[List.map_cons,List.cons.injEq] at e
  obtain⟨ho,e⟩:=e
  unfold schF at hv
  rw[Bool.and_eq_true,ho] at hv
  obtain⟨h1,h2⟩:=hv
  dsimp only at h1
  unfold wpLw at h
  rw[List.length_cons]
  by_cases hr:rdK o.op=true
  ·rw[if_pos hr,Bool.or_eq_true] at h1
   have key:∀ v,YieldsIf P ops C o v a->wpAnyF P md ops Q C z r.length (listed.setIfInBounds i true) (a.put o.dst v) w->wpAnyF P md ops Q C z (r.length+1) listed a w:=fun v hy hn=>by
    rcases h1 with h1|h1
    ·rw[Bool.and_eq_true,Bool.and_eq_true] at h1
     exact wpAnyF_take ho hs h1.1.1 h1.1.2 h1.2 (fun c a w=>hQ c a o.dst v w) hy hC hn
    ·rw[beq_iff_eq] at h1
     refine⟨fun h0=>absurd (h1▸h0) (by simp),fun j hj=>?_⟩
     rw[h1] at hj
     rw[List.mem_singleton.1 hj]
     exact hy.wpOp ho hC ⟨fun _=>hC,hn⟩
   by_cases hw:Region.wanted o (yielded ops a.tmps)=true
   ·rw[if_pos hw,if_pos hr] at h
    obtain⟨v,hv,h⟩:=h
    exact key v (.inl ⟨hw,fun W hW=>rd_value hr (hv W hW)⟩) (wpAnyF_lw hs hQ r l C _ _ _ e h2 hC h)
   ·rw[if_neg hw] at h
    rw[Bool.not_eq_true] at hw
    exact key undef (.inr ⟨hw,rfl⟩) (wpAnyF_lw hs hQ r l C _ _ _ e h2 hC h)
  ·rw[if_neg hr,Bool.and_eq_true,beq_iff_eq,beq_iff_eq] at h1
   obtain⟨h1,hl⟩:=h1
   refine⟨fun h0=>absurd (h1▸h0) (by simp),fun j hj=>?_⟩
   rw[h1] at hj
   rw[List.mem_singleton.1 hj]
   unfold wpOp
   rw[ho]
   dsimp only
   by_cases hw:Region.wanted o (yielded ops a.tmps)=true
   ·rw[if_pos hw,if_neg hr] at h
    rw[if_pos hw]
    refine .inl (Oper.wp_mono (fun a' w' h'=>?_) h)
    obtain⟨C',hCC,h''⟩:=h'
    cases r with
    | nil =>
     have hz:i=z:=by simpa using hl.symm
     cases l with
     | nil=>exact⟨fun hne=>absurd hz hne,wpAnyF_done (by simpa[schF] using h2) h'' _⟩
     | cons o2 l2=>cases e
    | cons j2 r2 =>
     cases l with
     | nil=>cases e
     | cons o2 l2 =>
      rcases hCC with hn|⟨hCC,hc⟩
      ·cases hn
      ·exact⟨fun _=>hCC _ hc,wpAnyF_narrow hCC _ _ _ _ (wpAnyF_lw hs hQ (j2::r2) (o2::l2) C' _ _ _ e h2 hc h'')⟩
   ·rw[if_neg hw] at h
    rw[if_neg hw]
    exact⟨fun _=>hC,wpAnyF_lw hs hQ r l C _ _ _ e h2 hC h⟩
structure Lw (P:Program) (ops:Array Oper) (Q:Exit->Act->World->Prop) (C:World->Prop) (l:List Oper) (a:Act) (w:World):Prop where
 out:wpLw P ops Q l C a w
variable {d:Option Tmp} {op:Op} {ty:TypeId} {ps:String} {af:Array Edge} {gd:Option (Nat×Bool)} {r:List Oper} {a:Act} {w:World} {C:World->Prop}
theorem lw_skip (hw:Region.wanted ⟨d,op,ty,ps,af,gd⟩ (yielded ops a.tmps)=false) (h:Lw P ops Q C r (a.put d undef) w):Lw P ops Q C (⟨d,op,ty,ps,af,gd⟩::r) a w:=by
 refine⟨?_⟩
 unfold wpLw
 rw[if_neg (by rw[hw];decide)]
 exact h.out
theorem lw_read (hw:Region.wanted ⟨d,op,ty,ps,af,gd⟩ (yielded ops a.tmps)=true) (hr:rdK op=true) (h:∀ K:Act->Prop,(∀ a',Lw P ops Q C r a' w->K a')->Oper.quiet P ⟨d,op,ty,ps,af,gd⟩ a C K):Lw P ops Q C (⟨d,op,ty,ps,af,gd⟩::r) a w:=by
 refine⟨?_⟩
 unfold wpLw
 rw[if_pos hw,if_pos hr]
 exact h _ fun _ h=>h.out
theorem lw_act (hw:Region.wanted ⟨d,op,ty,ps,af,gd⟩ (yielded ops a.tmps)=true) (hr:rdK op=false) (h:∀ K:Act->World->Prop,(∀ a' w' (C':World->Prop),(r=[]\/((∀ W,C' W->C W)/\C' w'))->Lw P ops Q C' r a' w'->K a' w')->Oper.wp P ⟨d,op,ty,ps,af,gd⟩ a w K Q):Lw P ops Q C (⟨d,op,ty,ps,af,gd⟩::r) a w:=by
 refine⟨?_⟩
 unfold wpLw
 rw[if_pos hw,if_neg (by rw[hr];decide)]
 exact h _ fun _ _ C' h0 h2=>⟨C',h0,h2.out⟩
theorem lw_one (hr:rdK op=true) (h:wpQuiet P ops C (fun a'=>Lw P ops Q C r a' w) [⟨d,op,ty,ps,af,gd⟩] a):Lw P ops Q C (⟨d,op,ty,ps,af,gd⟩::r) a w:=by
 unfold wpQuiet at h
 by_cases hw:Region.wanted ⟨d,op,ty,ps,af,gd⟩ (yielded ops a.tmps)=true
 ·rw[if_pos hw] at h
  refine lw_read hw hr fun K hK=>?_
  exact Oper.quiet_mono (fun a' h'=>hK a' h') h
 ·rw[if_neg hw] at h
  exact lw_skip (by simpa using hw) h
theorem lw_done (h:Q .normal a w):Lw P ops Q C [] a w:=⟨h⟩
theorem lw_ld {t:TypeId} {x:Operand} {p v:Value} (hl:∀ W,C W->(Instr.loadAt t p).run P W = .ok v W) (hx:a.eval x=p) (hw:Region.wanted ⟨d,.load t x,ty,ps,af,gd⟩ (yielded ops a.tmps)=true) (h:Lw P ops Q C r (a.put d v) w):Lw P ops Q C (⟨d,.load t x,ty,ps,af,gd⟩::r) a w :=
 lw_read hw rfl fun K hK=>⟨v,fun W hW=>by
  unfold Oper.quietAt execOp
  simp only[hx,hl W hW,Sem.run_bind,Result.andThen_ok,Sem.run_pure]
  exact⟨rfl,rfl⟩,hK _ h⟩
theorem lw_bs {t:TypeId} {n:Nat} {xs:Array (Nat×Operand)} {ys:Array (Nat×Value)} {v:Value} {w':World} (hr:(Instr.buildSlice t n ys).run P w = .ok v w') (hC:C w') (hx:(xs.map fun (i,x)=>(i,a.eval x))=ys) (hw:Region.wanted ⟨d,.buildSlice t n xs,ty,ps,af,gd⟩ (yielded ops a.tmps)=true) (h:Lw P ops Q C r (a.put d v) w'):Lw P ops Q C (⟨d,.buildSlice t n xs,ty,ps,af,gd⟩::r) a w :=
 lw_act hw rfl fun K hK=>by
  unfold Oper.wp execOp
  simp only[hx,hr,Sem.run_bind,Result.andThen_ok]
  exact hK _ _ C (.inr ⟨fun _ h=>h,hC⟩) h
theorem lw_bs1 {t:TypeId} {n i:Nat} {x:Operand} {y:Value} {v:Value} {w':World} (hr:(Instr.buildSlice t n #[(i,y)]).run P w = .ok v w') (hC:C w') (hx:a.eval x=y) (hw:Region.wanted ⟨d,.buildSlice t n #[(i,x)],ty,ps,af,gd⟩ (yielded ops a.tmps)=true) (h:Lw P ops Q C r (a.put d v) w'):Lw P ops Q C (⟨d,.buildSlice t n #[(i,x)],ty,ps,af,gd⟩::r) a w :=
 lw_bs hr hC (by simp[hx]) hw h
theorem lw_ap {s x:Operand} {t tx:TypeId} {sv xv:Value} {Post:Value->World->Prop} (hrun:∃ v w',(∀ ty,(Builtin.append_ #[t,tx] ty #[sv,xv]).run P w = .ok v w')/\Post v w') (hs:a.eval s=sv) (hx:a.eval x=xv) (hw:Region.wanted ⟨d,.call { callee:=.builtin .append,args:=#[s,x],argTypes:=#[t,tx] },ty,ps,af,gd⟩ (yielded ops a.tmps)=true)
  (h:∀ v w',Post v w'->C w'/\Lw P ops Q C r (a.put d v) w'):Lw P ops Q C (⟨d,.call { callee:=.builtin .append,args:=#[s,x],argTypes:=#[t,tx] },ty,ps,af,gd⟩::r) a w :=
 lw_act hw rfl fun K hK=>by
  obtain⟨v,w',hr,hp⟩:=hrun
  unfold Oper.wp execOp
  simp only[resolve,invoke,builtin,Sem.run_bind,Sem.run_pure,Result.andThen_ok,List.map_toArray,List.map_cons,List.map_nil,hs,hx,hr]
  exact hK _ _ C (.inr ⟨fun _ h=>h,(h v w' hp).1⟩) (h v w' hp).2
theorem lw_st {t:TypeId} {x y:Operand} {p v:Value} {w':World} (hr:(Instr.storeAt t p v).run P w = .ok () w') (hx:a.eval x=p) (hy:a.eval y=v) (hw:Region.wanted ⟨d,.store t x y,ty,ps,af,gd⟩ (yielded ops a.tmps)=true) (h:Q .normal (a.put d undef) w'):Lw P ops Q C [⟨d,.store t x y,ty,ps,af,gd⟩] a w :=
 lw_act hw rfl fun K hK=>by
  unfold Oper.wp execOp
  simp only[hx,hy,hr,Sem.run_bind,Result.andThen_ok]
  exact hK _ _ C (.inl rfl) (lw_done h)
end
theorem wp_region_lw {P:Program} {Q:Exit->Act->World->Prop} {id:Nat} {a:Act} {w:World} {l:List Oper} (z:Nat) (C:World->Prop) (hm:P.follows .mixedOrders=true) (hv:(Region.noSelect l.toArray&&schF .any l.toArray z (List.range l.length) (Array.replicate l.length false))=true)
  (hQ:∀ c (a:Act) d v w,Q (.panic c) (a.put d v) w->Q (.panic c) a w) (hp:C w.drew) (h:Lw P l.toArray Q C l a w.drew):(Code.region id l.toArray true).wp P Q a w:=by
 rw[Bool.and_eq_true] at hv
 refine wp_region_F z C hm hp fun _=>?_
 have:=wpAnyF_lw (z:=z) hv.1 hQ _ _ C _ a w.drew (range_map l) hv.2 hp h.out
 rw[List.length_range] at this
 simpa using this
open Go.Shelf Go.Maps
theorem ap_genP {W:World} {base:Nat} {t e:TypeId} {z:Value} {size bytes n:Nat} {v:Value} {xs:List Value} (ht:Tryz.prog.underlying t=some (.slice e)) (hi:(Tryz.prog.info? e).map (fun i=>(i.zero,i.size,i.bytes))=some (some z,size,bytes)) (hz:z.cells.size=size) (hsz:0<size)
  (own:W.ownsRow base e size v n xs) (cs:List Value) (hcs:cs.length=size) (h1:∀ u∈cs,u.oneCell'=true) (hn:(n+1)*bytes<=140737488355328) (hn':n+1<=140737488355328) (hbase:base<=W.heap.size) :
  ∃ v' w',(∀ ty,(Builtin.append_ #[t,t] ty #[v,.slice (some ⟨W.heap.size,0,none⟩) 1 1]).run Tryz.prog (W.alloc (.cells cs.toArray e)) = .ok v' w')/\(w'.ownsRow base e size v' (n+1) (xs++cs)/\Below base W w'/\(∀ j,j<W.heap.size->v.ownBlock≠some j->w'.heap[j]?=W.heap[j]?)/\∀ k,v'.ownBlock=some k->v.ownBlock=some k\/W.heap.size<=k):=by
 obtain⟨i0,hi0,hz0⟩:=Option.map_eq_some_iff.1 hi
 simp only[Prod.mk.injEq] at hz0
 have hB:=nbel W (.cells cs.toArray e)
 have hO:=own_keep own hB
 have hN:∀ (j:Nat) (u:Value),cs[j]?=some u->(W.alloc (.cells cs.toArray e)).cell? ((⟨W.heap.size,0,none⟩:Addr).add j)=some u:=World.news_of_block (thnK W _)
 have hs:(W.alloc (.cells cs.toArray e)).heap.size=W.heap.size+1:=World.size_alloc _ _
 have hr:=run_append_own_at (P:=Tryz.prog) (W.alloc (.cells cs.toArray e)) base t 0 e i0 z size bytes ht hi0 hz0.1 hz0.2.1 hz0.2.2 hz hsz v n xs hO ⟨W.heap.size,0,none⟩ 1 1 cs (by rw[hcs,Nat.one_mul]) hN h1 (by simp only[maxLen];omega) hn (by omega)
 obtain⟨v',w',q1,q2,q3,_,q5⟩:=hr
 refine⟨v',w',fun _=>q1,q2,grown_below hB q3 hbase (fun j hj=>(own.lt j hj).1),fun j hj hn=>(q3.block j (by omega) (fun e=>hn e.symm)).trans (hB.block j hj),fun k hk=>?_⟩
 rcases q5 with q5|q5
 ·exact .inl (by rw[<- q5];exact hk)
 ·rw[q5] at hk
  cases hk
  exact .inr (by omega)
theorem i_apP {W:World} {base:Nat} {v:Value} {ns:List Nat} (k:Nat) (h:NRow W base v ns) (hl:ns.length+1<=1000000000000) (hb:base<=W.heap.size) :
  ∃ v' w',(∀ ty,(Builtin.append_ #[41,41] ty #[v,.slice (some ⟨W.heap.size,0,none⟩) 1 1]).run Tryz.prog (W.alloc (.cells #[.int .i64 (k:Int)] 3)) = .ok v' w')/\(NRow w' base v' (ns++[k])/\Below base W w'/\(∀ j,j<W.heap.size->v.ownBlock≠some j->w'.heap[j]?=W.heap[j]?)/\∀ k,v'.ownBlock=some k->v.ownBlock=some k\/W.heap.size<=k):=by
 obtain⟨v',w',h1,h2,h3⟩:=ap_genP (W:=W) Tryz.underlying41 infoInt rfl (by decide) h [.int .i64 (k:Int)] rfl (by simp[Value.oneCell']) (by omega) (by omega) hb
 refine⟨v',w',h1,?_,h3⟩
 unfold NRow
 rw[List.length_append,List.map_append]
 exact h2
theorem NRow.pop {W:World} {base n:Nat} {p:Option Addr} {c:Nat} {ns:List Nat} {k:Nat} (h:NRow W base (.slice p n c) (ns++[k])):NRow W base (.slice p ns.length c) ns/\n=ns.length+1/\ns.length+1<=c/\∃ g,p=some ⟨g,0,none⟩:=by
 rcases h.2 with ⟨_,e1⟩|⟨g,cap,cur,e1,hb,hg,hn,hc,hs,hx⟩
 ·simp at e1
 ·cases e1
  rw[List.length_append,List.length_singleton] at hn hx
  refine⟨⟨by simp,.inr ⟨g,c,cur,rfl,hb,hg,by omega,hc,hs,?_⟩⟩,by simp,hn,g,rfl⟩
  have e:cur.toList.take (ns.length*1)=(cur.toList.take ((ns.length+1)*1)).take (ns.length*1):=by rw[List.take_take];congr 1;omega
  rw[e,hx,List.map_append,List.take_append_of_le_length (by simp),List.take_of_length_le (by simp)]
theorem NRow.keepP {W W':World} {base:Nat} {v:Value} {ns:List Nat} (h:NRow W base v ns) (hb:∀ k,v.ownBlock=some k->W'.heap[k]?=W.heap[k]?):NRow W' base v ns:=by
 refine⟨h.1,?_⟩
 rcases h.2 with h0|⟨g,cap,cur,rfl,hb',hg,r⟩
 ·exact .inl h0
 ·exact .inr ⟨g,cap,cur,rfl,hb',(hb g rfl).trans hg,r⟩
theorem NRow.ltP {W:World} {base:Nat} {v:Value} {ns:List Nat} (h:NRow W base v ns):∀ k,v.ownBlock=some k->base<=k/\k<W.heap.size:=fun k hk=>World.ownsRow.lt h k hk
theorem ly_max {P:Program} {Q:Exit->Act->World->Prop} {ops:Array Oper} {C:World->Prop} {r:List Oper} {a:Act} {w:World} {d:Option Tmp} {ty:TypeId} {ps:String} {af:Array Edge} {gd:Option (Nat×Bool)} {x y:Operand} {t u:TypeId} {m n:Nat} (hx:a.eval x = .int .i64 (m:Int)) (hy:a.eval y = .int .i64 (n:Int)) (hC:C w)
  (hw:Region.wanted ⟨d,.call { callee:=.builtin .max,args:=#[x,y],argTypes:=#[t,u] },ty,ps,af,gd⟩ (yielded ops a.tmps)=true) (h:Ly P ops Q C r (a.put d (.int .i64 ((max m n:Nat):Int))) w):Ly P ops Q C (⟨d,.call { callee:=.builtin .max,args:=#[x,y],argTypes:=#[t,u] },ty,ps,af,gd⟩::r) a w :=
 ly_act hw rfl fun K hK=>by
  have e:(Builtin.max_ #[t,u] ty #[.int .i64 (m:Int),.int .i64 (n:Int)]).run P w = .ok (.int .i64 ((max m n:Nat):Int)) w:=by
   simp only[Builtin.max_,List.foldlM,Builtin.max2,Sem.run_bind,Sem.run_pure,Result.andThen_ok]
   have e:(if (n:Int) > m then (n:Int) else m)=((max m n:Nat):Int):=by split<;>omega
   rw[e]
  unfold Oper.wp execOp
  simp only[resolve,invoke,builtin,Sem.run_bind,Sem.run_pure,Result.andThen_ok,List.map_toArray,List.map_cons,List.map_nil,hx,hy,e]
  exact hK _ _ C (fun _ h=>h) hC h
def kRow (p:Int):Int×Int×Int×Int×Int :=
 if p=0 then (1,0,0,32,126) else
 if p=1 then (1,1,18446744073709551488,18446744073709551489,127) else
 if p=2 then (2,1,18446744073709518848,18446744073709518849,32767) else
 if p=3 then (4,1,18446744071562067968,18446744071562067969,2147483647) else
 if p=4 then (8,1,9223372036854775808,9223372036854775809,9223372036854775807) else
 if p=5 then (1,0,255,0,254) else
 if p=6 then (2,0,65535,0,65534) else
 if p=7 then (4,0,4294967295,0,4294967294) else
 if p=8 then (8,0,18446744073709551615,0,18446744073709551614) else
 if p=9 then (4,2,2143289344,0,4294967295) else
 if p=10 then (8,2,9221120237041090560,0,18446744073709551615) else
 (0,0,0,0,0)
def sz (p:Int):Int:=(kRow p).1
def rd (p:Int):Int:=(kRow p).2.1
def nl (p:Int):Int:=(kRow p).2.2.1
def mn (p:Int):Int:=(kRow p).2.2.2.1
def mx (p:Int):Int:=(kRow p).2.2.2.2
theorem prim_cases (p:Int):(p<0\/11<=p)\/p=0\/p=1\/p=2\/p=3\/p=4\/p=5\/p=6\/p=7\/p=8\/p=9\/p=10:=by omega
theorem kRow_out (p:Int) (h:p<0\/11<=p):kRow p=(0,0,0,0,0):=by
 unfold kRow
 rw[if_neg (by omega),if_neg (by omega),if_neg (by omega),if_neg (by omega),if_neg (by omega),if_neg (by omega),if_neg (by omega),if_neg (by omega),if_neg (by omega),if_neg (by omega),if_neg (by omega)]
def KOk (s r:Int):Prop:=(s=0/\r=0)\/(s=1/\r=0)\/(s=1/\r=1)\/(s=2/\r=0)\/(s=2/\r=1)\/(s=4/\r=0)\/(s=4/\r=1)\/(s=4/\r=2)\/(s=8/\r=0)\/(s=8/\r=1)\/(s=8/\r=2)
theorem kok (p:Int):KOk (sz p) (rd p):=by
 unfold KOk
 rcases prim_cases p with h|rfl|rfl|rfl|rfl|rfl|rfl|rfl|rfl|rfl|rfl|rfl
 ·left;unfold sz rd;rw[kRow_out p h];exact⟨rfl,rfl⟩
 all_goals decide
def pw (s:Int):Int:=if s=1 then 256 else if s=2 then 65536 else if s=4 then 4294967296 else 18446744073709551616
def wordF (s r b:Int):Int:=if r=1/\pw s<=2*(b % pw s) then b % pw s+18446744073709551616-pw s else b % pw s
def fitsF (s r b:Int):Bool:=decide (0<s)&&(wordF s r b==b)
theorem fits_iff (s r b:Int) (hk:KOk s r) (h0:0<=b) (h1:b<18446744073709551616) :
  fitsF s r b=true↔s≠0/\((r≠1/\b<pw s)\/(r=1/\(2*b<pw s\/18446744073709551616<=b+pw s / 2))):=by
 unfold fitsF wordF
 rcases hk with ⟨rfl,rfl⟩|⟨rfl,rfl⟩|⟨rfl,rfl⟩|⟨rfl,rfl⟩|⟨rfl,rfl⟩|⟨rfl,rfl⟩|⟨rfl,rfl⟩|⟨rfl,rfl⟩|⟨rfl,rfl⟩|⟨rfl,rfl⟩|⟨rfl,rfl⟩
 all_goals simp[pw]
 all_goals first|omega|(split<;>omega)
def ch (s:ByteArray) (i:Nat):Nat:=(s.data.toList.getD i 0).toNat
theorem tl_len (t:ByteArray):t.data.toList.length=t.size:=Array.length_toList
theorem ch_get (s:ByteArray) (i:Nat) (h:i<s.size):(s[i]'h).toNat=ch s i:=by
 have h2:i<s.data.toList.length:=by rw[tl_len];exact h
 simp only[ch,List.getD,List.getElem?_eq_getElem h2,Option.getD_some]
 congr 1
theorem nret {a b:Bool} (h:a=b):Ending.returned (.bool a) = .returned (.bool b):=by rw[h]
theorem nidx {w:World} (s:ByteArray) (i:Nat) (h:i<s.size) (k:IntKind):(Instr.index 9 (.string s) (.int k (i:Int))).run Tryz.prog w = .ok (.int .u8 (ch s i:Int)) w:=by
 rw[run_index_string w 9 s k i Tryz.underlying9,dif_pos ⟨by omega,by omega⟩]
 simp only[Int.toNat_natCast,ch_get]
def nlet (c:Nat):Bool:=(decide (65<=c)&&decide (c<=90))||(decide (97<=c)&&decide (c<=122))
def ndig (c:Nat):Bool:=decide (48<=c)&&decide (c<=57)
def nsym (c:Nat):Bool:=nlet c||ndig c||decide (c=95)
def symbolB (s:ByteArray):Bool:=decide (0<s.size/\s.size<=64/\ndig (ch s 0)=false/\∀ i,i<s.size->nsym (ch s i)=true)
theorem nisDigit (c:Nat) (w:World):Calls Tryz.prog 130 #[.int .u8 (c:Int)] w fun e w'=>e = .returned (.bool (ndig c))/\w'=w:=by
 unfold ndig
 by_cases h:48<=c
 ·go_enter Tryz.func130,Tryz.ntmps130
  go_wp2
  go_ret
  exact⟨nret (by simp[h];omega),rfl⟩
 ·have d:decide (48<=(c:Int))=false:=by simp;omega
  go_enter Tryz.func130,Tryz.ntmps130
  go_wp2
  go_ret
  exact⟨nret (by simp;omega),rfl⟩
theorem nisLetter (c:Nat) (w:World):Calls Tryz.prog 131 #[.int .u8 (c:Int)] w fun e w'=>e = .returned (.bool (nlet c))/\w'=w:=by
 have:(c<65)\/(65<=c/\c<=90)\/(90<c/\c<97)\/(97<=c/\c<=122)\/122<c:=by omega
 rcases this with h|h|h|h|h
 ·have d1:decide (65<=(c:Int))=false:=by simp;omega
  have d3:decide (97<=(c:Int))=false:=by simp;omega
  have g:nlet c=false:=by unfold nlet;simp;omega
  rw[g]
  go_enter Tryz.func131,Tryz.ntmps131
  go_wp2
  go_ret
  exact⟨rfl,rfl⟩
 ·have d1:decide (65<=(c:Int))=true:=by simp;omega
  have d2:decide ((c:Int)<=90)=true:=by simp;omega
  have g:nlet c=true:=by unfold nlet;simp;omega
  rw[g]
  go_enter Tryz.func131,Tryz.ntmps131
  go_wp2
  go_ret
  exact⟨rfl,rfl⟩
 ·have d1:decide (65<=(c:Int))=true:=by simp;omega
  have d2:decide ((c:Int)<=90)=false:=by simp;omega
  have d3:decide (97<=(c:Int))=false:=by simp;omega
  have g:nlet c=false:=by unfold nlet;simp;omega
  rw[g]
  go_enter Tryz.func131,Tryz.ntmps131
  go_wp2
  go_ret
  exact⟨rfl,rfl⟩
 ·have d1:decide (65<=(c:Int))=true:=by simp;omega
  have d2:decide ((c:Int)<=90)=false:=by simp;omega
  have d3:decide (97<=(c:Int))=true:=by simp;omega
  have d4:decide ((c:Int)<=122)=true:=by simp;omega
  have g:nlet c=true:=by unfold nlet;simp;omega
  rw[g]
  go_enter Tryz.func131,Tryz.ntmps131
  go_wp2
  go_ret
  exact⟨rfl,rfl⟩
 ·have d1:decide (65<=(c:Int))=true:=by simp;omega
  have d2:decide ((c:Int)<=90)=false:=by simp;omega
  have d3:decide (97<=(c:Int))=true:=by simp;omega
  have d4:decide ((c:Int)<=122)=false:=by simp;omega
  have g:nlet c=false:=by unfold nlet;simp;omega
  rw[g]
  go_enter Tryz.func131,Tryz.ntmps131
  go_wp2
  go_ret
  exact⟨rfl,rfl⟩
end Go.Proofs.YtcgimchhcaankaaGreatDoor
