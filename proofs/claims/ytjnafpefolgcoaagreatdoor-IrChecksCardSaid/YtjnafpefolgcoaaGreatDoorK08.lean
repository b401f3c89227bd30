import Derived.Test.YtjnafpefolgcoaaGreatDoorK07
namespace Go.Proofs.YtjnafpefolgcoaaGreatDoor
open Go.ChangeShapes Go.WideShapes Go.ChangeAt Go.RowKit
theorem wpAnyF_narrow {P:Program} {md:Region.Mode} {ops:Array Oper} {Q:Exit->Act->World->Prop} {S S':World->Prop} {z:Nat} (hSS:∀ w,S' w->S w):∀ (fuel:Nat) (listed:Array Bool) (a:Act) (w:World),wpAnyF P md ops Q S' z fuel listed a w->wpAnyF P md ops Q S z fuel listed a w
 | 0,_,_,_,h=>h
 | fuel+1,_,_,_,h=>⟨h.1,fun i hi=>wpOp_mono (fun a' w' h'=>⟨fun hz=>hSS _ (h'.1 hz),wpAnyF_narrow hSS fuel _ a' w' h'.2⟩) (h.2 i hi)⟩
def schF (md:Region.Mode) (ops:Array Oper) (z:Nat):List Nat->Array Bool->Bool
 | [],listed=>(Region.ready md ops listed).isEmpty
 | i::r,listed=>(match ops[i]? with
  | some o=>if rdK o.op then (Region.free md ops listed i&&(Region.ready md ops listed).contains i&&(waitsB md ops z i && !(i==z)))||(Region.ready md ops listed==[i]) else Region.ready md ops listed==[i]&&(r.isEmpty==(i==z))
  | none=>false)&&schF md ops z r (listed.setIfInBounds i true)
def wpLw (P:Program) (ops:Array Oper) (Q:Exit->Act->World->Prop):List Oper->(World->Prop)->Act->World->Prop
 | [],_,a,w=>Q .normal a w
 | o::r,C,a,w=>if Region.wanted o (yielded ops a.tmps)=true then (if rdK o.op=true then o.quiet P a C (fun a'=>wpLw P ops Q r C a' w) else Oper.wp P o a w (fun a' w'=>∃ C':World->Prop,(r=[]\/((∀ W,C' W->C W)/\C' w'))/\wpLw P ops Q r C' a' w') Q) else wpLw P ops Q r C (a.put o.dst undef) w
section
variable {P:Program} {md:Region.Mode} {ops:Array Oper} {Q:Exit->Act->World->Prop} {z:Nat}
theorem wpAnyF_lw (hs:Region.noSelect ops=true) (hQ:∀ c (a:Act) d v w,Q (.panic c) (a.put d v) w->Q (.panic c) a w):∀ (sc:List Nat) (l:List Oper) (C:World->Prop) (listed:Array Bool) (a:Act) (w:World),sc.map (fun i=>ops[i]?)=l.map some->schF md ops z sc listed=true->C w->wpLw P ops Q l C a w->wpAnyF P md ops Q C z sc.length listed a w
 | [],[],_,listed,a,w,_,hv,_,h=>wpAnyF_done (by simpa[schF] using hv) h _
 | [],_::_,_,_,_,_,e,_,_,_=>by cases e
 | _::_,[],_,_,_,_,e,_,_,_=>by cases e
 | i::r,o::l,C,listed,a,w,e,hv,hC,h=>by
  simp only[List.map_cons,List.cons.injEq] at e
  obtain⟨ho,e⟩:=e
  unfold schF at hv
  rw[Bool.and_eq_true,ho] at hv
  obtain⟨h1,h2⟩:=hv
  dsimp only at h1
  unfold wpLw at h
  rw[List.length_cons]
  by_cases hr:rdK o.op=true
  ·rw[if_pos hr,Bool.or_eq_true] at h1
   have key:∀ v,YieldsIf P ops C o v a->wpAnyF P md ops Q C z r.length (listed.setIfInBounds i true) (a.put o.dst v) w->wpAnyF P md ops Q C z (r.length+1) listed a w:=fun v hy hn=>by
    rcases h1 with h1|h1
    ·rw[Bool.and_eq_true,Bool.and_eq_true] at h1
     exact wpAnyF_take ho hs h1.1.1 h1.1.2 h1.2 (fun c a w=>hQ c a o.dst v w) hy hC hn
    ·rw[beq_iff_eq] at h1
     refine⟨fun h0=>absurd (h1▸h0) (by simp),fun j hj=>?_⟩
     rw[h1] at hj
     rw[List.mem_singleton.1 hj]
     exact hy.wpOp ho hC ⟨fun _=>hC,hn⟩
   by_cases hw:Region.wanted o (yielded ops a.tmps)=true
   ·rw[if_pos hw,if_pos hr] at h
    obtain⟨v,hv,h⟩:=h
    exact key v (.inl ⟨hw,fun W hW=>rd_value hr (hv W hW)⟩) (wpAnyF_lw hs hQ r l C _ _ _ e h2 hC h)
   ·rw[if_neg hw] at h
    rw[Bool.not_eq_true] at hw
    exact key undef (.inr ⟨hw,rfl⟩) (wpAnyF_lw hs hQ r l C _ _ _ e h2 hC h)
  ·rw[if_neg hr,Bool.and_eq_true,beq_iff_eq,beq_iff_eq] at h1
   obtain⟨h1,hl⟩:=h1
   refine⟨fun h0=>absurd (h1▸h0) (by simp),fun j hj=>?_⟩
   rw[h1] at hj
   rw[List.mem_singleton.1 hj]
   unfold wpOp
   rw[ho]
   dsimp only
   by_cases hw:Region.wanted o (yielded ops a.tmps)=true
   ·rw[if_pos hw,if_neg hr] at h
    rw[if_pos hw]
    refine .inl (Oper.wp_mono (fun a' w' h'=>?_) h)
    obtain⟨C',hCC,h''⟩:=h'
    cases r with
    | nil =>
     have hz:i=z:=by simpa using hl.symm
     cases l with
     | nil=>exact⟨fun hne=>absurd hz hne,wpAnyF_done (by simpa[schF] using h2) h'' _⟩
     | cons o2 l2=>cases e
    | cons j2 r2 =>
     cases l with
     | nil=>cases e
     | cons o2 l2 =>
      rcases hCC with hn|⟨hCC,hc⟩
      ·cases hn
      ·exact⟨fun _=>hCC _ hc,wpAnyF_narrow hCC _ _ _ _ (wpAnyF_lw hs hQ (j2::r2) (o2::l2) C' _ _ _ e h2 hc h'')⟩
   ·rw[if_neg hw] at h
    rw[if_neg hw]
    exact⟨fun _=>hC,wpAnyF_lw hs hQ r l C _ _ _ e h2 hC h⟩
structure Lw (P:Program) (ops:Array Oper) (Q:Exit->Act->World->Prop) (C:World->Prop) (l:List Oper) (a:Act) (w:World):Prop where
 out:wpLw P ops Q l C a w
variable {d:Option Tmp} {op:Op} {ty:TypeId} {ps:String} {af:Array Edge} {gd:Option (Nat×Bool)} {r:List Oper} {a:Act} {w:World} {C:World->Prop}
theorem lw_skip (hw:Region.wanted ⟨d,op,ty,ps,af,gd⟩ (yielded ops a.tmps)=false) (h:Lw P ops Q C r (a.put d undef) w):Lw P ops Q C (⟨d,op,ty,ps,af,gd⟩::r) a w:=by
 refine⟨?_⟩
 unfold wpLw
 rw[if_neg (by rw[hw];decide)]
 exact h.out
theorem lw_read (hw:Region.wanted ⟨d,op,ty,ps,af,gd⟩ (yielded ops a.tmps)=true) (hr:rdK op=true) (h:∀ K:Act->Prop,(∀ a',Lw P ops Q C r a' w->K a')->Oper.quiet P ⟨d,op,ty,ps,af,gd⟩ a C K):Lw P ops Q C (⟨d,op,ty,ps,af,gd⟩::r) a w:=by
 refine⟨?_⟩
 unfold wpLw
 rw[if_pos hw,if_pos hr]
 exact h _ fun _ h=>h.out
theorem lw_act (hw:Region.wanted ⟨d,op,ty,ps,af,gd⟩ (yielded ops a.tmps)=true) (hr:rdK op=false) (h:∀ K:Act->World->Prop,(∀ a' w' (C':World->Prop),(r=[]\/((∀ W,C' W->C W)/\C' w'))->Lw P ops Q C' r a' w'->K a' w')->Oper.wp P ⟨d,op,ty,ps,af,gd⟩ a w K Q):Lw P ops Q C (⟨d,op,ty,ps,af,gd⟩::r) a w:=by
 refine⟨?_⟩
 unfold wpLw
 rw[if_pos hw,if_neg (by rw[hr];decide)]
 exact h _ fun _ _ C' h0 h2=>⟨C',h0,h2.out⟩
theorem lw_one (hr:rdK op=true) (h:wpQuiet P ops C (fun a'=>Lw P ops Q C r a' w) [⟨d,op,ty,ps,af,gd⟩] a):Lw P ops Q C (⟨d,op,ty,ps,af,gd⟩::r) a w:=by
 unfold wpQuiet at h
 by_cases hw:Region.wanted ⟨d,op,ty,ps,af,gd⟩ (yielded ops a.tmps)=true
 ·rw[if_pos hw] at h
  refine lw_read hw hr fun K hK=>?_
  exact Oper.quiet_mono (fun a' h'=>hK a' h') h
 ·rw[if_neg hw] at h
  exact lw_skip (by simpa using hw) h
theorem lw_done (h:Q .normal a w):Lw P ops Q C [] a w:=⟨h⟩
theorem lw_ld {t:TypeId} {x:Operand} {p v:Value} (hl:∀ W,C W->(Instr.loadAt t p).run P W = .ok v W) (hx:a.eval x=p) (hw:Region.wanted ⟨d,.load t x,ty,ps,af,gd⟩ (yielded ops a.tmps)=true) (h:Lw P ops Q C r (a.put d v) w):Lw P ops Q C (⟨d,.load t x,ty,ps,af,gd⟩::r) a w :=
 lw_read hw rfl fun K hK=>⟨v,fun W hW=>by
  unfold Oper.quietAt execOp
  simp only[hx,hl W hW,Sem.run_bind,Result.andThen_ok,Sem.run_pure]
  exact⟨rfl,rfl⟩,hK _ h⟩
theorem lw_bs {t:TypeId} {n:Nat} {xs:Array (Nat×Operand)} {ys:Array (Nat×Value)} {v:Value} {w':World} (hr:(Instr.buildSlice t n ys).run P w = .ok v w') (hC:C w') (hx:(xs.map fun (i,x)=>(i,a.eval x))=ys) (hw:Region.wanted ⟨d,.buildSlice t n xs,ty,ps,af,gd⟩ (yielded ops a.tmps)=true) (h:Lw P ops Q C r (a.put d v) w'):Lw P ops Q C (⟨d,.buildSlice t n xs,ty,ps,af,gd⟩::r) a w :=
 lw_act hw rfl fun K hK=>by
  unfold Oper.wp execOp
  simp only[hx,hr,Sem.run_bind,Result.andThen_ok]
  exact hK _ _ C (.inr ⟨fun _ h=>h,hC⟩) h
theorem lw_ap {s x:Operand} {t tx:TypeId} {sv xv:Value} {Post:Value->World->Prop} (hrun:∃ v w',(∀ ty,(Builtin.append_ #[t,tx] ty #[sv,xv]).run P w = .ok v w')/\Post v w') (hs:a.eval s=sv) (hx:a.eval x=xv) (hw:Region.wanted ⟨d,.call { callee:=.builtin .append,args:=#[s,x],argTypes:=#[t,tx] },ty,ps,af,gd⟩ (yielded ops a.tmps)=true)
  (h:∀ v w',Post v w'->C w'/\Lw P ops Q C r (a.put d v) w'):Lw P ops Q C (⟨d,.call { callee:=.builtin .append,args:=#[s,x],argTypes:=#[t,tx] },ty,ps,af,gd⟩::r) a w :=
 lw_act hw rfl fun K hK=>by
  obtain⟨v,w',hr,hp⟩:=hrun
  unfold Oper.wp execOp
  simp only[resolve,invoke,builtin,Sem.run_bind,Sem.run_pure,Result.andThen_ok,List.map_toArray,List.map_cons,List.map_nil,hs,hx,hr]
  exact hK _ _ C (.inr ⟨fun _ h=>h,(h v w' hp).1⟩) (h v w' hp).2
end
section
variable {P:Program} {md:Region.Mode} {ops:Array Oper} {Q:Exit->Act->World->Prop} {z:Nat}
variable {d:Option Tmp} {op:Op} {ty:TypeId} {ps:String} {af:Array Edge} {gd:Option (Nat×Bool)} {r:List Oper} {a:Act} {w:World} {C:World->Prop} {l1 l2:List Oper}
theorem lw_call2 {f:FuncId} {x1 x2:Operand} {y1 y2:Value} {tx:Array TypeId} {R:Value->World->Prop} (hen:∀ ag w,(callFunc f ag).run P w = .ok (.enter f ag) w) (hc:Calls P f #[y1,y2] w fun e w'=>∃ v,e = .returned v/\R v w') (h1:a.eval x1=y1) (h2:a.eval x2=y2) (hw:Region.wanted ⟨d,.call { callee:=.value (.func f),args:=#[x1,x2],argTypes:=tx },ty,ps,af,gd⟩ (yielded ops a.tmps)=true)
  (h:∀ v w',R v w'->C w'/\Lw P ops Q C r (a.put d v) w'):Lw P ops Q C (⟨d,.call { callee:=.value (.func f),args:=#[x1,x2],argTypes:=tx },ty,ps,af,gd⟩::r) a w :=
 lw_act hw rfl fun K hK=>by
  have hf:a.eval (.func f) = .func (.func f) #[] #[]:=rfl
  unfold Oper.wp execOp
  simp only[resolve,invoke,Sem.run_bind,hf]
  simp[Deferred.ofValue,hen,Oper.upon_enter,h1,h2]
  refine hc.mono ?_
  rintro e w' ⟨v,rfl,hp⟩
  exact hK _ _ C (.inr ⟨fun _ h=>h,(h v w' hp).1⟩) (h v w' hp).2
end
section
variable {P:Program} {ops:Array Oper} {Q:Exit->Act->World->Prop} {C:World->Prop} {d:Option Tmp} {ty:TypeId} {ps:String} {af:Array Edge} {gd:Option (Nat×Bool)} {r:List Oper} {a:Act} {w:World}
theorem lw_call1 {f:FuncId} {x1:Operand} {y1:Value} {tx:Array TypeId} {R:Value->World->Prop} (hen:∀ ag w,(callFunc f ag).run P w = .ok (.enter f ag) w) (hc:Calls P f #[y1] w fun e w'=>∃ v,e = .returned v/\R v w') (h1:a.eval x1=y1) (hw:Region.wanted ⟨d,.call { callee:=.value (.func f),args:=#[x1],argTypes:=tx },ty,ps,af,gd⟩ (yielded ops a.tmps)=true)
  (h:∀ v w',R v w'->C w'/\Lw P ops Q C r (a.put d v) w'):Lw P ops Q C (⟨d,.call { callee:=.value (.func f),args:=#[x1],argTypes:=tx },ty,ps,af,gd⟩::r) a w :=
 lw_act hw rfl fun K hK=>by
  have hf:a.eval (.func f) = .func (.func f) #[] #[]:=rfl
  unfold Oper.wp execOp
  simp only[resolve,invoke,Sem.run_bind,hf]
  simp[Deferred.ofValue,hen,Oper.upon_enter,h1]
  refine hc.mono ?_
  rintro e w' ⟨v,rfl,hp⟩
  exact hK _ _ C (.inr ⟨fun _ h=>h,(h v w' hp).1⟩) (h v w' hp).2
end
theorem wp_region_lwt {P:Program} {Q:Exit->Act->World->Prop} {id:Nat} {a:Act} {w:World} {l:List Oper} (z:Nat) (C:World->Prop) (sc:List Nat) (hm:P.follows .mixedOrders=true) (hv:(Region.noSelect l.toArray&&schF .any l.toArray z sc (Array.replicate l.length false)&&(sc.length==l.length)&&sc.all (fun i=>decide (i<l.length)))=true)
  (hQ:∀ c (a:Act) d v w,Q (.panic c) (a.put d v) w->Q (.panic c) a w) (hp:C w.drew) (h:Lw P l.toArray Q C (sc.filterMap fun i=>l[i]?) a w.drew):(Code.region id l.toArray true).wp P Q a w:=by
 rw[Bool.and_eq_true,Bool.and_eq_true,Bool.and_eq_true,beq_iff_eq] at hv
 refine wp_region_F z C hm hp fun _=>?_
 have:=wpAnyF_lw (z:=z) hv.1.1.1 hQ _ _ C _ a w.drew (pick_map l sc hv.2) hv.1.1.2 hp h.out
 rw[hv.1.2] at this
 simpa using this
end Go.Proofs.YtjnafpefolgcoaaGreatDoor
