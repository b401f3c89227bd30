import Derived.Test.YtjlbcdnkglaheaaGreatDoorK31
namespace Go.Proofs.YtjlbcdnkglaheaaGreatDoor
set_option maxRecDepth 1000000
set_option maxHeartbeats 16000000
open Go.ChangeShapes Go.WideShapes Go.ChangeAt Go.RowKit Go.Shelf Go.Maps
theorem ent_here:∀ ag w,(callFunc 33 ag).run Tryz.prog w = .ok (.enter 33 ag) w:=enters_of Tryz.func33 (by kernel_rfl) rfl
def grpW (wt:Int) (tk:Tk) (cnt:Int):Int:=wrap64 (wrap64 (wt+tk.siz)+wrap64 (cnt*tk.full))
def grpZ (hi:Bool) (len st en:Nat) (fb:Nat->Int) (wt:Int) (tk:Tk) (cnt:Int):Int×Nat×(Nat->Int)×Int :=
 if 1048576<grpW wt tk cnt then (165,en,fb,wt)
 else if C.pwE (C.dimG tk) len en tk.siz (C.dimN tk tk.blk cnt)=0 then (0,C.pwN (C.dimG tk) len en tk.siz (C.dimN tk tk.blk cnt),C.pwF (C.dimG tk) hi len st en fb tk.siz (C.dimN tk tk.blk cnt),grpW wt tk cnt)
 else (C.pwE (C.dimG tk) len en tk.siz (C.dimN tk tk.blk cnt),en,fb,wt)
theorem tkC_ptT (t:Tk) (v:Value) (ls:List Lf) {W:World} {b:Nat} (h:W.heap[b]?=some (.cells (ptCs t v ls).toArray 89)):TkC W b 0 t none 0:=⟨cell_at h 0,cell_at h 1,cell_at h 2,cell_at h 3,cell_at h 4,cell_at h 5,cell_at h 6,cell_at h 7,cell_at h 8,cell_at h 9,cell_at h 10,cell_at h 11,cell_at h 12,cell_at h 13,cell_at h 14,cell_at h 15,cell_at h 16,cell_at h 17,cell_at h 18,cell_at h 19,cell_at h 20⟩
theorem here_eq {f:Fm} {n:Pn} {pa pm e ma cu:Nat} {bg:Bool} {wt bl:Int} {lo hi:Nat} {s:Ms} {U:Nat->Prop} {W:World} {g:Nat} (he:W.heap[e]?=some (enO f n pa pm e ma cu bg wt bl)) (hm:Mk f lo hi W ma s U) (L:∀ V,Below W.heap.size W V->(Instr.lookup 56 (.map (some pm)) (.int .i64 (insZ s:Int)) false).run Tryz.prog V = .ok (pV g) V) :
  Calls Tryz.prog 33 #[pV e] W fun r w'=>r = .returned (pV g)/\Below W.heap.size W w':=by
 have hel:=(Array.getElem?_eq_some_iff.1 he).1
 have cI:Hid (∀ V,Below W.heap.size W V->Calls Tryz.prog 57 #[pV ma] V fun r w'=>∃ v,r = .returned v/\(v = .int .i64 (insZ s:Int)/\Below V.heap.size V w')):=⟨fun V hb=>(Inside_mk (hm.below hb)).mono fun r w' h=>⟨_,h.1,rfl,h.2⟩⟩
 have EB:Hid _:=⟨L⟩
 obtain⟨p0,pb,pN,x17,x0⟩:∃ p:World->Prop,(∀ V,p V↔Below W.heap.size W V)/\Nonempty (CW p)/\(∀ θ:CW p,θ.w.cell? ⟨e,17,none⟩=some (.map (some pm)))/\(∀ θ:CW p,θ.w.cell? ⟨e,0,none⟩=some (pV ma)) :=
  ⟨fun V=>Below W.heap.size W V,fun _=>Iff.rfl,⟨⟨W,Below.refl _ _⟩⟩,fun θ=>cell_at ((θ.h.block _ hel).trans he) 17,fun θ=>cell_at ((θ.h.block _ hel).trans he) 0⟩
 replace pb:=Hid.mk pb
 clear he hm hel
 generalize insZ s=i at *
 go_enter Tryz.func33,Tryz.ntmps33
 go_upto_region 1 with fail
 have hd:Hid (Below W.heap.size W W.drew):=⟨(Below.refl _ _).drew⟩
 refine wp_region_ly (fun V=>∃ θ:CW p0,V=θ.w) (by kernel_rfl) (by kernel_rfl) (fun _ _ d _ _ h=>by cases d<;>exact h) ⟨⟨_,(pb.out _).2 hd.out⟩,rfl⟩ ?_
 generalize W.drew=V at hd ⊢
 repeat (first|(guard_target =~ Ly _ _ _ _ (Oper.mk _ (Op.call _) _ _ _ _::_) _ _;fail)|(guard_target =~ Ly _ _ _ _ (Oper.mk _ (Op.lookup _ _ _ _) _ _ _ _::_) _ _;fail)|(refine ly_one rfl ?_;(first|go_big_quiet_skip|(go_big_quiet_want;go_big_quiet_op;go_big_quiet_on));refine wpQuiet_nil ?_))
 refine ly_call1 ent_ins (cI.out V hd.out) rfl (by rfl) ?_
 rintro _ V2 ⟨rfl,b2⟩
 have hd2:=hd.out.trans (b2.mono hd.out.size)
 refine⟨_,fun _ h=>h,⟨⟨_,(pb.out _).2 hd2⟩,rfl⟩,?_⟩
 simp only[pts]
 have r1:=EB.out V2 hd2
 refine ly_lk r1 ⟨⟨_,(pb.out _).2 hd2⟩,rfl⟩ rfl rfl (by rfl) ?_
 simp only[pts]
 repeat (first|(guard_target =~ Ly _ _ _ _ (Oper.mk _ (Op.call _) _ _ _ _::_) _ _;fail)|(guard_target =~ Ly _ _ _ _ (Oper.mk _ (Op.lookup _ _ _ _) _ _ _ _::_) _ _;fail)|(refine ly_one rfl ?_;(first|go_big_quiet_skip|(go_big_quiet_want;go_big_quiet_op;go_big_quiet_on));refine wpQuiet_nil ?_))
 refine ly_done ?_
 replace hd2:=Hid.mk hd2
 clear r1 b2 hd EB cI pb
 go_wp2_with fail
 go_ret
 exact⟨rfl,hd2.out⟩
abbrev zTkE:Obj:=.cells (tkC tk0 none 0).toArray 78
theorem al_tkE (w:World):(Instr.alloc 78 true (Value.tuple #[])).run Tryz.prog w = .ok (.pointer (some ⟨w.heap.size,0,none⟩)) (w.alloc zTkE):=by
 simp only[Instr.alloc,newVar,newRow,run_newObj_alloc,Sem.run_bind,Sem.run_pure,Result.andThen_ok]
 rfl
theorem tk_stE {w:World} {b:Nat} (hb:w.heap[b]?=some zTkE) (t:Tk) (pc:Option Addr) (cc:Nat):(Instr.storeAt 78 (.pointer (some ⟨b,0,none⟩)) (tkV t pc cc)).run Tryz.prog w = .ok () (w.setRow b (tkC t pc cc).toArray):=by
 simp only[Instr.storeAt,Instr.sureAddr,Sem.run_bind,Sem.run_pure,Result.andThen]
 exact run_storeVar_row _ _ _ _ _ _ hb infoTk rfl (all_oneCell_toArray (tkC_one t pc cc))
section
variable {P:Program} {ops:Array Oper} {Q:Exit->Act->World->Prop} {C:World->Prop} {d:Option Tmp} {ty:TypeId} {ps:String} {af:Array Edge} {gd:Option (Nat×Bool)} {r:List Oper} {a:Act} {w:World}
theorem ly_call4 {f:FuncId} {x1 x2 x3 x4:Operand} {y1 y2 y3 y4:Value} {tx:Array TypeId} {R:Value->World->Prop} (hen:∀ ag w,(callFunc f ag).run P w = .ok (.enter f ag) w) (hc:Calls P f #[y1,y2,y3,y4] w fun e w'=>∃ v,e = .returned v/\R v w') (h1:a.eval x1=y1) (h2:a.eval x2=y2) (h3:a.eval x3=y3) (h4:a.eval x4=y4) (hw:Region.wanted ⟨d,.call { callee:=.value (.func f),args:=#[x1,x2,x3,x4],argTypes:=tx },ty,ps,af,gd⟩ (yielded ops a.tmps)=true)
  (h:∀ v w',R v w'->∃ C':World->Prop,(∀ W,C' W->C W)/\C' w'/\Ly P ops Q C' r (a.put d v) w'):Ly P ops Q C (⟨d,.call { callee:=.value (.func f),args:=#[x1,x2,x3,x4],argTypes:=tx },ty,ps,af,gd⟩::r) a w :=
 ly_act hw rfl fun K hK=>by
  have hf:a.eval (.func f) = .func (.func f) #[] #[]:=rfl
  unfold Oper.wp execOp
  simp only[resolve,invoke,Sem.run_bind,hf]
  simp[Deferred.ofValue,hen,Oper.upon_enter,h1,h2,h3,h4]
  refine hc.mono ?_
  rintro e w' ⟨v,rfl,hp⟩
  obtain⟨C',e1,e2,e3⟩:=h v w' hp
  exact hK _ _ C' e1 e2 e3
end
theorem ent_pd:∀ ag w,(callFunc 37 ag).run Tryz.prog w = .ok (.enter 37 ag) w:=enters_of Tryz.func37 (by kernel_rfl) rfl
theorem pw_no {g hi:Bool} {len st en:Nat} {f:Nat->Int} {size:Int} {ns:List C.Nb} (h:C.pwE g len en size ns≠0):C.pwN g len en size ns=en/\C.pwF g hi len st en f size ns=f:=by
 unfold C.pwE at h
 unfold C.pwN C.pwF
 cases g with
 | false=>exact⟨rfl,rfl⟩
 | true =>
  simp only[if_true] at h ⊢
  unfold C.wrN C.wrF
  rw[if_neg h,if_neg h]
  exact⟨rfl,rfl⟩
theorem group_any {f:Fm} {n:Pn} {S0 S1 pa pm e ma cu:Nat} {s:Ms} {U:Nat->Prop} {g len cap st en:Nat} {hi:Bool} {fb:Nat->Int} {wt bl:Int} {W:World} {t:Tk} {gb m b k:Nat} {u:Tk} {v:Value} (hE:En f n S0 S1 pa pm e ma cu s U g len cap st en hi fb wt bl W) (c:Cl) (L:∀ V,W.heap.size<=V.heap.size->(∀ x,S0<=x->x<S1->V.heap[x]?=W.heap[x]?)->Lk f S0 S1 pm (insZ s) t c.nm gb m b k u v V) :
  Calls Tryz.prog 17 #[pV e,caV c] W fun r w'=>r = .returned (.int .i64 (grpZ hi len st en fb wt (ptT u) c.cnt).1)/\En f n S0 S1 pa pm e ma cu s U g len cap st (grpZ hi len st en fb wt (ptT u) c.cnt).2.1 hi (grpZ hi len st en fb wt (ptT u) c.cnt).2.2.1 (grpZ hi len st en fb wt (ptT u) c.cnt).2.2.2 bl w'/\Frm (Wr e cu g U) W w':=by
 obtain⟨W1,hW1⟩:∃ W1,W1=W.alloc (caO c):=⟨_,rfl⟩
 have b1:Below W.heap.size W W1:=by rw[hW1];exact nbel _ _
 have s1:W1.heap.size=W.heap.size+1:=by rw[hW1];exact World.size_alloc _ _
 have E1:=hE.below b1
 have c1:W1.heap[W.heap.size]?=some (caO c):=by rw[hW1];exact thnK _ _
 have hS:=hE.size
 have hcg:Hid (cu<W.heap.size/\g<W.heap.size):=⟨hE.cs.lt,hE.cs.row.lt⟩
 have L1:Hid (∀ V,Below W1.heap.size W1 V->Lk f S0 S1 pm (insZ s) t c.nm gb m b k u v V):=⟨fun V hb=>L V (Nat.le_trans b1.size hb.size) fun x _ hx=>(hb.block x (by omega)).trans (b1.block x (by omega))⟩
 obtain⟨tk,htk⟩:∃ tk,tk=ptT u:=⟨_,rfl⟩
 rw[<- htk]
 have cH:Hid (∀ V,Below W1.heap.size W1 V->Calls Tryz.prog 33 #[pV e] V fun r w'=>∃ x,r = .returned x/\(x=pV gb/\Below V.heap.size V w')):=⟨fun V hb=>by
  have EV:=E1.below hb
  obtain⟨lo,hi',h1,h2,h3⟩:=EV.mc
  refine(here_eq EV.eo h1 fun V2 hb2=>(L1.out V2 (hb.trans (hb2.mono hb.size))).l1).mono fun r w' h=>⟨_,h.1,rfl,h.2⟩⟩
 obtain⟨p,pb,pN,x1,x2,lL,lT⟩:∃ p:World->Prop,(∀ V,p V↔Below W1.heap.size W1 V)/\Nonempty (CW p)/\(∀ θ:CW p,θ.w.cell? ⟨W.heap.size,1,none⟩=some (.string c.nm))/\(∀ θ:CW p,θ.w.cell? ⟨gb,2,none⟩=some (.map (some m)))/\(∀ V,p V->(Instr.lookup 68 (.map (some m)) (.string c.nm) false).run Tryz.prog V = .ok (pV b) V)/\(∀ V,p V->(Instr.loadAt 78 (pV b)).run Tryz.prog V = .ok (tkV tk none 0) V) :=
  ⟨fun V=>Below W1.heap.size W1 V,fun _=>Iff.rfl,⟨⟨W1,Below.refl _ _⟩⟩,fun θ=>cell_at ((θ.h.block _ (by omega)).trans c1) 1,fun θ=>cell_at (L1.out _ θ.h).gb 2,fun V hV=>(L1.out V hV).l2,fun V hV=>by rw[htk];exact(tkC_ptT _ _ _ (L1.out V hV).pb).load⟩
 replace pb:=Hid.mk pb
 replace E1:=Hid.mk E1
 replace c1:=Hid.mk c1
 have B1:Hid _:=⟨b1⟩
 replace s1:=Hid.mk s1
 replace hS:=Hid.mk hS
 have hd:Hid (Below W1.heap.size W1 W1.drew):=⟨(Below.refl _ _).drew⟩
 clear hE L b1 htk L1
 go_enter Tryz.func17,Tryz.ntmps17
 go_upto_region 1 with fail
 rw[<- hW1]
 clear hW1
 refine wp_region_lvk 12 (fun V=>∃ θ:CW p,V=θ.w) [0,5,6] 1 [2,3,4,7,8,9,10,11,12] 11 [1,2,3,4,7,8,9,10,12] (by kernel_rfl) (by kernel_rfl) (fun _ _ d _ _ h=>by cases d<;>exact h) ⟨⟨_,(pb.out _).2 hd.out⟩,rfl⟩ ?_
 simp only[List.filterMap_cons,List.filterMap_nil,List.getElem?_cons_zero,List.getElem?_cons_succ]
 generalize W1.drew=V at hd ⊢
 repeat (refine lvk_one ?_;(first|go_big_quiet_skip|(go_big_quiet_want;go_big_quiet_op;go_big_quiet_on));refine wpQuiet_nil ?_)
 refine lvk_both ?_ ?_
 ·refine lwk_call1 ent_here (cH.out V hd.out) rfl (by rfl) ?_
  rintro _ V2 ⟨rfl,b2⟩
  have hd2:=hd.out.trans (b2.mono hd.out.size)
  refine⟨⟨⟨_,(pb.out _).2 hd2⟩,rfl⟩,?_⟩
  simp only[pts]
  replace b2:=Hid.mk b2
  replace hd2:=Hid.mk hd2
  repeat (first|(guard_target =~ Lwk _ _ _ _ (Oper.mk _ (Op.call _) _ _ _ _::_) _ _;fail)|(guard_target =~ Lwk _ _ _ _ (Oper.mk _ (Op.lookup _ _ _ _) _ _ _ _::_) _ _;fail)|(guard_target =~ Lwk _ _ _ _ (Oper.mk _ (Op.alloc _) _ _ _ _::_) _ _;fail)|(guard_target =~ Lwk _ _ _ _ (Oper.mk _ (Op.load 78 _) _ _ _ _::_) _ _;fail)|(guard_target =~ Lwk _ _ _ _ (Oper.mk _ (Op.store _ _ _) _ _ _ _::_) _ _;fail)|(refine lwk_one rfl ?_;(first|go_big_quiet_skip|(go_big_quiet_want;go_big_quiet_op;go_big_quiet_on));refine wpQuiet_nil ?_))
  refine lwk_lk (fun X hX=>by obtain⟨θ,rfl⟩:=hX;exact lL _ θ.h) rfl rfl (by rfl) ?_
  simp only[pts]
  repeat (first|(guard_target =~ Lwk _ _ _ _ (Oper.mk _ (Op.call _) _ _ _ _::_) _ _;fail)|(guard_target =~ Lwk _ _ _ _ (Oper.mk _ (Op.lookup _ _ _ _) _ _ _ _::_) _ _;fail)|(guard_target =~ Lwk _ _ _ _ (Oper.mk _ (Op.alloc _) _ _ _ _::_) _ _;fail)|(guard_target =~ Lwk _ _ _ _ (Oper.mk _ (Op.load 78 _) _ _ _ _::_) _ _;fail)|(guard_target =~ Lwk _ _ _ _ (Oper.mk _ (Op.store _ _ _) _ _ _ _::_) _ _;fail)|(refine lwk_one rfl ?_;(first|go_big_quiet_skip|(go_big_quiet_want;go_big_quiet_op;go_big_quiet_on));refine wpQuiet_nil ?_))
  refine lwk_ld (fun X hX=>by obtain⟨θ,rfl⟩:=hX;exact lT _ θ.h) rfl (by rfl) ?_
  simp only[pts]
  refine lwk_al (al_tkE V2) ⟨⟨_,(pb.out _).2 (hd2.out.trans ((nbel V2 _).mono hd2.out.size))⟩,rfl⟩ (by rfl) ?_
  simp only[pts]
  refine lwk_st (st_new V2 _ rfl tk none 0) rfl rfl (by rfl) ?_
  simp only[pts]
  have hq:(V2.alloc (tkO tk none 0)).heap[V2.heap.size]?=some (tkO tk none 0):=thnK _ _
  have hq1:Hid (W1.heap.size<=V2.heap.size):=⟨hd2.out.size⟩
  have hb2:Hid (Below W1.heap.size W1 (V2.alloc (tkO tk none 0))):=⟨hd2.out.trans ((nbel V2 _).mono hd2.out.size)⟩
  clear b2 hd2 hd cH pb x1 x2 lL lT pN
  generalize V2.alloc (tkO tk none 0)=W2 at *
  generalize V2.heap.size=q at *
  go_upto_region 2 with fail
  obtain⟨p,pb,pN,x23,y4,y15,x3⟩:∃ p:World->Prop,(∀ V,p V↔Below W2.heap.size W2 V)/\Nonempty (CW p)/\(∀ θ:CW p,θ.w.cell? ⟨e,23,none⟩=some (.int .i64 wt))/\(∀ θ:CW p,θ.w.cell? ⟨q,4,none⟩=some (.int .i64 tk.siz))/\(∀ θ:CW p,θ.w.cell? ⟨q,15,none⟩=some (.int .i64 tk.full))/\(∀ θ:CW p,θ.w.cell? ⟨W.heap.size,3,none⟩=some (.int .i64 c.cnt)) :=
   ⟨fun V=>Below W2.heap.size W2 V,fun _=>Iff.rfl,⟨⟨W2,Below.refl _ _⟩⟩,fun θ=>cell_at ((E1.out.below (hb2.out.trans (θ.h.mono hb2.out.size))).eo) 23,fun θ=>cell_at ((θ.h.block _ (Array.getElem?_eq_some_iff.1 hq).1).trans hq) 4,fun θ=>cell_at ((θ.h.block _ (Array.getElem?_eq_some_iff.1 hq).1).trans hq) 15,fun θ=>cell_at ((θ.h.block _ (by have:=s1.out;have:=hb2.out.size;omega)).trans ((hb2.out.block _ (by have:=s1.out;omega)).trans c1.out)) 3⟩
  have p2:p W2.drew:=(pb _).2 (Below.refl _ _).drew
  refine wp_region_ly (fun V=>∃ θ:CW p,V=θ.w) (by kernel_rfl) (by kernel_rfl) (fun _ _ d _ _ h=>by cases d<;>exact h) ⟨⟨_,p2⟩,rfl⟩ ?_
  have d2:Hid (Below W2.heap.size W2 W2.drew):=⟨(Below.refl _ _).drew⟩
  generalize W2.drew=W3 at p2 d2 ⊢
  repeat (first|(guard_target =~ Ly _ _ _ _ (Oper.mk _ (Op.call _) _ _ _ _::_) _ _;fail)|(guard_target =~ Ly _ _ _ _ (Oper.mk _ (Op.load 78 _) _ _ _ _::_) _ _;fail)|(refine ly_one rfl ?_;(first|go_big_quiet_skip|(go_big_quiet_want;go_big_quiet_op;go_big_quiet_on));refine wpQuiet_nil ?_))
  refine ly_done ?_
  have hb3:Hid (Below W1.heap.size W1 W3):=⟨hb2.out.trans (d2.out.mono hb2.out.size)⟩
  have hq3:W3.heap[q]?=some (tkO tk none 0):=(d2.out.block _ (Array.getElem?_eq_some_iff.1 hq).1).trans hq
  clear pb pN x23 y4 y15 x3 p2 d2 hb2 hq
  have hgw:Hid (grpW wt tk c.cnt=wrap64 (wrap64 (wt+tk.siz)+wrap64 (c.cnt*tk.full))):=⟨rfl⟩
  generalize wrap64 (wrap64 (wt+tk.siz)+wrap64 (c.cnt*tk.full))=Wt at hgw ⊢
  have E3:Hid _:=⟨E1.out.below hb3.out⟩
  have F3:Hid (Below W.heap.size W W3):=⟨B1.out.trans (hb3.out.mono B1.out.size)⟩
  by_cases hbig:1048576<Wt
  ·have hz:Hid (grpZ hi len st en fb wt tk c.cnt=(165,en,fb,wt)):=⟨by unfold grpZ;rw[hgw.out,if_pos hbig]⟩
   clear hgw c1 hq1 hq3
   go_wp2_with fail
   go_ret
   rw[hz.out]
   exact⟨rfl,E3.out,Frm.of_below F3.out⟩
  ·have hbg:decide (1048576<Wt)=false:=decide_eq_false hbig
   obtain⟨PE,hPE⟩:∃ PE,Hid (PE=C.pwE (C.dimG tk) len en tk.siz (C.dimN tk tk.blk c.cnt)):=⟨_,⟨rfl⟩⟩
   obtain⟨p,pb,pN,x1,lq,y14,x3⟩:∃ p:World->Prop,(∀ V,p V↔(V.heap[e]?=W3.heap[e]?/\V.heap[q]?=W3.heap[q]?/\V.heap[W.heap.size]?=W3.heap[W.heap.size]?))/\Nonempty (CW p)/\(∀ θ:CW p,θ.w.cell? ⟨e,1,none⟩=some (pV cu))/\(∀ V,p V->(Instr.loadAt 78 (pV q)).run Tryz.prog V = .ok (tkV tk none 0) V)/\(∀ θ:CW p,θ.w.cell? ⟨q,14,none⟩=some (.int .i64 tk.blk))/\(∀ θ:CW p,θ.w.cell? ⟨W.heap.size,3,none⟩=some (.int .i64 c.cnt)) :=
   ⟨fun V=>V.heap[e]?=W3.heap[e]?/\V.heap[q]?=W3.heap[q]?/\V.heap[W.heap.size]?=W3.heap[W.heap.size]?,fun _=>Iff.rfl,⟨⟨W3,rfl,rfl,rfl⟩⟩,fun θ=>cell_at (θ.h.1.trans E3.out.eo) 1,fun V hV=>(tk_of (hV.2.1.trans hq3)).load,fun θ=>cell_at (θ.h.2.1.trans hq3) 14,fun θ=>cell_at (θ.h.2.2.trans ((hb3.out.block _ (by have:=s1.out;omega)).trans c1.out)) 3⟩
   have nE:Hid ((e≠cu/\e≠g/\e<W3.heap.size)/\(q≠cu/\q≠g/\q<W3.heap.size)/\(W.heap.size≠cu/\W.heap.size≠g/\W.heap.size<W3.heap.size)):=⟨by
    have h1:=E1.out.ne
    have h2:=hcg.out
    have h3:=(Array.getElem?_eq_some_iff.1 hq3).1
    have h4:=hb3.out.size
    have h5:=s1.out
    have h6:=hq1.out
    have h7:=(Array.getElem?_eq_some_iff.1 E3.out.eo).1
    omega⟩
   have cD:Hid (∀ V,Below W3.heap.size W3 V->Calls Tryz.prog 37 #[pV cu,tkV tk none 0,.int .i64 tk.blk,.int .i64 c.cnt] V fun r w'=>∃ x,r = .returned x/\(x = .int .i64 PE/\C.Cs w' cu 0 g len cap st (C.pwN (C.dimG tk) len en tk.siz (C.dimN tk tk.blk c.cnt)) hi (C.pwF (C.dimG tk) hi len st en fb tk.siz (C.dimN tk tk.blk c.cnt))/\C.Cb cu 0 g V w')):=⟨fun V hb=>by
    have EV:=E3.out.below hb
    have hk:=EV.kp
    have hn:=EV.ne
    rw[hPE.out]
    exact(C.PutDim_any EV.cs EV.kt (by omega) (by omega) tk none 0 tk.blk c.cnt).mono fun r w' h=>⟨_,h.1,rfl,h.2⟩⟩
   have F9:Hid (∀ V w',Below W3.heap.size W3 V->∀ {en':Nat} {fb':Nat->Int},C.Cs w' cu 0 g len cap st en' hi fb'->C.Cb cu 0 g V w'->En f n S0 S1 pa pm e ma cu s U g len cap st en' hi fb' wt bl w'/\Frm (Wr e cu g U) W w'):=⟨fun V w' hb en' fb' hc hb2=>⟨(E3.out.below hb).cur hb2 hc,(Frm.of_below (F3.out.trans (hb.mono F3.out.size))).trans (frm_cb hb2 (.inr (.inl rfl)) (.inr (.inr (.inl rfl))))⟩⟩
   clear c1 hq1 hq3 F3 hbig
   go_upto_region 5 with fail
   have p2:p W3.drew:=(pb _).2 ⟨rfl,rfl,rfl⟩
   have d2:Hid (Below W3.heap.size W3 W3.drew):=⟨(Below.refl _ _).drew⟩
   replace pb:=Hid.mk pb
   refine wp_region_ly (fun V=>∃ θ:CW p,V=θ.w) (by kernel_rfl) (by kernel_rfl) (fun _ _ d _ _ h=>by cases d<;>exact h) ⟨⟨_,p2⟩,rfl⟩ ?_
   generalize W3.drew=V at p2 d2 ⊢
   repeat (first|(guard_target =~ Ly _ _ _ _ (Oper.mk _ (Op.call _) _ _ _ _::_) _ _;fail)|(guard_target =~ Ly _ _ _ _ (Oper.mk _ (Op.load 78 _) _ _ _ _::_) _ _;fail)|(refine ly_one rfl ?_;(first|go_big_quiet_skip|(go_big_quiet_want;go_big_quiet_op;go_big_quiet_on));refine wpQuiet_nil ?_))
   refine ly_ld (fun X hX=>by obtain⟨θ,rfl⟩:=hX;exact lq _ θ.h) rfl (by rfl) ?_
   simp only[pts]
   repeat (first|(guard_target =~ Ly _ _ _ _ (Oper.mk _ (Op.call _) _ _ _ _::_) _ _;fail)|(guard_target =~ Ly _ _ _ _ (Oper.mk _ (Op.load 78 _) _ _ _ _::_) _ _;fail)|(refine ly_one rfl ?_;(first|go_big_quiet_skip|(go_big_quiet_want;go_big_quiet_op;go_big_quiet_on));refine wpQuiet_nil ?_))
   refine ly_call4 ent_pd (cD.out V d2.out) rfl rfl rfl rfl (by rfl) ?_
   rintro _ V5 ⟨rfl,k1,k2⟩
   have F5:=F9.out V V5 d2.out k1 k2
   have hsV:=d2.out.size
   have q5:p V5:=(pb.out _).2 ⟨(k2.block _ (by have:=nE.out.1.2.2;omega) nE.out.1.1 nE.out.1.2.1).trans ((pb.out _).1 p2).1,(k2.block _ (by have:=nE.out.2.1.2.2;omega) nE.out.2.1.1 nE.out.2.1.2.1).trans ((pb.out _).1 p2).2.1,(k2.block _ (by have:=nE.out.2.2.2.2;omega) nE.out.2.2.1 nE.out.2.2.2.1).trans ((pb.out _).1 p2).2.2⟩
   refine⟨_,fun _ h=>h,⟨⟨_,q5⟩,rfl⟩,?_⟩
   simp only[pts]
   replace F5:=Hid.mk F5
   clear k1 k2 hsV q5 p2
   repeat (first|(guard_target =~ Ly _ _ _ _ (Oper.mk _ (Op.call _) _ _ _ _::_) _ _;fail)|(guard_target =~ Ly _ _ _ _ (Oper.mk _ (Op.load 78 _) _ _ _ _::_) _ _;fail)|(refine ly_one rfl ?_;(first|go_big_quiet_skip|(go_big_quiet_want;go_big_quiet_op;go_big_quiet_on));refine wpQuiet_nil ?_))
   refine ly_done ?_
   clear F9 cD d2 pb pN x1 lq y14 x3 nE
   by_cases hE0:PE=0
   ·have hz:Hid (grpZ hi len st en fb wt tk c.cnt=(0,C.pwN (C.dimG tk) len en tk.siz (C.dimN tk tk.blk c.cnt),C.pwF (C.dimG tk) hi len st en fb tk.siz (C.dimN tk tk.blk c.cnt),Wt)):=⟨by unfold grpZ;rw[hgw.out,if_neg (of_decide_eq_false hbg),if_pos (hPE.out▸hE0)]⟩
    have b0:(PE != 0)=false:=by simp[hE0]
    have c23:V5.cell? ⟨e,23,none⟩=some (.int .i64 wt):=cell_at F5.out.1.eo 23
    have f23:V5.frozen? ⟨e,23,none⟩=false:=efrz F5.out.1.eo
    clear hE0 hPE
    go_wp2_with fail
    go_ret
    rw[hz.out]
    exact⟨rfl,F5.out.1.setW Wt,F5.out.2.trans ⟨rfl,rfl,rfl,by simp,fun k _ hk=>eset_off (fun e'=>hk (.inl e'))⟩⟩
   ·have hz:Hid (grpZ hi len st en fb wt tk c.cnt=(PE,en,fb,wt)):=⟨by unfold grpZ;rw[hgw.out,if_neg (of_decide_eq_false hbg),<- hPE.out,if_neg hE0]⟩
    have b0:(PE != 0)=true:=by simp[hE0]
    have hN:=fun hi=>pw_no (hi:=hi) (st:=st) (f:=fb) (hPE.out▸hE0)
    have hF:Hid (En f n S0 S1 pa pm e ma cu s U g len cap st en hi fb wt bl V5/\Frm (Wr e cu g U) W V5):=⟨by
     have:=F5.out
     rw[(hN hi).1,(hN hi).2] at this
     exact this⟩
    clear hE0 hPE F5 hN
    go_wp2_with fail
    go_ret
    rw[hz.out]
    exact⟨rfl,hF.out⟩
 ·refine lwk_al (al_tkE V) ⟨⟨_,(pb.out _).2 (hd.out.trans ((nbel V _).mono hd.out.size))⟩,rfl⟩ (by rfl) ?_
  simp only[pts]
  have hdz:=hd.out.trans ((nbel V zTkE).mono hd.out.size)
  refine lwk_call1 ent_here (cH.out _ hdz) rfl (by rfl) ?_
  rintro _ V2 ⟨rfl,b2⟩
  have hd2:=hdz.trans (b2.mono hdz.size)
  refine⟨⟨⟨_,(pb.out _).2 hd2⟩,rfl⟩,?_⟩
  simp only[pts]
  have hz2:V2.heap[V.heap.size]?=some zTkE:=(b2.block _ (by rw[World.size_alloc];omega)).trans (thnK _ _)
  replace b2:=Hid.mk b2
  replace hd2:=Hid.mk hd2
  repeat (first|(guard_target =~ Lwk _ _ _ _ (Oper.mk _ (Op.call _) _ _ _ _::_) _ _;fail)|(guard_target =~ Lwk _ _ _ _ (Oper.mk _ (Op.lookup _ _ _ _) _ _ _ _::_) _ _;fail)|(guard_target =~ Lwk _ _ _ _ (Oper.mk _ (Op.alloc _) _ _ _ _::_) _ _;fail)|(guard_target =~ Lwk _ _ _ _ (Oper.mk _ (Op.load 78 _) _ _ _ _::_) _ _;fail)|(guard_target =~ Lwk _ _ _ _ (Oper.mk _ (Op.store _ _ _) _ _ _ _::_) _ _;fail)|(refine lwk_one rfl ?_;(first|go_big_quiet_skip|(go_big_quiet_want;go_big_quiet_op;go_big_quiet_on));refine wpQuiet_nil ?_))
  refine lwk_lk (fun X hX=>by obtain⟨θ,rfl⟩:=hX;exact lL _ θ.h) rfl rfl (by rfl) ?_
  simp only[pts]
  repeat (first|(guard_target =~ Lwk _ _ _ _ (Oper.mk _ (Op.call _) _ _ _ _::_) _ _;fail)|(guard_target =~ Lwk _ _ _ _ (Oper.mk _ (Op.lookup _ _ _ _) _ _ _ _::_) _ _;fail)|(guard_target =~ Lwk _ _ _ _ (Oper.mk _ (Op.alloc _) _ _ _ _::_) _ _;fail)|(guard_target =~ Lwk _ _ _ _ (Oper.mk _ (Op.load 78 _) _ _ _ _::_) _ _;fail)|(guard_target =~ Lwk _ _ _ _ (Oper.mk _ (Op.store _ _ _) _ _ _ _::_) _ _;fail)|(refine lwk_one rfl ?_;(first|go_big_quiet_skip|(go_big_quiet_want;go_big_quiet_op;go_big_quiet_on));refine wpQuiet_nil ?_))
  refine lwk_ld (fun X hX=>by obtain⟨θ,rfl⟩:=hX;exact lT _ θ.h) rfl (by rfl) ?_
  simp only[pts]
  refine lwk_st (tk_stE hz2 tk none 0) rfl rfl (by rfl) ?_
  simp only[pts]
  have hq:(V2.setRow V.heap.size (tkC tk none 0).toArray).heap[V.heap.size]?=some (tkO tk none 0):=setRow_heap _ _ _ _ _ _ hz2
  have hq1:Hid (W1.heap.size<=V.heap.size):=⟨hd.out.size⟩
  have hb2:Hid (Below W1.heap.size W1 (V2.setRow V.heap.size (tkC tk none 0).toArray)):=⟨⟨hd2.out.os,hd2.out.tape,hd2.out.output,by rw[size_setRow];exact hd2.out.size,fun x hx=>(setRow_other _ _ _ _ (by have:=hd.out.size;omega)).trans (hd2.out.block x hx)⟩⟩
  clear b2 hd2 hd hdz cH pb x1 x2 lL lT pN hz2
  generalize V2.setRow V.heap.size (tkC tk none 0).toArray=W2 at *
  generalize V.heap.size=q at *
  go_upto_region 2 with fail
  obtain⟨p,pb,pN,x23,y4,y15,x3⟩:∃ p:World->Prop,(∀ V,p V↔Below W2.heap.size W2 V)/\Nonempty (CW p)/\(∀ θ:CW p,θ.w.cell? ⟨e,23,none⟩=some (.int .i64 wt))/\(∀ θ:CW p,θ.w.cell? ⟨q,4,none⟩=some (.int .i64 tk.siz))/\(∀ θ:CW p,θ.w.cell? ⟨q,15,none⟩=some (.int .i64 tk.full))/\(∀ θ:CW p,θ.w.cell? ⟨W.heap.size,3,none⟩=some (.int .i64 c.cnt)) :=
   ⟨fun V=>Below W2.heap.size W2 V,fun _=>Iff.rfl,⟨⟨W2,Below.refl _ _⟩⟩,fun θ=>cell_at ((E1.out.below (hb2.out.trans (θ.h.mono hb2.out.size))).eo) 23,fun θ=>cell_at ((θ.h.block _ (Array.getElem?_eq_some_iff.1 hq).1).trans hq) 4,fun θ=>cell_at ((θ.h.block _ (Array.getElem?_eq_some_iff.1 hq).1).trans hq) 15,fun θ=>cell_at ((θ.h.block _ (by have:=s1.out;have:=hb2.out.size;omega)).trans ((hb2.out.block _ (by have:=s1.out;omega)).trans c1.out)) 3⟩
  have p2:p W2.drew:=(pb _).2 (Below.refl _ _).drew
  refine wp_region_ly (fun V=>∃ θ:CW p,V=θ.w) (by kernel_rfl) (by kernel_rfl) (fun _ _ d _ _ h=>by cases d<;>exact h) ⟨⟨_,p2⟩,rfl⟩ ?_
  have d2:Hid (Below W2.heap.size W2 W2.drew):=⟨(Below.refl _ _).drew⟩
  generalize W2.drew=W3 at p2 d2 ⊢
  repeat (first|(guard_target =~ Ly _ _ _ _ (Oper.mk _ (Op.call _) _ _ _ _::_) _ _;fail)|(guard_target =~ Ly _ _ _ _ (Oper.mk _ (Op.load 78 _) _ _ _ _::_) _ _;fail)|(refine ly_one rfl ?_;(first|go_big_quiet_skip|(go_big_quiet_want;go_big_quiet_op;go_big_quiet_on));refine wpQuiet_nil ?_))
  refine ly_done ?_
  have hb3:Hid (Below W1.heap.size W1 W3):=⟨hb2.out.trans (d2.out.mono hb2.out.size)⟩
  have hq3:W3.heap[q]?=some (tkO tk none 0):=(d2.out.block _ (Array.getElem?_eq_some_iff.1 hq).1).trans hq
  clear pb pN x23 y4 y15 x3 p2 d2 hb2 hq
  have hgw:Hid (grpW wt tk c.cnt=wrap64 (wrap64 (wt+tk.siz)+wrap64 (c.cnt*tk.full))):=⟨rfl⟩
  generalize wrap64 (wrap64 (wt+tk.siz)+wrap64 (c.cnt*tk.full))=Wt at hgw ⊢
  have E3:Hid _:=⟨E1.out.below hb3.out⟩
  have F3:Hid (Below W.heap.size W W3):=⟨B1.out.trans (hb3.out.mono B1.out.size)⟩
  by_cases hbig:1048576<Wt
  ·have hz:Hid (grpZ hi len st en fb wt tk c.cnt=(165,en,fb,wt)):=⟨by unfold grpZ;rw[hgw.out,if_pos hbig]⟩
   clear hgw c1 hq1 hq3
   go_wp2_with fail
   go_ret
   rw[hz.out]
   exact⟨rfl,E3.out,Frm.of_below F3.out⟩
  ·have hbg:decide (1048576<Wt)=false:=decide_eq_false hbig
   obtain⟨PE,hPE⟩:∃ PE,Hid (PE=C.pwE (C.dimG tk) len en tk.siz (C.dimN tk tk.blk c.cnt)):=⟨_,⟨rfl⟩⟩
   obtain⟨p,pb,pN,x1,lq,y14,x3⟩:∃ p:World->Prop,(∀ V,p V↔(V.heap[e]?=W3.heap[e]?/\V.heap[q]?=W3.heap[q]?/\V.heap[W.heap.size]?=W3.heap[W.heap.size]?))/\Nonempty (CW p)/\(∀ θ:CW p,θ.w.cell? ⟨e,1,none⟩=some (pV cu))/\(∀ V,p V->(Instr.loadAt 78 (pV q)).run Tryz.prog V = .ok (tkV tk none 0) V)/\(∀ θ:CW p,θ.w.cell? ⟨q,14,none⟩=some (.int .i64 tk.blk))/\(∀ θ:CW p,θ.w.cell? ⟨W.heap.size,3,none⟩=some (.int .i64 c.cnt)) :=
   ⟨fun V=>V.heap[e]?=W3.heap[e]?/\V.heap[q]?=W3.heap[q]?/\V.heap[W.heap.size]?=W3.heap[W.heap.size]?,fun _=>Iff.rfl,⟨⟨W3,rfl,rfl,rfl⟩⟩,fun θ=>cell_at (θ.h.1.trans E3.out.eo) 1,fun V hV=>(tk_of (hV.2.1.trans hq3)).load,fun θ=>cell_at (θ.h.2.1.trans hq3) 14,fun θ=>cell_at (θ.h.2.2.trans ((hb3.out.block _ (by have:=s1.out;omega)).trans c1.out)) 3⟩
   have nE:Hid ((e≠cu/\e≠g/\e<W3.heap.size)/\(q≠cu/\q≠g/\q<W3.heap.size)/\(W.heap.size≠cu/\W.heap.size≠g/\W.heap.size<W3.heap.size)):=⟨by
    have h1:=E1.out.ne
    have h2:=hcg.out
    have h3:=(Array.getElem?_eq_some_iff.1 hq3).1
    have h4:=hb3.out.size
    have h5:=s1.out
    have h6:=hq1.out
    have h7:=(Array.getElem?_eq_some_iff.1 E3.out.eo).1
    omega⟩
   have cD:Hid (∀ V,Below W3.heap.size W3 V->Calls Tryz.prog 37 #[pV cu,tkV tk none 0,.int .i64 tk.blk,.int .i64 c.cnt] V fun r w'=>∃ x,r = .returned x/\(x = .int .i64 PE/\C.Cs w' cu 0 g len cap st (C.pwN (C.dimG tk) len en tk.siz (C.dimN tk tk.blk c.cnt)) hi (C.pwF (C.dimG tk) hi len st en fb tk.siz (C.dimN tk tk.blk c.cnt))/\C.Cb cu 0 g V w')):=⟨fun V hb=>by
    have EV:=E3.out.below hb
    have hk:=EV.kp
    have hn:=EV.ne
    rw[hPE.out]
    exact(C.PutDim_any EV.cs EV.kt (by omega) (by omega) tk none 0 tk.blk c.cnt).mono fun r w' h=>⟨_,h.1,rfl,h.2⟩⟩
   have F9:Hid (∀ V w',Below W3.heap.size W3 V->∀ {en':Nat} {fb':Nat->Int},C.Cs w' cu 0 g len cap st en' hi fb'->C.Cb cu 0 g V w'->En f n S0 S1 pa pm e ma cu s U g len cap st en' hi fb' wt bl w'/\Frm (Wr e cu g U) W w'):=⟨fun V w' hb en' fb' hc hb2=>⟨(E3.out.below hb).cur hb2 hc,(Frm.of_below (F3.out.trans (hb.mono F3.out.size))).trans (frm_cb hb2 (.inr (.inl rfl)) (.inr (.inr (.inl rfl))))⟩⟩
   clear c1 hq1 hq3 F3 hbig
   go_upto_region 5 with fail
   have p2:p W3.drew:=(pb _).2 ⟨rfl,rfl,rfl⟩
   have d2:Hid (Below W3.heap.size W3 W3.drew):=⟨(Below.refl _ _).drew⟩
   replace pb:=Hid.mk pb
   refine wp_region_ly (fun V=>∃ θ:CW p,V=θ.w) (by kernel_rfl) (by kernel_rfl) (fun _ _ d _ _ h=>by cases d<;>exact h) ⟨⟨_,p2⟩,rfl⟩ ?_
   generalize W3.drew=V at p2 d2 ⊢
   repeat (first|(guard_target =~ Ly _ _ _ _ (Oper.mk _ (Op.call _) _ _ _ _::_) _ _;fail)|(guard_target =~ Ly _ _ _ _ (Oper.mk _ (Op.load 78 _) _ _ _ _::_) _ _;fail)|(refine ly_one rfl ?_;(first|go_big_quiet_skip|(go_big_quiet_want;go_big_quiet_op;go_big_quiet_on));refine wpQuiet_nil ?_))
   refine ly_ld (fun X hX=>by obtain⟨θ,rfl⟩:=hX;exact lq _ θ.h) rfl (by rfl) ?_
   simp only[pts]
   repeat (first|(guard_target =~ Ly _ _ _ _ (Oper.mk _ (Op.call _) _ _ _ _::_) _ _;fail)|(guard_target =~ Ly _ _ _ _ (Oper.mk _ (Op.load 78 _) _ _ _ _::_) _ _;fail)|(refine ly_one rfl ?_;(first|go_big_quiet_skip|(go_big_quiet_want;go_big_quiet_op;go_big_quiet_on));refine wpQuiet_nil ?_))
   refine ly_call4 ent_pd (cD.out V d2.out) rfl rfl rfl rfl (by rfl) ?_
   rintro _ V5 ⟨rfl,k1,k2⟩
   have F5:=F9.out V V5 d2.out k1 k2
   have hsV:=d2.out.size
   have q5:p V5:=(pb.out _).2 ⟨(k2.block _ (by have:=nE.out.1.2.2;omega) nE.out.1.1 nE.out.1.2.1).trans ((pb.out _).1 p2).1,(k2.block _ (by have:=nE.out.2.1.2.2;omega) nE.out.2.1.1 nE.out.2.1.2.1).trans ((pb.out _).1 p2).2.1,(k2.block _ (by have:=nE.out.2.2.2.2;omega) nE.out.2.2.1 nE.out.2.2.2.1).trans ((pb.out _).1 p2).2.2⟩
   refine⟨_,fun _ h=>h,⟨⟨_,q5⟩,rfl⟩,?_⟩
   simp only[pts]
   replace F5:=Hid.mk F5
   clear k1 k2 hsV q5 p2
   repeat (first|(guard_target =~ Ly _ _ _ _ (Oper.mk _ (Op.call _) _ _ _ _::_) _ _;fail)|(guard_target =~ Ly _ _ _ _ (Oper.mk _ (Op.load 78 _) _ _ _ _::_) _ _;fail)|(refine ly_one rfl ?_;(first|go_big_quiet_skip|(go_big_quiet_want;go_big_quiet_op;go_big_quiet_on));refine wpQuiet_nil ?_))
   refine ly_done ?_
   clear F9 cD d2 pb pN x1 lq y14 x3 nE
   by_cases hE0:PE=0
   ·have hz:Hid (grpZ hi len st en fb wt tk c.cnt=(0,C.pwN (C.dimG tk) len en tk.siz (C.dimN tk tk.blk c.cnt),C.pwF (C.dimG tk) hi len st en fb tk.siz (C.dimN tk tk.blk c.cnt),Wt)):=⟨by unfold grpZ;rw[hgw.out,if_neg (of_decide_eq_false hbg),if_pos (hPE.out▸hE0)]⟩
    have b0:(PE != 0)=false:=by simp[hE0]
    have c23:V5.cell? ⟨e,23,none⟩=some (.int .i64 wt):=cell_at F5.out.1.eo 23
    have f23:V5.frozen? ⟨e,23,none⟩=false:=efrz F5.out.1.eo
    clear hE0 hPE
    go_wp2_with fail
    go_ret
    rw[hz.out]
    exact⟨rfl,F5.out.1.setW Wt,F5.out.2.trans ⟨rfl,rfl,rfl,by simp,fun k _ hk=>eset_off (fun e'=>hk (.inl e'))⟩⟩
   ·have hz:Hid (grpZ hi len st en fb wt tk c.cnt=(PE,en,fb,wt)):=⟨by unfold grpZ;rw[hgw.out,if_neg (of_decide_eq_false hbg),<- hPE.out,if_neg hE0]⟩
    have b0:(PE != 0)=true:=by simp[hE0]
    have hN:=fun hi=>pw_no (hi:=hi) (st:=st) (f:=fb) (hPE.out▸hE0)
    have hF:Hid (En f n S0 S1 pa pm e ma cu s U g len cap st en hi fb wt bl V5/\Frm (Wr e cu g U) W V5):=⟨by
     have:=F5.out
     rw[(hN hi).1,(hN hi).2] at this
     exact this⟩
    clear hE0 hPE F5 hN
    go_wp2_with fail
    go_ret
    rw[hz.out]
    exact⟨rfl,hF.out⟩
end Go.Proofs.YtjlbcdnkglaheaaGreatDoor
