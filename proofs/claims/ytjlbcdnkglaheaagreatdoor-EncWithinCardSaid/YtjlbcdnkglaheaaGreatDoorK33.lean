import Derived.Test.YtjlbcdnkglaheaaGreatDoorK32
namespace Go.Proofs.YtjlbcdnkglaheaaGreatDoor
set_option maxRecDepth 1000000
set_option maxHeartbeats 16000000
open Go.ChangeShapes Go.WideShapes Go.ChangeAt Go.RowKit Go.Shelf Go.Maps
def datW (wt:Int) (tk:Tk) (s:ByteArray):Int:=wrap64 (wrap64 (wt+tk.siz)+(s.size:Int))
def datZ (hi:Bool) (len st en:Nat) (fb:Nat->Int) (wt:Int) (tk:Tk) (s:ByteArray):Int×Nat×(Nat->Int)×Int :=
 if mx tk.a.p<(s.size:Int) then (164,en,fb,wt)
 else if 1048576<datW wt tk s then (165,en,fb,wt)
 else if C.pdE len en tk s.size=0 then (0,C.pdN len en tk s.size,C.pdF hi len st en fb tk s,datW wt tk s)
 else (C.pdE len en tk s.size,en,fb,wt)
theorem ent_mx:∀ ag w,(callFunc 38 ag).run Tryz.prog w = .ok (.enter 38 ag) w:=enters_of Tryz.func38 (by kernel_rfl) rfl
theorem ent_pda:∀ ag w,(callFunc 39 ag).run Tryz.prog w = .ok (.enter 39 ag) w:=enters_of Tryz.func39 (by kernel_rfl) rfl
section
variable {P:Program} {ops:Array Oper} {Q:Exit->Act->World->Prop} {C:World->Prop} {d:Option Tmp} {ty:TypeId} {ps:String} {af:Array Edge} {gd:Option (Nat×Bool)} {r:List Oper} {a:Act} {w:World}
theorem ely_call3 {f:FuncId} {x1 x2 x3:Operand} {y1 y2 y3:Value} {tx:Array TypeId} {R:Value->World->Prop} (hen:∀ ag w,(callFunc f ag).run P w = .ok (.enter f ag) w) (hc:Calls P f #[y1,y2,y3] w fun e w'=>∃ v,e = .returned v/\R v w') (h1:a.eval x1=y1) (h2:a.eval x2=y2) (h3:a.eval x3=y3) (hw:Region.wanted ⟨d,.call { callee:=.value (.func f),args:=#[x1,x2,x3],argTypes:=tx },ty,ps,af,gd⟩ (yielded ops a.tmps)=true)
  (h:∀ v w',R v w'->∃ C':World->Prop,(∀ W,C' W->C W)/\C' w'/\Ly P ops Q C' r (a.put d v) w'):Ly P ops Q C (⟨d,.call { callee:=.value (.func f),args:=#[x1,x2,x3],argTypes:=tx },ty,ps,af,gd⟩::r) a w :=
 ly_act hw rfl fun K hK=>by
  have hf:a.eval (.func f) = .func (.func f) #[] #[]:=rfl
  unfold Oper.wp execOp
  simp only[resolve,invoke,Sem.run_bind,hf]
  simp[Deferred.ofValue,hen,Oper.upon_enter,h1,h2,h3]
  refine hc.mono ?_
  rintro e w' ⟨v,rfl,hp⟩
  obtain⟨C',e1,e2,e3⟩:=h v w' hp
  exact hK _ _ C' e1 e2 e3
end
theorem pd_no {hi:Bool} {len st en:Nat} {f:Nat->Int} {t:Tk} {s:ByteArray} (h:C.pdE len en t s.size≠0):C.pdN len en t s.size=en/\C.pdF hi len st en f t s=f:=by
 unfold C.pdN C.pdF
 rw[if_neg h,if_neg h]
 exact⟨rfl,rfl⟩
theorem edata_any {f:Fm} {n:Pn} {S0 S1 pa pm e ma cu:Nat} {s:Ms} {U:Nat->Prop} {g len cap st en:Nat} {hi:Bool} {fb:Nat->Int} {wt bl:Int} {W:World} {t:Tk} {gb m b k:Nat} {u:Tk} {v:Value} (hE:En f n S0 S1 pa pm e ma cu s U g len cap st en hi fb wt bl W) (c:Cl) (hts:c.tx.size<=281474976710656) (L:∀ V,W.heap.size<=V.heap.size->(∀ x,S0<=x->x<S1->V.heap[x]?=W.heap[x]?)->Lk f S0 S1 pm (insZ s) t c.nm gb m b k u v V) :
  Calls Tryz.prog 19 #[pV e,caV c] W fun r w'=>r = .returned (.int .i64 (datZ hi len st en fb wt (ptT u) c.tx).1)/\En f n S0 S1 pa pm e ma cu s U g len cap st (datZ hi len st en fb wt (ptT u) c.tx).2.1 hi (datZ hi len st en fb wt (ptT u) c.tx).2.2.1 (datZ hi len st en fb wt (ptT u) c.tx).2.2.2 bl w'/\Frm (Wr e cu g U) W w':=by
 obtain⟨W1,hW1⟩:∃ W1,W1=W.alloc (caO c):=⟨_,rfl⟩
 have b1:Below W.heap.size W W1:=by rw[hW1];exact nbel _ _
 have s1:W1.heap.size=W.heap.size+1:=by rw[hW1];exact World.size_alloc _ _
 have E1:=hE.below b1
 have c1:W1.heap[W.heap.size]?=some (caO c):=by rw[hW1];exact thnK _ _
 have hS:=hE.size
 have hcg:Hid (cu<W.heap.size/\g<W.heap.size):=⟨hE.cs.lt,hE.cs.row.lt⟩
 have L1:Hid (∀ V,Below W1.heap.size W1 V->Lk f S0 S1 pm (insZ s) t c.nm gb m b k u v V):=⟨fun V hb=>L V (Nat.le_trans b1.size hb.size) fun x _ hx=>(hb.block x (by omega)).trans (b1.block x (by omega))⟩
 obtain⟨tk,htk⟩:∃ tk,tk=ptT u:=⟨_,rfl⟩
 rw[<- htk]
 have cH:Hid (∀ V,Below W1.heap.size W1 V->Calls Tryz.prog 33 #[pV e] V fun r w'=>∃ x,r = .returned x/\(x=pV gb/\Below V.heap.size V w')):=⟨fun V hb=>by
  have EV:=E1.below hb
  obtain⟨lo,hi',h1,h2,h3⟩:=EV.mc
  refine(here_eq EV.eo h1 fun V2 hb2=>(L1.out V2 (hb.trans (hb2.mono hb.size))).l1).mono fun r w' h=>⟨_,h.1,rfl,h.2⟩⟩
 obtain⟨p,pb,pN,x1,x2,lL,lT⟩:∃ p:World->Prop,(∀ V,p V↔Below W1.heap.size W1 V)/\Nonempty (CW p)/\(∀ θ:CW p,θ.w.cell? ⟨W.heap.size,1,none⟩=some (.string c.nm))/\(∀ θ:CW p,θ.w.cell? ⟨gb,2,none⟩=some (.map (some m)))/\(∀ V,p V->(Instr.lookup 68 (.map (some m)) (.string c.nm) false).run Tryz.prog V = .ok (pV b) V)/\(∀ V,p V->(Instr.loadAt 78 (pV b)).run Tryz.prog V = .ok (tkV tk none 0) V) :=
  ⟨fun V=>Below W1.heap.size W1 V,fun _=>Iff.rfl,⟨⟨W1,Below.refl _ _⟩⟩,fun θ=>cell_at ((θ.h.block _ (by omega)).trans c1) 1,fun θ=>cell_at (L1.out _ θ.h).gb 2,fun V hV=>(L1.out V hV).l2,fun V hV=>by rw[htk];exact(tkC_ptT _ _ _ (L1.out V hV).pb).load⟩
 replace pb:=Hid.mk pb
 replace E1:=Hid.mk E1
 replace c1:=Hid.mk c1
 have B1:Hid _:=⟨b1⟩
 replace s1:=Hid.mk s1
 replace hS:=Hid.mk hS
 have hd:Hid (Below W1.heap.size W1 W1.drew):=⟨(Below.refl _ _).drew⟩
 clear hE L b1 htk L1
 go_enter Tryz.func19,Tryz.ntmps19
 go_upto_region 1 with fail
 rw[<- hW1]
 clear hW1
 refine wp_region_lvk 12 (fun V=>∃ θ:CW p,V=θ.w) [0,5,6] 1 [2,3,4,7,8,9,10,11,12] 11 [1,2,3,4,7,8,9,10,12] (by kernel_rfl) (by kernel_rfl) (fun _ _ d _ _ h=>by cases d<;>exact h) ⟨⟨_,(pb.out _).2 hd.out⟩,rfl⟩ ?_
 simp only[List.filterMap_cons,List.filterMap_nil,List.getElem?_cons_zero,List.getElem?_cons_succ]
 generalize W1.drew=V at hd ⊢
 repeat (refine lvk_one ?_;(first|go_big_quiet_skip|(go_big_quiet_want;go_big_quiet_op;go_big_quiet_on));refine wpQuiet_nil ?_)
 refine lvk_both ?_ ?_
 ·refine lwk_call1 ent_here (cH.out V hd.out) rfl (by rfl) ?_
  rintro _ V2 ⟨rfl,b2⟩
  have hd2:=hd.out.trans (b2.mono hd.out.size)
  refine⟨⟨⟨_,(pb.out _).2 hd2⟩,rfl⟩,?_⟩
  simp only[pts]
  replace b2:=Hid.mk b2
  replace hd2:=Hid.mk hd2
  repeat (first|(guard_target =~ Lwk _ _ _ _ (Oper.mk _ (Op.call _) _ _ _ _::_) _ _;fail)|(guard_target =~ Lwk _ _ _ _ (Oper.mk _ (Op.lookup _ _ _ _) _ _ _ _::_) _ _;fail)|(guard_target =~ Lwk _ _ _ _ (Oper.mk _ (Op.alloc _) _ _ _ _::_) _ _;fail)|(guard_target =~ Lwk _ _ _ _ (Oper.mk _ (Op.load 78 _) _ _ _ _::_) _ _;fail)|(guard_target =~ Lwk _ _ _ _ (Oper.mk _ (Op.store _ _ _) _ _ _ _::_) _ _;fail)|(refine lwk_one rfl ?_;(first|go_big_quiet_skip|(go_big_quiet_want;go_big_quiet_op;go_big_quiet_on));refine wpQuiet_nil ?_))
  refine lwk_lk (fun X hX=>by obtain⟨θ,rfl⟩:=hX;exact lL _ θ.h) rfl rfl (by rfl) ?_
  simp only[pts]
  repeat (first|(guard_target =~ Lwk _ _ _ _ (Oper.mk _ (Op.call _) _ _ _ _::_) _ _;fail)|(guard_target =~ Lwk _ _ _ _ (Oper.mk _ (Op.lookup _ _ _ _) _ _ _ _::_) _ _;fail)|(guard_target =~ Lwk _ _ _ _ (Oper.mk _ (Op.alloc _) _ _ _ _::_) _ _;fail)|(guard_target =~ Lwk _ _ _ _ (Oper.mk _ (Op.load 78 _) _ _ _ _::_) _ _;fail)|(guard_target =~ Lwk _ _ _ _ (Oper.mk _ (Op.store _ _ _) _ _ _ _::_) _ _;fail)|(refine lwk_one rfl ?_;(first|go_big_quiet_skip|(go_big_quiet_want;go_big_quiet_op;go_big_quiet_on));refine wpQuiet_nil ?_))
  refine lwk_ld (fun X hX=>by obtain⟨θ,rfl⟩:=hX;exact lT _ θ.h) rfl (by rfl) ?_
  simp only[pts]
  refine lwk_al (al_tkE V2) ⟨⟨_,(pb.out _).2 (hd2.out.trans ((nbel V2 _).mono hd2.out.size))⟩,rfl⟩ (by rfl) ?_
  simp only[pts]
  refine lwk_st (st_new V2 _ rfl tk none 0) rfl rfl (by rfl) ?_
  simp only[pts]
  have hq:(V2.alloc (tkO tk none 0)).heap[V2.heap.size]?=some (tkO tk none 0):=thnK _ _
  have hq1:Hid (W1.heap.size<=V2.heap.size):=⟨hd2.out.size⟩
  have hb2:Hid (Below W1.heap.size W1 (V2.alloc (tkO tk none 0))):=⟨hd2.out.trans ((nbel V2 _).mono hd2.out.size)⟩
  clear b2 hd2 hd cH pb x1 x2 lL lT pN
  generalize V2.alloc (tkO tk none 0)=W2 at *
  generalize V2.heap.size=q at *
  go_upto_region 2 with fail
  have kt2:=(E1.out.below hb2.out).kt
  obtain⟨p,pb,pN,y16,x4⟩:∃ p:World->Prop,(∀ V,p V↔Below W2.heap.size W2 V)/\Nonempty (CW p)/\(∀ θ:CW p,θ.w.cell? ⟨q,16,none⟩=some (.int .i64 tk.a.p))/\(∀ θ:CW p,θ.w.cell? ⟨W.heap.size,4,none⟩=some (.string c.tx)) :=
   ⟨fun V=>Below W2.heap.size W2 V,fun _=>Iff.rfl,⟨⟨W2,Below.refl _ _⟩⟩,fun θ=>cell_at ((θ.h.block _ (Array.getElem?_eq_some_iff.1 hq).1).trans hq) 16,fun θ=>cell_at ((θ.h.block _ (by have:=s1.out;have:=hb2.out.size;omega)).trans ((hb2.out.block _ (by have:=s1.out;omega)).trans c1.out)) 4⟩
  have p2:p W2.drew:=(pb _).2 (Below.refl _ _).drew
  have d2:Hid (Below W2.heap.size W2 W2.drew):=⟨(Below.refl _ _).drew⟩
  have cM:=fun V (hb:Below W2.heap.size W2 V)=>max_any tk.a.p V (kt2.below kt2.pos hb)
  replace pb:=Hid.mk pb
  refine wp_region_ly (fun V=>∃ θ:CW p,V=θ.w) (by kernel_rfl) (by kernel_rfl) (fun _ _ d _ _ h=>by cases d<;>exact h) ⟨⟨_,p2⟩,rfl⟩ ?_
  generalize W2.drew=V at p2 d2 ⊢
  have E2:Hid _:=⟨E1.out.below hb2.out⟩
  have F2:Hid (Below W.heap.size W W2):=⟨B1.out.trans (hb2.out.mono B1.out.size)⟩
  by_cases hmx:mx tk.a.p<(c.tx.size:Int)
  ·have hm1:decide (mx tk.a.p<(c.tx.size:Int))=true:=decide_eq_true hmx
   have hz:Hid (datZ hi len st en fb wt tk c.tx=(164,en,fb,wt)):=⟨by unfold datZ;rw[if_pos hmx]⟩
   clear hmx
   repeat (first|(guard_target =~ Ly _ _ _ _ (Oper.mk _ (Op.call { callee:=.value _,args:=_,argTypes:=_ }) _ _ _ _::_) _ _;fail)|(guard_target =~ Ly _ _ _ _ (Oper.mk _ (Op.load 78 _) _ _ _ _::_) _ _;fail)|(refine ly_one rfl ?_;(first|go_big_quiet_skip|(go_big_quiet_want;go_big_quiet_op;go_big_quiet_on));refine wpQuiet_nil ?_))
   refine ly_call1 (R:=fun v w'=>v = .int .u64 (mx tk.a.p)/\Below V.heap.size V w') ent_mx ((cM V d2.out).mono fun e w' h=>⟨_,h.1,rfl,h.2⟩) rfl (by rfl) ?_
   rintro _ V3 ⟨rfl,b3⟩
   have d3:Hid (Below W2.heap.size W2 V3):=⟨d2.out.trans (b3.mono d2.out.size)⟩
   refine⟨_,fun _ h=>h,⟨⟨_,(pb.out _).2 d3.out⟩,rfl⟩,?_⟩
   simp only[pts]
   clear b3
   repeat (first|(guard_target =~ Ly _ _ _ _ (Oper.mk _ (Op.call { callee:=.value _,args:=_,argTypes:=_ }) _ _ _ _::_) _ _;fail)|(guard_target =~ Ly _ _ _ _ (Oper.mk _ (Op.load 78 _) _ _ _ _::_) _ _;fail)|(refine ly_one rfl ?_;(first|go_big_quiet_skip|(go_big_quiet_want;go_big_quiet_op;go_big_quiet_on));refine wpQuiet_nil ?_))
   refine ly_done ?_
   have E4:Hid _:=⟨E2.out.below d3.out⟩
   clear cM pb y16 x4 pN p2 kt2 d2
   go_wp2_with fail
   go_ret
   rw[hz.out]
   exact⟨rfl,E4.out,Frm.of_below (F2.out.trans (d3.out.mono F2.out.size))⟩
  ·have hm1:decide (mx tk.a.p<(c.tx.size:Int))=false:=decide_eq_false hmx
   have hmx':Hid (¬ mx tk.a.p<(c.tx.size:Int)):=⟨hmx⟩
   clear hmx
   repeat (first|(guard_target =~ Ly _ _ _ _ (Oper.mk _ (Op.call { callee:=.value _,args:=_,argTypes:=_ }) _ _ _ _::_) _ _;fail)|(guard_target =~ Ly _ _ _ _ (Oper.mk _ (Op.load 78 _) _ _ _ _::_) _ _;fail)|(refine ly_one rfl ?_;(first|go_big_quiet_skip|(go_big_quiet_want;go_big_quiet_op;go_big_quiet_on));refine wpQuiet_nil ?_))
   refine ly_call1 (R:=fun v w'=>v = .int .u64 (mx tk.a.p)/\Below V.heap.size V w') ent_mx ((cM V d2.out).mono fun e w' h=>⟨_,h.1,rfl,h.2⟩) rfl (by rfl) ?_
   rintro _ V3 ⟨rfl,b3⟩
   have d3:Hid (Below W2.heap.size W2 V3):=⟨d2.out.trans (b3.mono d2.out.size)⟩
   refine⟨_,fun _ h=>h,⟨⟨_,(pb.out _).2 d3.out⟩,rfl⟩,?_⟩
   simp only[pts]
   clear b3
   repeat (first|(guard_target =~ Ly _ _ _ _ (Oper.mk _ (Op.call { callee:=.value _,args:=_,argTypes:=_ }) _ _ _ _::_) _ _;fail)|(guard_target =~ Ly _ _ _ _ (Oper.mk _ (Op.load 78 _) _ _ _ _::_) _ _;fail)|(refine ly_one rfl ?_;(first|go_big_quiet_skip|(go_big_quiet_want;go_big_quiet_op;go_big_quiet_on));refine wpQuiet_nil ?_))
   refine ly_done ?_
   have hb3:Hid (Below W1.heap.size W1 V3):=⟨hb2.out.trans (d3.out.mono hb2.out.size)⟩
   have hq3:V3.heap[q]?=some (tkO tk none 0):=(d3.out.block _ (Array.getElem?_eq_some_iff.1 hq).1).trans hq
   clear cM pb y16 x4 pN p2 kt2 d2 d3 E2 F2 hq hb2 hm1
   go_upto_region 4 with fail
   have hb2:=hb3
   have hq:=hq3
   clear hb3 hq3
   generalize V3=W2 at *
   obtain⟨p,pb,pN,x23,y4,x4⟩:∃ p:World->Prop,(∀ V,p V↔Below W2.heap.size W2 V)/\Nonempty (CW p)/\(∀ θ:CW p,θ.w.cell? ⟨e,23,none⟩=some (.int .i64 wt))/\(∀ θ:CW p,θ.w.cell? ⟨q,4,none⟩=some (.int .i64 tk.siz))/\(∀ θ:CW p,θ.w.cell? ⟨W.heap.size,4,none⟩=some (.string c.tx)) :=
    ⟨fun V=>Below W2.heap.size W2 V,fun _=>Iff.rfl,⟨⟨W2,Below.refl _ _⟩⟩,fun θ=>cell_at ((E1.out.below (hb2.out.trans (θ.h.mono hb2.out.size))).eo) 23,fun θ=>cell_at ((θ.h.block _ (Array.getElem?_eq_some_iff.1 hq).1).trans hq) 4,fun θ=>cell_at ((θ.h.block _ (by have:=s1.out;have:=hb2.out.size;omega)).trans ((hb2.out.block _ (by have:=s1.out;omega)).trans c1.out)) 4⟩
   have p2:p W2.drew:=(pb _).2 (Below.refl _ _).drew
   refine wp_region_ly (fun V=>∃ θ:CW p,V=θ.w) (by kernel_rfl) (by kernel_rfl) (fun _ _ d _ _ h=>by cases d<;>exact h) ⟨⟨_,p2⟩,rfl⟩ ?_
   have d2:Hid (Below W2.heap.size W2 W2.drew):=⟨(Below.refl _ _).drew⟩
   generalize W2.drew=W3 at p2 d2 ⊢
   repeat (first|(guard_target =~ Ly _ _ _ _ (Oper.mk _ (Op.call { callee:=.value _,args:=_,argTypes:=_ }) _ _ _ _::_) _ _;fail)|(guard_target =~ Ly _ _ _ _ (Oper.mk _ (Op.load 78 _) _ _ _ _::_) _ _;fail)|(refine ly_one rfl ?_;(first|go_big_quiet_skip|(go_big_quiet_want;go_big_quiet_op;go_big_quiet_on));refine wpQuiet_nil ?_))
   refine ly_done ?_
   have hb3:Hid (Below W1.heap.size W1 W3):=⟨hb2.out.trans (d2.out.mono hb2.out.size)⟩
   have hq3:W3.heap[q]?=some (tkO tk none 0):=(d2.out.block _ (Array.getElem?_eq_some_iff.1 hq).1).trans hq
   clear pb pN x23 y4 x4 p2 d2 hb2 hq
   have hgw:Hid (datW wt tk c.tx=wrap64 (wrap64 (wt+tk.siz)+(c.tx.size:Int))):=⟨rfl⟩
   generalize wrap64 (wrap64 (wt+tk.siz)+(c.tx.size:Int))=Wt at hgw ⊢
   have E3:Hid _:=⟨E1.out.below hb3.out⟩
   have F3:Hid (Below W.heap.size W W3):=⟨B1.out.trans (hb3.out.mono B1.out.size)⟩
   by_cases hbig:1048576<Wt
   ·have hz:Hid (datZ hi len st en fb wt tk c.tx=(165,en,fb,wt)):=⟨by unfold datZ;rw[if_neg hmx'.out,hgw.out,if_pos hbig]⟩
    clear hgw c1 hq1 hq3
    go_wp2_with fail
    go_ret
    rw[hz.out]
    exact⟨rfl,E3.out,Frm.of_below F3.out⟩
   ·have hbg:decide (1048576<Wt)=false:=decide_eq_false hbig
    obtain⟨PE,hPE⟩:∃ PE,Hid (PE=C.pdE len en tk c.tx.size):=⟨_,⟨rfl⟩⟩
    obtain⟨p,pb,pN,x1,lq,x3⟩:∃ p:World->Prop,(∀ V,p V↔(V.heap[e]?=W3.heap[e]?/\V.heap[q]?=W3.heap[q]?/\V.heap[W.heap.size]?=W3.heap[W.heap.size]?))/\Nonempty (CW p)/\(∀ θ:CW p,θ.w.cell? ⟨e,1,none⟩=some (pV cu))/\(∀ V,p V->(Instr.loadAt 78 (pV q)).run Tryz.prog V = .ok (tkV tk none 0) V)/\(∀ θ:CW p,θ.w.cell? ⟨W.heap.size,4,none⟩=some (.string c.tx)) :=
    ⟨fun V=>V.heap[e]?=W3.heap[e]?/\V.heap[q]?=W3.heap[q]?/\V.heap[W.heap.size]?=W3.heap[W.heap.size]?,fun _=>Iff.rfl,⟨⟨W3,rfl,rfl,rfl⟩⟩,fun θ=>cell_at (θ.h.1.trans E3.out.eo) 1,fun V hV=>(tk_of (hV.2.1.trans hq3)).load,fun θ=>cell_at (θ.h.2.2.trans ((hb3.out.block _ (by have:=s1.out;omega)).trans c1.out)) 4⟩
    have nE:Hid ((e≠cu/\e≠g/\e<W3.heap.size)/\(q≠cu/\q≠g/\q<W3.heap.size)/\(W.heap.size≠cu/\W.heap.size≠g/\W.heap.size<W3.heap.size)):=⟨by
     have h1:=E1.out.ne
     have h2:=hcg.out
     have h3:=(Array.getElem?_eq_some_iff.1 hq3).1
     have h4:=hb3.out.size
     have h5:=s1.out
     have h6:=hq1.out
     have h7:=(Array.getElem?_eq_some_iff.1 E3.out.eo).1
     omega⟩
    have cD:Hid (∀ V,Below W3.heap.size W3 V->Calls Tryz.prog 39 #[pV cu,tkV tk none 0,.string c.tx] V fun r w'=>∃ x,r = .returned x/\(x = .int .i64 PE/\C.Cs w' cu 0 g len cap st (C.pdN len en tk c.tx.size) hi (C.pdF hi len st en fb tk c.tx)/\C.Cb cu 0 g V w')):=⟨fun V hb=>by
     have EV:=E3.out.below hb
     have hk:=EV.kp
     have hn:=EV.ne
     rw[hPE.out]
     exact(C.PutData_any EV.cs EV.kt (by omega) (by omega) tk none 0 c.tx hts).mono fun r w' h=>⟨_,h.1,rfl,h.2⟩⟩
    have F9:Hid (∀ V w',Below W3.heap.size W3 V->∀ {en':Nat} {fb':Nat->Int},C.Cs w' cu 0 g len cap st en' hi fb'->C.Cb cu 0 g V w'->En f n S0 S1 pa pm e ma cu s U g len cap st en' hi fb' wt bl w'/\Frm (Wr e cu g U) W w'):=⟨fun V w' hb en' fb' hc hb2=>⟨(E3.out.below hb).cur hb2 hc,(Frm.of_below (F3.out.trans (hb.mono F3.out.size))).trans (frm_cb hb2 (.inr (.inl rfl)) (.inr (.inr (.inl rfl))))⟩⟩
    clear c1 hq1 hq3 F3 hbig
    go_upto_region 7 with fail
    have p2:p W3.drew:=(pb _).2 ⟨rfl,rfl,rfl⟩
    have d2:Hid (Below W3.heap.size W3 W3.drew):=⟨(Below.refl _ _).drew⟩
    replace pb:=Hid.mk pb
    refine wp_region_ly (fun V=>∃ θ:CW p,V=θ.w) (by kernel_rfl) (by kernel_rfl) (fun _ _ d _ _ h=>by cases d<;>exact h) ⟨⟨_,p2⟩,rfl⟩ ?_
    generalize W3.drew=V at p2 d2 ⊢
    repeat (first|(guard_target =~ Ly _ _ _ _ (Oper.mk _ (Op.call _) _ _ _ _::_) _ _;fail)|(guard_target =~ Ly _ _ _ _ (Oper.mk _ (Op.load 78 _) _ _ _ _::_) _ _;fail)|(refine ly_one rfl ?_;(first|go_big_quiet_skip|(go_big_quiet_want;go_big_quiet_op;go_big_quiet_on));refine wpQuiet_nil ?_))
    refine ly_ld (fun X hX=>by obtain⟨θ,rfl⟩:=hX;exact lq _ θ.h) rfl (by rfl) ?_
    simp only[pts]
    repeat (first|(guard_target =~ Ly _ _ _ _ (Oper.mk _ (Op.call _) _ _ _ _::_) _ _;fail)|(guard_target =~ Ly _ _ _ _ (Oper.mk _ (Op.load 78 _) _ _ _ _::_) _ _;fail)|(refine ly_one rfl ?_;(first|go_big_quiet_skip|(go_big_quiet_want;go_big_quiet_op;go_big_quiet_on));refine wpQuiet_nil ?_))
    refine ely_call3 ent_pda (cD.out V d2.out) rfl rfl rfl (by rfl) ?_
    rintro _ V5 ⟨rfl,k1,k2⟩
    have F5:=F9.out V V5 d2.out k1 k2
    have hsV:=d2.out.size
    have q5:p V5:=(pb.out _).2 ⟨(k2.block _ (by have:=nE.out.1.2.2;omega) nE.out.1.1 nE.out.1.2.1).trans ((pb.out _).1 p2).1,(k2.block _ (by have:=nE.out.2.1.2.2;omega) nE.out.2.1.1 nE.out.2.1.2.1).trans ((pb.out _).1 p2).2.1,(k2.block _ (by have:=nE.out.2.2.2.2;omega) nE.out.2.2.1 nE.out.2.2.2.1).trans ((pb.out _).1 p2).2.2⟩
    refine⟨_,fun _ h=>h,⟨⟨_,q5⟩,rfl⟩,?_⟩
    simp only[pts]
    replace F5:=Hid.mk F5
    clear k1 k2 hsV q5 p2
    repeat (first|(guard_target =~ Ly _ _ _ _ (Oper.mk _ (Op.call _) _ _ _ _::_) _ _;fail)|(guard_target =~ Ly _ _ _ _ (Oper.mk _ (Op.load 78 _) _ _ _ _::_) _ _;fail)|(refine ly_one rfl ?_;(first|go_big_quiet_skip|(go_big_quiet_want;go_big_quiet_op;go_big_quiet_on));refine wpQuiet_nil ?_))
    refine ly_done ?_
    clear F9 cD d2 pb pN x1 lq x3 nE
    by_cases hE0:PE=0
    ·have hz:Hid (datZ hi len st en fb wt tk c.tx=(0,C.pdN len en tk c.tx.size,C.pdF hi len st en fb tk c.tx,Wt)):=⟨by unfold datZ;rw[if_neg hmx'.out,hgw.out,if_neg (of_decide_eq_false hbg),if_pos (hPE.out▸hE0)]⟩
     have b0:(PE != 0)=false:=by simp[hE0]
     have c23:V5.cell? ⟨e,23,none⟩=some (.int .i64 wt):=cell_at F5.out.1.eo 23
     have f23:V5.frozen? ⟨e,23,none⟩=false:=efrz F5.out.1.eo
     clear hE0 hPE
     go_wp2_with fail
     go_ret
     rw[hz.out]
     exact⟨rfl,F5.out.1.setW Wt,F5.out.2.trans ⟨rfl,rfl,rfl,by simp,fun k _ hk=>eset_off (fun e'=>hk (.inl e'))⟩⟩
    ·have hz:Hid (datZ hi len st en fb wt tk c.tx=(PE,en,fb,wt)):=⟨by unfold datZ;rw[if_neg hmx'.out,hgw.out,if_neg (of_decide_eq_false hbg),<- hPE.out,if_neg hE0]⟩
     have b0:(PE != 0)=true:=by simp[hE0]
     have hN:=fun hi=>pd_no (hi:=hi) (st:=st) (f:=fb) (s:=c.tx) (hPE.out▸hE0)
     have hF:Hid (En f n S0 S1 pa pm e ma cu s U g len cap st en hi fb wt bl V5/\Frm (Wr e cu g U) W V5):=⟨by
      have:=F5.out
      rw[(hN hi).1,(hN hi).2] at this
      exact this⟩
     clear hE0 hPE F5 hN
     go_wp2_with fail
     go_ret
     rw[hz.out]
     exact⟨rfl,hF.out⟩
 ·refine lwk_al (al_tkE V) ⟨⟨_,(pb.out _).2 (hd.out.trans ((nbel V _).mono hd.out.size))⟩,rfl⟩ (by rfl) ?_
  simp only[pts]
  have hdz:=hd.out.trans ((nbel V zTkE).mono hd.out.size)
  refine lwk_call1 ent_here (cH.out _ hdz) rfl (by rfl) ?_
  rintro _ V2 ⟨rfl,b2⟩
  have hd2:=hdz.trans (b2.mono hdz.size)
  refine⟨⟨⟨_,(pb.out _).2 hd2⟩,rfl⟩,?_⟩
  simp only[pts]
  have hz2:V2.heap[V.heap.size]?=some zTkE:=(b2.block _ (by rw[World.size_alloc];omega)).trans (thnK _ _)
  replace b2:=Hid.mk b2
  replace hd2:=Hid.mk hd2
  repeat (first|(guard_target =~ Lwk _ _ _ _ (Oper.mk _ (Op.call _) _ _ _ _::_) _ _;fail)|(guard_target =~ Lwk _ _ _ _ (Oper.mk _ (Op.lookup _ _ _ _) _ _ _ _::_) _ _;fail)|(guard_target =~ Lwk _ _ _ _ (Oper.mk _ (Op.alloc _) _ _ _ _::_) _ _;fail)|(guard_target =~ Lwk _ _ _ _ (Oper.mk _ (Op.load 78 _) _ _ _ _::_) _ _;fail)|(guard_target =~ Lwk _ _ _ _ (Oper.mk _ (Op.store _ _ _) _ _ _ _::_) _ _;fail)|(refine lwk_one rfl ?_;(first|go_big_quiet_skip|(go_big_quiet_want;go_big_quiet_op;go_big_quiet_on));refine wpQuiet_nil ?_))
  refine lwk_lk (fun X hX=>by obtain⟨θ,rfl⟩:=hX;exact lL _ θ.h) rfl rfl (by rfl) ?_
  simp only[pts]
  repeat (first|(guard_target =~ Lwk _ _ _ _ (Oper.mk _ (Op.call _) _ _ _ _::_) _ _;fail)|(guard_target =~ Lwk _ _ _ _ (Oper.mk _ (Op.lookup _ _ _ _) _ _ _ _::_) _ _;fail)|(guard_target =~ Lwk _ _ _ _ (Oper.mk _ (Op.alloc _) _ _ _ _::_) _ _;fail)|(guard_target =~ Lwk _ _ _ _ (Oper.mk _ (Op.load 78 _) _ _ _ _::_) _ _;fail)|(guard_target =~ Lwk _ _ _ _ (Oper.mk _ (Op.store _ _ _) _ _ _ _::_) _ _;fail)|(refine lwk_one rfl ?_;(first|go_big_quiet_skip|(go_big_quiet_want;go_big_quiet_op;go_big_quiet_on));refine wpQuiet_nil ?_))
  refine lwk_ld (fun X hX=>by obtain⟨θ,rfl⟩:=hX;exact lT _ θ.h) rfl (by rfl) ?_
  simp only[pts]
  refine lwk_st (tk_stE hz2 tk none 0) rfl rfl (by rfl) ?_
  simp only[pts]
  have hq:(V2.setRow V.heap.size (tkC tk none 0).toArray).heap[V.heap.size]?=some (tkO tk none 0):=setRow_heap _ _ _ _ _ _ hz2
  have hq1:Hid (W1.heap.size<=V.heap.size):=⟨hd.out.size⟩
  have hb2:Hid (Below W1.heap.size W1 (V2.setRow V.heap.size (tkC tk none 0).toArray)):=⟨⟨hd2.out.os,hd2.out.tape,hd2.out.output,by rw[size_setRow];exact hd2.out.size,fun x hx=>(setRow_other _ _ _ _ (by have:=hd.out.size;omega)).trans (hd2.out.block x hx)⟩⟩
  clear b2 hd2 hd hdz cH pb x1 x2 lL lT pN hz2
  generalize V2.setRow V.heap.size (tkC tk none 0).toArray=W2 at *
  generalize V.heap.size=q at *
  go_upto_region 2 with fail
  have kt2:=(E1.out.below hb2.out).kt
  obtain⟨p,pb,pN,y16,x4⟩:∃ p:World->Prop,(∀ V,p V↔Below W2.heap.size W2 V)/\Nonempty (CW p)/\(∀ θ:CW p,θ.w.cell? ⟨q,16,none⟩=some (.int .i64 tk.a.p))/\(∀ θ:CW p,θ.w.cell? ⟨W.heap.size,4,none⟩=some (.string c.tx)) :=
   ⟨fun V=>Below W2.heap.size W2 V,fun _=>Iff.rfl,⟨⟨W2,Below.refl _ _⟩⟩,fun θ=>cell_at ((θ.h.block _ (Array.getElem?_eq_some_iff.1 hq).1).trans hq) 16,fun θ=>cell_at ((θ.h.block _ (by have:=s1.out;have:=hb2.out.size;omega)).trans ((hb2.out.block _ (by have:=s1.out;omega)).trans c1.out)) 4⟩
  have p2:p W2.drew:=(pb _).2 (Below.refl _ _).drew
  have d2:Hid (Below W2.heap.size W2 W2.drew):=⟨(Below.refl _ _).drew⟩
  have cM:=fun V (hb:Below W2.heap.size W2 V)=>max_any tk.a.p V (kt2.below kt2.pos hb)
  replace pb:=Hid.mk pb
  refine wp_region_ly (fun V=>∃ θ:CW p,V=θ.w) (by kernel_rfl) (by kernel_rfl) (fun _ _ d _ _ h=>by cases d<;>exact h) ⟨⟨_,p2⟩,rfl⟩ ?_
  generalize W2.drew=V at p2 d2 ⊢
  have E2:Hid _:=⟨E1.out.below hb2.out⟩
  have F2:Hid (Below W.heap.size W W2):=⟨B1.out.trans (hb2.out.mono B1.out.size)⟩
  by_cases hmx:mx tk.a.p<(c.tx.size:Int)
  ·have hm1:decide (mx tk.a.p<(c.tx.size:Int))=true:=decide_eq_true hmx
   have hz:Hid (datZ hi len st en fb wt tk c.tx=(164,en,fb,wt)):=⟨by unfold datZ;rw[if_pos hmx]⟩
   clear hmx
   repeat (first|(guard_target =~ Ly _ _ _ _ (Oper.mk _ (Op.call { callee:=.value _,args:=_,argTypes:=_ }) _ _ _ _::_) _ _;fail)|(guard_target =~ Ly _ _ _ _ (Oper.mk _ (Op.load 78 _) _ _ _ _::_) _ _;fail)|(refine ly_one rfl ?_;(first|go_big_quiet_skip|(go_big_quiet_want;go_big_quiet_op;go_big_quiet_on));refine wpQuiet_nil ?_))
   refine ly_call1 (R:=fun v w'=>v = .int .u64 (mx tk.a.p)/\Below V.heap.size V w') ent_mx ((cM V d2.out).mono fun e w' h=>⟨_,h.1,rfl,h.2⟩) rfl (by rfl) ?_
   rintro _ V3 ⟨rfl,b3⟩
   have d3:Hid (Below W2.heap.size W2 V3):=⟨d2.out.trans (b3.mono d2.out.size)⟩
   refine⟨_,fun _ h=>h,⟨⟨_,(pb.out _).2 d3.out⟩,rfl⟩,?_⟩
   simp only[pts]
   clear b3
   repeat (first|(guard_target =~ Ly _ _ _ _ (Oper.mk _ (Op.call { callee:=.value _,args:=_,argTypes:=_ }) _ _ _ _::_) _ _;fail)|(guard_target =~ Ly _ _ _ _ (Oper.mk _ (Op.load 78 _) _ _ _ _::_) _ _;fail)|(refine ly_one rfl ?_;(first|go_big_quiet_skip|(go_big_quiet_want;go_big_quiet_op;go_big_quiet_on));refine wpQuiet_nil ?_))
   refine ly_done ?_
   have E4:Hid _:=⟨E2.out.below d3.out⟩
   clear cM pb y16 x4 pN p2 kt2 d2
   go_wp2_with fail
   go_ret
   rw[hz.out]
   exact⟨rfl,E4.out,Frm.of_below (F2.out.trans (d3.out.mono F2.out.size))⟩
  ·have hm1:decide (mx tk.a.p<(c.tx.size:Int))=false:=decide_eq_false hmx
   have hmx':Hid (¬ mx tk.a.p<(c.tx.size:Int)):=⟨hmx⟩
   clear hmx
   repeat (first|(guard_target =~ Ly _ _ _ _ (Oper.mk _ (Op.call { callee:=.value _,args:=_,argTypes:=_ }) _ _ _ _::_) _ _;fail)|(guard_target =~ Ly _ _ _ _ (Oper.mk _ (Op.load 78 _) _ _ _ _::_) _ _;fail)|(refine ly_one rfl ?_;(first|go_big_quiet_skip|(go_big_quiet_want;go_big_quiet_op;go_big_quiet_on));refine wpQuiet_nil ?_))
   refine ly_call1 (R:=fun v w'=>v = .int .u64 (mx tk.a.p)/\Below V.heap.size V w') ent_mx ((cM V d2.out).mono fun e w' h=>⟨_,h.1,rfl,h.2⟩) rfl (by rfl) ?_
   rintro _ V3 ⟨rfl,b3⟩
   have d3:Hid (Below W2.heap.size W2 V3):=⟨d2.out.trans (b3.mono d2.out.size)⟩
   refine⟨_,fun _ h=>h,⟨⟨_,(pb.out _).2 d3.out⟩,rfl⟩,?_⟩
   simp only[pts]
   clear b3
   repeat (first|(guard_target =~ Ly _ _ _ _ (Oper.mk _ (Op.call { callee:=.value _,args:=_,argTypes:=_ }) _ _ _ _::_) _ _;fail)|(guard_target =~ Ly _ _ _ _ (Oper.mk _ (Op.load 78 _) _ _ _ _::_) _ _;fail)|(refine ly_one rfl ?_;(first|go_big_quiet_skip|(go_big_quiet_want;go_big_quiet_op;go_big_quiet_on));refine wpQuiet_nil ?_))
   refine ly_done ?_
   have hb3:Hid (Below W1.heap.size W1 V3):=⟨hb2.out.trans (d3.out.mono hb2.out.size)⟩
   have hq3:V3.heap[q]?=some (tkO tk none 0):=(d3.out.block _ (Array.getElem?_eq_some_iff.1 hq).1).trans hq
   clear cM pb y16 x4 pN p2 kt2 d2 d3 E2 F2 hq hb2 hm1
   go_upto_region 4 with fail
   have hb2:=hb3
   have hq:=hq3
   clear hb3 hq3
   generalize V3=W2 at *
   obtain⟨p,pb,pN,x23,y4,x4⟩:∃ p:World->Prop,(∀ V,p V↔Below W2.heap.size W2 V)/\Nonempty (CW p)/\(∀ θ:CW p,θ.w.cell? ⟨e,23,none⟩=some (.int .i64 wt))/\(∀ θ:CW p,θ.w.cell? ⟨q,4,none⟩=some (.int .i64 tk.siz))/\(∀ θ:CW p,θ.w.cell? ⟨W.heap.size,4,none⟩=some (.string c.tx)) :=
    ⟨fun V=>Below W2.heap.size W2 V,fun _=>Iff.rfl,⟨⟨W2,Below.refl _ _⟩⟩,fun θ=>cell_at ((E1.out.below (hb2.out.trans (θ.h.mono hb2.out.size))).eo) 23,fun θ=>cell_at ((θ.h.block _ (Array.getElem?_eq_some_iff.1 hq).1).trans hq) 4,fun θ=>cell_at ((θ.h.block _ (by have:=s1.out;have:=hb2.out.size;omega)).trans ((hb2.out.block _ (by have:=s1.out;omega)).trans c1.out)) 4⟩
   have p2:p W2.drew:=(pb _).2 (Below.refl _ _).drew
   refine wp_region_ly (fun V=>∃ θ:CW p,V=θ.w) (by kernel_rfl) (by kernel_rfl) (fun _ _ d _ _ h=>by cases d<;>exact h) ⟨⟨_,p2⟩,rfl⟩ ?_
   have d2:Hid (Below W2.heap.size W2 W2.drew):=⟨(Below.refl _ _).drew⟩
   generalize W2.drew=W3 at p2 d2 ⊢
   repeat (first|(guard_target =~ Ly _ _ _ _ (Oper.mk _ (Op.call { callee:=.value _,args:=_,argTypes:=_ }) _ _ _ _::_) _ _;fail)|(guard_target =~ Ly _ _ _ _ (Oper.mk _ (Op.load 78 _) _ _ _ _::_) _ _;fail)|(refine ly_one rfl ?_;(first|go_big_quiet_skip|(go_big_quiet_want;go_big_quiet_op;go_big_quiet_on));refine wpQuiet_nil ?_))
   refine ly_done ?_
   have hb3:Hid (Below W1.heap.size W1 W3):=⟨hb2.out.trans (d2.out.mono hb2.out.size)⟩
   have hq3:W3.heap[q]?=some (tkO tk none 0):=(d2.out.block _ (Array.getElem?_eq_some_iff.1 hq).1).trans hq
   clear pb pN x23 y4 x4 p2 d2 hb2 hq
   have hgw:Hid (datW wt tk c.tx=wrap64 (wrap64 (wt+tk.siz)+(c.tx.size:Int))):=⟨rfl⟩
   generalize wrap64 (wrap64 (wt+tk.siz)+(c.tx.size:Int))=Wt at hgw ⊢
   have E3:Hid _:=⟨E1.out.below hb3.out⟩
   have F3:Hid (Below W.heap.size W W3):=⟨B1.out.trans (hb3.out.mono B1.out.size)⟩
   by_cases hbig:1048576<Wt
   ·have hz:Hid (datZ hi len st en fb wt tk c.tx=(165,en,fb,wt)):=⟨by unfold datZ;rw[if_neg hmx'.out,hgw.out,if_pos hbig]⟩
    clear hgw c1 hq1 hq3
    go_wp2_with fail
    go_ret
    rw[hz.out]
    exact⟨rfl,E3.out,Frm.of_below F3.out⟩
   ·have hbg:decide (1048576<Wt)=false:=decide_eq_false hbig
    obtain⟨PE,hPE⟩:∃ PE,Hid (PE=C.pdE len en tk c.tx.size):=⟨_,⟨rfl⟩⟩
    obtain⟨p,pb,pN,x1,lq,x3⟩:∃ p:World->Prop,(∀ V,p V↔(V.heap[e]?=W3.heap[e]?/\V.heap[q]?=W3.heap[q]?/\V.heap[W.heap.size]?=W3.heap[W.heap.size]?))/\Nonempty (CW p)/\(∀ θ:CW p,θ.w.cell? ⟨e,1,none⟩=some (pV cu))/\(∀ V,p V->(Instr.loadAt 78 (pV q)).run Tryz.prog V = .ok (tkV tk none 0) V)/\(∀ θ:CW p,θ.w.cell? ⟨W.heap.size,4,none⟩=some (.string c.tx)) :=
    ⟨fun V=>V.heap[e]?=W3.heap[e]?/\V.heap[q]?=W3.heap[q]?/\V.heap[W.heap.size]?=W3.heap[W.heap.size]?,fun _=>Iff.rfl,⟨⟨W3,rfl,rfl,rfl⟩⟩,fun θ=>cell_at (θ.h.1.trans E3.out.eo) 1,fun V hV=>(tk_of (hV.2.1.trans hq3)).load,fun θ=>cell_at (θ.h.2.2.trans ((hb3.out.block _ (by have:=s1.out;omega)).trans c1.out)) 4⟩
    have nE:Hid ((e≠cu/\e≠g/\e<W3.heap.size)/\(q≠cu/\q≠g/\q<W3.heap.size)/\(W.heap.size≠cu/\W.heap.size≠g/\W.heap.size<W3.heap.size)):=⟨by
     have h1:=E1.out.ne
     have h2:=hcg.out
     have h3:=(Array.getElem?_eq_some_iff.1 hq3).1
     have h4:=hb3.out.size
     have h5:=s1.out
     have h6:=hq1.out
     have h7:=(Array.getElem?_eq_some_iff.1 E3.out.eo).1
     omega⟩
    have cD:Hid (∀ V,Below W3.heap.size W3 V->Calls Tryz.prog 39 #[pV cu,tkV tk none 0,.string c.tx] V fun r w'=>∃ x,r = .returned x/\(x = .int .i64 PE/\C.Cs w' cu 0 g len cap st (C.pdN len en tk c.tx.size) hi (C.pdF hi len st en fb tk c.tx)/\C.Cb cu 0 g V w')):=⟨fun V hb=>by
     have EV:=E3.out.below hb
     have hk:=EV.kp
     have hn:=EV.ne
     rw[hPE.out]
     exact(C.PutData_any EV.cs EV.kt (by omega) (by omega) tk none 0 c.tx hts).mono fun r w' h=>⟨_,h.1,rfl,h.2⟩⟩
    have F9:Hid (∀ V w',Below W3.heap.size W3 V->∀ {en':Nat} {fb':Nat->Int},C.Cs w' cu 0 g len cap st en' hi fb'->C.Cb cu 0 g V w'->En f n S0 S1 pa pm e ma cu s U g len cap st en' hi fb' wt bl w'/\Frm (Wr e cu g U) W w'):=⟨fun V w' hb en' fb' hc hb2=>⟨(E3.out.below hb).cur hb2 hc,(Frm.of_below (F3.out.trans (hb.mono F3.out.size))).trans (frm_cb hb2 (.inr (.inl rfl)) (.inr (.inr (.inl rfl))))⟩⟩
    clear c1 hq1 hq3 F3 hbig
    go_upto_region 7 with fail
    have p2:p W3.drew:=(pb _).2 ⟨rfl,rfl,rfl⟩
    have d2:Hid (Below W3.heap.size W3 W3.drew):=⟨(Below.refl _ _).drew⟩
    replace pb:=Hid.mk pb
    refine wp_region_ly (fun V=>∃ θ:CW p,V=θ.w) (by kernel_rfl) (by kernel_rfl) (fun _ _ d _ _ h=>by cases d<;>exact h) ⟨⟨_,p2⟩,rfl⟩ ?_
    generalize W3.drew=V at p2 d2 ⊢
    repeat (first|(guard_target =~ Ly _ _ _ _ (Oper.mk _ (Op.call _) _ _ _ _::_) _ _;fail)|(guard_target =~ Ly _ _ _ _ (Oper.mk _ (Op.load 78 _) _ _ _ _::_) _ _;fail)|(refine ly_one rfl ?_;(first|go_big_quiet_skip|(go_big_quiet_want;go_big_quiet_op;go_big_quiet_on));refine wpQuiet_nil ?_))
    refine ly_ld (fun X hX=>by obtain⟨θ,rfl⟩:=hX;exact lq _ θ.h) rfl (by rfl) ?_
    simp only[pts]
    repeat (first|(guard_target =~ Ly _ _ _ _ (Oper.mk _ (Op.call _) _ _ _ _::_) _ _;fail)|(guard_target =~ Ly _ _ _ _ (Oper.mk _ (Op.load 78 _) _ _ _ _::_) _ _;fail)|(refine ly_one rfl ?_;(first|go_big_quiet_skip|(go_big_quiet_want;go_big_quiet_op;go_big_quiet_on));refine wpQuiet_nil ?_))
    refine ely_call3 ent_pda (cD.out V d2.out) rfl rfl rfl (by rfl) ?_
    rintro _ V5 ⟨rfl,k1,k2⟩
    have F5:=F9.out V V5 d2.out k1 k2
    have hsV:=d2.out.size
    have q5:p V5:=(pb.out _).2 ⟨(k2.block _ (by have:=nE.out.1.2.2;omega) nE.out.1.1 nE.out.1.2.1).trans ((pb.out _).1 p2).1,(k2.block _ (by have:=nE.out.2.1.2.2;omega) nE.out.2.1.1 nE.out.2.1.2.1).trans ((pb.out _).1 p2).2.1,(k2.block _ (by have:=nE.out.2.2.2.2;omega) nE.out.2.2.1 nE.out.2.2.2.1).trans ((pb.out _).1 p2).2.2⟩
    refine⟨_,fun _ h=>h,⟨⟨_,q5⟩,rfl⟩,?_⟩
    simp only[pts]
    replace F5:=Hid.mk F5
    clear k1 k2 hsV q5 p2
    repeat (first|(guard_target =~ Ly _ _ _ _ (Oper.mk _ (Op.call _) _ _ _ _::_) _ _;fail)|(guard_target =~ Ly _ _ _ _ (Oper.mk _ (Op.load 78 _) _ _ _ _::_) _ _;fail)|(refine ly_one rfl ?_;(first|go_big_quiet_skip|(go_big_quiet_want;go_big_quiet_op;go_big_quiet_on));refine wpQuiet_nil ?_))
    refine ly_done ?_
    clear F9 cD d2 pb pN x1 lq x3 nE
    by_cases hE0:PE=0
    ·have hz:Hid (datZ hi len st en fb wt tk c.tx=(0,C.pdN len en tk c.tx.size,C.pdF hi len st en fb tk c.tx,Wt)):=⟨by unfold datZ;rw[if_neg hmx'.out,hgw.out,if_neg (of_decide_eq_false hbg),if_pos (hPE.out▸hE0)]⟩
     have b0:(PE != 0)=false:=by simp[hE0]
     have c23:V5.cell? ⟨e,23,none⟩=some (.int .i64 wt):=cell_at F5.out.1.eo 23
     have f23:V5.frozen? ⟨e,23,none⟩=false:=efrz F5.out.1.eo
     clear hE0 hPE
     go_wp2_with fail
     go_ret
     rw[hz.out]
     exact⟨rfl,F5.out.1.setW Wt,F5.out.2.trans ⟨rfl,rfl,rfl,by simp,fun k _ hk=>eset_off (fun e'=>hk (.inl e'))⟩⟩
    ·have hz:Hid (datZ hi len st en fb wt tk c.tx=(PE,en,fb,wt)):=⟨by unfold datZ;rw[if_neg hmx'.out,hgw.out,if_neg (of_decide_eq_false hbg),<- hPE.out,if_neg hE0]⟩
     have b0:(PE != 0)=true:=by simp[hE0]
     have hN:=fun hi=>pd_no (hi:=hi) (st:=st) (f:=fb) (s:=c.tx) (hPE.out▸hE0)
     have hF:Hid (En f n S0 S1 pa pm e ma cu s U g len cap st en hi fb wt bl V5/\Frm (Wr e cu g U) W V5):=⟨by
      have:=F5.out
      rw[(hN hi).1,(hN hi).2] at this
      exact this⟩
     clear hE0 hPE F5 hN
     go_wp2_with fail
     go_ret
     rw[hz.out]
     exact⟨rfl,hF.out⟩
end Go.Proofs.YtjlbcdnkglaheaaGreatDoor
