import Derived.Test.YtkcjdncchoohoaaGreatDoorK26
namespace Go.Proofs.YtkcjdncchoohoaaGreatDoor
namespace J
set_option maxRecDepth 1000000
set_option maxHeartbeats 16000000
open Go.ChangeShapes Go.WideShapes Go.ChangeAt Go.RowKit
variable {P:Program} {W w:World} {X b base c d n size:Nat} {e ty:TypeId} {p q:Option Addr} {v:Value} {xs:List Value}
theorem twpList_append_ex {ops:Array Oper} {rest:List Oper} {o:Oper} {a:Act} {Q:Exit->Act->World->Prop} (hgd:o.guard=none) (s x:Operand) (t tx:TypeId)
  (ho:o.op = .call { callee:=.builtin .append,args:=#[s,x],argTypes:=#[t,tx] }) (sv xv:Value) (hs:a.eval s=sv) (hx:a.eval x=xv) (Post:Value->World->Prop)
  (hrun:∃ v w',(∀ ty,(Builtin.append_ #[t,tx] ty #[sv,xv]).run P w = .ok v w')/\Post v w')
  (h:∀ v w',Post v w'->wpList P ops Q rest (a.put o.dst v) w'):wpList P ops Q (o::rest) a w:=by
 obtain⟨v,w',hr,hp⟩:=hrun
 refine wpList_plain hgd fun _ hK=>?_
 unfold Oper.wp execOp
 simp only[ho,resolve,invoke,builtin,Sem.run_bind,Sem.run_pure,Result.andThen_ok,List.map_toArray,List.map_cons,List.map_nil,hs,hx,hr]
 exact hK _ _ (h v w' hp)
theorem heap_al_set (w:World) (a:Addr) (v:Value) (o:Obj):((w.setCell a v).alloc o).heap[w.heap.size]?=some o:=by
 have h:=heap_al (w.setCell a v) o
 rwa [show (w.setCell a v).heap.size=w.heap.size from by simp[World.setCell]] at h
theorem own_slice (h:w.ownsRow base e size v n xs):∃ p c,v = .slice p n c:=by
 rcases h.2 with ⟨rfl,rfl⟩|⟨g,cap,cur,rfl,_⟩
 ·exact⟨_,_,rfl⟩
 ·exact⟨_,_,rfl⟩
theorem there_of {g:Nat} {cs:Array Value} (h:w.heap[g]?=some (.cells cs ty)):w.there g 0 cs.size:=fun j hj=>by
 rw[Nat.zero_add,cell_at h j]
 refine⟨by simp[hj],?_⟩
 simp only[World.frozen?,h]
 simp
theorem bel_sets {B:Nat} {a:World} (hb:B<=b):∀ (vs:List Value) (o:Nat) (w:World),Below B a w->Below B a (w.setCells b o vs)
 | [],_,_,h=>h
 | v::r,o,_,h=>bel_sets hb r (o+1) _ (h.setCell (p:=⟨b,o,none⟩) hb v)
theorem sets_other {i:Nat} (hne:i≠b):∀ (vs:List Value) (o:Nat) (w:World),(w.setCells b o vs).heap[i]?=w.heap[i]?
 | [],_,_=>rfl
 | v::r,o,w=>(sets_other hne r (o+1) (w.setCell ⟨b,o,none⟩ v)).trans (heap_setCell_other w ⟨b,o,none⟩ i v hne)
theorem own_kept {w':World} (h:w.ownsRow base e size v n xs) (hb:∀ k,v.ownBlock=some k->w'.heap[k]?=w.heap[k]?):w'.ownsRow base e size v n xs:=by
 refine⟨h.1,?_⟩
 rcases h.2 with hn|⟨g,cap,cur,rfl,h1,hg,rest⟩
 ·exact .inl hn
 ·exact .inr ⟨g,cap,cur,rfl,h1,(hb g rfl).trans hg,rest⟩
theorem results_cell_v {fn:Func} {p:Tmp} (h:fn.results=#[.cell p ty]) (tmps:Array Value) (w:World) (g:Nat) (v:Value) (hp:tmps.getD p undef = .pointer (some ⟨g,0,none⟩)) (hl:(loadVar ty ⟨g,0,none⟩).run P w = .ok v w):(results fn tmps).run P w = .ok v w:=by
 have hp':tmps[p]?.getD undef = .pointer (some ⟨g,0,none⟩):=by simpa using hp
 simp[results,h,hp',asAddr,hl]
theorem infoFm:(Tryz.prog.info? 30).map (·.size)=some 13:=by kernel_rfl
theorem undFm:∃ d,Tryz.prog.underlying 30=some d/\d.isRow=true:=⟨_,Tryz.underlying30,rfl⟩
theorem fmC_one (f:Fm) (pp:Option Addr) (cp:Nat):∀ u∈(fmC f pp cp).toList,u.oneCell'=true:=by
 intro u hu
 simp only[List.mem_cons,List.not_mem_nil,or_false] at hu
 rcases hu with rfl|rfl|rfl|rfl|rfl|rfl|rfl|rfl|rfl|rfl|rfl|rfl|rfl<;>rfl
theorem st_newF (w:World) (z:Array Value) (hz:z.size=13) (f:Fm) (pp:Option Addr) (cp:Nat):(Instr.storeAt 30 (.pointer (some ⟨w.heap.size,0,none⟩)) (fmV f pp cp)).run Tryz.prog (w.alloc (.cells z 30)) = .ok () (w.alloc (fmO f pp cp)) :=
 run_storeAt_new w 30 z (fmC f pp cp) infoFm hz (all_oneCell_toArray (fmC_one f pp cp))
theorem tkO_set {t:Tk} (h:W.heap[X]?=some (tkO t p c)):(W.setCell ⟨X,12,none⟩ (.slice q t.cst.length d)).heap[X]?=some (tkO t q d):=by
 obtain⟨N,hN⟩:∃ N,t.cst.length=N:=⟨_,rfl⟩
 rw[hN]
 have e:(W.setCell ⟨X,12,none⟩ (.slice q N d)).heap=W.heap.modify X (fun o=>match o with
  | .cells cs t f=>.cells (cs.setIfInBounds 12 (.slice q N d)) t f
  | o=>o):=by
  rfl
 rw[e,Array.getElem?_modify,if_pos rfl,h]
 subst hN
 rfl
theorem froz {cs:Array Value} (h:W.heap[X]?=some (.cells cs ty)) (o:Nat):W.frozen? ⟨X,o,none⟩=false:=by
 simp only[World.frozen?,h]
 simp
theorem fmO_set {f:Fm} (h:W.heap[X]?=some (fmO f p c)):(W.setCell ⟨X,12,none⟩ (.slice q f.toks.length d)).heap[X]?=some (fmO f q d):=by
 obtain⟨N,hN⟩:∃ N,f.toks.length=N:=⟨_,rfl⟩
 rw[hN]
 have e:(W.setCell ⟨X,12,none⟩ (.slice q N d)).heap=W.heap.modify X (fun o=>match o with
  | .cells cs t f=>.cells (cs.setIfInBounds 12 (.slice q N d)) t f
  | o=>o):=by
  rfl
 rw[e,Array.getElem?_modify,if_pos rfl,h]
 subst hN
 rfl
abbrev zFo:Obj:=.cells #[.int .i64 0,.int .i64 0,.int .i64 0,.int .i64 0,.int .i64 0,.int .i64 0,.int .i64 0,.int .i64 0,.int .i64 0,.int .i64 0,.int .i64 0,.int .i64 0,.slice none 0 0] 30
theorem copied_any (f:Fm) (pp:Option Addr) (cp:Nat) (w:World) (hr:TkL w pp w.heap.size f.toks) (hlm:f.toks.length*192<=140737488351232) (hcm:∀ t∈f.toks,t.cst.length*8<=140737488351232) :
  Calls Tryz.prog 5 #[fmV f pp cp] w fun e w'=>∃ g cap ps,e = .returned (fmV f (some ⟨g,0,none⟩) cap)/\ps.map TkP.t=f.toks/\Cop w' w.heap.size g cap ps/\Below w.heap.size w w':=by
 obtain⟨iU,hiU,hzU,hsU,hbU⟩:=tinfo infoUK
 obtain⟨iT,hiT,hzT,hsT,hbT⟩:=tinfo infoTkK
 have lF:Hid _:=⟨(fm_of (two_1 w (fmO f pp cp) zFo)).load⟩
 have sF:Hid _:=⟨fun z hz=>st_newF ((w.alloc (fmO f pp cp)).alloc zFo) z hz f pp cp⟩
 simp only[World.size_alloc] at sF
 go_enter Tryz.func5,Tryz.ntmps5
 go_wp2_with (first
  | (guard_target =~ wpList _ _ _ (Oper.mk _ (Op.load 30 _) _ _ _ _::_) _ _;go_must (refine wpList_ld 30 (.tmp 1) rfl rfl _ _ rfl lF.out ?_);simp only[pts])
  | (guard_target =~ wpList _ _ _ (Oper.mk _ (Op.store 30 _ _) _ _ _ _::_) _ _;go_must (refine wpList_st 30 (.tmp 3) (.tmp 9) rfl rfl _ _ rfl rfl (sF.out _ rfl) ?_);simp only[pts]))
 clear lF sF
 have H1:=fm_of (show (((w.alloc (fmO f pp cp)).alloc zFo).alloc (fmO f pp cp)).heap[w.heap.size]?=some (fmO f pp cp) from (heap_alloc_old ((w.alloc (fmO f pp cp)).alloc zFo) (fmO f pp cp) (by simp;omega)).trans (two_1 w _ _))
 have H2:(((w.alloc (fmO f pp cp)).alloc zFo).alloc (fmO f pp cp)).heap[w.heap.size+1]?=some zFo:=(heap_alloc_old ((w.alloc (fmO f pp cp)).alloc zFo) (fmO f pp cp) (by simp)).trans (two_2 w _ _)
 have H3:(((w.alloc (fmO f pp cp)).alloc zFo).alloc (fmO f pp cp)).heap[w.heap.size+1+1]?=some (fmO f pp cp):=by have:=heap_al ((w.alloc (fmO f pp cp)).alloc zFo) (fmO f pp cp);simpa only [World.size_alloc] using this
 have HB:Below w.heap.size w (((w.alloc (fmO f pp cp)).alloc zFo).alloc (fmO f pp cp)):=(two_b w _ _).alloc (by simp;omega) _
 have HS:(((w.alloc (fmO f pp cp)).alloc zFo).alloc (fmO f pp cp)).heap.size=w.heap.size+3:=by simp
 replace hr:=(hr.below HB).mono HB.size
 generalize ((w.alloc (fmO f pp cp)).alloc zFo).alloc (fmO f pp cp)=W0 at H1 H2 H3 HB HS hr ⊢
 replace H1:=Hid.mk H1
 replace H2:=Hid.mk H2
 replace H3:=Hid.mk H3
 go_loopw [4,5] (fun v i wr=>∃ (k:Nat) (ps:List TkP),k<=f.toks.length/\i = .int .i64 k/\ps.map TkP.t=f.toks.take k/\wr.ownsRow W0.heap.size 47 21 v k (tpC ps)/\(∀ x∈ps,UGood wr W0.heap.size x/\some x.g≠v.ownBlock)/\(ps.map TkP.g).Pairwise (· < ·)/\Below W0.heap.size W0 wr) (fun _ i _=>f.toks.length-(RowKit.intOf i).toNat)
 case atStart=>exact⟨0,[],Nat.zero_le _,rfl,rfl,World.ownsRow_nil _ _ _ 21,fun _ h=>(by cases h),List.Pairwise.nil,Below.refl _ _⟩
 case round =>
  obtain⟨k,ps,hk,rfl,hps,hO,hG,hD,hB⟩:=hrel
  have x12:wr.cell? ⟨w.heap.size,12,none⟩=some (.slice pp f.toks.length cp):=(H1.out.below (by omega) hB).c12
  by_cases hlt:k<f.toks.length
  ·obtain⟨x,hx⟩:∃ x,f.toks[k]?=some x:=⟨f.toks[k],List.getElem?_eq_getElem hlt⟩
   obtain⟨g,o,pc,cc,rfl,hg,hT,hT1,-,-⟩:=(hr.below hB).at hx
   have hxa:=hcm x (List.mem_of_getElem? hx)
   have hll:=hlm
   have hsz:=hB.size
   have l1:Hid _:=⟨hT.load⟩
   have s1:Hid _:=⟨fun z hz=>st_new wr z hz x pc cc⟩
   have hb1:Below wr.heap.size wr ((wr.alloc (tkO x pc cc)).alloc (.cells #[] 44)):=two_b wr _ _
   have q12:((wr.alloc (tkO x pc cc)).alloc (.cells #[] 44)).cell? ⟨wr.heap.size,12,none⟩=some (.slice pc x.cst.length cc):=(tk_of (two_1 wr (tkO x pc cc) (.cells #[] 44))).c12
   have hOe:((wr.alloc (tkO x pc cc)).alloc (.cells #[] 44)).ownsRow (wr.heap.size+1) 44 1 (.slice (some ⟨wr.heap.size+1,0,none⟩) 0 0) 0 []:=⟨rfl,.inr ⟨wr.heap.size+1,0,#[],rfl,Nat.le_refl _,two_2 wr _ _,Nat.le_refl _,by simp[maxLen],rfl,rfl⟩⟩
   obtain⟨v2,w2,hrun,hO2,hB2⟩:=u_cp (ca:=cc) hOe (hT1.below (hb1.mono hsz)) hxa (by simp)
   have hlt2:(k:Int)<f.toks.length:=by omega
   have F1:Hid (1=1):=⟨rfl⟩
   have F2:Hid (1=1):=⟨rfl⟩
   have F3:Hid (1=1):=⟨rfl⟩
   have hN2:∀ j u,[Value.int .u64 77][j]?=some u->(w2.alloc (.cells #[.int .u64 77] 44)).cell? ((⟨w2.heap.size,0,none⟩:Addr).add j)=some u:=World.news_of_block (heap_al w2 (.cells #[.int .u64 77] 44))
   have hO3:=ownsRow_below hO2 (bel1 w2 (.cells #[.int .u64 77] 44))
   have hs2:wr.heap.size+2<=w2.heap.size:=by have:=hB2.size;simp at this;omega
   go_wp2_with (first
    | (guard_target =~ wpList _ _ _ (Oper.mk _ (Op.load 47 _) _ _ _ _::_) _ _;go_must (first|refine wpList_ld 47 (.tmp 20) rfl rfl _ _ rfl l1.out ?_|refine wpList_ld 47 (.tmp 6) rfl rfl _ _ rfl l2.out ?_);simp only[pts])
    | (guard_target =~ wpList _ _ _ (Oper.mk _ (Op.store 47 _ _) _ _ _ _::_) _ _;go_must (refine wpList_st 47 (.tmp 6) (.tmp 21) rfl rfl _ _ rfl rfl (s1.out _ rfl) ?_);simp only[pts])
    | (at_builtin;clear F1;go_must (refine(twpList_append_ex (by rfl) _ _ _ _ (by rfl) _ _ (by rfl) (by rfl) (fun a b=>v2=a/\w2=b) ⟨v2,w2,hrun,rfl,rfl⟩ ?_));rintro _ _ ⟨rfl,rfl⟩)
    | (at_builtin;clear F2;go_must (refine wpList_append_lies _ rfl _ _ 45 rfl (wr.heap.size+1) 44 iU (.int .u64 0) 1 8 Tryz.underlying45 hiU hzU hsU hbU rfl (by decide) v2 x.cst.length (uC x.cst) rfl hO3 ⟨w2.heap.size,0,none⟩ 1 1 [.int .u64 77] rfl rfl hN2 (uC_one [77]) (by decide) (by simp only[maxLen];omega) (by omega) (by simp;omega) (w2.heap.size+1) (by simp) ?_);intro ga capa w4 hO4 hgr4 hat4 hlt4;have hB4:Hid (Below (wr.heap.size+1) ((wr.alloc (tkO x pc cc)).alloc (.cells #[] 44)) w4):=⟨hB2.trans (((Below.refl _ w2).alloc (by omega) _).grown hgr4 (by simp;omega) (own_ge hO2))⟩;have hX4:Hid (w4.heap[wr.heap.size]?=some (tkO x pc cc)):=⟨(hB4.out.block _ (by omega)).trans (two_1 wr _ _)⟩;have q24:=(tk_of hX4.out).c12;have qf:=froz hX4.out 12;have l2:Hid _:=⟨(tk_of (tkO_set (q:=some ⟨ga,0,none⟩) (d:=capa) hX4.out)).load⟩;have hcap:=own_cap hO4 (by omega);have hci:(x.cst.length:Int)<=capa:=(by omega);replace hO4:=Hid.mk hO4;replace hgr4:=Hid.mk hgr4;replace hat4:=Hid.mk hat4;have hB5:Hid (Below wr.heap.size wr ((w4.setCell ⟨wr.heap.size,12,none⟩ (.slice (some ⟨ga,0,none⟩) x.cst.length capa)).alloc (tkO x (some ⟨ga,0,none⟩) capa))):=⟨(((two_b wr _ _).trans (hB4.out.mono (by omega))).setCell (Nat.le_refl _) _).alloc (by have:=hB4.out.size;simp[World.setCell] at this ⊢;omega) _⟩;have hO5:Hid _:=⟨ownsRow_below hO hB5.out⟩)
    | (at_builtin;clear F3;go_must (refine wpList_append_lies _ rfl _ _ 28 rfl W0.heap.size 47 iT zTk 21 192 Tryz.underlying28 hiT hzT hsT hbT rfl (by decide) _ k (tpC ps) rfl hO5.out ⟨w4.heap.size,0,none⟩ 1 1 (tkC x (some ⟨ga,0,none⟩) capa) rfl rfl (World.news_of_block (heap_al_set w4 ⟨wr.heap.size,12,none⟩ (.slice (some ⟨ga,0,none⟩) x.cst.length capa) (tkO x (some ⟨ga,0,none⟩) capa))) (tkC_one x _ _) (by decide) (by simp only[maxLen];omega) (by omega) (Nat.le_trans hsz hB5.out.size) _ rfl ?_);intro gn capn w6 hO6 hgr6 hat6 hlt6;replace hO6:=Hid.mk hO6;replace hgr6:=Hid.mk hgr6;replace hat6:=Hid.mk hat6))
   have hga:=own_ge hO4.out ga rfl
   have hga2:=(hO4.out.lt ga rfl).2
   have hs4:wr.heap.size+2<=w4.heap.size:=by have:=hB4.out.size;simp at this;omega
   have hs5:((w4.setCell ⟨wr.heap.size,12,none⟩ (.slice (some ⟨ga,0,none⟩) x.cst.length capa)).alloc (tkO x (some ⟨ga,0,none⟩) capa)).heap.size=w4.heap.size+1:=by simp[World.setCell]
   have hg45:w4.grownBy ((w4.setCell ⟨wr.heap.size,12,none⟩ (.slice (some ⟨ga,0,none⟩) x.cst.length capa)).alloc (tkO x (some ⟨ga,0,none⟩) capa)) (some wr.heap.size):=⟨rfl,rfl,rfl,by omega,fun j hj hne=>by
    rw[heap_alloc_old _ _ (by simpa[World.setCell] using hj)]
    exact heap_setCell_other w4 _ j _ (fun e=>hne (by rw[e]))⟩
   have hnew:UGood ((w4.setCell ⟨wr.heap.size,12,none⟩ (.slice (some ⟨ga,0,none⟩) x.cst.length capa)).alloc (tkO x (some ⟨ga,0,none⟩) capa)) W0.heap.size ⟨x,ga,capa⟩:=by
    have h4:=hO4.out
    rw[show uC x.cst++[Value.int .u64 77]=uC (x.cst++[77]) by simp[uC]] at h4
    exact World.ownsRow.kept (own_base h4 (fun j hj=>by simp[Value.ownBlock] at hj;omega)) hg45 (.inr (by simp[Value.ownBlock];omega))
   have hmem:∀ y∈ps++[(⟨x,ga,capa⟩:TkP)],UGood w6 W0.heap.size y/\some y.g≠some gn:=by
    intro y hy
    rcases List.mem_append.1 hy with hy|hy
    ·have h0:=hG y hy
     have hyl:=h0.1.lt
     refine⟨(h0.1.below hB5.out).kept hgr6.out h0.2,?_⟩
     rcases hat6.out with e|e
     ·rw[<- e];exact h0.2
     ·rw[e.trans hs5];intro e;injection e with e;omega
    ·obtain rfl:=List.mem_singleton.1 hy
     have hne:some ga≠u4.ownBlock:=fun e=>by have:=(hO.lt ga e.symm).2;omega
     refine⟨hnew.kept hgr6.out hne,?_⟩
     rcases hat6.out with e|e
     ·rw[<- e];exact hne
     ·rw[e.trans hs5];intro e;injection e with e;have e:ga=w4.heap.size+1:=e;omega
   have hpw:((ps++[(⟨x,ga,capa⟩:TkP)]).map TkP.g).Pairwise (· < ·):=by
    rw[List.map_append,List.pairwise_append]
    refine⟨hD,List.pairwise_singleton _ _,fun a ha b hb=>?_⟩
    obtain⟨y,hy,rfl⟩:=List.mem_map.1 ha
    rw[List.map_singleton,List.mem_singleton] at hb
    have:=(hG y hy).1.lt
    rw[hb]
    show y.g<ga
    omega
   have hB6:Below W0.heap.size W0 w6:=hB.trans ((hB5.out.mono hsz).trans ((Below.refl _ _).grown hgr6.out (Nat.le_trans hsz hB5.out.size) (own_ge hO)))
   have htk:(ps++[(⟨x,ga,capa⟩:TkP)]).map TkP.t=f.toks.take (k+1):=by
    rw[List.map_append,hps,List.take_add_one,hx];rfl
   have hO6':=hO6.out
   rw[show tpC ps++tkC x (some ⟨ga,0,none⟩) capa=tpC (ps++[(⟨x,ga,capa⟩:TkP)]) from (tpC_snoc ps ⟨x,ga,capa⟩).symm] at hO6'
   clear hnew hg45 hO5 hO4 hgr4 hat4 hgr6 hat6 hO6 hB5 hB4 hX4 l1 l2 s1 q24 qf hN2 hO3 hOe hrun hO2 hB2 hT hT1 hG hD hO
   go_roundw
   case rel=>exact⟨k+1,_,by omega,by go_num,htk,hO6',hmem,hpw,hB6⟩
   case measure=>simp[RowKit.intOf];omega
  ·obtain rfl:k=f.toks.length:=by omega
   have hll:=hlm
   have hsz:=hB.size
   obtain⟨pv,cv,rfl⟩:=own_slice hO
   have hO1:Hid _:=⟨ownsRow_below hO (bel1 wr (tkO spareT none 0))⟩
   have F1:Hid (1=1):=⟨rfl⟩
   go_wp2_with (first
    | (guard_target =~ wpList _ _ _ (Oper.mk _ (Op.load 30 _) _ _ _ _::_) _ _;go_must (refine wpList_ld 30 (.tmp 3) rfl rfl _ _ rfl lF.out ?_);simp only[pts])
    | (guard_target =~ wpList _ _ _ (Oper.mk _ (Op.store 30 _ _) _ _ _ _::_) _ _;go_must (refine wpList_st 30 (.tmp 2) (.tmp 48) rfl rfl _ _ rfl rfl sF.out ?_);simp only[pts])
    | (at_builtin;clear F1;go_must (refine wpList_append_lies _ rfl _ _ 28 rfl W0.heap.size 47 iT zTk 21 192 Tryz.underlying28 hiT hzT hsT hbT rfl (by decide) (.slice pv f.toks.length cv) f.toks.length (tpC ps) rfl hO1.out ⟨wr.heap.size,0,none⟩ 1 1 (tkC spareT none 0) rfl rfl (World.news_of_block (heap_al wr (tkO spareT none 0))) (tkC_one spareT _ _) (by decide) (by simp only[maxLen];omega) (by omega) (by simp;omega) _ rfl ?_);intro gn capn w6 hO6 hgr6 hat6 hlt6;have hcap:=own_cap hO6 (by omega);have hci:(f.toks.length:Int)<=capn:=(by omega);replace hO6:=Hid.mk hO6;replace hgr6:=Hid.mk hgr6;replace hat6:=Hid.mk hat6;go_must (have hB6:Hid (Below W0.heap.size W0 w6):=⟨hB.trans (((bel1 wr (tkO spareT none 0)).mono hsz).trans ((Below.refl _ _).grown hgr6.out (by simp;omega) (own_ge hO)))⟩;have H36:=(hB6.out.block (w.heap.size+1+1) (by omega)).trans H3.out;have H26:=(hB6.out.block (w.heap.size+1) (by omega)).trans H2.out;have m12:=(fm_of H36).c12;have mf:=froz H36 12;have H37:=fmO_set (q:=some ⟨gn,0,none⟩) (d:=capn) H36;have lF:Hid _:=⟨(fm_of H37).load⟩;have H27:=(heap_setCell_other w6 ⟨w.heap.size+1+1,12,none⟩ (w.heap.size+1) (.slice (some ⟨gn,0,none⟩) f.toks.length capn) (by simp)).trans H26;have t27:(w6.setCell ⟨w.heap.size+1+1,12,none⟩ (.slice (some ⟨gn,0,none⟩) f.toks.length capn)).there (w.heap.size+1) 0 13:=there_of H27;have sF:Hid _:=⟨run_storeAt_mid (P:=Tryz.prog) (w6.setCell ⟨w.heap.size+1+1,12,none⟩ (.slice (some ⟨gn,0,none⟩) f.toks.length capn)) (w.heap.size+1) 0 30 (fmC f (some ⟨gn,0,none⟩) capn) t27 infoFm (all_oneCell_toArray (fmC_one f _ _))⟩;replace t27:=Hid.mk t27;clear H37 H27 H36 H26)))
   rw[List.take_length] at hps
   have hpl:ps.length=f.toks.length:=by rw[<- hps,List.length_map]
   have hsame:∀ k,W0.heap.size<=k->((w6.setCell ⟨w.heap.size+1+1,12,none⟩ (.slice (some ⟨gn,0,none⟩) f.toks.length capn)).setCells (w.heap.size+1) 0 (fmC f (some ⟨gn,0,none⟩) capn).toList).heap[k]?=w6.heap[k]?:=fun k hk =>
    (sets_other (by omega) _ 0 _).trans (heap_setCell_other w6 _ k _ (fun e=>by have e:k=w.heap.size+1+1:=e;omega))
   have hcop:Cop ((w6.setCell ⟨w.heap.size+1+1,12,none⟩ (.slice (some ⟨gn,0,none⟩) f.toks.length capn)).setCells (w.heap.size+1) 0 (fmC f (some ⟨gn,0,none⟩) capn).toList) w.heap.size gn capn ps:=by
    have hgn:=own_ge hO6.out gn rfl
    refine⟨?_,fun y hy=>?_,hD⟩
    ·rw[hpl]
     exact own_kept (own_base hO6.out (fun j hj=>by simp[Value.ownBlock] at hj;omega)) (fun j hj=>hsame j (by simp[Value.ownBlock] at hj;omega))
    ·have h0:=hG y hy
     have hyl:=h0.1.lt
     have h1:=(h0.1.below (bel1 wr (tkO spareT none 0))).kept hgr6.out h0.2
     refine⟨own_kept (own_base h1 (fun j hj=>by simp[Value.ownBlock] at hj;omega)) (fun j hj=>hsame j (by simp[Value.ownBlock] at hj;omega)),?_⟩
     rcases hat6.out with e|e
     ·intro e2;exact h0.2 (by rw[e2,<- e])
     ·rw[e];simp;omega
   have hend:Below w.heap.size w ((w6.setCell ⟨w.heap.size+1+1,12,none⟩ (.slice (some ⟨gn,0,none⟩) f.toks.length capn)).setCells (w.heap.size+1) 0 (fmC f (some ⟨gn,0,none⟩) capn).toList):=bel_sets (by omega) _ 0 _ ((HB.trans (hB6.out.mono HB.size)).setCell (p:=⟨w.heap.size+1+1,12,none⟩) (by show w.heap.size<=w.heap.size+1+1;omega) _)
   obtain⟨d,hu,hd⟩:=undFm
   have hres:=run_loadVar_mid (P:=Tryz.prog) _ (w.heap.size+1) 0 30 (fmC f (some ⟨gn,0,none⟩) capn).toList d (World.rangeAt_setCells_same (w6.setCell ⟨w.heap.size+1+1,12,none⟩ (.slice (some ⟨gn,0,none⟩) f.toks.length capn)) (w.heap.size+1) 0 (fmC f (some ⟨gn,0,none⟩) capn).toList t27.out) hu hd infoFm
   exact bodyPost_ret (results_cell_v rfl _ _ (w.heap.size+1) _ rfl hres) rfl ⟨gn,capn,rfl,ps,hps,hcop,hend⟩
end J
end Go.Proofs.YtkcjdncchoohoaaGreatDoor
