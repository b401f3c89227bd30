import Derived.Test.YtjlbcdnkglaheaaGreatDoorK33
import Derived.RangeFuncNested
import Derived.LoopIn
import Derived.LoopNIn
import Derived.TacticsInMore
namespace Go.Proofs.YtjlbcdnkglaheaaGreatDoor
set_option maxRecDepth 1000000
set_option maxHeartbeats 16000000
open Go.ChangeShapes Go.WideShapes Go.ChangeAt Go.RowKit Go.Shelf Go.Maps
theorem At_cell {W:World} {cu:Nat} {en:Int} (h:W.cell? ⟨cu,2,none⟩=some (.int .i64 en)):Calls Tryz.prog 25 #[pV cu] W fun r w'=>r = .returned (.int .i64 en)/\w'=W:=by
 go_enter Tryz.func25,Tryz.ntmps25
 go_wp2_with fail
 go_ret
 exact⟨rfl,rfl⟩
theorem End_any {W:World} {e cu:Nat} {en:Int} (h1:W.cell? ⟨e,1,none⟩=some (pV cu)) (h:W.cell? ⟨cu,2,none⟩=some (.int .i64 en)):Calls Tryz.prog 7 #[pV e] W fun r w'=>r = .returned (.int .i64 en)/\w'=W:=by
 have cA:=At_cell h
 go_enter Tryz.func7,Tryz.ntmps7
 go_wp2_with (go_at_call 25;refine cA.mono ?_;clear cA;rintro _ w1 ⟨rfl,e1⟩;replace e1:=e1.symm;subst e1)
 go_ret
 exact⟨rfl,rfl⟩
theorem Done_no {W:World} {e:Nat} (h1:W.cell? ⟨e,22,none⟩=some (.bool false)):Calls Tryz.prog 8 #[pV e] W fun r w'=>r = .returned (.bool false)/\w'=W:=by
 go_enter Tryz.func8,Tryz.ntmps8
 go_wp2_with fail
 go_ret
 exact⟨rfl,rfl⟩
theorem Done_yes {f:Fm} {lo hi ma:Nat} {s:Ms} {U:Nat->Prop} {W:World} {e:Nat} (hm:Mk f lo hi W ma s U) (h0:W.cell? ⟨e,0,none⟩=some (pV ma)) (h1:W.cell? ⟨e,22,none⟩=some (.bool true)):Calls Tryz.prog 8 #[pV e] W fun r w'=>r = .returned (.bool (doneB f.toks s))/\Below W.heap.size W w':=by
 have cD:=Done_mk hm
 clear hm
 go_enter Tryz.func8,Tryz.ntmps8
 go_wp2_with (go_at_call 26;refine cD.mono ?_;clear cD;rintro _ w1 ⟨rfl,e1⟩;replace e1:=Hid.mk e1)
 go_ret
 exact⟨rfl,e1.out⟩
def nxtZ (len en:Nat) (bl:Int) (t:Tk):Int×Nat×Int:=if C.clE len en t.blk=0 then (0,C.clN len en t.blk,en) else (C.clE len en t.blk,en,bl)
theorem ent_cl:∀ ag w,(callFunc 24 ag).run Tryz.prog w = .ok (.enter 24 ag) w:=enters_of Tryz.func24 (by kernel_rfl) rfl
theorem enext_any {f:Fm} {n:Pn} {S0 S1 pa pm e ma cu:Nat} {s:Ms} {U:Nat->Prop} {g len cap st en:Nat} {hi:Bool} {fb:Nat->Int} {wt bl:Int} {W:World} (hE:En f n S0 S1 pa pm e ma cu s U g len cap st en hi fb wt bl W) (hl:f.toks.length<=733007751850) (c:Cl) (t:Tk) (ht:f.toks[insZ s]?=some t) (ho:t.op=0\/t.op=4) :
  Calls Tryz.prog 18 #[pV e,caV c] W fun r w'=>r = .returned (.int .i64 (nxtZ len en bl t).1)/\En f n S0 S1 pa pm e ma cu s U g len cap st (nxtZ len en bl t).2.1 hi fb wt (nxtZ len en bl t).2.2 w'/\Frm (Wr e cu g U) W w':=by
 obtain⟨W1,hW1⟩:∃ W1,W1=W.alloc (caO c):=⟨_,rfl⟩
 have b1:Below W.heap.size W W1:=by rw[hW1];exact nbel _ _
 have E1:=hE.below b1
 obtain⟨gb,hg1,hg2,hg3⟩:∃ gb,gb<S1/\(∃ m,W1.heap[gb]?=some (.cells #[.int .i64 t.blk,.int .i64 t.full,.map (some m)] 70))/\∀ V,Below W1.heap.size W1 V->(Instr.lookup 56 (.map (some pm)) (.int .i64 (insZ s:Int)) false).run Tryz.prog V = .ok (pV gb) V:=by
  obtain⟨h1,h2,j,hs,h3,h4,h5⟩:=E1.ev.pl
  have hil:=(List.getElem?_eq_some_iff.1 ht).1
  obtain⟨gb,e1,e2⟩:=h5 _ t hil ht ho
  obtain⟨b1',b2,m,j2,hs2,b3,_⟩:=e2
  refine⟨gb,b2,⟨m,b3⟩,fun V hb=>?_⟩
  have:=(h4.same (hb.block pm (by have:=E1.size;omega))).look lawI Tryz.underlying56 (zeroEb V) (keyI (insZ s) (by omega))
  rw[e1] at this
  exact this
 obtain⟨m,hg2⟩:=hg2
 have cH:Hid (∀ V,Below W1.heap.size W1 V->Calls Tryz.prog 33 #[pV e] V fun r w'=>∃ x,r = .returned x/\(x=pV gb/\Below V.heap.size V w')):=⟨fun V hb=>by
  have EV:=E1.below hb
  obtain⟨lo,hi',h1,h2,h3⟩:=EV.mc
  exact(here_eq EV.eo h1 fun V2 hb2=>hg3 V2 (hb.trans (hb2.mono hb.size))).mono fun r w' h=>⟨_,h.1,rfl,h.2⟩⟩
 have hS:=E1.size
 have hn:=E1.ne
 have hel:=(Array.getElem?_eq_some_iff.1 E1.eo).1
 obtain⟨p,pb,pN,x1,x0⟩:∃ p:World->Prop,(∀ V,p V↔(V.heap[e]?=W1.heap[e]?/\V.heap[gb]?=W1.heap[gb]?))/\Nonempty (CW p)/\(∀ θ:CW p,θ.w.cell? ⟨e,1,none⟩=some (pV cu))/\(∀ θ:CW p,θ.w.cell? ⟨gb,0,none⟩=some (.int .i64 t.blk)) :=
  ⟨fun V=>V.heap[e]?=W1.heap[e]?/\V.heap[gb]?=W1.heap[gb]?,fun _=>Iff.rfl,⟨⟨W1,rfl,rfl⟩⟩,fun θ=>cell_at (θ.h.1.trans E1.eo) 1,fun θ=>cell_at (θ.h.2.trans hg2) 0⟩
 replace pb:=Hid.mk pb
 have nE:Hid ((e≠cu/\e≠g/\e<W1.heap.size)/\(gb≠cu/\gb≠g/\gb<W1.heap.size)):=⟨by omega⟩
 have cC:Hid (∀ V,Below W1.heap.size W1 V->Calls Tryz.prog 24 #[pV cu,.int .i64 t.blk] V fun r w'=>∃ x,r = .returned x/\(x = .tuple #[.int .i64 (C.clP len en t.blk),.int .i64 (C.clE len en t.blk)]/\En f n S0 S1 pa pm e ma cu s U g len cap st (C.clN len en t.blk) hi fb wt bl w'/\C.Cb cu 0 g V w'/\Frm (Wr e cu g U) W w')):=⟨fun V hb=>by
  have EV:=E1.below hb
  refine(C.Claim_any EV.cs t.blk).mono fun r w' h=>⟨_,h.1,rfl,EV.cur h.2.2 h.2.1,h.2.2,(Frm.of_below (b1.trans (hb.mono b1.size))).trans (frm_cb h.2.2 (.inr (.inl rfl)) (.inr (.inr (.inl rfl))))⟩⟩
 have hd:Hid (Below W1.heap.size W1 W1.drew):=⟨(Below.refl _ _).drew⟩
 obtain⟨CP,hCP⟩:∃ x,Hid (x=C.clP len en t.blk):=⟨_,⟨rfl⟩⟩
 obtain⟨CE,hCE⟩:∃ x,Hid (x=C.clE len en t.blk):=⟨_,⟨rfl⟩⟩
 rw[<- hCP.out,<- hCE.out] at cC
 clear hE b1 E1 ht ho hg1 hg2 hg3 hS hn hel
 go_enter Tryz.func18,Tryz.ntmps18
 go_upto_region 1 with fail
 rw[<- hW1]
 clear hW1
 have p0:p W1.drew:=(pb.out _).2 ⟨rfl,rfl⟩
 refine wp_region_ly (fun V=>∃ θ:CW p,V=θ.w) (by kernel_rfl) (by kernel_rfl) (fun _ _ d _ _ h=>by cases d<;>exact h) ⟨⟨_,p0⟩,rfl⟩ ?_
 generalize W1.drew=V at hd p0 ⊢
 repeat (first|(guard_target =~ Ly _ _ _ _ (Oper.mk _ (Op.call { callee:=.value _,args:=_,argTypes:=_ }) _ _ _ _::_) _ _;fail)|(refine ly_one rfl ?_;(first|go_big_quiet_skip|(go_big_quiet_want;go_big_quiet_op;go_big_quiet_on));refine wpQuiet_nil ?_))
 refine ly_call1 ent_here (cH.out V hd.out) rfl (by rfl) ?_
 rintro _ V2 ⟨rfl,b2⟩
 have hd2:=hd.out.trans (b2.mono hd.out.size)
 have q2:p V2:=(pb.out _).2 ⟨(hd2.block _ nE.out.1.2.2),(hd2.block _ nE.out.2.2.2)⟩
 refine⟨_,fun _ h=>h,⟨⟨_,q2⟩,rfl⟩,?_⟩
 simp only[pts]
 replace b2:=Hid.mk b2
 replace hd2:=Hid.mk hd2
 repeat (first|(guard_target =~ Ly _ _ _ _ (Oper.mk _ (Op.call { callee:=.value _,args:=_,argTypes:=_ }) _ _ _ _::_) _ _;fail)|(refine ly_one rfl ?_;(first|go_big_quiet_skip|(go_big_quiet_want;go_big_quiet_op;go_big_quiet_on));refine wpQuiet_nil ?_))
 refine ly_call2 ent_cl (cC.out V2 hd2.out) rfl rfl (by rfl) ?_
 rintro _ V3 ⟨rfl,h1,h2,h3⟩
 have hs2:=hd2.out.size
 have q3:p V3:=(pb.out _).2 ⟨(h2.block _ (by have:=nE.out.1.2.2;omega) nE.out.1.1 nE.out.1.2.1).trans ((pb.out _).1 q2).1,(h2.block _ (by have:=nE.out.2.2.2;omega) nE.out.2.1 nE.out.2.2.1).trans ((pb.out _).1 q2).2⟩
 refine⟨_,fun _ h=>h,⟨⟨_,q3⟩,rfl⟩,?_⟩
 simp only[pts]
 replace h1:=Hid.mk h1
 replace h3:=Hid.mk h3
 clear h2 hs2 q3 q2 hd2 b2 cC cH
 repeat (first|(guard_target =~ Ly _ _ _ _ (Oper.mk _ (Op.call { callee:=.value _,args:=_,argTypes:=_ }) _ _ _ _::_) _ _;fail)|(refine ly_one rfl ?_;(first|go_big_quiet_skip|(go_big_quiet_want;go_big_quiet_op;go_big_quiet_on));refine wpQuiet_nil ?_))
 refine ly_done ?_
 clear pb pN x1 x0 nE p0 hd
 by_cases hE0:CE=0
 ·have hz:Hid (nxtZ len en bl t=(0,C.clN len en t.blk,CP)):=⟨by
   unfold nxtZ
   rw[if_pos (hCE.out▸hE0),hCP.out]
   unfold C.clP
   rw[if_pos (hCE.out▸hE0)]⟩
  have b0:(CE != 0)=false:=by simp[hE0]
  have c24:V3.cell? ⟨e,24,none⟩=some (.int .i64 bl):=cell_at h1.out.eo 24
  have f24:V3.frozen? ⟨e,24,none⟩=false:=efrz h1.out.eo
  clear hE0 hCE hCP
  go_wp2_with fail
  go_ret
  rw[hz.out]
  exact⟨rfl,h1.out.setB CP,h3.out.trans ⟨rfl,rfl,rfl,by simp,fun k _ hk=>eset_off (fun e'=>hk (.inl e'))⟩⟩
 ·have hz:Hid (nxtZ len en bl t=(CE,en,bl)):=⟨by unfold nxtZ;rw[<- hCE.out,if_neg hE0]⟩
  have b0:(CE != 0)=true:=by simp[hE0]
  have hN:Hid (C.clN len en t.blk=en):=⟨by unfold C.clN;rw[<- hCE.out,if_neg hE0]⟩
  rw[hN.out] at h1
  clear hE0 hCE hCP
  go_wp2_with fail
  go_ret
  rw[hz.out]
  exact⟨rfl,h1.out,h3.out⟩
structure Kps (V:Nat->Prop) (W W':World):Prop where
 size:W.heap.size<=W'.heap.size
 same:∀ k o,W.heap[k]?=some o->o.isCells=true->¬ V k->W'.heap[k]?=some o
theorem Kps.refl (V:Nat->Prop) (W:World):Kps V W W:=⟨Nat.le_refl _,fun _ _ h _ _=>h⟩
theorem Kps.trans {V:Nat->Prop} {A B C:World} (h:Kps V A B) (k:Kps V B C):Kps V A C:=⟨Nat.le_trans h.size k.size,fun x o e c n=>k.same x o (h.same x o e c n) c n⟩
theorem Kps.of {V:Nat->Prop} {A B:World} (h:Below A.heap.size A B):Kps V A B:=⟨h.size,fun k _ e _ _=>(h.block k (Array.getElem?_eq_some_iff.1 e).1).trans e⟩
theorem Kps.put {V:Nat->Prop} {W:World} {l:Nat} {o o':Obj} (h:W.heap[l]?=some o) (hc:o.isCells=false):Kps V W (W.putObj l o') :=
 ⟨by simp[World.putObj],fun k u e c _=>(World.putObj_heap_other (fun e'=>by subst e';rw[h] at e;cases e;rw[hc] at c;cases c)).trans e⟩
theorem Kps.cell {V:Nat->Prop} {W W':World} (h:Kps V W W') {a:Addr} {v:Value} (hc:W.cell? a=some v) (hV:¬ V a.block):W'.cell? a=some v:=by
 obtain⟨o,h1,h2⟩:=cells_of_cell hc
 have h3:=h.same _ _ h1 h2 hV
 simp only[World.cell?,h1] at hc
 simp only[World.cell?,h3]
 exact hc
theorem blw_put {n:Nat} {W:World} {l:Nat} {o:Obj} (o':Obj) (hn:n<=l) (_:W.heap[l]?=some o):Below n W (W.putObj l o') :=
 (Below.refl n W).trans ⟨rfl,rfl,rfl,by simp[World.putObj],fun k hk=>World.putObj_heap_other (by omega)⟩
def wPost {α:Type} (B:Nat) (V:Nat->Prop) (I:List α->World->Prop) (Ix:Code->List α->World->Prop) (xs:List α) (W:World):Exit->Act->World->Prop
 | .normal,_,W'=>KeepsFrom B W W'/\Kps V W W'/\I xs W'
 | .ret,_,W'=>KeepsFrom B W W'/\Ix .ret xs W'
 | .exit id,_,W'=>KeepsFrom B W W'/\Ix (.exit id) xs W'
 | .goto t,_,W'=>KeepsFrom B W W'/\Ix (.goto t) xs W'
 | .panic _,_,_=>False
 | .outgrown,_,_=>False
def SeqW {α:Type} (n gf:Nat) (lb:Array Value) (encs:α->Array Value) (V:Nat->Prop) (xs:List α) (W0:World):Prop :=
 ∀ (l:Nat) (J Jx:List α->World->Prop),(∀ pre W W',J pre W->Below W0.heap.size W W'->J pre W') ->
  (∀ (m:Nat) pre x W,J pre W->(pre++[x]) <+: xs->YieldAt Fence.wide m Tryz.prog l (encs x) W fun e W'=>(e = .returned (.bool true)/\J (pre++[x]) W'/\Kps V W W')\/(e = .returned (.bool false)/\Jx (pre++[x]) W')) ->
  J [] W0 ->
  CallsIn Fence.wide n Tryz.prog gf (#[.func (.yield l) #[] #[]]++lb) W0 fun e W'=>(∃ v,e = .returned v)/\(J xs W'\/∃ pre,pre <+: xs/\Jx pre W')
theorem rangeW {α:Type} {g:Operand} {ps:Array Tmp} {assign body:Code} {Q:Exit->Act->World->Prop} {a:Act} {w:World} {n:Nat} {gf:Nat} {lb:Array Value}
  (hg:a.eval g = .func (.func gf) #[] lb) (eg:∀ args w,(callFunc gf args).run Tryz.prog w = .ok (.enter gf args) w) {V:Nat->Prop}
  {encs:α->Array Value} {xs:List α} (hps:∀ x,(encs x).size=ps.size)
  (hseq:∀ fn tmps,SeqW (n-1) gf lb encs V xs ((w.alloc (.deferred (some []))).alloc (.loop { state:=.ready,pending:=none,fn,tmps,params:=ps,assign,body,defers:=w.heap.size })))
  (I:List α->World->Prop) (Ix:Code->List α->World->Prop) (hI:∀ pre W W',I pre W->Below w.heap.size W W'->I pre W') (hIx:∀ c pre W W',Ix c pre W->Below w.heap.size W W'->Ix c pre W')
  (h0:I [] w) (Ax:α->Act->World->Prop) (hAx:∀ x a' W W',Ax x a' W->Kps V W W'->Ax x a' W')
  (hassign:∀ (m l:Nat) (pre:List α) (x:α) (W:World) (K:Act->World->Prop),I pre W->w.heap.size+1<W.heap.size->(∀ a' W',KeepsFrom w.heap.size W W'->Kps V W W'->I pre W'->Ax x a' W'->K a' W') ->
   assign.wpIn (Fence.wide.inRound l) m Tryz.prog (Exit.then K (fun _ _ _=>False)) { tmps:=(ps.zip (encs x)).foldl (fun t (p,v)=>t.setIfInBounds p v) a.tmps,defers:=[] } W)
  (hbody:∀ (m l:Nat) (pre:List α) (x:α) (a':Act) (W:World),w.heap.size<=l->w.heap.size+1<W.heap.size->(∃ r,W.heap[l]?=some (.loop r))->(pre++[x]) <+: xs->I pre W->Ax x a' W ->
   body.wpIn (Fence.wide.inRound l) m Tryz.prog (wPost w.heap.size V I Ix (pre++[x]) W) a' W)
  (hdone:∀ (D:Nat) (W:World),w.heap.size<=D->I xs W->W.heap[D]?=some (.deferred (some []))->Q .normal { a with defers:={ target:=.collected D,args:=#[] }::a.defers } W)
  (hstop:∀ (D:Nat) (c:Code) (pre:List α) (W:World),w.heap.size<=D->pre <+: xs->Ix c pre W->W.heap[D]?=some (.deferred (some []))->c.wpIn Fence.wide n Tryz.prog Q { a with defers:={ target:=.collected D,args:=#[] }::a.defers } W) :
  (Code.rangeFunc g ps assign body).wpIn Fence.wide n Tryz.prog Q a w:=by
 refine wpIn_rangeFunc ?_
 intro fn hfn
 rw[show Fence.wide.round=none from rfl]
 obtain⟨rec,hrec⟩:∃ rec:LoopState->Option Code->Loop,rec=fun st pe=>{ state:=st,pending:=pe,fn,tmps:=a.tmps,params:=ps,assign,body,defers:=w.heap.size }:=⟨_,rfl⟩
 obtain⟨W1,hW1⟩:∃ W1,(w.alloc (.deferred (some []))).alloc (.loop (rec .ready none))=W1:=⟨_,rfl⟩
 have hseq':=hseq fn a.tmps
 rw[show (Loop.mk .ready none fn a.tmps ps assign body w.heap.size)=rec .ready none by rw[hrec],hW1] at hseq'
 have hL1:W1.heap[w.heap.size+1]?=some (.loop (rec .ready none)):=by
  rw[<- hW1];have:=World.alloc_heap_new (w.alloc (.deferred (some []))) (.loop (rec .ready none));rwa [World.size_alloc] at this
 have hK1:W1.heap[w.heap.size]?=some (.deferred (some [])):=by
  rw[<- hW1];exact(Below.heap_alloc _ _ _ (by simp)).trans (World.alloc_heap_new w _)
 have hS1:W1.heap.size=w.heap.size+2:=by rw[<- hW1];simp
 have hI1:I [] W1:=by rw[<- hW1];exact hI _ _ _ h0 (((Below.refl _ _).alloc (Nat.le_refl _) _).alloc (by simp) _)
 refine⟨w.heap.size+1,[{ target:=.collected w.heap.size,args:=#[] }],W1,{ target:=.fn (.func gf) lb,args:=#[.func (.yield (w.heap.size+1)) #[] #[]] },W1,gf,
  #[.func (.yield (w.heap.size+1)) #[] #[]]++lb,W1,?_,?_,?_,?_,fun h=>absurd h (by decide),?_⟩
 ·rw[<- hW1,hrec];exact run_enterLoop_outer _ _ _ _ _
 ·simp only[resolve,hg]
  simp[go_sem]
 ·intro f' hf';trivial
 ·simp[invoke,go_sem,eg]
 ·refine(hseq' (w.heap.size+1)
   (fun pre W=>I pre W/\W.heap[w.heap.size+1]?=some (.loop (rec .ready none))/\W.heap[w.heap.size]?=some (.deferred (some [])))
   (fun pre W=>∃ c,Ix c pre W/\W.heap[w.heap.size+1]?=some (.loop (rec .done (some c)))/\W.heap[w.heap.size]?=some (.deferred (some [])))
   (fun pre W W' hs hb=>⟨hI _ _ _ hs.1 (hb.mono (by omega)),(hb.block _ (by omega)).trans hs.2.1,(hb.block _ (by omega)).trans hs.2.2⟩)
   ?_ ⟨hI1,hL1,hK1⟩).mono ?_
  ·rintro m pre x W ⟨hi,hl,hk⟩ hpx
   have hlt:w.heap.size+1<W.heap.size:=(Array.getElem?_eq_some_iff.1 hl).1
   have hy:=run_yield (P:=Tryz.prog) (args:=encs x) hl (by rw[hrec];exact hps x)
   rw[hrec] at hy
   refine⟨fn,_,assign,body,hy,roundIn_of_wpIn hfn (hassign _ _ pre x W _ hi hlt ?_)⟩
   clear hy
   intro a' Wa kfa hka hia hax
   have hl0:Wa.heap[w.heap.size+1]?=some (.loop (rec .ready none)):=kfa.same _ _ (by omega) hl rfl
   have hk0:Wa.heap[w.heap.size]?=some (.deferred (some [])):=kfa.same _ _ (Nat.le_refl _) hk rfl
   have hlta:w.heap.size+1<Wa.heap.size:=(Array.getElem?_eq_some_iff.1 hl0).1
   refine⟨_,run_beginRound hl0 (by rw[hrec]),?_⟩
   have hl2:(Wa.putObj (w.heap.size+1) (.loop { rec .ready none with state:=.busy })).heap[w.heap.size+1]?=some (.loop { rec .ready none with state:=.busy }):=World.putObj_heap_same hlta
   have hk2:(Wa.putObj (w.heap.size+1) (.loop { rec .ready none with state:=.busy })).heap[w.heap.size]?=some (.deferred (some [])):=(World.putObj_heap_other (by omega)).trans hk0
   have hw2:Kps V Wa (Wa.putObj (w.heap.size+1) (.loop { rec .ready none with state:=.busy })):=Kps.put hl0 rfl
   refine wpIn_mono (hbody _ _ pre x a' _ (by omega) (by simp[World.putObj];omega) ⟨_,hl2⟩ hpx (hI _ _ _ hia (blw_put _ (by omega) hl0)) (hAx _ _ _ _ hax hw2)) ?_
   have fin:∀ (jump:Option Code) (W3:World),KeepsFrom w.heap.size (Wa.putObj (w.heap.size+1) (.loop { rec .ready none with state:=.busy })) W3 ->
     (Instr.endRound (w.heap.size+1) jump).run Tryz.prog W3 = .ok (.bool jump.isNone) (W3.putObj (w.heap.size+1) (.loop (rec (if jump.isNone then .ready else .done) jump))) /\
     W3.heap[w.heap.size+1]?=some (.loop { rec .ready none with state:=.busy }) /\
     (W3.putObj (w.heap.size+1) (.loop (rec (if jump.isNone then .ready else .done) jump))).heap[w.heap.size+1]?=some (.loop (rec (if jump.isNone then .ready else .done) jump)) /\
     (W3.putObj (w.heap.size+1) (.loop (rec (if jump.isNone then .ready else .done) jump))).heap[w.heap.size]?=some (.deferred (some [])):=fun jump W3 hk3=>by
    have hl3:=hk3.same _ _ (by omega) hl2 rfl
    have:=run_endRound (P:=Tryz.prog) jump hl3
    rw[hrec] at this ⊢
    exact⟨this,by rw[hrec] at hl3;exact hl3,World.putObj_heap_same (Array.getElem?_eq_some_iff.1 hl3).1,(World.putObj_heap_other (by omega)).trans (hk3.same _ _ (Nat.le_refl _) hk2 rfl)⟩
   rintro e a3 W3 hp
   cases e with
   | normal =>
    obtain⟨hk3,hkp3,hi3⟩:=hp
    obtain⟨hr,hl3,hl4,hk4⟩:=fin none W3 hk3
    exact⟨_,_,hr,.inl ⟨rfl,⟨hI _ _ _ hi3 (blw_put _ (by omega) hl3),hl4,hk4⟩,((hka.trans hw2).trans hkp3).trans (Kps.put hl3 rfl)⟩⟩
   | ret =>
    obtain⟨hk3,hi3⟩:=hp
    obtain⟨hr,hl3,hl4,hk4⟩:=fin (some .ret) W3 hk3
    exact⟨_,_,hr,.inr ⟨rfl,.ret,hIx _ _ _ _ hi3 (blw_put _ (by omega) hl3),hl4,hk4⟩⟩
   | exit id =>
    obtain⟨hk3,hi3⟩:=hp
    obtain⟨hr,hl3,hl4,hk4⟩:=fin (some (.exit id)) W3 hk3
    exact⟨_,_,hr,.inr ⟨rfl,.exit id,hIx _ _ _ _ hi3 (blw_put _ (by omega) hl3),hl4,hk4⟩⟩
   | goto t =>
    obtain⟨hk3,hi3⟩:=hp
    obtain⟨hr,hl3,hl4,hk4⟩:=fin (some (.goto t)) W3 hk3
    exact⟨_,_,hr,.inr ⟨rfl,.goto t,hIx _ _ _ _ hi3 (blw_put _ (by omega) hl3),hl4,hk4⟩⟩
   | panic chn=>exact hp.elim
   | outgrown=>exact hp.elim
  ·rintro e W2 ⟨⟨v,rfl⟩,(⟨hi,hl,hk⟩|⟨pre,hSp,c,hi,hl,hk⟩)⟩
   ·exact⟨none,_,by have:=run_endLoop (P:=Tryz.prog) hl (by rw[hrec];simp);rw[hrec] at this;exact this,hdone _ _ (Nat.le_refl _) (hI _ _ _ hi (blw_put _ (by omega) hl)) ((World.putObj_heap_other (by omega)).trans hk)⟩
   ·exact⟨some c,_,by have:=run_endLoop (P:=Tryz.prog) hl (by rw[hrec];simp);rw[hrec] at this;exact this,hstop _ c pre _ (Nat.le_refl _) hSp (hIx _ _ _ _ hi (blw_put _ (by omega) hl)) ((World.putObj_heap_other (by omega)).trans hk)⟩
attribute [local go_sem] Oper.semAt_some
structure SpW where
 p:Int
 o:Int
 x:Int
def spwE (s:SpW):Array Value:=#[.agg #[.int .i64 s.p,.int .i64 s.o],.int .u64 s.x]
def spwL (p:Int):Int->List Int->List SpW
 | _,[]=>[]
 | o,x::r=>⟨p,o,x⟩::spwL p (wrap64 (o+sz p)) r
def wnL:List Lf->Nat
 | []=>0
 | x::r=>x.n.toNat+wnL r
def spwA:List Lf->List Int->List SpW
 | [],_=>[]
 | x::r,ws=>spwL x.p x.o (ws.take x.n.toNat)++spwA r (ws.drop x.n.toNat)
structure Rds (V:Nat->Prop) (b Bw Bp:Nat) (pa:Option Addr) (cpa:Nat) (ls:List Lf) (q:Option Addr) (cap:Nat) (ws:List Int) (W:World):Prop where
 nv:¬ V b/\¬ V Bw/\¬ V Bp/\¬ V 0
 lv:W.cell? ⟨b,21,none⟩=some (.slice pa ls.length cpa)
 lf:∀ (i:Nat) (x:Lf),ls[i]?=some x->∃ g,pa=some ⟨g,0,none⟩/\¬ V g/\W.cell? ⟨g,i*3,none⟩=some (.int .i64 x.p)/\W.cell? ⟨g,i*3+1,none⟩=some (.int .i64 x.o)/\W.cell? ⟨g,i*3+2,none⟩=some (.int .i64 x.n)
 bw:W.cell? ⟨Bw,0,none⟩=some (.slice q ws.length cap)
 bp:W.cell? ⟨Bp,0,none⟩=some (pV b)
 wr:∀ (j:Nat) (x:Int),ws[j]?=some x->∃ g o,q=some ⟨g,o,none⟩/\¬ V g/\W.cell? ⟨g,o+j,none⟩=some (.int .u64 x)
 kt:KT W
theorem KT.kps {V:Nat->Prop} {W W':World} (h:KT W) (hk:Kps V W W') (hV:¬ V 0):KT W':=by
 obtain⟨o,h1,h2⟩:=cells_of_cell (h.size 0 (by omega))
 exact h.same hk.size ((hk.same _ _ h1 h2 hV).trans h1.symm)
theorem Rds.kps {V:Nat->Prop} {b Bw Bp:Nat} {pa:Option Addr} {cpa:Nat} {ls:List Lf} {q:Option Addr} {cap:Nat} {ws:List Int} {W W':World} (h:Rds V b Bw Bp pa cpa ls q cap ws W) (hk:Kps V W W'):Rds V b Bw Bp pa cpa ls q cap ws W':=by
 refine⟨h.nv,hk.cell h.lv h.nv.1,fun i x hx=>?_,hk.cell h.bw h.nv.2.1,hk.cell h.bp h.nv.2.2.1,fun j x hx=>?_,h.kt.kps hk h.nv.2.2.2⟩
 ·obtain⟨g,e,n,c1,c2,c3⟩:=h.lf i x hx
  exact⟨g,e,n,hk.cell c1 n,hk.cell c2 n,hk.cell c3 n⟩
 ·obtain⟨g,o,e,n,c⟩:=h.wr j x hx
  exact⟨g,o,e,n,hk.cell c n⟩
theorem cell_lt {W:World} {a:Addr} {v:Value} (h:W.cell? a=some v):a.block<W.heap.size:=by
 obtain⟨o,h1,_⟩:=cells_of_cell h
 exact(Array.getElem?_eq_some_iff.1 h1).1
theorem Rds.up {V:Nat->Prop} {b Bw Bp:Nat} {pa:Option Addr} {cpa:Nat} {ls:List Lf} {q:Option Addr} {cap:Nat} {ws:List Int} {W:World} (h:Rds V b Bw Bp pa cpa ls q cap ws W):Rds (fun k=>V k\/W.heap.size<=k) b Bw Bp pa cpa ls q cap ws W:=by
 have f:∀ {a:Addr} {v:Value},W.cell? a=some v->¬ V a.block->¬ (V a.block\/W.heap.size<=a.block):=fun hc hn e=>e.elim hn (fun e=>by have:=cell_lt hc;omega)
 refine⟨⟨f h.lv h.nv.1,f h.bw h.nv.2.1,f h.bp h.nv.2.2.1,fun e=>e.elim h.nv.2.2.2 fun e=>by have:=h.kt.pos;omega⟩,h.lv,fun i x hx=>?_,h.bw,h.bp,fun j x hx=>?_,h.kt⟩
 ·obtain⟨g,e,n,c1,c2,c3⟩:=h.lf i x hx
  exact⟨g,e,f c1 n,c1,c2,c3⟩
 ·obtain⟨g,o,e,n,c⟩:=h.wr j x hx
  exact⟨g,o,e,f c n,c⟩
theorem Kps.weak {V V':Nat->Prop} {W W':World} (h:Kps V W W') (hv:∀ k,V k->V' k):Kps V' W W':=⟨h.size,fun k o e c n=>h.same k o e c fun e'=>n (hv k e')⟩
theorem Kps.blw {V:Nat->Prop} {n:Nat} {W W':World} (h:Below n W W') (hv:∀ k,n<=k->V k):Kps V W W':=⟨h.size,fun k _ e _ hn=>(h.block k (Nat.lt_of_not_le fun e'=>hn (hv k e'))).trans e⟩
def QAt (q:Option Addr) (n off:Nat) (qk:Option Addr):Prop:=n<=off\/∀ g o,q=some ⟨g,o,none⟩->qk=some ⟨g,o+off,none⟩
theorem each_any (W:World) (b:Nat) (q:Option Addr) (n cap:Nat):Calls Tryz.prog 34 #[pV b,.slice q n cap] W fun e w'=>e = .returned (.func (.func 58) #[] #[.pointer (some ⟨W.heap.size+1,0,none⟩),.pointer (some ⟨W.heap.size,0,none⟩)])/\w'=(W.alloc (.cells #[pV b] 85)).alloc (.cells #[.slice q n cap] 42):=by
 go_enter Tryz.func34,Tryz.ntmps34
 go_wp2_with fail
 go_ret
 exact⟨by simp,rfl⟩
attribute [local go_sem] Oper.semAt_some
theorem ent_sz:∀ ag w,(callFunc 59 ag).run Tryz.prog w = .ok (.enter 59 ag) w:=enters_of Tryz.func59 (by kernel_rfl) rfl
theorem each_in {V:Nat->Prop} {b Bw Bp:Nat} {pa:Option Addr} {cpa:Nat} {ls:List Lf} {q:Option Addr} {cap:Nat} {ws:List Int} {W0:World} (n:Nat) (h:Rds V b Bw Bp pa cpa ls q cap ws W0) (hV:∀ k,V k->k<W0.heap.size)
  (hcap:ws.length<=cap) (hcm:cap<=1000000000000000) (hn:∀ x∈ls,1<=x.n/\x.n<=65535) (hw:ws.length=wnL ls) (hls:ls.length<=1000000000000) :
  SeqW n 58 #[.pointer (some ⟨Bw,0,none⟩),.pointer (some ⟨Bp,0,none⟩)] spwE V (spwA ls ws) W0:=by
 intro l J Jx hJ hY hJ0
 refine callsIn_of_wp Tryz.func58 rfl trivial ?_ rfl
 simp only[Tryz.ntmps58,List.size_toArray,List.length_cons,List.length_nil,Nat.reduceAdd,Nat.reduceSub,Array.replicate_succ,Array.replicate_zero,List.push_toArray,List.append_toArray,List.nil_append,List.cons_append]
 refine wpIn_wide.2 ?_
 replace hw:=Hid.mk hw
 have hR:Hid (∀ wr,Kps (fun k=>V k\/W0.heap.size<=k) W0 wr->Rds (fun k=>V k\/W0.heap.size<=k) b Bw Bp pa cpa ls q cap ws wr):=⟨fun wr hk=>h.up.kps hk⟩
 have c1:=h.bw
 have c2:=h.bp
 have c3:=h.lv
 replace hY:=Hid.mk hY
 replace hJ:=Hid.mk hJ
 clear h
 go_wp2_with fail
 go_loopw [4,16] (fun r i wr=>∃ (k off:Nat) (qk:Option Addr) (done:List SpW),k<=ls.length/\i = .int .i64 k/\r = .slice qk (ws.length-off) (cap-off)/\Hid (QAt q ws.length off qk/\off+wnL (ls.drop k)=ws.length/\J done wr/\done++spwA (ls.drop k) (ws.drop off)=spwA ls ws/\Kps (fun k=>V k\/W0.heap.size<=k) W0 wr))
  (fun _ i _=>ls.length-(intOf i).toNat)
 case atStart=>exact⟨0,0,q,[],Nat.zero_le _,rfl,rfl,⟨.inr fun g o e=>e,by simpa using hw.out.symm,hJ0,rfl,Kps.refl _ _⟩⟩
 case round =>
  clear hJ0 c1 c2 c3
  obtain⟨k,off,qk,done,hk,rfl,rfl,hI⟩:=hrel
  obtain⟨hQ,hO,hJd,hD,hK⟩:=hI.out
  clear hI
  by_cases hlt:k<ls.length
  ·obtain⟨⟨p,o,nn⟩,hx⟩:∃ x,ls[k]?=some x:=⟨ls[k],List.getElem?_eq_getElem hlt⟩
   have rd:=hR.out wr hK
   have hnx:=hn _ (List.mem_of_getElem? hx)
   obtain⟨m,rfl⟩:∃ m:Nat,nn=(m:Int):=⟨nn.toNat,by simp only at hnx;omega⟩
   obtain⟨g,rfl,hgV,f1,f2,f3⟩:=rd.lf k _ hx
   have hdk:ls.drop k=⟨p,o,(m:Int)⟩::ls.drop (k+1):=by
    rw[List.drop_eq_getElem_cons hlt]
    congr 1
    have:=List.getElem?_eq_getElem hlt
    rw[hx] at this
    exact(Option.some.inj this).symm
   rw[hdk] at hO hD
   have hO':off+(m+wnL (ls.drop (k+1)))=ws.length:=hO
   have hm1:1<=m:=by simp only at hnx;omega
   obtain⟨y,hy⟩:∃ y,ws[off]?=some y:=⟨ws[off],List.getElem?_eq_getElem (by omega)⟩
   obtain⟨gw,ow,rfl,hwV,-⟩:=rd.wr off y hy
   obtain rfl:qk=some ⟨gw,ow+off,none⟩:=hQ.elim (fun h=>absurd h (by omega)) fun h=>h _ _ rfl
   have b0:decide ((k:Int)<(ls.length:Int))=true:=by simp;omega
   have hm2:(m:Int)<=((cap-off:Nat):Int):=by omega
   have hm3:cap-off≠0:=by omega
   have hm4:(0:Int)<=(m:Int):=by omega
   simp only at f1 f2 f3
   replace hK:=Hid.mk hK
   clear hQ hO hy
   replace hO':=Hid.mk hO'
   replace hD:=Hid.mk hD
   replace hJd:=Hid.mk hJd
   replace rd:=Hid.mk rd
   replace hdk:=Hid.mk hdk
   go_wp2_with fail
   have hW0:=hK.out.size
   have B2:Below wr.heap.size wr ((wr.alloc (.cells #[.int .i64 p,.int .i64 o,.int .i64 (m:Int)] 144)).alloc (.cells #[.int .i64 p,.int .i64 o] 25)):=((Below.refl _ _).alloc (Nat.le_refl _) _).alloc (by simp) _
   have hK2:=hK.out.trans (Kps.blw (V:=fun k=>V k\/W0.heap.size<=k) B2 fun k hk=>.inr (by omega))
   have hJ2:=hJ.out _ _ _ hJd.out (B2.mono hW0)
   have hB6:=two_1 wr (.cells #[.int .i64 p,.int .i64 o,.int .i64 (m:Int)] 144) (.cells #[.int .i64 p,.int .i64 o] 25)
   have hB7:=two_2 wr (.cells #[.int .i64 p,.int .i64 o,.int .i64 (m:Int)] 144) (.cells #[.int .i64 p,.int .i64 o] 25)
   generalize (wr.alloc (.cells #[.int .i64 p,.int .i64 o,.int .i64 (m:Int)] 144)).alloc (.cells #[.int .i64 p,.int .i64 o] 25)=W2 at *
   clear B2 hK hJd rd f1 f2 f3
   generalize wr.heap.size=H at *
   clear wr
   go_loopw [27] (fun j wx=>∃ (jn:Nat) (oj:Int) (dn:List SpW),jn<=m/\j = .int .i64 jn/\Hid (J dn wx/\dn++(spwL p oj ((ws.drop (off+jn)).take (m-jn))++spwA (ls.drop (k+1)) (ws.drop (off+m)))=spwA ls ws/\Kps (fun k=>V k\/W0.heap.size<=k) W0 wx/\wx.heap[H]?=some (.cells #[.int .i64 p,.int .i64 o,.int .i64 (m:Int)] 144)/\wx.heap[H+1]?=some (.cells #[.int .i64 p,.int .i64 oj] 25)))
    (fun j _=>m-(intOf j).toNat)
   case atStart=>exact⟨0,o,done,Nat.zero_le _,rfl,⟨hJ2,by rw[<- hD.out,spwA,Int.toNat_natCast,List.drop_drop];rfl,hK2,hB6,hB7⟩⟩
   case round =>
    clear hJ2 hD hK2 hB6 hB7 done W2
    obtain⟨jn,oj,dn,hjm,rfl,hI⟩:=hrel
    obtain⟨hJd,hD,hK,h6,h7⟩:=hI.out
    clear hI
    by_cases hjl:jn<m
    ·have hO2:=hO'.out
     have rd:=hR.out wr hK
     obtain⟨y,hy⟩:∃ y,ws[off+jn]?=some y:=⟨ws[off+jn]'(by omega),List.getElem?_eq_getElem _⟩
     obtain⟨g2,o2,e,hwV2,cw⟩:=rd.wr _ y hy
     cases e
     rw[<- Nat.add_assoc] at cw
     have hsp:(ws.drop (off+jn)).take (m-jn)=y::(ws.drop (off+(jn+1))).take (m-(jn+1)):=by
      have hlt2:off+jn<ws.length:=by omega
      rw[List.drop_eq_getElem_cons hlt2,show m-jn=(m-(jn+1))+1 by omega,List.take_succ_cons]
      rw[List.getElem?_eq_getElem hlt2] at hy
      rw[Option.some.inj hy]
      rfl
     rw[hsp,spwL,List.cons_append,List.append_cons] at hD
     obtain⟨fn,tm,asg,bd,hyr,hRd⟩:=hY.out (n-1) dn ⟨p,oj,y⟩ wr hJd ⟨_,hD⟩
     have b1:decide ((jn:Int)<(m:Int))=true:=by simp;omega
     have c70:=cell_at h7 0
     have c71:=cell_at h7 1
     clear hsp hy rd hO2
     replace hD:=Hid.mk hD
     replace hK:=Hid.mk hK
     go_upto_region 8 with fail
     refine(wpIn_wide (n:=n)).1 ?_
     replace hyr:(Instr.yield l #[.agg #[.int .i64 p,.int .i64 oj],.int .u64 y]).run Tryz.prog wr = .ok (.round l fn tm asg bd) wr:=hyr
     gi_wp2
     refine⟨fun h=>absurd h (by decide),hRd.mono ?_⟩
     clear hRd hyr hJd c70 c71 cw
     rintro e W3 (⟨rfl,hJ3,hk3⟩|⟨rfl,hJx3⟩)
     ·have g6:=hk3.same _ _ h6 rfl fun e=>by have:=hV _ e;omega
      have g7:=hk3.same _ _ h7 rfl fun e=>by have:=hV _ e;omega
      have hK3:=hK.out.trans (hk3.weak fun k e=>.inl e)
      have kt:=(hR.out _ hK3).kt
      replace hK3:=Hid.mk hK3
      clear h6 h7 hk3 hK
      gi_wp2
      go_upto_region 9 with fail
      obtain⟨p9,q9,pN,x0,x1⟩:∃ p9:World->Prop,(∀ V,p9 V↔V.heap[H+1]?=some (.cells #[.int .i64 p,.int .i64 oj] 25))/\Nonempty (CW p9)/\(∀ θ:CW p9,θ.w.cell? ⟨H+1,0,none⟩=some (.int .i64 p))/\(∀ θ:CW p9,θ.w.cell? ⟨H+1,1,none⟩=some (.int .i64 oj)) :=
       ⟨_,fun _=>Iff.rfl,⟨⟨W3,g7⟩⟩,fun θ=>cell_at θ.h 0,fun θ=>cell_at θ.h 1⟩
      have hp:p9 W3.drew:=(q9 _).2 g7
      have hd:Below W3.heap.size W3 W3.drew:=(Below.refl _ _).drew
      have hs3:=(Array.getElem?_eq_some_iff.1 g7).1
      have cS:=fun V (hb:Below W3.heap.size W3 V)=>size_any p V (kt.below kt.pos hb)
      replace q9:=Hid.mk q9
      replace g7:=Hid.mk g7
      refine wp_region_lw 7 (fun V=>∃ θ:CW p9,V=θ.w) (by kernel_rfl) (by kernel_rfl) (fun _ _ d _ _ h=>by cases d<;>exact h) ⟨⟨_,hp⟩,rfl⟩ ?_
      generalize W3.drew=V3 at hp hd ⊢
      repeat (first|(guard_target =~ Lw _ _ _ _ (Oper.mk _ (Op.call _) _ _ _ _::_) _ _;fail)|(guard_target =~ Lw _ _ _ _ (Oper.mk _ (Op.store _ _ _) _ _ _ _::_) _ _;fail)|(refine lw_one rfl ?_;(first|go_big_quiet_skip|(go_big_quiet_want;go_big_quiet_op;go_big_quiet_on));refine wpQuiet_nil ?_))
      refine lw_call1 (R:=fun v w'=>v = .int .i64 (sz p)/\Below V3.heap.size V3 w') ent_sz ((cS V3 hd).mono fun e w' h=>⟨_,h.1,rfl,h.2⟩) rfl (by rfl) ?_
      rintro _ V4 ⟨rfl,b4⟩
      have hd4:=hd.trans (b4.mono hd.size)
      have h74:=(hd4.block _ hs3).trans g7.out
      refine⟨⟨⟨_,(q9.out _).2 h74⟩,rfl⟩,?_⟩
      simp only[pts]
      repeat (first|(guard_target =~ Lw _ _ _ _ (Oper.mk _ (Op.call _) _ _ _ _::_) _ _;fail)|(guard_target =~ Lw _ _ _ _ (Oper.mk _ (Op.store _ _ _) _ _ _ _::_) _ _;fail)|(refine lw_one rfl ?_;(first|go_big_quiet_skip|(go_big_quiet_want;go_big_quiet_op;go_big_quiet_on));refine wpQuiet_nil ?_))
      refine lw_st (st_in (cell_at h74 1) (efrz h74)) rfl rfl (by rfl) ?_
      have h64:=(hd4.block _ (by omega)).trans g6
      have hW3:=hK3.out.size
      have b9:Below W0.heap.size W3 (V4.setCell ⟨H+1,1,none⟩ (.int .i64 (wrap64 (oj+sz p)))):=(hd4.mono hW3).setCell (p:=⟨H+1,1,none⟩) (by show W0.heap.size<=H+1;omega) _
      have J9:=hJ.out _ _ _ hJ3 b9
      have K9:=hK3.out.trans (Kps.blw (V:=fun k=>V k\/W0.heap.size<=k) b9 fun k hk=>.inr hk)
      have g69:(V4.setCell ⟨H+1,1,none⟩ (.int .i64 (wrap64 (oj+sz p)))).heap[H]?=some (.cells #[.int .i64 p,.int .i64 o,.int .i64 (m:Int)] 144):=(eset_off (by omega)).trans h64
      have g79:(V4.setCell ⟨H+1,1,none⟩ (.int .i64 (wrap64 (oj+sz p)))).heap[H+1]?=some (.cells #[.int .i64 p,.int .i64 (wrap64 (oj+sz p))] 25):=(eset_at h74 _).trans rfl
      simp only[pts]
      generalize V4.setCell ⟨H+1,1,none⟩ (.int .i64 (wrap64 (oj+sz p)))=V9 at *
      replace J9:=Hid.mk J9
      replace K9:=Hid.mk K9
      replace g69:=Hid.mk g69
      replace g79:=Hid.mk g79
      clear h64 h74 b9 hd4 b4 hd hp x0 x1 pN q9 p9 cS kt hJ3
      go_wp2_with fail
      go_roundw
      case rel=>exact⟨jn+1,_,_,hjl,by go_num,⟨J9.out,hD.out,K9.out,g69.out,g79.out⟩⟩
      case measure=>simp[RowKit.intOf];omega
     ·gi_wp2
      go_wp2_with fail
      refine bodyPost_ret (results_none rfl _ _ _) rfl ?_
      exact⟨⟨_,rfl⟩,.inr ⟨dn++[⟨p,oj,y⟩],⟨_,hD.out⟩,hJx3⟩⟩
    ·obtain rfl:jn=m:=by omega
     have b1:decide ((jn:Int)<(jn:Int))=false:=by simp
     have hm5:(jn:Int)<=((ws.length-off:Nat):Int):=by have:=hO'.out;omega
     have c60:=cell_at h6 2
     rw[Nat.sub_self,List.take_zero,spwL,List.nil_append] at hD
     have hO3:off+jn+wnL (ls.drop (k+1))=ws.length:=by have:=hO'.out;omega
     replace hO3:=Hid.mk hO3
     replace hD:=Hid.mk hD
     replace hK:=Hid.mk hK
     clear h6 h7
     by_cases hce:cap-off=jn
     ·go_wp2_with fail
      go_roundw
      case rel=>exact⟨k+1,off+jn,some ⟨gw,ow+off,none⟩,dn,by omega,by go_num,by rw[Nat.sub_sub,<- Nat.sub_sub cap];simp[hce],⟨.inl (by omega),hO3.out,hJd,hD.out,hK.out⟩⟩
      case measure=>simp[RowKit.intOf];omega
     ·go_wp2_with fail
      go_roundw
      case rel=>exact⟨k+1,off+jn,some ⟨gw,ow+(off+jn),none⟩,dn,by omega,by go_num,by simp[Nat.sub_sub,Nat.add_assoc],⟨.inr fun g o e=>by cases e;rfl,hO3.out,hJd,hD.out,hK.out⟩⟩
      case measure=>simp[RowKit.intOf];omega
  ·obtain rfl:k=ls.length:=by omega
   have b0:decide ((ls.length:Int)<(ls.length:Int))=false:=by simp
   have e:=hD
   simp only[List.drop_length,spwA,List.append_nil] at e
   subst e
   go_wp2_with fail
   go_end0
   exact⟨⟨_,rfl⟩,.inl hJd⟩
end Go.Proofs.YtjlbcdnkglaheaaGreatDoor
