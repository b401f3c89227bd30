import Derived.Test.YtcgimchhcaankaaGreatDoorK26
namespace Go.Proofs.YtcgimchhcaankaaGreatDoor
set_option maxRecDepth 1000000
set_option maxHeartbeats 16000000
open Go.ChangeShapes Go.WideShapes Go.ChangeAt Go.RowKit Go.Shelf Go.Maps
structure Ktp where
 t:Tk
 p:Option Addr
 c:Nat
def Ktp.cs (x:Ktp):List Value:=tkC x.t x.p x.c
def kpC (ks:List Ktp):List Value:=ks.flatMap Ktp.cs
theorem kpC_snoc (ks:List Ktp) (x:Ktp):kpC (ks++[x])=kpC ks++x.cs:=by simp[kpC]
theorem kcs_length (x:Ktp):x.cs.length=21:=rfl
theorem kpC_get:∀ (ks:List Ktp) (i:Nat) (x:Ktp),ks[i]?=some x->∀ j,j<21->(kpC ks)[i*21+j]?=x.cs[j]?
 | [],i,x,h,_,_=>by simp at h
 | y::r,0,x,h,j,hj=>by
  cases h
  show (y.cs++kpC r)[0*21+j]?=_
  rw[Nat.zero_mul,Nat.zero_add,List.getElem?_append_left (by rw[kcs_length];exact hj)]
 | y::r,i+1,x,h,j,hj=>by
  have ih:=kpC_get r i x h j hj
  show (y.cs++kpC r)[(i+1)*21+j]?=_
  rw[List.getElem?_append_right (by rw[kcs_length];omega),kcs_length,<- ih]
  congr 1
  omega
structure KtR (W:World) (B:Nat) (v:Value) (ks:List Ktp):Prop where
 row:W.ownsRow B 40 21 v ks.length (kpC ks)
 u:∀ x∈ks,URow W x.p W.heap.size x.t.cst/\x.t.cst.length<=x.c/\∀ g o,x.p=some ⟨g,o,none⟩->B<=g/\g<W.heap.size/\v.ownBlock≠some g
 own:∀ x∈ks,W.ownsRow B 37 1 (.slice x.p x.t.cst.length x.c) x.t.cst.length (J.uC x.t.cst)
 dis:ks.Pairwise fun x y=>∀ g o g' o',x.p=some ⟨g,o,none⟩->y.p=some ⟨g',o',none⟩->g≠g'
theorem own_stay {W W':World} {B z n:Nat} {ty:TypeId} {v:Value} {xs:List Value} (h:W.ownsRow B ty z v n xs) (hb:∀ g,v.ownBlock=some g->W'.heap[g]?=W.heap[g]?):W'.ownsRow B ty z v n xs:=by
 refine⟨h.1,?_⟩
 rcases h.2 with h0|⟨g,cap,cur,e,hb',hg,r⟩
 ·exact .inl h0
 ·exact .inr ⟨g,cap,cur,e,hb',(hb g (by rw[e];rfl)).trans hg,r⟩
theorem own_ptr {W:World} {B z n m c:Nat} {ty:TypeId} {p:Option Addr} {xs:List Value} (h:W.ownsRow B ty z (.slice p m c) n xs) {g:Nat} (hg:(Value.slice p m c).ownBlock=some g):p=some ⟨g,0,none⟩:=by
 rcases h.2 with ⟨e,-⟩|⟨g',cap,cur,e,-⟩
 ·rw[e] at hg
  simp[Value.ownBlock] at hg
 ·rw[e] at hg
  simp[Value.ownBlock] at hg
  injection e with a _ _
  rw[a,hg]
theorem URow.keepP {w w':World} {p:Option Addr} {H H':Nat} {l:List Int} (h:URow w p H l) (hH:H<=H') (hb:∀ g o,p=some ⟨g,o,none⟩->w'.heap[g]?=w.heap[g]?):URow w' p H' l :=
 ⟨fun i a hi=>by
  obtain⟨g,o,e,hg,hc⟩:=h.c i a hi
  exact⟨g,o,e,Nat.lt_of_lt_of_le hg hH,(cell_blk (hb g o e)).trans hc⟩⟩
theorem KtR.nil (W:World) (B:Nat):KtR W B (.slice none 0 0) []:=⟨World.ownsRow_nil _ _ _ 21,fun x hx=>(by cases hx),fun x hx=>(by cases hx),List.Pairwise.nil⟩
theorem KtR.keep {W W':World} {B:Nat} {v:Value} {ks:List Ktp} (h:KtR W B v ks) (hs:W.heap.size<=W'.heap.size) (hb:∀ k,B<=k->k<W.heap.size->(v.ownBlock=some k\/∃ x∈ks,∃ o,x.p=some ⟨k,o,none⟩)->W'.heap[k]?=W.heap[k]?):KtR W' B v ks:=by
 refine⟨⟨h.row.1,?_⟩,fun x hx=>?_,fun x hx=>own_stay (h.own x hx) fun g hg=>?_,h.dis⟩
 ·rcases h.row.2 with h0|⟨g,cap,cur,e,hb',hg,r⟩
  ·exact .inl h0
  ·have hgl:=(Array.getElem?_eq_some_iff.1 hg).1
   exact .inr ⟨g,cap,cur,e,hb',(hb g hb' hgl (.inl (by rw[e];rfl))).trans hg,r⟩
 ·obtain⟨h1,h2,h3⟩:=h.u x hx
  exact⟨h1.keepP hs fun g o e=>hb g (h3 g o e).1 (h3 g o e).2.1 (.inr ⟨x,hx,o,e⟩),h2,fun g o e=>⟨(h3 g o e).1,Nat.lt_of_lt_of_le (h3 g o e).2.1 hs,(h3 g o e).2.2⟩⟩
 ·have e:=own_ptr (h.own x hx) hg
  obtain⟨-,-,h3⟩:=h.u x hx
  exact hb g (h3 g 0 e).1 (h3 g 0 e).2.1 (.inr ⟨x,hx,0,e⟩)
theorem KtR.below {W W':World} {B:Nat} {v:Value} {ks:List Ktp} (h:KtR W B v ks) (hb:Below W.heap.size W W'):KtR W' B v ks:=h.keep hb.size fun k _ hk _=>hb.block k hk
theorem KtR.push {W:World} {B:Nat} {v:Value} {ks:List Ktp} (h:KtR W B v ks) (x:Ktp) (hU:URow W x.p W.heap.size x.t.cst) (hc:x.t.cst.length<=x.c) (hp:∀ g o,x.p=some ⟨g,o,none⟩->B<=g/\g<W.heap.size/\v.ownBlock≠some g) (hO:W.ownsRow B 37 1 (.slice x.p x.t.cst.length x.c) x.t.cst.length (J.uC x.t.cst)) (hD:∀ y∈ks,∀ g o g' o',y.p=some ⟨g,o,none⟩->x.p=some ⟨g',o',none⟩->g≠g') (hn:(ks.length+1)*192<=140737488355328) (hB:B<=W.heap.size) :
  ∃ v' w',(∀ ty,(Builtin.append_ #[28,28] ty #[v,.slice (some ⟨W.heap.size,0,none⟩) 1 1]).run Tryz.prog (W.alloc (.cells x.cs.toArray 40)) = .ok v' w')/\(KtR w' B v' (ks++[x])/\Below B W w'/\(∀ j,j<W.heap.size->v.ownBlock≠some j->w'.heap[j]?=W.heap[j]?)/\∃ pv cv,v' = .slice pv (ks.length+1) cv):=by
 obtain⟨v',w',q1,q2,q3,q4,q5⟩:=ap_genP (W:=W) Tryz.underlying28 J.infoTkK (by kernel_rfl) (by decide) h.row x.cs rfl (tkC_one x.t x.p x.c) hn (by omega) hB
 rw[<- kpC_snoc] at q2
 have hl:(ks++[x]).length=ks.length+1:=by simp
 have keyU:∀ y∈ks++[x],URow W y.p W.heap.size y.t.cst/\y.t.cst.length<=y.c/\∀ g o,y.p=some ⟨g,o,none⟩->B<=g/\g<W.heap.size/\v.ownBlock≠some g:=fun y hy=>by
  rcases List.mem_append.1 hy with hy|hy
  ·exact h.u y hy
  ·obtain rfl:=List.mem_singleton.1 hy
   exact⟨hU,hc,hp⟩
 have keyO:∀ y∈ks++[x],W.ownsRow B 37 1 (.slice y.p y.t.cst.length y.c) y.t.cst.length (J.uC y.t.cst):=fun y hy=>by
  rcases List.mem_append.1 hy with hy|hy
  ·exact h.own y hy
  ·obtain rfl:=List.mem_singleton.1 hy
   exact hO
 refine⟨v',w',q1,⟨by rw[hl];exact q2,fun y hy=>?_,fun y hy=>own_stay (keyO y hy) fun g hg=>?_,List.pairwise_append.2 ⟨h.dis,List.pairwise_singleton _ _,fun a ha b hb=>by obtain rfl:=List.mem_singleton.1 hb;exact hD a ha⟩⟩,q3,q4,?_⟩
 rotate_left
 ·have e:=own_ptr (keyO y hy) hg
  obtain⟨-,-,h3⟩:=keyU y hy
  exact q4 g (h3 g 0 e).2.1 (h3 g 0 e).2.2
 rotate_right
 ·have key:URow W y.p W.heap.size y.t.cst/\y.t.cst.length<=y.c/\∀ g o,y.p=some ⟨g,o,none⟩->B<=g/\g<W.heap.size/\v.ownBlock≠some g:=by
   rcases List.mem_append.1 hy with hy|hy
   ·exact h.u y hy
   ·obtain rfl:=List.mem_singleton.1 hy
    exact⟨hU,hc,hp⟩
  obtain⟨h1,h2,h3⟩:=key
  refine⟨h1.keepP q3.size fun g o e=>q4 g (h3 g o e).2.1 (h3 g o e).2.2,h2,fun g o e=>⟨(h3 g o e).1,Nat.lt_of_lt_of_le (h3 g o e).2.1 q3.size,fun e2=>?_⟩⟩
  rcases q5 g e2 with e3|e3
  ·exact(h3 g o e).2.2 e3
  ·have:=(h3 g o e).2.1;omega
 ·rcases q2.2 with ⟨e,e0⟩|⟨g,cap,cur,e,_⟩
  ·omega
  ·exact⟨_,_,e⟩
theorem KtR.trow {W:World} {B n cp:Nat} {pp:Option Addr} {ks:List Ktp} (h:KtR W B (.slice pp n cp) ks):TkRow W pp W.heap.size (ks.map Ktp.t) :=
 ⟨fun i t ht=>by
  rw[List.getElem?_map] at ht
  cases hx:ks[i]? with
  | none=>rw[hx] at ht;cases ht
  | some x =>
   rw[hx] at ht
   cases ht
   have hil:=(List.getElem?_eq_some_iff.1 hx).1
   rcases h.row.2 with ⟨_,e0⟩|⟨g,cap,cur,e,hb',hg,r1,r2,r3,r4⟩
   ·omega
   ·cases e
    have hu:=h.u x (List.mem_of_getElem? hx)
    refine⟨g,0,x.p,x.c,rfl,(Array.getElem?_eq_some_iff.1 hg).1,?_,hu.1,hu.2.1⟩
    refine tkC_of fun j u hj=>?_
    have hj2:j<21:=(List.getElem?_eq_some_iff.1 hj).1
    have hc:=(kpC_get ks i x hx j hj2).trans hj
    rw[<- r4,List.getElem?_take,if_pos (by omega),Array.getElem?_toList] at hc
    rw[cell_at hg,Nat.zero_add]
    exact hc⟩
theorem u_cpn {w:World} {pa:Option Addr} {ca H:Nat} {l:List Int} (hA:URow w pa H l) (hl:l.length*8<=140737488355328) :
  ∃ v' w',(∀ ty,(Builtin.append_ #[38,38] ty #[.slice none 0 0,.slice pa l.length ca]).run Tryz.prog w = .ok v' w')/\(∃ p' c',v' = .slice p' l.length c'/\l.length<=c'/\URow w' p' w'.heap.size l/\(∀ g o,p'=some ⟨g,o,none⟩->w.heap.size<=g/\g<w'.heap.size)/\Below w.heap.size w w'/\w'.ownsRow w.heap.size 37 1 (.slice p' l.length c') l.length (J.uC l)):=by
 obtain⟨i0,hi,hz,hs,hby⟩:=J.tinfo J.infoUK
 cases pa with
 | none =>
  have h0:l=[]:=by
   cases l with
   | nil=>rfl
   | cons a r =>
    obtain⟨g,o,e,_⟩:=hA.c 0 a rfl
    cases e
  subst h0
  refine⟨.slice none 0 0,w,fun ty=>?_,none,0,rfl,Nat.le_refl _,⟨fun i a hi=>(by cases hi)⟩,(fun g o e=>by cases e),Below.refl _ _,World.ownsRow_nil _ _ _ 1⟩
  have S:=Src.ofNil (P:=Tryz.prog) (size:=i0.size) w Tryz.underlying38 ca
  have hln:∀ w':World,(Builtin.lenOf (.slice none 0 ca)).run Tryz.prog w' = .ok 0 w':=S.len
  have hcl:(Builtin.firstCells i0.size 0 (.slice none 0 ca)).run Tryz.prog w = .ok #[] w:=S.cells
  simp[Builtin.append_,run_underlying Tryz.underlying38,sizeOf,typeInfo,hi,hln,hcl]
 | some ad =>
  have hO:w.ownsRow w.heap.size 37 1 (.slice none 0 0) 0 []:=World.ownsRow_nil _ _ _ 1
  have hr:=fun ty=>run_append_own_at (P:=Tryz.prog) w w.heap.size 38 ty 37 i0 (.int .u64 0) 1 8 Tryz.underlying38 hi hz hs hby rfl (by decide) (.slice none 0 0) 0 [] hO ad l.length ca (J.uC l) (by simp) hA.news (J.uC_one l) (by simp only[maxLen];omega) (by omega) (Nat.le_refl _)
  obtain⟨v',w',h1,h2,h3,_⟩:=hr 0
  rw[Nat.zero_add,List.nil_append] at h2
  have hB:Below w.heap.size w w':=⟨h3.os,h3.tape,h3.output,h3.size,fun k hk=>h3.block k hk (by simp[Value.ownBlock])⟩
  rcases h2.2 with ⟨e,e0⟩|⟨g,cap,cur,e,hb',hg,r1,r2,r3,r4⟩
  ·have h0:l=[]:=List.length_eq_zero_iff.1 e0
   subst h0
   refine⟨v',w',fun ty=>h1,none,0,e,Nat.le_refl _,⟨fun i a hi=>(by cases hi)⟩,(fun g o e=>by cases e),hB,World.ownsRow_nil _ _ _ 1⟩
  ·subst e
   have hgl:=(Array.getElem?_eq_some_iff.1 hg).1
   refine⟨_,w',fun ty=>h1,some ⟨g,0,none⟩,cap,rfl,r1,URow.of_own (m:=[]) (by rw[List.append_nil];exact h2) hgl,fun g' o e=>?_,hB,h2⟩
   cases e
   exact⟨hb',hgl⟩
namespace J
theorem twpList_append_ex {P:Program} {w:World} {ops:Array Oper} {rest:List Oper} {o:Oper} {a:Act} {Q:Exit->Act->World->Prop} (hgd:o.guard=none) (s x:Operand) (t tx:TypeId)
  (ho:o.op = .call { callee:=.builtin .append,args:=#[s,x],argTypes:=#[t,tx] }) (sv xv:Value) (hs:a.eval s=sv) (hx:a.eval x=xv) (Post:Value->World->Prop)
  (hrun:∃ v w',(∀ ty,(Builtin.append_ #[t,tx] ty #[sv,xv]).run P w = .ok v w')/\Post v w')
  (h:∀ v w',Post v w'->wpList P ops Q rest (a.put o.dst v) w'):wpList P ops Q (o::rest) a w:=by
 obtain⟨v,w',hr,hp⟩:=hrun
 refine wpList_plain hgd fun _ hK=>?_
 unfold Oper.wp execOp
 simp only[ho,resolve,invoke,builtin,Sem.run_bind,Sem.run_pure,Result.andThen_ok,List.map_toArray,List.map_cons,List.map_nil,hs,hx,hr]
 exact hK _ _ (h v w' hp)
theorem heap_al_set (w:World) (a:Addr) (v:Value) (o:Obj):((w.setCell a v).alloc o).heap[w.heap.size]?=some o:=by
 have h:=heap_al (w.setCell a v) o
 rwa [show (w.setCell a v).heap.size=w.heap.size from by simp[World.setCell]] at h
theorem own_slice {w:World} {base:Nat} {e:TypeId} {size:Nat} {v:Value} {n:Nat} {xs:List Value} (h:w.ownsRow base e size v n xs):∃ p c,v = .slice p n c:=by
 rcases h.2 with ⟨rfl,rfl⟩|⟨g,cap,cur,rfl,_⟩
 ·exact⟨_,_,rfl⟩
 ·exact⟨_,_,rfl⟩
theorem there_of {w:World} {g:Nat} {cs:Array Value} {ty:TypeId} (h:w.heap[g]?=some (.cells cs ty)):w.there g 0 cs.size:=fun j hj=>by
 rw[Nat.zero_add,cell_at h j]
 refine⟨by simp[hj],?_⟩
 simp only[World.frozen?,h]
 simp
theorem bel_sets {B b:Nat} {a:World} (hb:B<=b):∀ (vs:List Value) (o:Nat) (w:World),Below B a w->Below B a (w.setCells b o vs)
 | [],_,_,h=>h
 | v::r,o,_,h=>bel_sets hb r (o+1) _ (h.setCell (p:=⟨b,o,none⟩) hb v)
theorem sets_other {b i:Nat} (hne:i≠b):∀ (vs:List Value) (o:Nat) (w:World),(w.setCells b o vs).heap[i]?=w.heap[i]?
 | [],_,_=>rfl
 | v::r,o,w=>(sets_other hne r (o+1) (w.setCell ⟨b,o,none⟩ v)).trans (heap_setCell_other w ⟨b,o,none⟩ i v hne)
theorem own_kept {w w':World} {base:Nat} {e:TypeId} {size:Nat} {v:Value} {n:Nat} {xs:List Value} (h:w.ownsRow base e size v n xs) (hb:∀ k,v.ownBlock=some k->w'.heap[k]?=w.heap[k]?):w'.ownsRow base e size v n xs:=by
 refine⟨h.1,?_⟩
 rcases h.2 with hn|⟨g,cap,cur,rfl,h1,hg,rest⟩
 ·exact .inl hn
 ·exact .inr ⟨g,cap,cur,rfl,h1,(hb g rfl).trans hg,rest⟩
theorem results_cell_v {P:Program} {fn:Func} {p:Tmp} {ty:TypeId} (h:fn.results=#[.cell p ty]) (tmps:Array Value) (w:World) (g:Nat) (v:Value) (hp:tmps.getD p undef = .pointer (some ⟨g,0,none⟩)) (hl:(loadVar ty ⟨g,0,none⟩).run P w = .ok v w):(results fn tmps).run P w = .ok v w:=by
 have hp':tmps[p]?.getD undef = .pointer (some ⟨g,0,none⟩):=by simpa using hp
 simp[results,h,hp',asAddr,hl]
theorem fm_range {w:World} {g o:Nat} {f:Fm} {pp:Option Addr} {cp:Nat} (h:FmC w g o f pp cp):w.rangeAt g o (fmC f pp cp).toList:=by
 intro j v hv
 have hj:j<13:=(List.getElem?_eq_some_iff.1 hv).1
 have h13:j=0\/j=1\/j=2\/j=3\/j=4\/j=5\/j=6\/j=7\/j=8\/j=9\/j=10\/j=11\/j=12:=by omega
 rcases h13 with rfl|rfl|rfl|rfl|rfl|rfl|rfl|rfl|rfl|rfl|rfl|rfl|rfl<;>cases Option.some.inj hv
 ·exact h.c0
 ·exact h.c1
 ·exact h.c2
 ·exact h.c3
 ·exact h.c4
 ·exact h.c5
 ·exact h.c6
 ·exact h.c7
 ·exact h.c8
 ·exact h.c9
 ·exact h.c10
 ·exact h.c11
 ·exact h.c12
theorem infoFm:(Tryz.prog.info? 30).map (·.size)=some 13:=by kernel_rfl
theorem undFm:∃ d,Tryz.prog.underlying 30=some d/\d.isRow=true:=⟨_,Tryz.underlying30,rfl⟩
theorem _root_.Go.Proofs.YtcgimchhcaankaaGreatDoor.FmC.load {w:World} {g o:Nat} {f:Fm} {pp:Option Addr} {cp:Nat} (h:FmC w g o f pp cp):(Instr.loadAt 30 (.pointer (some ⟨g,o,none⟩))).run Tryz.prog w = .ok (fmV f pp cp) w:=by
 obtain⟨d,hu,hd⟩:=undFm
 exact run_loadAt_mid w g o 30 (fmC f pp cp).toList d (fm_range h) hu hd infoFm
theorem fmC_one (f:Fm) (pp:Option Addr) (cp:Nat):∀ u∈(fmC f pp cp).toList,u.oneCell'=true:=by
 intro u hu
 simp only[List.mem_cons,List.not_mem_nil,or_false] at hu
 rcases hu with rfl|rfl|rfl|rfl|rfl|rfl|rfl|rfl|rfl|rfl|rfl|rfl|rfl<;>rfl
theorem st_newF (w:World) (z:Array Value) (hz:z.size=13) (f:Fm) (pp:Option Addr) (cp:Nat):(Instr.storeAt 30 (.pointer (some ⟨w.heap.size,0,none⟩)) (fmV f pp cp)).run Tryz.prog (w.alloc (.cells z 30)) = .ok () (w.alloc (fmO f pp cp)) :=
 run_storeAt_new w 30 z (fmC f pp cp) infoFm hz (all_oneCell_toArray (fmC_one f pp cp))
theorem tkO_set {W:World} {X:Nat} {t:Tk} {p q:Option Addr} {c d:Nat} (h:W.heap[X]?=some (tkO t p c)):(W.setCell ⟨X,12,none⟩ (.slice q t.cst.length d)).heap[X]?=some (tkO t q d):=by
 obtain⟨N,hN⟩:∃ N,t.cst.length=N:=⟨_,rfl⟩
 rw[hN]
 have e:(W.setCell ⟨X,12,none⟩ (.slice q N d)).heap=W.heap.modify X (fun o=>match o with
  | .cells cs t f=>.cells (cs.setIfInBounds 12 (.slice q N d)) t f
  | o=>o):=by
  rfl
 rw[e,Array.getElem?_modify,if_pos rfl,h]
 subst hN
 rfl
theorem froz {W:World} {X:Nat} {cs:Array Value} {ty:TypeId} (h:W.heap[X]?=some (.cells cs ty)) (o:Nat):W.frozen? ⟨X,o,none⟩=false:=by
 simp only[World.frozen?,h]
 simp
theorem fmO_set {W:World} {X:Nat} {f:Fm} {p q:Option Addr} {c d:Nat} (h:W.heap[X]?=some (fmO f p c)):(W.setCell ⟨X,12,none⟩ (.slice q f.toks.length d)).heap[X]?=some (fmO f q d):=by
 obtain⟨N,hN⟩:∃ N,f.toks.length=N:=⟨_,rfl⟩
 rw[hN]
 have e:(W.setCell ⟨X,12,none⟩ (.slice q N d)).heap=W.heap.modify X (fun o=>match o with
  | .cells cs t f=>.cells (cs.setIfInBounds 12 (.slice q N d)) t f
  | o=>o):=by
  rfl
 rw[e,Array.getElem?_modify,if_pos rfl,h]
 subst hN
 rfl
abbrev zFo:Obj:=.cells #[.int .i64 0,.int .i64 0,.int .i64 0,.int .i64 0,.int .i64 0,.int .i64 0,.int .i64 0,.int .i64 0,.int .i64 0,.int .i64 0,.int .i64 0,.int .i64 0,.slice none 0 0] 30
theorem copied_any (f:Fm) (pp:Option Addr) (cp:Nat) (w:World) (hr:TkL w pp w.heap.size f.toks) (hlm:f.toks.length*192<=140737488351232) (hcm:∀ t∈f.toks,t.cst.length*8<=140737488351232) :
  Calls Tryz.prog 8 #[fmV f pp cp] w fun e w'=>∃ g cap ps,e = .returned (fmV f (some ⟨g,0,none⟩) cap)/\ps.map TkP.t=f.toks/\Cop w' w.heap.size g cap ps/\Below w.heap.size w w':=by
 obtain⟨iU,hiU,hzU,hsU,hbU⟩:=tinfo infoUK
 obtain⟨iT,hiT,hzT,hsT,hbT⟩:=tinfo infoTkK
 have lF:Hid _:=⟨(fm_of (two_1 w (fmO f pp cp) zFo)).load⟩
 have sF:Hid _:=⟨fun z hz=>st_newF ((w.alloc (fmO f pp cp)).alloc zFo) z hz f pp cp⟩
 simp only[World.size_alloc] at sF
 go_enter Tryz.func8,Tryz.ntmps8
 go_wp2_with (first
  | (guard_target =~ wpList _ _ _ (Oper.mk _ (Op.load 30 _) _ _ _ _::_) _ _;go_must (refine wpList_ld 30 (.tmp 1) rfl rfl _ _ rfl lF.out ?_);simp only[pts])
  | (guard_target =~ wpList _ _ _ (Oper.mk _ (Op.store 30 _ _) _ _ _ _::_) _ _;go_must (refine wpList_st 30 (.tmp 3) (.tmp 9) rfl rfl _ _ rfl rfl (sF.out _ rfl) ?_);simp only[pts]))
 clear lF sF
 have H1:=fm_of (show (((w.alloc (fmO f pp cp)).alloc zFo).alloc (fmO f pp cp)).heap[w.heap.size]?=some (fmO f pp cp) from (heap_alloc_old ((w.alloc (fmO f pp cp)).alloc zFo) (fmO f pp cp) (by simp;omega)).trans (two_1 w _ _))
 have H2:(((w.alloc (fmO f pp cp)).alloc zFo).alloc (fmO f pp cp)).heap[w.heap.size+1]?=some zFo:=(heap_alloc_old ((w.alloc (fmO f pp cp)).alloc zFo) (fmO f pp cp) (by simp)).trans (two_2 w _ _)
 have H3:(((w.alloc (fmO f pp cp)).alloc zFo).alloc (fmO f pp cp)).heap[w.heap.size+1+1]?=some (fmO f pp cp):=by have:=heap_al ((w.alloc (fmO f pp cp)).alloc zFo) (fmO f pp cp);simpa only [World.size_alloc] using this
 have HB:Below w.heap.size w (((w.alloc (fmO f pp cp)).alloc zFo).alloc (fmO f pp cp)):=(two_b w _ _).alloc (by simp;omega) _
 have HS:(((w.alloc (fmO f pp cp)).alloc zFo).alloc (fmO f pp cp)).heap.size=w.heap.size+3:=by simp
 replace hr:=(hr.below HB).mono HB.size
 generalize ((w.alloc (fmO f pp cp)).alloc zFo).alloc (fmO f pp cp)=W0 at H1 H2 H3 HB HS hr ⊢
 replace H1:=Hid.mk H1
 replace H2:=Hid.mk H2
 replace H3:=Hid.mk H3
 go_loopw [4,5] (fun v i wr=>∃ (k:Nat) (ps:List TkP),k<=f.toks.length/\i = .int .i64 k/\ps.map TkP.t=f.toks.take k/\wr.ownsRow W0.heap.size 40 21 v k (tpC ps)/\(∀ x∈ps,UGood wr W0.heap.size x/\some x.g≠v.ownBlock)/\(ps.map TkP.g).Pairwise (· < ·)/\Below W0.heap.size W0 wr) (fun _ i _=>f.toks.length-(RowKit.intOf i).toNat)
 case atStart=>exact⟨0,[],Nat.zero_le _,rfl,rfl,World.ownsRow_nil _ _ _ 21,fun _ h=>(by cases h),List.Pairwise.nil,Below.refl _ _⟩
 case round =>
  obtain⟨k,ps,hk,rfl,hps,hO,hG,hD,hB⟩:=hrel
  have x12:wr.cell? ⟨w.heap.size,12,none⟩=some (.slice pp f.toks.length cp):=(H1.out.below (by omega) hB).c12
  by_cases hlt:k<f.toks.length
  ·obtain⟨x,hx⟩:∃ x,f.toks[k]?=some x:=⟨f.toks[k],List.getElem?_eq_getElem hlt⟩
   obtain⟨g,o,pc,cc,rfl,hg,hT,hT1,-,-⟩:=(hr.below hB).at hx
   have hxa:=hcm x (List.mem_of_getElem? hx)
   have hll:=hlm
   have hsz:=hB.size
   have l1:Hid _:=⟨hT.load⟩
   have s1:Hid _:=⟨fun z hz=>st_new wr z hz x pc cc⟩
   have hb1:Below wr.heap.size wr ((wr.alloc (tkO x pc cc)).alloc (.cells #[] 37)):=two_b wr _ _
   have q12:((wr.alloc (tkO x pc cc)).alloc (.cells #[] 37)).cell? ⟨wr.heap.size,12,none⟩=some (.slice pc x.cst.length cc):=(tk_of (two_1 wr (tkO x pc cc) (.cells #[] 37))).c12
   have hOe:((wr.alloc (tkO x pc cc)).alloc (.cells #[] 37)).ownsRow (wr.heap.size+1) 37 1 (.slice (some ⟨wr.heap.size+1,0,none⟩) 0 0) 0 []:=⟨rfl,.inr ⟨wr.heap.size+1,0,#[],rfl,Nat.le_refl _,two_2 wr _ _,Nat.le_refl _,by simp[maxLen],rfl,rfl⟩⟩
   obtain⟨v2,w2,hrun,hO2,hB2⟩:=u_cp (ca:=cc) hOe (hT1.below (hb1.mono hsz)) hxa (by simp)
   have hlt2:(k:Int)<f.toks.length:=by omega
   have F1:Hid (1=1):=⟨rfl⟩
   have F2:Hid (1=1):=⟨rfl⟩
   have F3:Hid (1=1):=⟨rfl⟩
   have hN2:∀ j u,[Value.int .u64 77][j]?=some u->(w2.alloc (.cells #[.int .u64 77] 37)).cell? ((⟨w2.heap.size,0,none⟩:Addr).add j)=some u:=World.news_of_block (heap_al w2 (.cells #[.int .u64 77] 37))
   have hO3:=ownsRow_below hO2 (bel1 w2 (.cells #[.int .u64 77] 37))
   have hs2:wr.heap.size+2<=w2.heap.size:=by have:=hB2.size;simp at this;omega
   go_wp2_with (first
    | (guard_target =~ wpList _ _ _ (Oper.mk _ (Op.load 40 _) _ _ _ _::_) _ _;go_must (first|refine wpList_ld 40 (.tmp 20) rfl rfl _ _ rfl l1.out ?_|refine wpList_ld 40 (.tmp 6) rfl rfl _ _ rfl l2.out ?_);simp only[pts])
    | (guard_target =~ wpList _ _ _ (Oper.mk _ (Op.store 40 _ _) _ _ _ _::_) _ _;go_must (refine wpList_st 40 (.tmp 6) (.tmp 21) rfl rfl _ _ rfl rfl (s1.out _ rfl) ?_);simp only[pts])
    | (at_builtin;clear F1;go_must (refine(twpList_append_ex (by rfl) _ _ _ _ (by rfl) _ _ (by rfl) (by rfl) (fun a b=>v2=a/\w2=b) ⟨v2,w2,hrun,rfl,rfl⟩ ?_));rintro _ _ ⟨rfl,rfl⟩)
    | (at_builtin;clear F2;go_must (refine wpList_append_lies _ rfl _ _ 38 rfl (wr.heap.size+1) 37 iU (.int .u64 0) 1 8 Tryz.underlying38 hiU hzU hsU hbU rfl (by decide) v2 x.cst.length (uC x.cst) rfl hO3 ⟨w2.heap.size,0,none⟩ 1 1 [.int .u64 77] rfl rfl hN2 (uC_one [77]) (by decide) (by simp only[maxLen];omega) (by omega) (by simp;omega) (w2.heap.size+1) (by simp) ?_);intro ga capa w4 hO4 hgr4 hat4 hlt4;have hB4:Hid (Below (wr.heap.size+1) ((wr.alloc (tkO x pc cc)).alloc (.cells #[] 37)) w4):=⟨hB2.trans (((Below.refl _ w2).alloc (by omega) _).grown hgr4 (by simp;omega) (own_ge hO2))⟩;have hX4:Hid (w4.heap[wr.heap.size]?=some (tkO x pc cc)):=⟨(hB4.out.block _ (by omega)).trans (two_1 wr _ _)⟩;have q24:=(tk_of hX4.out).c12;have qf:=froz hX4.out 12;have l2:Hid _:=⟨(tk_of (tkO_set (q:=some ⟨ga,0,none⟩) (d:=capa) hX4.out)).load⟩;have hcap:=own_cap hO4 (by omega);have hci:(x.cst.length:Int)<=capa:=(by omega);replace hO4:=Hid.mk hO4;replace hgr4:=Hid.mk hgr4;replace hat4:=Hid.mk hat4;have hB5:Hid (Below wr.heap.size wr ((w4.setCell ⟨wr.heap.size,12,none⟩ (.slice (some ⟨ga,0,none⟩) x.cst.length capa)).alloc (tkO x (some ⟨ga,0,none⟩) capa))):=⟨(((two_b wr _ _).trans (hB4.out.mono (by omega))).setCell (Nat.le_refl _) _).alloc (by have:=hB4.out.size;simp[World.setCell] at this ⊢;omega) _⟩;have hO5:Hid _:=⟨ownsRow_below hO hB5.out⟩)
    | (at_builtin;clear F3;go_must (refine wpList_append_lies _ rfl _ _ 28 rfl W0.heap.size 40 iT zTk 21 192 Tryz.underlying28 hiT hzT hsT hbT rfl (by decide) _ k (tpC ps) rfl hO5.out ⟨w4.heap.size,0,none⟩ 1 1 (tkC x (some ⟨ga,0,none⟩) capa) rfl rfl (World.news_of_block (heap_al_set w4 ⟨wr.heap.size,12,none⟩ (.slice (some ⟨ga,0,none⟩) x.cst.length capa) (tkO x (some ⟨ga,0,none⟩) capa))) (tkC_one x _ _) (by decide) (by simp only[maxLen];omega) (by omega) (Nat.le_trans hsz hB5.out.size) _ rfl ?_);intro gn capn w6 hO6 hgr6 hat6 hlt6;replace hO6:=Hid.mk hO6;replace hgr6:=Hid.mk hgr6;replace hat6:=Hid.mk hat6))
   have hga:=own_ge hO4.out ga rfl
   have hga2:=(hO4.out.lt ga rfl).2
   have hs4:wr.heap.size+2<=w4.heap.size:=by have:=hB4.out.size;simp at this;omega
   have hs5:((w4.setCell ⟨wr.heap.size,12,none⟩ (.slice (some ⟨ga,0,none⟩) x.cst.length capa)).alloc (tkO x (some ⟨ga,0,none⟩) capa)).heap.size=w4.heap.size+1:=by simp[World.setCell]
   have hg45:w4.grownBy ((w4.setCell ⟨wr.heap.size,12,none⟩ (.slice (some ⟨ga,0,none⟩) x.cst.length capa)).alloc (tkO x (some ⟨ga,0,none⟩) capa)) (some wr.heap.size):=⟨rfl,rfl,rfl,by omega,fun j hj hne=>by
    rw[heap_alloc_old _ _ (by simpa[World.setCell] using hj)]
    exact heap_setCell_other w4 _ j _ (fun e=>hne (by rw[e]))⟩
   have hnew:UGood ((w4.setCell ⟨wr.heap.size,12,none⟩ (.slice (some ⟨ga,0,none⟩) x.cst.length capa)).alloc (tkO x (some ⟨ga,0,none⟩) capa)) W0.heap.size ⟨x,ga,capa⟩:=by
    have h4:=hO4.out
    rw[show uC x.cst++[Value.int .u64 77]=uC (x.cst++[77]) by simp[uC]] at h4
    exact World.ownsRow.kept (own_base h4 (fun j hj=>by simp[Value.ownBlock] at hj;omega)) hg45 (.inr (by simp[Value.ownBlock];omega))
   have hmem:∀ y∈ps++[(⟨x,ga,capa⟩:TkP)],UGood w6 W0.heap.size y/\some y.g≠some gn:=by
    intro y hy
    rcases List.mem_append.1 hy with hy|hy
    ·have h0:=hG y hy
     have hyl:=h0.1.lt
     refine⟨(h0.1.below hB5.out).kept hgr6.out h0.2,?_⟩
     rcases hat6.out with e|e
     ·rw[<- e];exact h0.2
     ·rw[e.trans hs5];intro e;injection e with e;omega
    ·obtain rfl:=List.mem_singleton.1 hy
     have hne:some ga≠u4.ownBlock:=fun e=>by have:=(hO.lt ga e.symm).2;omega
     refine⟨hnew.kept hgr6.out hne,?_⟩
     rcases hat6.out with e|e
     ·rw[<- e];exact hne
     ·rw[e.trans hs5];intro e;injection e with e;have e:ga=w4.heap.size+1:=e;omega
   have hpw:((ps++[(⟨x,ga,capa⟩:TkP)]).map TkP.g).Pairwise (· < ·):=by
    rw[List.map_append,List.pairwise_append]
    refine⟨hD,List.pairwise_singleton _ _,fun a ha b hb=>?_⟩
    obtain⟨y,hy,rfl⟩:=List.mem_map.1 ha
    rw[List.map_singleton,List.mem_singleton] at hb
    have:=(hG y hy).1.lt
    rw[hb]
    show y.g<ga
    omega
   have hB6:Below W0.heap.size W0 w6:=hB.trans ((hB5.out.mono hsz).trans ((Below.refl _ _).grown hgr6.out (Nat.le_trans hsz hB5.out.size) (own_ge hO)))
   have htk:(ps++[(⟨x,ga,capa⟩:TkP)]).map TkP.t=f.toks.take (k+1):=by
    rw[List.map_append,hps,List.take_add_one,hx];rfl
   have hO6':=hO6.out
   rw[show tpC ps++tkC x (some ⟨ga,0,none⟩) capa=tpC (ps++[(⟨x,ga,capa⟩:TkP)]) from (tpC_snoc ps ⟨x,ga,capa⟩).symm] at hO6'
   clear hnew hg45 hO5 hO4 hgr4 hat4 hgr6 hat6 hO6 hB5 hB4 hX4 l1 l2 s1 q24 qf hN2 hO3 hOe hrun hO2 hB2 hT hT1 hG hD hO
   go_roundw
   case rel=>exact⟨k+1,_,by omega,by go_num,htk,hO6',hmem,hpw,hB6⟩
   case measure=>simp[RowKit.intOf];omega
  ·obtain rfl:k=f.toks.length:=by omega
   have hll:=hlm
   have hsz:=hB.size
   obtain⟨pv,cv,rfl⟩:=own_slice hO
   have hO1:Hid _:=⟨ownsRow_below hO (bel1 wr (tkO spareT none 0))⟩
   have F1:Hid (1=1):=⟨rfl⟩
   go_wp2_with (first
    | (guard_target =~ wpList _ _ _ (Oper.mk _ (Op.load 30 _) _ _ _ _::_) _ _;go_must (refine wpList_ld 30 (.tmp 3) rfl rfl _ _ rfl lF.out ?_);simp only[pts])
    | (guard_target =~ wpList _ _ _ (Oper.mk _ (Op.store 30 _ _) _ _ _ _::_) _ _;go_must (refine wpList_st 30 (.tmp 2) (.tmp 48) rfl rfl _ _ rfl rfl sF.out ?_);simp only[pts])
    | (at_builtin;clear F1;go_must (refine wpList_append_lies _ rfl _ _ 28 rfl W0.heap.size 40 iT zTk 21 192 Tryz.underlying28 hiT hzT hsT hbT rfl (by decide) (.slice pv f.toks.length cv) f.toks.length (tpC ps) rfl hO1.out ⟨wr.heap.size,0,none⟩ 1 1 (tkC spareT none 0) rfl rfl (World.news_of_block (heap_al wr (tkO spareT none 0))) (tkC_one spareT _ _) (by decide) (by simp only[maxLen];omega) (by omega) (by simp;omega) _ rfl ?_);intro gn capn w6 hO6 hgr6 hat6 hlt6;have hcap:=own_cap hO6 (by omega);have hci:(f.toks.length:Int)<=capn:=(by omega);replace hO6:=Hid.mk hO6;replace hgr6:=Hid.mk hgr6;replace hat6:=Hid.mk hat6;go_must (have hB6:Hid (Below W0.heap.size W0 w6):=⟨hB.trans (((bel1 wr (tkO spareT none 0)).mono hsz).trans ((Below.refl _ _).grown hgr6.out (by simp;omega) (own_ge hO)))⟩;have H36:=(hB6.out.block (w.heap.size+1+1) (by omega)).trans H3.out;have H26:=(hB6.out.block (w.heap.size+1) (by omega)).trans H2.out;have m12:=(fm_of H36).c12;have mf:=froz H36 12;have H37:=fmO_set (q:=some ⟨gn,0,none⟩) (d:=capn) H36;have lF:Hid _:=⟨(fm_of H37).load⟩;have H27:=(heap_setCell_other w6 ⟨w.heap.size+1+1,12,none⟩ (w.heap.size+1) (.slice (some ⟨gn,0,none⟩) f.toks.length capn) (by simp)).trans H26;have t27:(w6.setCell ⟨w.heap.size+1+1,12,none⟩ (.slice (some ⟨gn,0,none⟩) f.toks.length capn)).there (w.heap.size+1) 0 13:=there_of H27;have sF:Hid _:=⟨run_storeAt_mid (P:=Tryz.prog) (w6.setCell ⟨w.heap.size+1+1,12,none⟩ (.slice (some ⟨gn,0,none⟩) f.toks.length capn)) (w.heap.size+1) 0 30 (fmC f (some ⟨gn,0,none⟩) capn) t27 infoFm (all_oneCell_toArray (fmC_one f _ _))⟩;replace t27:=Hid.mk t27;clear H37 H27 H36 H26)))
   rw[List.take_length] at hps
   have hpl:ps.length=f.toks.length:=by rw[<- hps,List.length_map]
   have hsame:∀ k,W0.heap.size<=k->((w6.setCell ⟨w.heap.size+1+1,12,none⟩ (.slice (some ⟨gn,0,none⟩) f.toks.length capn)).setCells (w.heap.size+1) 0 (fmC f (some ⟨gn,0,none⟩) capn).toList).heap[k]?=w6.heap[k]?:=fun k hk =>
    (sets_other (by omega) _ 0 _).trans (heap_setCell_other w6 _ k _ (fun e=>by have e:k=w.heap.size+1+1:=e;omega))
   have hcop:Cop ((w6.setCell ⟨w.heap.size+1+1,12,none⟩ (.slice (some ⟨gn,0,none⟩) f.toks.length capn)).setCells (w.heap.size+1) 0 (fmC f (some ⟨gn,0,none⟩) capn).toList) w.heap.size gn capn ps:=by
    have hgn:=own_ge hO6.out gn rfl
    refine⟨?_,fun y hy=>?_,hD⟩
    ·rw[hpl]
     exact own_kept (own_base hO6.out (fun j hj=>by simp[Value.ownBlock] at hj;omega)) (fun j hj=>hsame j (by simp[Value.ownBlock] at hj;omega))
    ·have h0:=hG y hy
     have hyl:=h0.1.lt
     have h1:=(h0.1.below (bel1 wr (tkO spareT none 0))).kept hgr6.out h0.2
     refine⟨own_kept (own_base h1 (fun j hj=>by simp[Value.ownBlock] at hj;omega)) (fun j hj=>hsame j (by simp[Value.ownBlock] at hj;omega)),?_⟩
     rcases hat6.out with e|e
     ·intro e2;exact h0.2 (by rw[e2,<- e])
     ·rw[e];simp;omega
   have hend:Below w.heap.size w ((w6.setCell ⟨w.heap.size+1+1,12,none⟩ (.slice (some ⟨gn,0,none⟩) f.toks.length capn)).setCells (w.heap.size+1) 0 (fmC f (some ⟨gn,0,none⟩) capn).toList):=bel_sets (by omega) _ 0 _ ((HB.trans (hB6.out.mono HB.size)).setCell (p:=⟨w.heap.size+1+1,12,none⟩) (by show w.heap.size<=w.heap.size+1+1;omega) _)
   obtain⟨d,hu,hd⟩:=undFm
   have hres:=run_loadVar_mid (P:=Tryz.prog) _ (w.heap.size+1) 0 30 (fmC f (some ⟨gn,0,none⟩) capn).toList d (World.rangeAt_setCells_same (w6.setCell ⟨w.heap.size+1+1,12,none⟩ (.slice (some ⟨gn,0,none⟩) f.toks.length capn)) (w.heap.size+1) 0 (fmC f (some ⟨gn,0,none⟩) capn).toList t27.out) hu hd infoFm
   exact bodyPost_ret (results_cell_v rfl _ _ (w.heap.size+1) _ rfl hres) rfl ⟨gn,capn,rfl,ps,hps,hcop,hend⟩
end J
end Go.Proofs.YtcgimchhcaankaaGreatDoor
