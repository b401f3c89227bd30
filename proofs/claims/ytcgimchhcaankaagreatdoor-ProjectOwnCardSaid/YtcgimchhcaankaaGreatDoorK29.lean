import Derived.Test.YtcgimchhcaankaaGreatDoorK28
namespace Go.Proofs.YtcgimchhcaankaaGreatDoor
open Go.ChangeShapes Go.WideShapes Go.ChangeAt Go.RowKit Go.Shelf Go.Maps
def Wd (W:World) (S:Nat->Prop) (p:Option Addr) (l:Nat) (a:Int):Prop:=∀ q,q<l->∃ g,p=some ⟨g,0,none⟩/\S g/\W.cell? ⟨g,q,none⟩=some (.int .u64 a)
theorem Wd.keep {W W':World} {S S':Nat->Prop} {p:Option Addr} {l:Nat} {a:Int} (h:Wd W S p l a) (hb:∀ g,p=some ⟨g,0,none⟩->S g->W'.heap[g]?=W.heap[g]?/\S' g):Wd W' S' p l a:=fun q hq=>by
 obtain⟨g,e,hs,hc⟩:=h q hq
 exact⟨g,e,(hb g e hs).2,(cell_blk (hb g e hs).1).trans hc⟩
theorem Wd.of_own {W:World} {S:Nat->Prop} {B m c l:Nat} {p:Option Addr} {a:Int} {ty:TypeId} {xs:List Value} (h:W.ownsRow B ty 1 (.slice p m c) l xs) {k:Nat} (hk:k<=l) (hx:∀ q,q<k->xs[q]?=some (.int .u64 a)) (hS:∀ g,p=some ⟨g,0,none⟩->S g):Wd W S p k a:=fun q hq=>by
 rcases h.2 with ⟨e,e0⟩|⟨g,cap,cur,e,hb',hg,r1,r2,r3,r4⟩
 ·omega
 ·injection e with e1 _ _
  refine⟨g,e1,hS g e1,?_⟩
  have:=hx q hq
  rw[<- r4,List.getElem?_take,if_pos (by omega),Array.getElem?_toList] at this
  rw[cell_at hg]
  exact this
structure Fr (B E:Nat) (W W':World):Prop where
 bl:Below B W W'
 fr:∀ j,E<=j->j<W.heap.size->W'.heap[j]?=W.heap[j]?
theorem Fr.blk {B E:Nat} {W W':World} (h:Fr B E W W') {j:Nat} (hj:j<W.heap.size) (hn:¬ (B<=j/\j<E)):W'.heap[j]?=W.heap[j]?:=by
 by_cases h1:j<B
 ·exact h.bl.block j h1
 ·exact h.fr j (by omega) hj
theorem Fr.one {B E:Nat} {W W1 W2:World} (h:Fr B E W W1) (hs:W1.heap.size<=W2.heap.size) (h1:W2.os=W1.os) (h2:W2.tape=W1.tape) (h3:W2.output=W1.output) (hf:∀ j,j<W1.heap.size->(j<B\/(E<=j/\j<W.heap.size))->W2.heap[j]?=W1.heap[j]?) (hB:B<=W.heap.size):Fr B E W W2 :=
 ⟨h.bl.trans ⟨h1,h2,h3,hs,fun k hk=>hf k (by have:=h.bl.size;omega) (.inl hk)⟩,fun j a b=>(hf j (by have:=h.bl.size;omega) (.inr ⟨a,b⟩)).trans (h.fr j a b)⟩
theorem Fr.set {B E:Nat} {W W1:World} (h:Fr B E W W1) {g o:Nat} {u:Value} (hg:B<=g) (hg':g<E\/W.heap.size<=g) (hB:B<=W.heap.size):Fr B E W (W1.setCell ⟨g,o,none⟩ u) :=
 h.one (by simp[World.setCell]) rfl rfl rfl (fun j _ hj=>set_off (by omega)) hB
theorem own_set {W:World} {B z n m c g:Nat} {ty:TypeId} {xs:List Value} (h:W.ownsRow B ty z (.slice (some ⟨g,0,none⟩) m c) n xs) (i:Nat) (u:Value) (hi:i<n*z):(W.setCell ⟨g,i,none⟩ u).ownsRow B ty z (.slice (some ⟨g,0,none⟩) m c) n (xs.set i u)/\(∃ y,xs[i]?=some y/\W.cell? ⟨g,i,none⟩=some y)/\W.frozen? ⟨g,i,none⟩=false/\B<=g/\g<W.heap.size:=by
 rcases h.2 with ⟨e0,_⟩|⟨g',cap',cur,e1,h1,h2,h3,h4,h5,h6⟩
 ·cases e0
 ·cases e1
  have hlt:=(Array.getElem?_eq_some_iff.1 h2).1
  refine⟨⟨by rw[List.length_set];exact h.1,.inr ⟨g,c,cur.setIfInBounds i u,rfl,h1,set_at h2 _,h3,h4,by simpa using h5,?_⟩⟩,?_,frz_at h2,h1,hlt⟩
  ·rw[Array.toList_setIfInBounds,List.take_set,h6]
  ·have hx:i<xs.length:=by rw[h.1];exact hi
   refine⟨xs[i],List.getElem?_eq_getElem hx,?_⟩
   have e:xs[i]?=some xs[i]:=List.getElem?_eq_getElem hx
   rw[cell_at h2]
   conv at e=>lhs;rw[<- h6]
   rw[List.getElem?_take,if_pos hi,Array.getElem?_toList] at e
   exact e
theorem own_sets {B z n m c g:Nat} {ty:TypeId}:∀ (us:List Value) (o:Nat) {W:World} {xs:List Value},W.ownsRow B ty z (.slice (some ⟨g,0,none⟩) m c) n xs->o+us.length<=n*z->∃ ys,(W.setCells g o us).ownsRow B ty z (.slice (some ⟨g,0,none⟩) m c) n ys/\∀ j,ys[j]?=if o<=j/\j<o+us.length then us[j-o]? else xs[j]?
 | [],o,W,xs,h,_=>⟨xs,h,fun j=>by rw[if_neg (by simp)]⟩
 | u::r,o,W,xs,h,hl=>by
  rw[List.length_cons] at hl
  obtain⟨ys,h1,h2⟩:=own_sets r (o+1) (own_set h o u (by omega)).1 (by omega)
  refine⟨ys,h1,fun j=>?_⟩
  rw[h2,List.length_cons]
  have hol:o<xs.length:=by rw[h.1];omega
  by_cases e:o=j
  ·subst e
   rw[if_neg (by omega),if_pos (by omega),Nat.sub_self,List.getElem?_set,if_pos rfl,if_pos hol]
   rfl
  ·by_cases h3:o+1<=j/\j<o+1+r.length
   ·rw[if_pos h3,if_pos (by omega),show j-o=(j-(o+1))+1 by omega,List.getElem?_cons_succ]
   ·rw[if_neg h3,if_neg (by omega),List.getElem?_set,if_neg e]
theorem own_there {W:World} {B z n m c g:Nat} {ty:TypeId} {xs:List Value} (h:W.ownsRow B ty z (.slice (some ⟨g,0,none⟩) m c) n xs) (o k:Nat) (hk:o+k<=n*z):W.there g o k:=fun j hj=>by
 obtain⟨-,⟨y,-,hy⟩,hf,-⟩:=own_set h (o+j) (.bool false) (by omega)
 exact⟨by rw[hy];rfl,hf⟩
theorem ownCl {W:World} {B z n m c g:Nat} {ty:TypeId} {xs:List Value} (h:W.ownsRow B ty z (.slice (some ⟨g,0,none⟩) m c) n xs) {i:Nat} {u:Value} (hi:xs[i]?=some u):W.cell? ⟨g,i,none⟩=some u:=by
 have hl:i<n*z:=by rw[<- h.1];exact(List.getElem?_eq_some_iff.1 hi).1
 obtain⟨-,⟨y,h1,h2⟩,-⟩:=own_set h i u hl
 rw[hi] at h1
 cases h1
 exact h2
structure Mrk (m i k:Nat) (ks ks':List Ktp):Prop where
 len:ks'.length=ks.length
 shp:∀ (j:Nat) (x:Ktp),ks[j]?=some x->∃ y:Ktp,ks'[j]?=some y/\y.p=x.p/\y.c=x.c/\y.t.cst.length=x.t.cst.length
 wrd:∀ (j:Nat) (y:Ktp),ks'[j]?=some y->∀ (q:Nat) (a:Int),y.t.cst[q]?=some a->(j<i\/(j=i/\q<k))->a=((1000*m+j:Nat):Int)
theorem Mrk.start (m:Nat) (ks:List Ktp):Mrk m 0 0 ks ks:=⟨rfl,fun j x h=>⟨x,h,rfl,rfl,rfl⟩,fun j y _ q a _ h=>by omega⟩
theorem Mrk.next {m i:Nat} {ks ks':List Ktp} {y:Ktp} (h:Mrk m i y.t.cst.length ks ks') (hy:ks'[i]?=some y):Mrk m (i+1) 0 ks ks':=⟨h.len,h.shp,fun j z hz q a ha hc=>by
 refine h.wrd j z hz q a ha ?_
 by_cases e:j=i
 ·subst e
  rw[hy] at hz
  cases hz
  exact .inr ⟨rfl,(List.getElem?_eq_some_iff.1 ha).1⟩
 ·exact .inl (by omega)⟩
theorem KtR.setW {W:World} {B:Nat} {v:Value} {ks:List Ktp} (h:KtR W B v ks) {i k:Nat} {x:Ktp} (hx:ks[i]?=some x) (hk:k<x.t.cst.length) (a:Int):∃ g,x.p=some ⟨g,0,none⟩/\B<=g/\g<W.heap.size/\v.ownBlock≠some g/\(∃ u:Int,W.cell? ⟨g,k,none⟩=some (.int .u64 u))/\W.frozen? ⟨g,k,none⟩=false/\KtR (W.setCell ⟨g,k,none⟩ (.int .u64 a)) B v (ks.set i ⟨{ x.t with cst:=x.t.cst.set k a },x.p,x.c⟩):=by
 have hm:=List.mem_of_getElem? hx
 have hil:=(List.getElem?_eq_some_iff.1 hx).1
 obtain⟨u1,u2,u3⟩:=h.u x hm
 have hO:=h.own x hm
 rcases hO.2 with ⟨e,e0⟩|⟨g,cap,cur,e,-⟩
 ·omega
 ·injection e with e1 _ e3
  have hO':=hO
  rw[e1] at hO'
  obtain⟨o1,⟨y,o2,o2'⟩,o3,o4,o5⟩:=own_set hO' k (.int .u64 a) (by omega)
  have hy:y = .int .u64 (x.t.cst[k]):=by
   have:(J.uC x.t.cst)[k]?=some (.int .u64 x.t.cst[k]):=by simp[J.uC,hk]
   rw[this] at o2
   cases o2
   rfl
  have hsz:(W.setCell ⟨g,k,none⟩ (.int .u64 a)).heap.size=W.heap.size:=by simp[World.setCell]
  have hns:v.ownBlock≠some g:=(u3 g 0 e1).2.2
  have hdis:∀ y∈ks,∀ j,ks[j]?=some y->j≠i->∀ g' o',y.p=some ⟨g',o',none⟩->g'≠g:=fun y _ j hj hne g' o' e'=>by
   have hp:=h.dis
   rw[List.pairwise_iff_getElem] at hp
   have hjl:=(List.getElem?_eq_some_iff.1 hj).1
   have ej:ks[j]=y:=(List.getElem?_eq_some_iff.1 hj).2
   have ei:ks[i]=x:=(List.getElem?_eq_some_iff.1 hx).2
   rcases Nat.lt_or_gt_of_ne hne with hlt|hlt
   ·exact hp j i hjl hil hlt g' o' g 0 (by rw[ej];exact e') (by rw[ei];exact e1)
   ·exact(hp i j hil hjl hlt g 0 g' o' (by rw[ei];exact e1) (by rw[ej];exact e')).symm
  have hkp:kpC (ks.set i ⟨{ x.t with cst:=x.t.cst.set k a },x.p,x.c⟩)=kpC ks:=by
   have he:∀ (l:List Ktp) (j:Nat),l[j]?=some x->kpC (l.set j ⟨{ x.t with cst:=x.t.cst.set k a },x.p,x.c⟩)=kpC l:=by
    intro l
    induction l with
    | nil=>intro j hj;cases hj
    | cons b r ih =>
     intro j hj
     cases j with
     | zero =>
      cases hj
      simp only[List.set_cons_zero,kpC,List.flatMap_cons]
      congr 1
      simp[Ktp.cs,tkC]
     | succ j =>
      have:=ih j hj
      simp only[List.set_cons_succ,kpC,List.flatMap_cons] at this ⊢
      rw[this]
   exact he ks i hx
  have hcs:J.uC (x.t.cst.set k a)=(J.uC x.t.cst).set k (.int .u64 a):=by simp[J.uC,List.map_set]
  refine⟨g,e1,o4,o5,hns,⟨_,by rw[o2',hy]⟩,o3,⟨?_,fun y hy=>?_,fun y hy=>?_,?_⟩⟩
  ·rw[hkp,List.length_set]
   exact own_stay h.row fun g' hg'=>set_off (by intro e;subst e;exact hns hg')
  ·obtain⟨j,hj⟩:=List.mem_iff_getElem?.1 hy
   rw[List.getElem?_set] at hj
   by_cases e:i=j
   ·subst e
    rw[if_pos rfl,if_pos hil] at hj
    cases hj
    refine⟨?_,by simpa using u2,fun g' o' e'=>by rw[hsz];exact u3 g' o' e'⟩
    refine⟨fun q b hb=>⟨g,0,e1,by omega,?_⟩⟩
    rw[Nat.zero_add]
    refine ownCl (xs:=(J.uC x.t.cst).set k (.int .u64 a)) o1 ?_
    rw[<- hcs]
    simp only[J.uC,List.getElem?_map,hb,Option.map_some]
   ·rw[if_neg e] at hj
    have hym:=List.mem_of_getElem? hj
    obtain⟨a1,a2,a3⟩:=h.u y hym
    exact⟨a1.keepP (by rw[hsz];exact Nat.le_refl _) fun g' o' e'=>set_off (hdis y hym j hj (fun e2=>e e2.symm) g' o' e'),a2,fun g' o' e'=>by rw[hsz];exact a3 g' o' e'⟩
  ·obtain⟨j,hj⟩:=List.mem_iff_getElem?.1 hy
   rw[List.getElem?_set] at hj
   by_cases e:i=j
   ·subst e
    rw[if_pos rfl,if_pos hil] at hj
    cases hj
    show World.ownsRow _ _ _ _ (.slice x.p (x.t.cst.set k a).length x.c) (x.t.cst.set k a).length (J.uC (x.t.cst.set k a))
    rw[List.length_set,hcs,e1]
    exact o1
   ·rw[if_neg e] at hj
    have hym:=List.mem_of_getElem? hj
    refine own_stay (h.own y hym) fun g' hg'=>set_off (hdis y hym j hj (fun e2=>e e2.symm) g' 0 (own_ptr (h.own y hym) hg'))
  ·rw[List.pairwise_iff_getElem]
   have hp:=h.dis
   rw[List.pairwise_iff_getElem] at hp
   intro j1 j2 l1 l2 hlt g1 o1 g2 o2 e1' e2'
   rw[List.length_set] at l1 l2
   refine hp j1 j2 l1 l2 hlt g1 o1 g2 o2 ?_ ?_
   ·rw[List.getElem_set] at e1'
    split at e1'
    ·rename_i e;subst e;rw[(List.getElem?_eq_some_iff.1 hx).2];exact e1'
    ·exact e1'
   ·rw[List.getElem_set] at e2'
    split at e2'
    ·rename_i e;subst e;rw[(List.getElem?_eq_some_iff.1 hx).2];exact e2'
    ·exact e2'
theorem Mrk.put {m i k:Nat} {ks ks':List Ktp} {y:Ktp} (h:Mrk m i k ks ks') (hy:ks'[i]?=some y):Mrk m i (k+1) ks (ks'.set i ⟨{ y.t with cst:=y.t.cst.set k ((1000*m+i:Nat):Int) },y.p,y.c⟩):=by
 have hil:=(List.getElem?_eq_some_iff.1 hy).1
 refine⟨by rw[List.length_set];exact h.len,fun j x hx=>?_,fun j z hz q a ha hc=>?_⟩
 ·obtain⟨z,h1,h2,h3,h4⟩:=h.shp j x hx
  rw[List.getElem?_set]
  by_cases e:i=j
  ·subst e
   rw[hy] at h1
   cases h1
   refine⟨⟨{ y.t with cst:=y.t.cst.set k ((1000*m+i:Nat):Int) },y.p,y.c⟩,by rw[if_pos rfl,if_pos hil],h2,h3,?_⟩
   show (y.t.cst.set k _).length=_
   rw[List.length_set]
   exact h4
  ·exact⟨z,by rw[if_neg e];exact h1,h2,h3,h4⟩
 ·rw[List.getElem?_set] at hz
  by_cases e:i=j
  ·subst e
   rw[if_pos rfl,if_pos hil] at hz
   cases hz
   replace ha:(y.t.cst.set k _)[q]?=some a:=ha
   rw[List.getElem?_set] at ha
   by_cases e2:k=q
   ·subst e2
    rw[if_pos rfl] at ha
    split at ha
    ·cases ha
     rfl
    ·cases ha
   ·rw[if_neg e2] at ha
    exact h.wrd i y hy q a ha (by omega)
  ·rw[if_neg e] at hz
   exact h.wrd j z hz q a ha (by omega)
structure Mkv where
 pa:Option Addr
 n:Nat
 ca:Nat
 pm:Option Addr
 cm:Nat
 pc:Option Addr
 cc:Nat
 pl:Option Addr
 cl:Nat
 m:Nat
abbrev Mkv.cs (x:Mkv):List Value:=[.slice x.pa x.n x.ca,.slice x.pm (x.n+1) x.cm,.slice x.pc x.n x.cc,.slice x.pl x.n x.cl,.int .i64 (x.m:Int)]
abbrev Mkv.v (x:Mkv):Value:=.agg #[.slice x.pa x.n x.ca,.slice x.pm (x.n+1) x.cm,.slice x.pc x.n x.cc,.slice x.pl x.n x.cl,.int .i64 (x.m:Int)]
abbrev Mkv.o (x:Mkv):Obj:=.cells #[.slice x.pa x.n x.ca,.slice x.pm (x.n+1) x.cm,.slice x.pc x.n x.cc,.slice x.pl x.n x.cl,.int .i64 (x.m:Int)] 50
structure MkOk (W:World) (S:Nat->Prop) (x:Mkv):Prop where
 ids:∀ i,i<x.n->∃ g,x.pa=some ⟨g,0,none⟩/\S g/\W.cell? ⟨g,i*21+2,none⟩=some (.int .i64 (-(x.m:Int)))
 more:∀ i,i<x.n+1->∃ g,x.pm=some ⟨g,0,none⟩/\S g/\W.cell? ⟨g,i*21+2,none⟩=some (.int .i64 (-(x.m:Int)))
 wrd:∀ i,i<x.n->∃ gc gl p l c p' c',x.pc=some ⟨gc,0,none⟩/\S gc/\x.pl=some ⟨gl,0,none⟩/\S gl/\W.cell? ⟨gc,i,none⟩=some (.slice p l c)/\W.cell? ⟨gl,i,none⟩=some (.slice p' (l+1) c')/\l<=1000000000000000/\Wd W S p l ((1000*x.m+i:Nat):Int)/\Wd W S p' (l+1) ((1000*x.m+i:Nat):Int)
 big:x.n<=733007751850/\x.m<=100
theorem MkOk.keep {W W':World} {S S':Nat->Prop} {x:Mkv} (h:MkOk W S x) (hb:∀ g,S g->W'.heap[g]?=W.heap[g]?/\S' g):MkOk W' S' x:=by
 refine⟨fun i hi=>?_,fun i hi=>?_,fun i hi=>?_,h.big⟩
 ·obtain⟨g,e,hs,hc⟩:=h.ids i hi
  exact⟨g,e,(hb g hs).2,(cell_blk (hb g hs).1).trans hc⟩
 ·obtain⟨g,e,hs,hc⟩:=h.more i hi
  exact⟨g,e,(hb g hs).2,(cell_blk (hb g hs).1).trans hc⟩
 ·obtain⟨gc,gl,p,l,c,p',c',e1,s1,e2,s2,k1,k2,kl,k3,k4⟩:=h.wrd i hi
  exact⟨gc,gl,p,l,c,p',c',e1,(hb gc s1).2,e2,(hb gl s2).2,(cell_blk (hb gc s1).1).trans k1,(cell_blk (hb gl s2).1).trans k2,kl,k3.keep fun g _ hs=>hb g hs,k4.keep fun g _ hs=>hb g hs⟩
theorem infoUl:(Tryz.prog.info? 38).map (fun i=>(i.zero,i.size,i.bytes))=some (some (.slice none 0 0),1,24):=by kernel_rfl
theorem ap_genQ {W:World} {base:Nat} {t e:TypeId} {z:Value} {size bytes n:Nat} {v:Value} {xs:List Value} (ht:Tryz.prog.underlying t=some (.slice e)) (hi:(Tryz.prog.info? e).map (fun i=>(i.zero,i.size,i.bytes))=some (some z,size,bytes)) (hz:z.cells.size=size) (hsz:0<size)
  (own:W.ownsRow base e size v n xs) (cs:List Value) (hcs:cs.length=size) (h1:∀ u∈cs,u.oneCell'=true) (hn:(n+1)*bytes<=140737488355328) (hn':n+1<=140737488355328) (hbase:base<=W.heap.size) :
  ∃ v' w',(∀ ty,(Builtin.append_ #[t,t] ty #[v,.slice (some ⟨W.heap.size,0,none⟩) 1 1]).run Tryz.prog (W.alloc (.cells cs.toArray e)) = .ok v' w')/\(w'.ownsRow base e size v' (n+1) (xs++cs)/\Below base W w'/\(∀ j,j<W.heap.size->v.ownBlock≠some j->w'.heap[j]?=W.heap[j]?)/\∀ k,v'.ownBlock=some k->v.ownBlock=some k\/W.heap.size<=k)/\(v'.ownBlock=v.ownBlock\/∀ j,j<W.heap.size->w'.heap[j]?=W.heap[j]?):=by
 obtain⟨v',w',q1,q2⟩:=ap_genP ht hi hz hsz own cs hcs h1 hn hn' hbase
 refine⟨v',w',q1,q2,?_⟩
 rcases own.2 with ⟨e1,-⟩|⟨g,cap,cur,e1,hb',hg,r1,r2,r3,r4⟩
 ·exact .inr fun j hj=>q2.2.2.1 j hj (by rw[e1];simp[Value.ownBlock])
 ·obtain⟨i0,hi0,hz0⟩:=Option.map_eq_some_iff.1 hi
  simp only[Prod.mk.injEq] at hz0
  have hB:=nbel W (.cells cs.toArray e)
  have hO:=own_keep own hB
  have hgl:=(Array.getElem?_eq_some_iff.1 hg).1
  have hg':(W.alloc (.cells cs.toArray e)).heap[g]?=some (.cells cur e (0,0)):=(hB.block g hgl).trans hg
  have hN:∀ (j:Nat) (u:Value),cs[j]?=some u->(W.alloc (.cells cs.toArray e)).cell? ((⟨W.heap.size,0,none⟩:Addr).add j)=some u:=World.news_of_block (thnK W _)
  have hl:cs.length=1*i0.size:=by rw[hcs,Nat.one_mul,hz0.2.1]
  by_cases hroom:n+1<=cap
  ·have hfit:n*i0.size+cs.length<=cur.size:=by rw[hl,r3,<- Nat.add_mul,hz0.2.1];exact Nat.mul_le_mul_right _ hroom
   have hr:=run_append_room (P:=Tryz.prog) (W.alloc (.cells cs.toArray e)) t 0 e i0 ht hi0 g n cap cur hg' ⟨W.heap.size,0,none⟩ 1 1 cs hl hN h1 hroom hfit
   have hq:=q1 0
   rw[e1,hr] at hq
   injection hq with a b
   refine .inl ?_
   rw[<- a,e1]
   rfl
  ·have holds:∀ j u,xs[j]?=some u->(W.alloc (.cells cs.toArray e)).cell? ((⟨g,0,none⟩:Addr).add j)=some u:=World.ownsRow.cells hO (g:=g) (by rw[e1];rfl)
   have hr:=run_append_grow (P:=Tryz.prog) (W.alloc (.cells cs.toArray e)) t 0 e i0 z ht hi0 hz0.1 ⟨g,0,none⟩ n cap xs (by rw[own.1,hz0.2.1]) holds ⟨W.heap.size,0,none⟩ 1 1 cs hl hN (by omega) (by omega) (growslice_fits (by omega) (by rw[hz0.2.2];exact hn))
   have hq:=q1 0
   rw[e1,hr] at hq
   injection hq with a b
   refine .inr fun j hj=>?_
   rw[<- b]
   refine(heap_alloc_old (World.drew _) _ (by show j<(W.alloc _).heap.size;rw[World.size_alloc];omega)).trans ?_
   exact hB.block j hj
abbrev zMk:Obj:=.cells #[.slice none 0 0,.slice none 0 0,.slice none 0 0,.slice none 0 0,.int .i64 0] 50
structure M0 (w:World) (a:Fm) (pa:Option Addr) (ca B E m:Nat) (ks:List Ktp):Prop where
 kt:KtR w B (.slice pa ks.length ca) ks
 ht:ks.map Ktp.t=a.toks
 pE:∀ g o,pa=some ⟨g,o,none⟩->g<E
 wE:∀ x∈ks,∀ g o,x.p=some ⟨g,o,none⟩->g<E
 eW:E<=w.heap.size
 bW:B<=w.heap.size
 ln:ks.length*192<=140737488351232
 cs:∀ x∈ks,x.t.cst.length*8<=140737488351232
 mm:m<=100
 ne:0<ks.length
def slC (x:Ktp):Value:=.slice x.p x.t.cst.length x.c
structure M1 (w:World) (a:Fm) (pa:Option Addr) (ca B E m:Nat) (ks:List Ktp) (i k:Nat) (ks':List Ktp) (vC:Value) (W:World):Prop where
 fb:W.heap[w.heap.size]?=some (fmO a pa ca)
 rb:W.heap[w.heap.size+1]?=some zMk
 xb:W.heap[w.heap.size+1+1]?=some (.cells #[.slice pa a.toks.length ca,.slice none 0 0,vC,.slice none 0 0,.int .i64 (m:Int)] 50)
 kt:KtR W B (.slice pa ks'.length ca) ks'
 mr:Mrk m i k ks ks'
 co:W.ownsRow (w.heap.size+3) 38 1 vC i ((ks.take i).map slC)
 fr:Fr B E w W
section
variable {w:World} {a:Fm} {pa:Option Addr} {ca B E m:Nat} {ks:List Ktp} {i k:Nat} {ks':List Ktp} {vC:Value} {W:World}
theorem M0.len (c:M0 w a pa ca B E m ks):a.toks.length=ks.length:=by rw[<- c.ht,List.length_map]
theorem Mrk.back (h:Mrk m i k ks ks') {j:Nat} {y:Ktp} (hy:ks'[j]?=some y):∃ x,ks[j]?=some x/\y.p=x.p/\y.c=x.c/\y.t.cst.length=x.t.cst.length:=by
 have hl:j<ks.length:=by rw[<- h.len];exact(List.getElem?_eq_some_iff.1 hy).1
 obtain⟨y',e1,e2⟩:=h.shp j ks[j] (List.getElem?_eq_getElem hl)
 rw[hy] at e1
 cases e1
 exact⟨ks[j],List.getElem?_eq_getElem hl,e2⟩
theorem M1.lt (h:M1 w a pa ca B E m ks i k ks' vC W):w.heap.size+3<=W.heap.size:=(Array.getElem?_eq_some_iff.1 h.xb).1
theorem M1.wE (h:M1 w a pa ca B E m ks i k ks' vC W) (c:M0 w a pa ca B E m ks) {y:Ktp} (hy:y∈ks') {g o:Nat} (e:y.p=some ⟨g,o,none⟩):g<E:=by
 obtain⟨j,hj⟩:=List.mem_iff_getElem?.1 hy
 obtain⟨x,h1,h2,-⟩:=h.mr.back hj
 exact c.wE x (List.mem_of_getElem? h1) g o (by rw[<- h2];exact e)
theorem M1.word (h:M1 w a pa ca B E m ks i k ks' vC W) {y:Ktp} (hy:ks'[i]?=some y):∃ ga,pa=some ⟨ga,0,none⟩/\W.cell? ⟨ga,i*21+12,none⟩=some (.slice y.p y.t.cst.length y.c):=by
 have hil:=(List.getElem?_eq_some_iff.1 hy).1
 rcases h.kt.row.2 with ⟨_,e0⟩|⟨g,cap,cur,e,-⟩
 ·omega
 ·injection e with e1 _ _
  subst e1
  exact⟨g,rfl,ownCl h.kt.row (kpC_get ks' i y hy 12 (by omega))⟩
theorem M1.put (h:M1 w a pa ca B E m ks i k ks' vC W) (c:M0 w a pa ca B E m ks) {y:Ktp} (hy:ks'[i]?=some y) (hk:k<y.t.cst.length):∃ g,y.p=some ⟨g,0,none⟩/\(∃ u:Int,W.cell? ⟨g,k,none⟩=some (.int .u64 u))/\W.frozen? ⟨g,k,none⟩=false/\M1 w a pa ca B E m ks i (k+1) (ks'.set i ⟨{ y.t with cst:=y.t.cst.set k ((1000*m+i:Nat):Int) },y.p,y.c⟩) vC (W.setCell ⟨g,k,none⟩ (.int .u64 ((1000*m+i:Nat):Int))):=by
 obtain⟨g,e,g1,g2,g3,g4,g5,g6⟩:=h.kt.setW hy hk ((1000*m+i:Nat):Int)
 have hgE:=h.wE c (List.mem_of_getElem? hy) e
 have:=c.eW
 refine⟨g,e,g4,g5,⟨(set_off (by omega)).trans h.fb,(set_off (by omega)).trans h.rb,(set_off (by omega)).trans h.xb,by rw[List.length_set];exact g6,h.mr.put hy,own_stay h.co fun g' hg'=>set_off (by have:=h.co.lt g' hg';omega),h.fr.set g1 (.inl hgE) c.bW⟩⟩
theorem M1.push (c:M0 w a pa ca B E m ks) {y:Ktp} (h:M1 w a pa ca B E m ks i y.t.cst.length ks' vC W) (hy:ks'[i]?=some y):∃ pv cv w',(∀ ty,(Builtin.append_ #[48,48] ty #[vC,.slice (some ⟨W.heap.size,0,none⟩) 1 1]).run Tryz.prog (W.alloc (.cells #[.slice y.p y.t.cst.length y.c] 38)) = .ok (.slice pv (i+1) cv) w')/\w'.cell? ⟨w.heap.size+1+1,2,none⟩=some vC/\w'.frozen? ⟨w.heap.size+1+1,2,none⟩=false/\M1 w a pa ca B E m ks (i+1) 0 ks' (.slice pv (i+1) cv) (w'.setCell ⟨w.heap.size+1+1,2,none⟩ (.slice pv (i+1) cv)):=by
 obtain⟨x,hx,x1,x2,x3⟩:=h.mr.back hy
 have hil:=(List.getElem?_eq_some_iff.1 hx).1
 have hln:=c.ln
 have hlt:=h.lt
 obtain⟨v',w',q1,q2,q3,q4,q5⟩:=ap_genP (W:=W) Tryz.underlying48 infoUl rfl (by decide) h.co [.slice y.p y.t.cst.length y.c] rfl (by simp[Value.oneCell']) (by omega) (by omega) hlt
 obtain⟨pv,cv,rfl⟩:∃ pv cv,v' = .slice pv (i+1) cv:=by
  rcases q2.2 with ⟨_,e0⟩|⟨g,cap,cur,e,-⟩
  ·omega
  ·exact⟨_,_,e⟩
 have hoff:∀ j,j<w.heap.size+3->w'.heap[j]?=W.heap[j]?:=fun j hj=>q4 j (by omega) fun e=>by have:=h.co.lt j e;omega
 have hxb:=(hoff (w.heap.size+1+1) (by omega)).trans h.xb
 have hcE:=c.eW
 have hs:=q3.size
 refine⟨pv,cv,w',q1,cell_at hxb 2,frz_at hxb,⟨(set_off (by omega)).trans ((hoff _ (by omega)).trans h.fb),(set_off (by omega)).trans ((hoff _ (by omega)).trans h.rb),by rw[set_at hxb];rfl,?_,h.mr.next hy,?_,?_⟩⟩
 ·refine h.kt.keep (by simpa[World.setCell] using hs) fun j _ _ hj=>?_
  have:j<E:=by
   rcases hj with hj|⟨z,hz,o,e⟩
   ·rcases h.kt.row.2 with ⟨e0,-⟩|⟨g,cap,cur,e,-⟩
    ·rw[e0] at hj;simp[Value.ownBlock] at hj
    ·have e2:=own_ptr h.kt.row hj
     exact c.pE j 0 e2
   ·exact h.wE c hz e
  exact(set_off (by omega)).trans (hoff j (by omega))
 ·have e:(ks.take (i+1)).map slC=(ks.take i).map slC++[.slice y.p y.t.cst.length y.c]:=by
   rw[List.take_add_one,hx,List.map_append]
   simp only[Option.toList_some,List.map_cons,List.map_nil,slC,x1,x2,x3]
  rw[e]
  refine own_stay q2 fun g' hg'=>set_off fun e2=>?_
  rcases q5 g' hg' with h1|h1
  ·have:=h.co.lt g' h1;omega
  ·omega
 ·exact h.fr.one (by simpa[World.setCell] using hs) q3.os q3.tape q3.output (fun j hj hj'=>(set_off (by have:=c.bW;omega)).trans (q4 j hj fun e=>by have:=h.co.lt j e;have:=c.bW;omega)) c.bW
end
end Go.Proofs.YtcgimchhcaankaaGreatDoor
