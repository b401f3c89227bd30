import Derived.Test.YtkcjdncchoohoaaGreatDoorK23
namespace Go.Proofs.YtkcjdncchoohoaaGreatDoor
set_option maxRecDepth 1000000
set_option maxHeartbeats 16000000
open Go.ChangeShapes Go.WideShapes Go.ChangeAt Go.RowKit Go.Shelf Go.Maps
variable {B b base c i j n:Nat} {C cs ns os:List Nat} {W W':World} {f:Fm} {o:List Sc} {p:Option Addr} {t:Tk} {v:Int} {vc vo:Value} {x:Sc}
theorem NRow.setP {g cap:Nat} (h:NRow W base (.slice (some ⟨g,0,none⟩) n cap) ns) (i x:Nat) (hi:i<ns.length):NRow (W.setCell ⟨g,i,none⟩ (.int .i64 (x:Int))) base (.slice (some ⟨g,0,none⟩) n cap) (ns.set i x)/\(∃ y:Int,W.cell? ⟨g,i,none⟩=some (.int .i64 y))/\W.frozen? ⟨g,i,none⟩=false/\base<=g/\g<W.heap.size:=by
 rcases h.2 with ⟨e0,_⟩|⟨g',cap',cur,e1,h1,h2,h3,h4,h5,h6⟩
 ·cases e0
 ·cases e1
  have hlt:=(Array.getElem?_eq_some_iff.1 h2).1
  refine⟨⟨by simp,.inr ⟨g,cap,cur.setIfInBounds i (.int .i64 (x:Int)),by rw[List.length_set],h1,set_at h2 _,by simpa using h3,h4,by simpa using h5,?_⟩⟩,?_,frz_at h2,h1,hlt⟩
  ·rw[Array.toList_setIfInBounds,List.take_set,List.length_set,h6,List.map_set]
   rfl
  ·have e:(ns.map cI)[i]?=some (.int .i64 (ns[i]:Int)):=by rw[List.getElem?_map,List.getElem?_eq_getElem hi];rfl
   rw[<- h6,List.getElem?_take,if_pos (by omega),Array.getElem?_toList] at e
   exact⟨_,by rw[cell_at h2];exact e⟩
theorem NRow.cellP (h:NRow W base (.slice p n c) ns) {x:Nat} (hi:ns[i]?=some x):∃ g,p=some ⟨g,0,none⟩/\base<=g/\g<W.heap.size/\W.cell? ⟨g,i,none⟩=some (.int .i64 (x:Int)):=by
 obtain⟨pp,cp,e,h2⟩:=h.shape
 cases e
 obtain⟨g,rfl,h3,h4⟩:=h2 i x hi
 exact⟨g,rfl,(h.ltP g rfl).1,h3,h4⟩
theorem NRow.lenP (h:NRow W base (.slice p n c) ns):n=ns.length:=by
 obtain⟨pp,cp,e,_⟩:=h.shape
 cases e
 rfl
theorem make_ints (w:World) (n:Nat) (hn:n<=1000000000000):∃ w',(Instr.makeSlice 38 (.int .i64 (n:Int)) (.int .i64 (n:Int))).run Tryz.prog w = .ok (.slice (some ⟨w.heap.size,0,none⟩) n n) w'/\NRow w' w.heap.size (.slice (some ⟨w.heap.size,0,none⟩) n n) (List.replicate n 0)/\Below w.heap.size w w'/\w'.heap.size=w.heap.size+1:=by
 obtain⟨i,hi,hz⟩:=Option.map_eq_some_iff.1 infoInt
 simp only[Prod.mk.injEq] at hz
 have hr:=run_make (P:=Tryz.prog) w 38 3 i (.int .i64 0) Tryz.underlying38 hi hz.1 .i64 .i64 n n (by omega) (Int.le_refl _) (by rw[hz.2.2];omega) (by omega)
 simp only[Int.toNat_natCast] at hr
 refine⟨_,hr,?_,bel1 _ _,by simp⟩
 rw[hz.2.1,Nat.mul_one]
 refine⟨by simp,.inr ⟨w.heap.size,n,madeCells (Value.int .i64 0).cells n,by simp,Nat.le_refl _,heap_al _ _,by simp,by simp only[maxLen];omega,by rw[size_madeCells,Nat.mul_one],?_⟩⟩
 simp only[List.length_replicate,Nat.mul_one]
 rw[List.take_of_length_le (by rw[Array.length_toList,size_madeCells];exact Nat.le_refl _)]
 refine List.ext_getElem (by simp[madeCells]) fun k h1 h2=>?_
 simp[madeCells,cI,Value.cells,Nat.mod_one]
def plF (C:List Nat) (v:Int) (j:Nat):List Nat:=(List.range C.length).map fun i=>if i<j then rnk C v i else 0
theorem plF_zero (C:List Nat) (v:Int):plF C v 0=List.replicate C.length 0:=by
 unfold plF
 refine List.ext_getElem (by simp) fun k h1 h2=>?_
 simp
theorem plF_succ (C:List Nat) (v:Int) (j:Nat):(plF C v j).set j (rnk C v j)=plF C v (j+1):=by
 unfold plF
 refine List.ext_getElem (by simp) fun k h1 h2=>?_
 simp only[List.getElem_set,List.getElem_map,List.getElem_range]
 by_cases e:j=k
 ·subst e
  simp
 ·rw[if_neg e]
  by_cases h3:k<j
  ·rw[if_pos h3,if_pos (by omega)]
  ·rw[if_neg h3,if_neg (by omega)]
theorem plF_get (C:List Nat) (v:Int) (hi:i<C.length):(plF C v C.length)[i]?=some (rnk C v i):=by
 unfold plF
 rw[List.getElem?_map,List.getElem?_range hi]
 simp[hi]
theorem plF_length (C:List Nat) (v:Int) (j:Nat):(plF C v j).length=C.length:=by simp[plF]
structure Trn (W:World) (B b:Nat) (C:List Nat) (v:Int):Prop where
 c:∃ g n,W.heap[b]?=some (.cells #[.slice (some ⟨g,0,none⟩) n n] 38)/\NRow W B (.slice (some ⟨g,0,none⟩) n n) (plF C v C.length)/\g≠b
 b:B<=b
theorem Trn.below (h:Trn W B b C v) (hb:Below W.heap.size W W'):Trn W' B b C v:=by
 obtain⟨g,n,h1,h2,h3⟩:=h.c
 exact⟨⟨g,n,(hb.block _ (Array.getElem?_eq_some_iff.1 h1).1).trans h1,h2.below hb,h3⟩,h.b⟩
theorem turner_any (C:List Nat) (v:Int) (vc:Value) (B:Nat) (w:World) (hC:NRow w B vc C) (hl:C.length<=733007751850) :
  Calls Tryz.prog 26 #[vc,.int .i64 v] w fun e w'=>∃ b,e = .returned (.func (.func 40) #[] #[.pointer (some ⟨b,0,none⟩)])/\Trn w' w.heap.size b C v/\Below w.heap.size w w':=by
 obtain⟨pv,cv,rfl,-⟩:=hC.shape
 obtain⟨wm,hmk,hN,hbm,hsm⟩:=make_ints w C.length (by omega)
 have hbx:=bel1 wm (.cells #[.slice (some ⟨w.heap.size,0,none⟩) C.length C.length] 38)
 rw[<- plF_zero C v] at hN
 have H0:Hid (NRow (wm.alloc (.cells #[.slice (some ⟨w.heap.size,0,none⟩) C.length C.length] 38)) w.heap.size (.slice (some ⟨w.heap.size,0,none⟩) C.length C.length) (plF C v 0)):=⟨hN.below hbx⟩
 have HB0:Hid ((wm.alloc (.cells #[.slice (some ⟨w.heap.size,0,none⟩) C.length C.length] 38)).heap[wm.heap.size]?=some (.cells #[.slice (some ⟨w.heap.size,0,none⟩) C.length C.length] 38)):=⟨heap_al _ _⟩
 have B0:Hid (Below w.heap.size w (wm.alloc (.cells #[.slice (some ⟨w.heap.size,0,none⟩) C.length C.length] 38))):=⟨hbm.trans (hbx.mono hbm.size)⟩
 have hC':Hid _:=⟨hC⟩
 clear hbx hN hC
 generalize hh:wm.heap.size=b at H0 B0 hsm HB0
 have hbb:Hid (b=w.heap.size+1):=⟨hsm⟩
 clear hsm hbm
 go_enter Tryz.func26,Tryz.ntmps26
 go_wp2_with fail
 go_loopw [6,14] (fun q6 q wr=>∃ j:Nat,j<=C.length/\q = .int .i64 (j:Int)/\q6 = .int .i64 ((rnk C v j:Nat):Int)/\Hid (NRow wr w.heap.size (.slice (some ⟨w.heap.size,0,none⟩) C.length C.length) (plF C v j)/\wr.heap[b]?=some (.cells #[.slice (some ⟨w.heap.size,0,none⟩) C.length C.length] 38)/\Below w.heap.size w wr)) (fun _ q _=>C.length-(RowKit.intOf q).toNat)
 case atStart=>exact⟨0,Nat.zero_le _,by go_num,rfl,⟨H0.out,HB0.out,B0.out⟩⟩
 case round =>
  clear H0 HB0 B0 hmk
  obtain⟨j,hj,rfl,rfl,hI⟩:=hrel
  obtain⟨hN,hX,hB⟩:=hI.out
  clear hI
  by_cases hlt:j<C.length
  ·obtain⟨c,hc⟩:∃ c,C[j]?=some c:=⟨C[j],List.getElem?_eq_getElem hlt⟩
   obtain⟨g,rfl,-,hgl,hcc⟩:=hC'.out.cellP hc
   have c1:=(hB.cell (p:=⟨g,j,none⟩) hgl).trans hcc
   have c2:wr.cell? ⟨b,0,none⟩=some (.slice (some ⟨w.heap.size,0,none⟩) C.length C.length):=cell_at hX 0
   obtain⟨n1,⟨y,n2⟩,n3,-,-⟩:=hN.setP j (rnk C v j) (by rw[plF_length];exact hlt)
   rw[plF_succ] at n1
   have hji:(j:Int)<C.length:=by omega
   have hF:Hid (NRow (wr.setCell ⟨w.heap.size,j,none⟩ (.int .i64 ((rnk C v j:Nat):Int))) w.heap.size (.slice (some ⟨w.heap.size,0,none⟩) C.length C.length) (plF C v (j+1))/\(wr.setCell ⟨w.heap.size,j,none⟩ (.int .i64 ((rnk C v j:Nat):Int))).heap[b]?=some (.cells #[.slice (some ⟨w.heap.size,0,none⟩) C.length C.length] 38)/\Below w.heap.size w (wr.setCell ⟨w.heap.size,j,none⟩ (.int .i64 ((rnk C v j:Nat):Int)))):=⟨n1,(set_off (by have:=hbb.out;omega)).trans hX,hB.setCell (p:=⟨w.heap.size,j,none⟩) (Nat.le_refl _) _⟩
   have hr:=rnk_succ (v:=v) hc
   have hrl:=rnk_le C v j
   generalize hr0:rnk C v j=r at *
   have hR:Hid (rnk C v (j+1)=r+if (c:Int)<=v then 1 else 0):=⟨hr⟩
   have hrb:(r:Int)<1000000000000:=by omega
   clear hN hX hB n1 hcc hc hr0 hr hrl
   by_cases hcv:(c:Int)<=v
   ·have d1:decide ((c:Int)<=v)=true:=by simp[hcv]
    have hr':Hid (rnk C v (j+1)=r+1):=⟨by rw[hR.out,if_pos hcv]⟩
    clear hcv hR
    go_wp2_with fail
    go_roundw
    case rel=>exact⟨j+1,by omega,by go_num,by rw[hr'.out];go_num,hF⟩
    case measure=>simp[RowKit.intOf];omega
   ·have d1:decide ((c:Int)<=v)=false:=by simp[hcv]
    have hr':Hid (rnk C v (j+1)=r):=⟨by rw[hR.out,if_neg hcv];rfl⟩
    clear hcv hR
    go_wp2_with fail
    go_roundw
    case rel=>exact⟨j+1,by omega,by go_num,by rw[hr'.out],hF⟩
    case measure=>simp[RowKit.intOf];omega
  ·obtain rfl:j=C.length:=by omega
   have d3:decide ((C.length:Int)<C.length)=false:=by simp
   have hF:Hid _:=⟨hN⟩
   have hG:Hid _:=⟨hX⟩
   have hH:Hid _:=⟨hB⟩
   have hne:w.heap.size≠b/\w.heap.size<=b:=by have:=hbb.out;omega
   replace hne:=Hid.mk hne
   clear hN hX hB hlt hj
   go_wp2_with fail
   go_ret
   exact⟨b,rfl,⟨⟨w.heap.size,C.length,hG.out,hF.out,hne.out.1⟩,hne.out.2⟩,hH.out⟩
theorem turned_any {w:World} (h:Trn w B b C v) (i:Nat) (hi:i<C.length) :
  Calls Tryz.prog 40 #[.int .i64 (i:Int),.pointer (some ⟨b,0,none⟩)] w fun e w'=>e = .returned (.int .i64 ((rnk C v i:Nat):Int))/\w'=w:=by
 obtain⟨g,n,h1,h2,h3⟩:=h.c
 have hn:=h2.lenP
 rw[plF_length] at hn
 subst hn
 obtain⟨g',e,-,-,hc⟩:=h2.cellP (plF_get C v hi)
 cases e
 have c0:w.cell? ⟨b,0,none⟩=_:=cell_at h1 0
 have hii:(i:Int)<C.length:=by omega
 generalize rnk C v i=r at *
 clear h h1 h2 h3
 go_enter Tryz.func40,Tryz.ntmps40
 go_wp2_with fail
 go_ret
 exact⟨rfl,rfl⟩
theorem hasBlock_any (op:Int) (w:World):Calls Tryz.prog 28 #[.int .i64 op] w fun r w'=>r = .returned (.bool (decide (op=0\/op=4)))/\w'=w:=by
 by_cases h0:op=0
 ·subst h0
  go_enter Tryz.func28,Tryz.ntmps28
  go_wp2_with fail
  go_ret
  exact⟨rfl,rfl⟩
 ·have d0:(op==0)=false:=beqN h0
  have d4:(op==4)=decide (op=0\/op=4):=by rw[beqD];simp[h0]
  rw[<- d4]
  clear h0 d4
  go_enter Tryz.func28,Tryz.ntmps28
  go_wp2_with fail
  go_ret
  exact⟨rfl,rfl⟩
theorem dSince_any (t:Tk) (pc:Option Addr) (cc:Nat) (w:World) :
  Calls Tryz.prog 35 #[tkV t pc cc] w fun e w'=>e = .returned (.int .i64 (sinD t))/\Below w.heap.size w w':=by
 have HB:=bel1 w (tkO t pc cc)
 have hA:=tk_of (heap_al w (tkO t pc cc))
 generalize hW:w.alloc (tkO t pc cc)=W1 at hA HB
 have c0:W1.cell? ⟨w.heap.size,0,none⟩=some (.int .i64 t.op):=hA.c0
 have c5:W1.cell? ⟨w.heap.size,5,none⟩=some (.int .i64 t.since):=hA.c5
 replace HB:=Hid.mk HB
 simp only[tkO,tkC] at hW
 clear hA
 unfold sinD
 by_cases h:t.op=0\/t.op=2\/t.op=4\/t.op=6\/t.op=15
 ·rw[if_pos h]
  rcases h with h|h|h|h|h
  all_goals
   have e0:(t.op==0)=_:=congrArg (·==0) h
   have e2:(t.op==2)=_:=congrArg (·==2) h
   have e4:(t.op==4)=_:=congrArg (·==4) h
   have e6:(t.op==6)=_:=congrArg (·==6) h
   have e15:(t.op==15)=_:=congrArg (·==15) h
   simp only[Int.reduceBEq] at e0 e2 e4 e6 e15
   clear h
   go_enter Tryz.func35,Tryz.ntmps35
   go_wp2_with fail
   go_ret
   exact⟨rfl,HB.out⟩
 ·rw[if_neg h]
  have e0:(t.op==0)=false:=by simp;omega
  have e2:(t.op==2)=false:=by simp;omega
  have e4:(t.op==4)=false:=by simp;omega
  have e6:(t.op==6)=false:=by simp;omega
  have e15:(t.op==15)=false:=by simp;omega
  clear h
  go_enter Tryz.func35,Tryz.ntmps35
  go_wp2_with fail
  go_ret
  exact⟨rfl,HB.out⟩
structure Cmo (W:World) (B:Nat) (vc vo:Value) (cs os:List Nat):Prop where
 c:NRow W B vc cs
 o:NRow W B vo os
 ap:∀ k,vo.ownBlock=some k->vc.ownBlock≠some k
theorem Cmo.below (h:Cmo W B vc vo cs os) (hb:Below W.heap.size W W'):Cmo W' B vc vo cs os:=⟨h.c.below hb,h.o.below hb,h.ap⟩
theorem Cmo.addC (h:Cmo W B vc vo cs os) (k:Nat) (hl:cs.length+1<=1000000000000) (hB:B<=W.heap.size) :
  ∃ v' w',(∀ ty,(Builtin.append_ #[38,38] ty #[vc,.slice (some ⟨W.heap.size,0,none⟩) 1 1]).run Tryz.prog (W.alloc (.cells #[.int .i64 (k:Int)] 3)) = .ok v' w')/\(Cmo w' B v' vo (cs++[k]) os/\Below B W w'/\∀ j,j<W.heap.size->vc.ownBlock≠some j->w'.heap[j]?=W.heap[j]?):=by
 obtain⟨v',w',a1,a2,a3,a4,a5⟩:=i_apP k h.c hl hB
 refine⟨v',w',a1,⟨a2,h.o.keepP fun j hj=>a4 j (h.o.ltP j hj).2 (h.ap j hj),fun j hj e=>?_⟩,a3,a4⟩
 rcases a5 j e with e|e
 ·exact h.ap j hj e
 ·have:=(h.o.ltP j hj).2;omega
theorem Cmo.addO (h:Cmo W B vc vo cs os) (k:Nat) (hl:os.length+1<=1000000000000) (hB:B<=W.heap.size) :
  ∃ v' w',(∀ ty,(Builtin.append_ #[38,38] ty #[vo,.slice (some ⟨W.heap.size,0,none⟩) 1 1]).run Tryz.prog (W.alloc (.cells #[.int .i64 (k:Int)] 3)) = .ok v' w')/\(Cmo w' B vc v' cs (os++[k])/\Below B W w'):=by
 obtain⟨v',w',a1,a2,a3,a4,a5⟩:=i_apP k h.o hl hB
 refine⟨v',w',a1,⟨h.c.keepP fun j hj=>a4 j (h.c.ltP j hj).2 fun e=>h.ap j e hj,a2,fun j hj e=>?_⟩,a3⟩
 rcases a5 j hj with e' | e'
 ·exact h.ap j e' e
 ·have:=(h.c.ltP j e).2;omega
def opL (s:St):List Nat:=(s.open_.map Sc.at_).reverse
theorem cam_at (hz:chkZ f=none) (ht:f.toks[j]?=some t) (hx:(stA f j).open_=x::o):∃ c,(camF (f.toks.take j) [])[x.at_]?=some c/\(camS (stkD (f.toks.take j) []) t).1=if edO t.op then c else max t.since.toNat c:=by
 have hj:=(List.getElem?_eq_some_iff.1 ht).1
 obtain⟨_,H⟩:=val_ok hz ht
 have hlt:x.at_<j:=(H.all x (by rw[hx];exact List.mem_cons_self ..)).lt
 have hl:=camZ_length f
 refine⟨(camZ f).getD x.at_ 0,?_,?_⟩
 ·rw[<- camF_take,List.getElem?_take_of_lt hlt,List.getD_eq_getElem?_getD]
  have:(camZ f)[x.at_]?=some ((camZ f)[x.at_]'(by omega)):=List.getElem?_eq_getElem _
  rw[this]
  exact this
 ·rw[stk_open hz j (by omega),hx,List.map_cons]
  unfold camS
  cases edO t.op with
  | true=>rfl
  | false=>simp only[List.headD_cons,Bool.false_eq_true,if_false];exact Nat.max_comm _ _
theorem cam_top (hz:chkZ f=none) (ht:f.toks[j]?=some t) (he:edO t.op=false) (hx:(stA f j).open_=[]):(camS (stkD (f.toks.take j) []) t).1=t.since.toNat:=by
 have hj:=(List.getElem?_eq_some_iff.1 ht).1
 rw[stk_open hz j (by omega),hx]
 unfold camS
 rw[he]
 simp
theorem opL_end (ht:f.toks[j]?=some t) (he:edO t.op=true) (hx:(stA f j).open_=x::o):opL (stA f j)=(o.map Sc.at_).reverse++[x.at_]/\opL (stA f (j+1))=(o.map Sc.at_).reverse:=by
 refine⟨by unfold opL;rw[hx,List.map_cons,List.reverse_cons],?_⟩
 rw[stA_succ ht]
 unfold opL nxt
 rw[if_pos he,hx]
 rfl
theorem opL_begin (ht:f.toks[j]?=some t) (he:edO t.op=false):opL (stA f (j+1))=if bgO t.op then opL (stA f j)++[j] else opL (stA f j):=by
 rw[stA_succ ht]
 unfold opL nxt
 rw[if_neg (by rw[he];decide)]
 cases bgO t.op with
 | true=>simp only[if_true,List.map_cons,List.reverse_cons,metL_ats];rfl
 | false=>simp only[Bool.false_eq_true,if_false,metL_ats]
theorem opL_length (hz:chkZ f=none) (hj:j<=f.toks.length):(opL (stA f j)).length<=j:=by
 have h1:=stkD_length (f.toks.take j) []
 rw[stk_open hz j hj,List.length_map,List.length_take] at h1
 unfold opL
 rw[List.length_reverse,List.length_map]
 simp at h1
 omega
theorem cam_go {tb:Nat} (M:Cmo W B vc vo cs os) (k m:Nat) (hl:cs.length+1<=1000000000000) (ho:os.length+1<=1000000000000) (hB:B<=W.heap.size) (htb:tb<W.heap.size) (hv:vc.ownBlock≠some tb) :
  ∃ pv cv w',Hid (∀ ty,(Builtin.append_ #[38,38] ty #[vc,.slice (some ⟨W.heap.size,0,none⟩) 1 1]).run Tryz.prog (W.alloc (.cells #[.int .i64 (k:Int)] 3)) = .ok (.slice pv (cs.length+1) cv) w')/\w'.heap[tb]?=W.heap[tb]?/\Hid (Cmo w' B (.slice pv (cs.length+1) cv) vo (cs++[k]) os/\Below B W w') /\
   ∃ po co w'',Hid (∀ ty,(Builtin.append_ #[38,38] ty #[vo,.slice (some ⟨w'.heap.size,0,none⟩) 1 1]).run Tryz.prog (w'.alloc (.cells #[.int .i64 (m:Int)] 3)) = .ok (.slice po (os.length+1) co) w'')/\Hid (Cmo w'' B (.slice pv (cs.length+1) cv) (.slice po (os.length+1) co) (cs++[k]) (os++[m])/\Below B W w''):=by
 obtain⟨v',w',a1,a2,a3,a4⟩:=M.addC k hl hB
 obtain⟨v'',w'',b1,b2,b3⟩:=a2.addO m ho (Nat.le_trans hB a3.size)
 obtain⟨pv,cv,e,-⟩:=a2.c.shape
 obtain⟨po,co,e2,-⟩:=b2.o.shape
 rw[List.length_append,List.length_singleton] at e e2
 subst e e2
 exact⟨pv,cv,w',⟨a1⟩,a4 tb htb hv,⟨a2,a3⟩,po,co,w'',⟨b1⟩,⟨b2,a3.trans b3⟩⟩
theorem dCame_any (f:Fm) (pp:Option Addr) (cp:Nat) (w:World) (hz:chkZ f=none) (tl:TkL w pp w.heap.size f.toks) (hlm:f.toks.length*192<=140737488351232) :
  Calls Tryz.prog 20 #[fmV f pp cp] w fun e w'=>∃ v,e = .returned v/\NRow w' w.heap.size v (camZ f)/\Below w.heap.size w w':=by
 have hb:=bel1 w (fmO f pp cp)
 have H1:=heap_al w (fmO f pp cp)
 have hs1:(w.alloc (fmO f pp cp)).heap.size=w.heap.size+1:=World.size_alloc _ _
 generalize hW:w.alloc (fmO f pp cp)=W1 at hb H1 hs1
 simp only[fmO] at hW
 have hll:f.toks.length<=733007751850:=by omega
 have hT:Hid _:=⟨tl.below hb⟩
 have hZ:Hid _:=⟨hz⟩
 have hF:Hid _:=⟨H1⟩
 have hBW:Hid _:=⟨hb⟩
 have hS1:Hid _:=⟨hs1⟩
 clear hb H1 hs1 tl hz hlm
 go_enter Tryz.func20,Tryz.ntmps20
 go_wp2_with fail
 go_loopw [3,4,5] (fun vc vo q wr=>∃ j:Nat,j<=f.toks.length/\q = .int .i64 (j:Int)/\Hid (Cmo wr W1.heap.size vc vo (camF (f.toks.take j) []) (opL (stA f j))/\Below W1.heap.size W1 wr)) (fun _ _ q _=>f.toks.length-(RowKit.intOf q).toNat)
 case atStart=>exact⟨0,Nat.zero_le _,by go_num,⟨⟨NRow.nil _ _,NRow.nil _ _,fun k hk=>by simp[Value.ownBlock] at hk⟩,Below.refl _ _⟩⟩
 case round =>
  obtain⟨j,hj,rfl,hI⟩:=hrel
  have hM:Hid _:=⟨hI.out.1⟩
  have hB:Hid _:=⟨hI.out.2⟩
  clear hI
  have x12:wr.cell? ⟨w.heap.size,12,none⟩=some (.slice pp f.toks.length cp):=cell_at ((hB.out.block _ (by have:=hS1.out;omega)).trans hF.out) 12
  by_cases hlt:j<f.toks.length
  ·obtain⟨t,ht⟩:∃ t,f.toks[j]?=some t:=⟨f.toks[j],List.getElem?_eq_getElem hlt⟩
   obtain⟨gf,ofs,pc,cc,rfl,hgf,hTk,-,-⟩:=hT.out.row.c j t ht
   have hT1:=hTk.below hgf ((hB.out.mono (Nat.le_refl _)).mono (by have:=hS1.out;omega))
   have l1:Hid _:=⟨hT1.load⟩
   obtain⟨W2,s1,hA,hb1,hz1⟩:=ld_new wr t pc cc
   have hji:(j:Int)<f.toks.length:=by omega
   have hcl:(camF (f.toks.take j) []).length=j:=by rw[camF_length,List.length_take];omega
   have hol:=opL_length hZ.out hj
   have M2:=hM.out.below hb1
   have hw2:W1.heap.size<=W2.heap.size:=Nat.le_trans hB.out.size hb1.size
   have htb:wr.heap.size<W2.heap.size:=by omega
   have BW:Below W1.heap.size W1 W2:=hB.out.trans (hb1.mono hB.out.size)
   have ec:camF (f.toks.take (j+1)) []=camF (f.toks.take j) []++[(camS (stkD (f.toks.take j) []) t).1]:=by rw[take_snoc ht,camF_append];rfl
   have vcT:u3.ownBlock≠some wr.heap.size:=fun e=>by have:=(hM.out.c.ltP _ e).2;omega
   have p20:∀ V:World,V.heap[wr.heap.size]?=W2.heap[wr.heap.size]?->V.cell? ⟨wr.heap.size,20,none⟩=some (.int .i64 t.pair):=fun V hV=>(hA.same hV).c20
   have y20:W2.cell? ⟨wr.heap.size,20,none⟩=some (.int .i64 t.pair):=p20 W2 rfl
   replace s1:=Hid.mk s1
   have lA:Hid _:=⟨hA.load⟩
   have hZ1:Hid _:=⟨hz1⟩
   clear hT1 hTk
   rcases val_tok hZ.out ht with ⟨he,hbg,x,o,hx,hp,hxj⟩|hrest
   ·obtain⟨c,hc1,hc2⟩:=cam_at hZ.out ht hx
    rw[if_pos he] at hc2
    obtain⟨ho1,ho2⟩:=opL_end ht he hx
    rw[hc2] at ec
    rw[ho1] at M2 hol
    rw[hp] at y20
    have hNX:Hid (camF (f.toks.take (j+1)) []=camF (f.toks.take j) []++[c]/\opL (stA f (j+1))=(o.map Sc.at_).reverse):=⟨ec,ho2⟩
    clear p20 lA ec ho1 ho2 hc2 he hbg hx hp ht hM vcT
    generalize camF (f.toks.take j) []=cs at M2 hcl hc1 hNX
    generalize (o.map Sc.at_).reverse=r at M2 hol hNX
    generalize x.at_=xa at M2 hol y20 hc1 hxj
    obtain⟨v',w',a1,m1,b1,-⟩:=M2.addC c (by omega) hw2
    obtain⟨go,co,rfl,hco⟩:∃ go co,u4 = .slice (some ⟨go,0,none⟩) (r.length+1) co/\r.length+1<=co:=by
     obtain⟨po,co,e,-⟩:=M2.o.shape
     rw[e] at M2
     obtain⟨_,e2,e3,g,rfl⟩:=M2.o.pop
     exact⟨g,co,by rw[e,e2],e3⟩
    obtain⟨pv,cv,rfl,-⟩:=M2.c.shape
    obtain⟨gc,rfl,-,-,k1⟩:=M2.c.cellP hc1
    obtain⟨pv',cv',rfl,-⟩:=m1.c.shape
    have hlen:(cs++[c]).length=j+1:=by simp[hcl]
    have hFN:Hid (Cmo w' W1.heap.size (.slice pv' (j+1) cv') (.slice (some ⟨go,0,none⟩) r.length co) (cs++[c]) r/\Below W1.heap.size W1 w'):=by rw[<- hlen];exact⟨⟨m1.c,(NRow.pop m1.o).1,fun k hk=>m1.ap k hk⟩,BW.trans b1⟩
    have hrl:r.length+1<=733007751850:=by rw[List.length_append] at hol;simp at hol;omega
    have hrc:((r.length:Int))<=co:=by omega
    have hxi:(xa:Int)<j:=by omega
    have hxc:(xa:Int)<cs.length:=by omega
    replace a1:=Hid.mk a1
    clear M2 hol hc1 m1 b1 BW hb1 hz1 hw2 htb hco hlen
    go_wp2_with (first
     | (guard_target =~ wpList _ _ _ (Oper.mk _ (Op.load 47 _) _ _ _ _::_) _ _;go_must (refine wpList_ld 47 _ rfl rfl _ _ rfl l1.out ?_);simp only[pts])
     | (guard_target =~ wpList _ _ _ (Oper.mk _ (Op.store 47 _ _) _ _ _ _::_) _ _;go_must (refine wpList_st 47 _ _ rfl rfl _ _ rfl rfl (s1.out _ rfl) ?_);simp only[pts])
     | (at_builtin;go_must (refine(wpList_append_ex (by rfl) _ _ _ _ (by rfl) _ _ (by rfl) (by rfl) (fun a b=>_=a/\w'=b) ⟨_,w',a1.out,rfl,rfl⟩ ?_));rintro _ _ ⟨rfl,rfl⟩))
    go_roundw
    case rel=>exact⟨j+1,by omega,by go_num,⟨by rw[hNX.out.1,hNX.out.2];exact hFN.out.1,hFN.out.2⟩⟩
    case measure=>simp[RowKit.intOf];omega
   have hse:edO t.op=false:=by rcases hrest with h|h<;>exact h.1
   have eo:=opL_begin ht hse
   obtain⟨n,hp,hjn⟩:∃ n:Nat,t.pair=(n:Int)/\j<=n/\(bgO t.op=true->j<n)/\(bgO t.op=false->n=j):=by
    rcases hrest with ⟨_,h2,n,h3,h4,_⟩|⟨_,h2,h3,_⟩
    ·exact⟨n,h3,by omega,fun _=>h4,fun h=>by rw[h2] at h;cases h⟩
    ·exact⟨j,h3,Nat.le_refl _,fun h=>(by rw[h2] at h;cases h),fun _=>rfl⟩
   have cS:=dSince_any t pc cc W2
   rw[sin_doc hZ.out ht] at cS
   rw[hp] at y20 p20
   have d1:decide ((n:Int)<j)=false:=by simp;omega
   have F1:Hid (1=1):=⟨rfl⟩
   have F2:Hid (1=1):=⟨rfl⟩
   have hni:(n:Int)≥j:=by omega
   cases hop:(stA f j).open_ with
   | nil =>
    have hbt:bgO t.op=true:=by
     rcases hrest with h|⟨_,_,_,x,o,h⟩
     ·exact h.2.1
     ·rw[hop] at h;cases h
    rw[cam_top hZ.out ht hse hop] at ec
    rw[if_pos hbt] at eo
    have hoe:opL (stA f j)=[]:=by unfold opL;rw[hop];rfl
    rw[hoe] at M2 eo
    have d2:decide ((j:Int)<n)=true:=by have:=hjn.2.1 hbt;simp;omega
    have d2i:(j:Int)<n:=by have:=hjn.2.1 hbt;omega
    have d2n:j<n:=hjn.2.1 hbt
    have hNX:Hid (camF (f.toks.take (j+1)) []=camF (f.toks.take j) []++[t.since.toNat]/\opL (stA f (j+1))=[]++[j]):=⟨ec,eo⟩
    generalize t.since.toNat=s at cS ec hNX
    generalize camF (f.toks.take j) []=cs at M2 hcl hNX
    obtain⟨po,co,rfl,-⟩:=M2.o.shape
    obtain⟨pv,cv,rfl,-⟩:=M2.c.shape
    subst hcl
    have GO:Hid (∀ w2,Below W2.heap.size W2 w2->∃ pv' cv' w3,Hid (∀ ty,(Builtin.append_ #[38,38] ty #[.slice pv cs.length cv,.slice (some ⟨w2.heap.size,0,none⟩) 1 1]).run Tryz.prog (w2.alloc (.cells #[.int .i64 (s:Int)] 3)) = .ok (.slice pv' (cs.length+1) cv') w3)/\w3.cell? ⟨wr.heap.size,20,none⟩=some (.int .i64 (n:Int))/\∃ po' co' w4,Hid (∀ ty,(Builtin.append_ #[38,38] ty #[.slice po 0 co,.slice (some ⟨w3.heap.size,0,none⟩) 1 1]).run Tryz.prog (w3.alloc (.cells #[.int .i64 (cs.length:Int)] 3)) = .ok (.slice po' 1 co') w4)/\Hid (Cmo w4 W1.heap.size (.slice pv' (cs.length+1) cv') (.slice po' 1 co') (cs++[s]) ([]++[cs.length])/\Below W1.heap.size W1 w4)):=⟨fun w2 hb2=>by
     obtain⟨pv',cv',w3,g1,g2,-,po',co',w4,g4,g5⟩:=cam_go (tb:=wr.heap.size) (M2.below hb2) s cs.length (by omega) (by simp) (Nat.le_trans hw2 hb2.size) (Nat.lt_of_lt_of_le htb hb2.size) vcT
     exact⟨pv',cv',w3,g1,p20 _ (g2.trans (hb2.block _ htb)),po',co',w4,g4,⟨g5.out.1,BW.trans ((hb2.mono hw2).trans g5.out.2)⟩⟩⟩
    clear M2 hol BW hb1 hz1 hw2 htb p20 ec eo hoe hop hbt hrest hjn hp hse ht hM vcT hA
    go_wp2_with (first
      | (guard_target =~ wpList _ _ _ (Oper.mk _ (Op.load 47 _) _ _ _ _::_) _ _;go_must (first|refine wpList_ld 47 (.tmp 18) rfl rfl _ _ rfl l1.out ?_|refine wpList_ld 47 (.tmp 6) rfl rfl _ _ rfl lA.out ?_);simp only[pts])
      | (guard_target =~ wpList _ _ _ (Oper.mk _ (Op.store 47 _ _) _ _ _ _::_) _ _;go_must (refine wpList_st 47 _ _ rfl rfl _ _ rfl rfl (s1.out _ rfl) ?_);simp only[pts])
      | (go_at_call 35;refine cS.mono ?_;rintro _ w2 ⟨rfl,hb2⟩;obtain⟨pv',cv',w3,q1,y20',po',co',w4,q4,q5⟩:=GO.out w2 hb2;clear hb2)
      | (at_builtin;clear F1;go_must (refine(wpList_append_ex (by rfl) _ _ _ _ (by rfl) _ _ (by rfl) (by rfl) (fun a b=>_=a/\w3=b) ⟨_,w3,q1.out,rfl,rfl⟩ ?_));rintro _ _ ⟨rfl,rfl⟩)
      | (at_builtin;clear F2;go_must (refine(wpList_append_ex (by rfl) _ _ _ _ (by rfl) _ _ (by rfl) (by rfl) (fun a b=>_=a/\w4=b) ⟨_,w4,q4.out,rfl,rfl⟩ ?_));rintro _ _ ⟨rfl,rfl⟩))
    go_roundw
    case rel=>exact⟨cs.length+1,by omega,by go_num,⟨by rw[hNX.out.1,hNX.out.2];exact q5.out.1,q5.out.2⟩⟩
    case measure=>simp[RowKit.intOf];omega
   | cons x o =>
    obtain⟨c,hc1,hc2⟩:=cam_at hZ.out ht hop
    rw[if_neg (by rw[hse];decide)] at hc2
    rw[hc2] at ec
    have hoe:opL (stA f j)=(o.map Sc.at_).reverse++[x.at_]:=by unfold opL;rw[hop,List.map_cons,List.reverse_cons]
    rw[hoe] at M2 eo hol
    have hxj:=(List.getElem?_eq_some_iff.1 hc1).1
    have hNX:Hid (camF (f.toks.take (j+1)) []=camF (f.toks.take j) []++[max t.since.toNat c]/\opL (stA f (j+1))=if bgO t.op then (o.map Sc.at_).reverse++[x.at_]++[j] else (o.map Sc.at_).reverse++[x.at_]):=⟨ec,eo⟩
    clear hoe hop hc2 eo ec hrest
    generalize t.since.toNat=s at cS hNX
    obtain⟨mx,hmx⟩:∃ mx,max s c=mx:=⟨_,rfl⟩
    rw[hmx] at hNX
    have hmi:(if s<c then (c:Int) else (s:Int))=(mx:Int):=by rw[<- hmx];split<;>omega
    clear hmx
    generalize camF (f.toks.take j) []=cs at M2 hcl hNX hc1 hxj
    generalize (o.map Sc.at_).reverse=r at M2 hol hNX
    generalize x.at_=xa at M2 hol hc1 hxj hNX
    obtain⟨go,co,rfl,hco⟩:∃ go co,u4 = .slice (some ⟨go,0,none⟩) (r.length+1) co/\r.length+1<=co:=by
     obtain⟨po,co,e,-⟩:=M2.o.shape
     rw[e] at M2
     obtain⟨_,e2,e3,g,rfl⟩:=M2.o.pop
     exact⟨g,co,by rw[e,e2],e3⟩
    obtain⟨pv,cv,rfl,-⟩:=M2.c.shape
    obtain⟨gc,rfl,-,-,-⟩:=M2.c.cellP hc1
    have hro:(r++[xa])[r.length]?=some xa:=by simp
    have hol2:(r++[xa]).length=r.length+1:=by simp
    rw[hol2] at hol
    subst hcl
    have hxc:(xa:Int)<cs.length:=by omega
    have hrl:r.length+1<=733007751850:=by omega
    have GO:Hid (∀ w2,Below W2.heap.size W2 w2->w2.cell? ⟨go,r.length,none⟩=some (.int .i64 (xa:Int))/\w2.cell? ⟨gc,xa,none⟩=some (.int .i64 (c:Int))/\∃ pv' cv' w3,Hid (∀ ty,(Builtin.append_ #[38,38] ty #[.slice (some ⟨gc,0,none⟩) cs.length cv,.slice (some ⟨w2.heap.size,0,none⟩) 1 1]).run Tryz.prog (w2.alloc (.cells #[.int .i64 (mx:Int)] 3)) = .ok (.slice pv' (cs.length+1) cv') w3)/\w3.cell? ⟨wr.heap.size,20,none⟩=some (.int .i64 (n:Int))/\Hid (Cmo w3 W1.heap.size (.slice pv' (cs.length+1) cv') (.slice (some ⟨go,0,none⟩) (r.length+1) co) (cs++[mx]) (r++[xa])/\Below W1.heap.size W1 w3)/\∃ po' co' w4,Hid (∀ ty,(Builtin.append_ #[38,38] ty #[.slice (some ⟨go,0,none⟩) (r.length+1) co,.slice (some ⟨w3.heap.size,0,none⟩) 1 1]).run Tryz.prog (w3.alloc (.cells #[.int .i64 (cs.length:Int)] 3)) = .ok (.slice po' (r.length+1+1) co') w4)/\Hid (Cmo w4 W1.heap.size (.slice pv' (cs.length+1) cv') (.slice po' (r.length+1+1) co') (cs++[mx]) (r++[xa]++[cs.length])/\Below W1.heap.size W1 w4)):=⟨fun w2 hb2=>by
     have M3:=M2.below hb2
     obtain⟨pv',cv',w3,g1,g2,g3,po',co',w4,g4,g5⟩:=cam_go (tb:=wr.heap.size) M3 mx cs.length (by omega) (by omega) (Nat.le_trans hw2 hb2.size) (Nat.lt_of_lt_of_le htb hb2.size) vcT
     rw[hol2] at g4 g5
     obtain⟨_,e1,-,-,k2⟩:=M3.o.cellP hro
     obtain⟨_,e3,-,-,k3⟩:=M3.c.cellP hc1
     cases e1
     cases e3
     have hBB:=BW.trans (hb2.mono hw2)
     exact⟨k2,k3,pv',cv',w3,g1,p20 _ (g2.trans (hb2.block _ htb)),⟨g3.out.1,hBB.trans g3.out.2⟩,po',co',w4,g4,⟨g5.out.1,hBB.trans g5.out.2⟩⟩⟩
    clear M2 hol BW hb1 hz1 hw2 htb p20 hp hse ht hM vcT hA hc1 hro hol2 hxj hco
    cases hbg:bgO t.op with
    | true =>
     have d2n:cs.length<n:=hjn.2.1 hbg
     have d2:decide ((cs.length:Int)<n)=true:=by simp;omega
     have d2i:(cs.length:Int)<n:=by omega
     rw[if_pos hbg] at hNX
     clear hjn hbg
     go_wp2_with (first
       | (guard_target =~ wpList _ _ _ (Oper.mk _ (Op.load 47 _) _ _ _ _::_) _ _;go_must (first|refine wpList_ld 47 (.tmp 18) rfl rfl _ _ rfl l1.out ?_|refine wpList_ld 47 (.tmp 6) rfl rfl _ _ rfl lA.out ?_);simp only[pts])
       | (guard_target =~ wpList _ _ _ (Oper.mk _ (Op.store 47 _ _) _ _ _ _::_) _ _;go_must (refine wpList_st 47 _ _ rfl rfl _ _ rfl rfl (s1.out _ rfl) ?_);simp only[pts])
       | (go_at_call 35;refine cS.mono ?_;rintro _ w2 ⟨rfl,hb2⟩;obtain⟨k2,k3,pv',cv',w3,q1,y20',q3,po',co',w4,q4,q5⟩:=GO.out w2 hb2;clear hb2)
       | (at_builtin;clear F1;go_must (refine(wpList_append_ex (by rfl) _ _ _ _ (by rfl) _ _ (by rfl) (by rfl) (fun a b=>_=a/\w3=b) ⟨_,w3,q1.out,rfl,rfl⟩ ?_));rintro _ _ ⟨rfl,rfl⟩)
       | (at_builtin;clear F2;go_must (refine(wpList_append_ex (by rfl) _ _ _ _ (by rfl) _ _ (by rfl) (by rfl) (fun a b=>_=a/\w4=b) ⟨_,w4,q4.out,rfl,rfl⟩ ?_));rintro _ _ ⟨rfl,rfl⟩))
     go_roundw
     case rel=>exact⟨cs.length+1,by omega,by go_num,⟨by rw[hNX.out.1,hNX.out.2];exact q5.out.1,q5.out.2⟩⟩
     case measure=>simp[RowKit.intOf];omega
    | false =>
     obtain rfl:n=cs.length:=hjn.2.2 hbg
     have d2:decide ((cs.length:Int)<cs.length)=false:=by simp
     rw[if_neg (by rw[hbg];decide)] at hNX
     clear hjn hbg
     go_wp2_with (first
       | (guard_target =~ wpList _ _ _ (Oper.mk _ (Op.load 47 _) _ _ _ _::_) _ _;go_must (first|refine wpList_ld 47 (.tmp 18) rfl rfl _ _ rfl l1.out ?_|refine wpList_ld 47 (.tmp 6) rfl rfl _ _ rfl lA.out ?_);simp only[pts])
       | (guard_target =~ wpList _ _ _ (Oper.mk _ (Op.store 47 _ _) _ _ _ _::_) _ _;go_must (refine wpList_st 47 _ _ rfl rfl _ _ rfl rfl (s1.out _ rfl) ?_);simp only[pts])
       | (go_at_call 35;refine cS.mono ?_;rintro _ w2 ⟨rfl,hb2⟩;obtain⟨k2,k3,pv',cv',w3,q1,y20',q3,po',co',w4,q4,q5⟩:=GO.out w2 hb2;clear hb2)
       | (at_builtin;clear F1;go_must (refine(wpList_append_ex (by rfl) _ _ _ _ (by rfl) _ _ (by rfl) (by rfl) (fun a b=>_=a/\w3=b) ⟨_,w3,q1.out,rfl,rfl⟩ ?_));rintro _ _ ⟨rfl,rfl⟩)
       | (at_builtin;clear F2;go_must (refine(wpList_append_ex (by rfl) _ _ _ _ (by rfl) _ _ (by rfl) (by rfl) (fun a b=>_=a/\w4=b) ⟨_,w4,q4.out,rfl,rfl⟩ ?_));rintro _ _ ⟨rfl,rfl⟩))
     go_roundw
     case rel=>exact⟨cs.length+1,by omega,by go_num,⟨by rw[hNX.out.1,hNX.out.2];exact q3.out.1,q3.out.2⟩⟩
     case measure=>simp[RowKit.intOf];omega
  ·obtain rfl:j=f.toks.length:=by omega
   have d3:decide ((f.toks.length:Int)<f.toks.length)=false:=by simp
   have hE:=hM.out.c
   rw[List.take_length] at hE
   have h3':Hid _:=⟨hE⟩
   obtain⟨pv,cv,rfl,-⟩:=hE.shape
   clear hE hlt hj
   go_wp2_with fail
   go_ret
   exact⟨_,rfl,h3'.out.low (by have:=hS1.out;omega),hBW.out.trans (hB.out.mono hBW.out.size)⟩
end Go.Proofs.YtkcjdncchoohoaaGreatDoor
