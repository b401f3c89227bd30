import Derived.Test.YtcgimchhcaankaaGreatDoorK19
namespace Go.Proofs.YtcgimchhcaankaaGreatDoor
set_option maxRecDepth 1000000
set_option maxHeartbeats 16000000
open Go.ChangeShapes Go.WideShapes Go.ChangeAt Go.RowKit Go.Shelf Go.Maps
theorem Keys.congr {l:List Tk} {o:List Sc} {i:Nat} {ids:List Int} {H1 G1:Int->Prop} {H2 G2:Nat->ByteArray->Prop} {H3 G3:Nat->Int->Prop} (h:Keys l o i ids H1 H2 H3) (e1:∀ d,G1 d↔H1 d) (e2:∀ k n,G2 k n↔H2 k n) (e3:∀ k v,G3 k v↔H3 k v):Keys l o i ids G1 G2 G3 :=
 ⟨fun d=>(e1 d).trans (h.id d),fun s hs he n=>(e2 _ n).trans (h.nm s hs he n),fun s hs he n=>(e2 _ n).trans (h.ch s hs he n),fun s hs he v=>(e3 _ v).trans (h.vl s hs he v),
  fun k hk=>⟨fun n e=>(h.no k hk).1 n ((e2 k n).1 e),fun v e=>(h.no k hk).2 v ((e3 k v).1 e)⟩⟩
abbrev KeysV (l:List Tk) (o:List Sc) (i:Nat) (ids:List Int) (h1 h2 h3:Value->Prop):Prop:=Keys l o i ids (fun d=>h1 (.int .i64 d)) (fun k n=>h2 (nmK k n)) (fun k v=>h3 (vlK k v))
theorem nmK_eq {a b:Nat} {s t:ByteArray}:nmK a s=nmK b t↔a=b/\s=t:=by
 constructor
 ·intro e
  simp only[Value.agg.injEq,Array.mk.injEq,List.cons.injEq,Value.int.injEq,Value.string.injEq,true_and,and_true] at e
  exact⟨by omega,e.2⟩
 ·rintro⟨rfl,rfl⟩;rfl
theorem vlK_eq {a b:Nat} {s t:Int}:vlK a s=vlK b t↔a=b/\s=t:=by
 constructor
 ·intro e
  simp only[Value.agg.injEq,Array.mk.injEq,List.cons.injEq,Value.int.injEq,true_and,and_true] at e
  exact⟨by omega,e.2⟩
 ·rintro⟨rfl,rfl⟩;rfl
theorem intK_eq {a b:Int}:Value.int .i64 a=Value.int .i64 b↔a=b:=by simp
theorem notB {b:Bool} {p:Prop} (h:p↔b=true):(!b)=true↔¬ p:=by rw[h];cases b<;>simp
structure Rst (w':World) (c:Cf) (f:Fm) (L:List Sv) (x:Sc) (r:List Sc) (t:Tk) (rl:Value) (dep:Nat->Int) (wh:Bool) (n:Nat) (ids:List Int):Prop where
 ex:∃ x' h1 h2 h3,Ct w' c f L x' x.tk t rl dep wh/\Cm w' c (n+1) h1 h2 h3/\stp x' t.op=svOf f.toks (metX x c.i t)/\KeysV f.toks (metX x c.i t::r) c.i ids h1 h2 h3
theorem Cm.up {w:World} {c:Cf} {n:Nat} {h1 h2 h3:Value->Prop} (h:Cm w c n h1 h2 h3) (hn:n<17592186043000):Cm w c (n+1) h1 h2 h3:=⟨h.m1.mono (by omega),h.m2.mono (by omega),h.m3.mono (by omega),by omega⟩
section
variable {c:Cf} {f:Fm} {L:List Sv} {x:Sc} {r:List Sc} {t:Tk} {rl:Value} {dep:Nat->Int} {wh:Bool} {n:Nat} {ids:List Int} {h1 h2 h3:Value->Prop}
theorem keysP {i:Nat} (hK:KeysV f.toks (x::r) i ids h1 h2 h3) (ht:f.toks[i]?=some t) (hx:x.tk.op=0\/x.tk.op=4) (hlt:x.at_<i) (hr:∀ a∈r,a.at_<x.at_) :
  KeysV f.toks (metX x i t::r) i (ids++[t.id]) (fun v=>v = .int .i64 t.id\/h1 v) (fun v=>v=nmK x.at_ t.name\/h2 v) h3 :=
 (keys_part hK ht hx hlt hr).congr (fun _=>or_congr intK_eq Iff.rfl) (fun _ _=>or_congr nmK_eq Iff.rfl) (fun _ _=>Iff.rfl)
theorem rule_fld (w:World) (h:Ct w c f L (svOf f.toks x) x.tk t rl dep wh) (hm:Cm w c n h1 h2 h3) (hn:n<17592186043000) (hK:KeysV f.toks (x::r) c.i ids h1 h2 h3) (hx:ScOk f.toks c.i x) (hr:∀ a∈r,a.at_<x.at_) (ho:x.tk.op=0\/x.tk.op=4) (q2:t.op=2) (hp:pairB f.toks c.i t=true) :
  Calls Tryz.prog 88 #[.pointer (some ⟨c.B,0,none⟩),.pointer (some ⟨c.g,c.o+c.i*21,none⟩)] w fun e w'=>e = .returned (.bool (fldB f ids c.i x t))/\Kb [c.m1,c.m2,c.m3,c.go] w w'/\(fldB f ids c.i x t=true->Rst w' c f L x r t rl dep wh n (ids++[t.id])):=by
 obtain⟨m,u0,hm0,hm1,hm2,_⟩:=pairB_get hp
 obtain⟨u,hu⟩:∃ u,f.toks[c.i+1]?=some u:=⟨f.toks[c.i+1]'(by omega),List.getElem?_eq_getElem (by omega)⟩
 have h0:=pl_msg hx.pln (by omega)
 have he:=hx.e0
 refine(isField_any c f L (svOf f.toks x) x.tk t rl dep wh w h n h1 h2 h3 (!(ids.contains t.id)) (!(nameIn f.toks x.kids t.name)) hm hn (notB (hK.id t.id)) (notB (hK.nm x (List.mem_cons_self ..) ho t.name)) u hu hx.blk).mono ?_
 rintro _ w' ⟨rfl,hL⟩
 rw[fld_eq f ids c.i x t u hu h0 he.1] at hL ⊢
 refine⟨rfl,hL.kb.mono (fun a ha=>by simp at ha ⊢;omega),fun hb=>?_⟩
 obtain⟨hC,hM⟩:=hL.ct hb
 exact⟨_,_,_,_,hC,hM,left_fld h.ht q2 ho h0 he.1 hx.blk.2 hb,keysP hK h.ht ho hx.lt hr⟩
theorem rule_dat (w:World) (h:Ct w c f L (svOf f.toks x) x.tk t rl dep wh) (hm:Cm w c n h1 h2 h3) (hn:n<17592186043000) (hK:KeysV f.toks (x::r) c.i ids h1 h2 h3) (hx:ScOk f.toks c.i x) (hr:∀ a∈r,a.at_<x.at_) (ho:x.tk.op=0\/x.tk.op=4) (q2:t.op=6) :
  Calls Tryz.prog 90 #[.pointer (some ⟨c.B,0,none⟩),.pointer (some ⟨c.g,c.o+c.i*21,none⟩)] w fun e w'=>e = .returned (.bool (datB f ids x t))/\Kb [c.m1,c.m2,c.m3,c.go] w w'/\(datB f ids x t=true->Rst w' c f L x r t rl dep wh n (ids++[t.id])):=by
 refine(isData_any c f L (svOf f.toks x) x.tk t rl dep wh w h n h1 h2 h3 (!(ids.contains t.id)) (!(nameIn f.toks x.kids t.name)) hm hn (notB (hK.id t.id)) (notB (hK.nm x (List.mem_cons_self ..) ho t.name))).mono ?_
 rintro _ w' ⟨rfl,hL⟩
 rw[dat_eq f ids x t] at hL ⊢
 refine⟨rfl,hL.kb.mono (fun a ha=>by simp at ha ⊢;omega),fun hb=>?_⟩
 obtain⟨hC,hM⟩:=hL.ct hb
 exact⟨_,_,_,_,hC,hM,left_row h.ht (.inr q2) ho,keysP hK h.ht ho hx.lt hr⟩
theorem rule_grp (w:World) (h:Ct w c f L (svOf f.toks x) x.tk t rl dep wh) (hm:Cm w c n h1 h2 h3) (hn:n<17592186043000) (hK:KeysV f.toks (x::r) c.i ids h1 h2 h3) (hx:ScOk f.toks c.i x) (hr:∀ a∈r,a.at_<x.at_) (ho:x.tk.op=0\/x.tk.op=4) (q2:t.op=4) (hd:depOk (x::r) dep) :
  Calls Tryz.prog 89 #[.pointer (some ⟨c.B,0,none⟩),.pointer (some ⟨c.g,c.o+c.i*21,none⟩)] w fun e w'=>e = .returned (.bool (grpB f (x::r) ids x t))/\Kb [c.m1,c.m2,c.m3,c.go] w w'/\(grpB f (x::r) ids x t=true->Rst w' c f L x r t rl dep wh n (ids++[t.id])):=by
 have c1:=isGroup_any c f L (svOf f.toks x) x.tk t rl dep wh w h n h1 h2 h3 (!(ids.contains t.id)) (!(nameIn f.toks x.kids t.name)) hm hn (notB (hK.id t.id)) (notB (hK.nm x (List.mem_cons_self ..) ho t.name)) q2
 rw[show dep 4=(depB 4 (x::r):Int) from hd 4 (by decide)] at c1
 refine c1.mono ?_
 rintro _ w' ⟨rfl,hL⟩
 rw[grp_eq f (x::r) ids x t] at hL ⊢
 refine⟨rfl,hL.kb.mono (fun a ha=>by simp at ha ⊢;omega),fun hb=>?_⟩
 obtain⟨hC,hM⟩:=hL.ct hb
 exact⟨_,_,_,_,hC,hM,left_row h.ht (.inl q2) ho,keysP hK h.ht ho hx.lt hr⟩
theorem rule_cmp (w:World) (h:Ct w c f L (svOf f.toks x) x.tk t rl dep wh) (hm:Cm w c n h1 h2 h3) (hn:n<17592186043000) (hK:KeysV f.toks (x::r) c.i ids h1 h2 h3) (hx:ScOk f.toks c.i x) (ho:x.tk.op=2\/x.tk.op=8\/((x.tk.op=10\/x.tk.op=12)/\x.kids=[]/\c.i=x.at_+1)) (q2:t.op=8) (hd:depOk (x::r) dep) :
  Calls Tryz.prog 91 #[.pointer (some ⟨c.B,0,none⟩),.pointer (some ⟨c.g,c.o+c.i*21,none⟩)] w fun e w'=>e = .returned (.bool (cmpB (x::r) x t))/\Kb [c.m1,c.m2,c.m3,c.go] w w'/\(cmpB (x::r) x t=true->Rst w' c f L x r t rl dep wh n ids):=by
 have c1:=isComposite_any c f L (svOf f.toks x) x.tk t rl dep wh w h q2 (by omega) ⟨hx.off.1,hx.off.2.2.2⟩ ⟨hx.off.2.1,hx.off.2.2.1⟩
 rw[show dep 8=(depB 8 (x::r):Int) from hd 8 (by decide)] at c1
 refine c1.mono ?_
 rintro _ w' ⟨rfl,hL⟩
 rw[cmp_eq f.toks (x::r) x t] at hL ⊢
 refine⟨rfl,hL.kb.mono (fun a ha=>by simp at ha ⊢;omega),fun hb=>?_⟩
 exact⟨_,_,_,_,hL.ct hb,(hm.kept hL.kb (notin1 h.ap.o1.symm) (notin1 h.ap.o2.symm) (notin1 h.ap.o3.symm)).up hn,left_typ h.ht (by rw[q2];decide) ho (by unfold cmpB at hb;rw[Bool.and_eq_true] at hb;exact hb.2),keys_typ hK (by rcases ho with e|e|e;(left;exact e);(right;left;exact e);(right;right;exact⟨e.1,e.2.1⟩))⟩
theorem rule_plc (w:World) (h:Ct w c f L (svOf f.toks x) x.tk t rl dep wh) (hm:Cm w c n h1 h2 h3) (hn:n<17592186043000) (hK:KeysV f.toks (x::r) c.i ids h1 h2 h3) (hx:ScOk f.toks c.i x) (ho:x.tk.op=2\/x.tk.op=8\/((x.tk.op=10\/x.tk.op=12)/\x.kids=[]/\c.i=x.at_+1)) (q2:t.op=10\/t.op=12) :
  Calls Tryz.prog 92 #[.pointer (some ⟨c.B,0,none⟩),.pointer (some ⟨c.g,c.o+c.i*21,none⟩)] w fun e w'=>e = .returned (.bool (plcB x t))/\Kb [c.m1,c.m2,c.m3,c.go] w w'/\(plcB x t=true->Rst w' c f L x r t rl dep wh n ids):=by
 refine(isPlaced_any c f L (svOf f.toks x) x.tk t rl dep wh w h (by omega) ⟨hx.off.1,hx.off.2.2.2⟩ ⟨hx.off.2.1,hx.off.2.2.1⟩).mono ?_
 rintro _ w' ⟨rfl,hL⟩
 rw[plc_eq f.toks x t] at hL ⊢
 refine⟨rfl,hL.kb.mono (fun a ha=>by simp at ha ⊢;omega),fun hb=>?_⟩
 exact⟨_,_,_,_,hL.ct hb,(hm.kept hL.kb (notin1 h.ap.o1.symm) (notin1 h.ap.o2.symm) (notin1 h.ap.o3.symm)).up hn,left_typ h.ht (by rcases q2 with e|e<;>rw[e]<;>decide) ho hb,keys_typ hK (by rcases ho with e|e|e;(left;exact e);(right;left;exact e);(right;right;exact⟨e.1,e.2.1⟩))⟩
theorem rule_enc (w:World) (h:Ct w c f L (svOf f.toks x) x.tk t rl dep wh) (hm:Cm w c n h1 h2 h3) (hn:n<17592186043000) (hK:KeysV f.toks (x::r) c.i ids h1 h2 h3) (hx:ScOk f.toks c.i x) (ho:x.tk.op=2\/x.tk.op=8\/((x.tk.op=10\/x.tk.op=12)/\x.kids=[]/\c.i=x.at_+1)) (q2:t.op=14) :
  Calls Tryz.prog 93 #[.pointer (some ⟨c.B,0,none⟩),.pointer (some ⟨c.g,c.o+c.i*21,none⟩)] w fun e w'=>e = .returned (.bool (encB x t))/\Kb [c.m1,c.m2,c.m3,c.go] w w'/\(encB x t=true->Rst w' c f L x r t rl dep wh n ids):=by
 refine(isEncoding_any c f L (svOf f.toks x) x.tk t rl dep wh w h (by omega) ⟨hx.off.1,hx.off.2.2.2⟩ ⟨hx.off.2.1,hx.off.2.2.1⟩).mono ?_
 rintro _ w' ⟨rfl,hL⟩
 rw[enc_eq f.toks x t] at hL ⊢
 refine⟨rfl,hL.kb.mono (fun a ha=>by simp at ha ⊢;omega),fun hb=>?_⟩
 exact⟨_,_,_,_,hL.ct hb,(hm.kept hL.kb (notin1 h.ap.o1.symm) (notin1 h.ap.o2.symm) (notin1 h.ap.o3.symm)).up hn,left_typ h.ht (by rw[q2];decide) ho (by unfold encB at hb;simp only[Bool.and_eq_true] at hb;exact hb.1.1.1),keys_typ hK (by rcases ho with e|e|e;(left;exact e);(right;left;exact e);(right;right;exact⟨e.1,e.2.1⟩))⟩
theorem rule_cho (w:World) (h:Ct w c f L (svOf f.toks x) x.tk t rl dep wh) (hm:Cm w c n h1 h2 h3) (hn:n<17592186043000) (hK:KeysV f.toks (x::r) c.i ids h1 h2 h3) (hx:ScOk f.toks c.i x) (hr:∀ a∈r,a.at_<x.at_) (ho:x.tk.op=10\/x.tk.op=12) (hk:x.kids≠[]) (q2:t.op=15) :
  Calls Tryz.prog 94 #[.pointer (some ⟨c.B,0,none⟩),.pointer (some ⟨c.g,c.o+c.i*21,none⟩)] w fun e w'=>e = .returned (.bool (choB f.toks x t))/\Kb [c.m1,c.m2,c.m3,c.go] w w'/\(choB f.toks x t=true->Rst w' c f L x r t rl dep wh n ids):=by
 refine(isChoice_any c f L (svOf f.toks x) x.tk t rl dep wh w h n h1 h2 h3 (!(nameIn f.toks x.kids.tail t.name)) (!(valIn f.toks x.kids.tail t.val)) hm hn (notB (hK.ch x (List.mem_cons_self ..) ho t.name)) (notB (hK.vl x (List.mem_cons_self ..) ho t.val))).mono ?_
 rintro _ w' ⟨rfl,hL⟩
 rw[cho_eq f.toks x t] at hL ⊢
 refine⟨rfl,hL.kb.mono (fun a ha=>by simp at ha ⊢;omega),fun hb=>?_⟩
 obtain⟨hC,hM⟩:=hL.ct hb
 exact⟨_,_,_,_,hC,hM,left_cho h.ht q2 ho hk,(keys_cho hK h.ht ho hk hx.lt hr).congr (fun _=>Iff.rfl) (fun _ _=>or_congr nmK_eq Iff.rfl) (fun _ _=>or_congr vlK_eq Iff.rfl)⟩
end
def ckA (gf:Nat) (op:Value) (i:Int) (rl:Value) (m1 m2 m3:Nat) (dep:Nat->Int) (wh:Bool):Array Value:=#[op,.pointer (some ⟨gf,0,none⟩),.int .i64 i,rl,.int .i64 (dep 0),.int .i64 (dep 1),.int .i64 (dep 2),.int .i64 (dep 3),.int .i64 (dep 4),.int .i64 (dep 5),.int .i64 (dep 6),.int .i64 (dep 7),.int .i64 (dep 8),.int .i64 (dep 9),.int .i64 (dep 10),.int .i64 (dep 11),.int .i64 (dep 12),.int .i64 (dep 13),.int .i64 (dep 14),.int .i64 (dep 15),.map (some m1),.map (some m2),.map (some m3),.bool wh]
def CkH (w:World) (B gf:Nat) (op:Value) (i:Int) (rl:Value) (m1 m2 m3:Nat) (dep:Nat->Int) (wh:Bool):Prop:=w.heap[B]?=some (.cells (ckA gf op i rl m1 m2 m3 dep wh) 115 (0,0))
section
variable {w:World} {B gf:Nat} {op:Value} {i:Int} {rl:Value} {m1 m2 m3:Nat} {dep:Nat->Int} {wh:Bool}
theorem CkH.lt (h:CkH w B gf op i rl m1 m2 m3 dep wh):B<w.heap.size:=(Array.getElem?_eq_some_iff.1 h).1
theorem CkH.cell (h:CkH w B gf op i rl m1 m2 m3 dep wh) (k:Nat):w.cell? ⟨B,k,none⟩=(ckA gf op i rl m1 m2 m3 dep wh)[k]?:=cell_at h k
theorem CkH.ck (h:CkH w B gf op i rl m1 m2 m3 dep wh):CkC w B gf op i rl m1 m2 m3 dep wh :=
 ⟨h.lt,h.cell 0,h.cell 1,h.cell 2,h.cell 3,fun q hq=>by
  rw[h.cell]
  rcases(show q=0\/q=1\/q=2\/q=3\/q=4\/q=5\/q=6\/q=7\/q=8\/q=9\/q=10\/q=11\/q=12\/q=13\/q=14\/q=15 by omega) with rfl|rfl|rfl|rfl|rfl|rfl|rfl|rfl|rfl|rfl|rfl|rfl|rfl|rfl|rfl|rfl<;>rfl,h.cell 20,h.cell 21,h.cell 22,h.cell 23⟩
theorem CkH.frz (h:CkH w B gf op i rl m1 m2 m3 dep wh) (k:Nat):w.frozen? ⟨B,k,none⟩=false:=by
 unfold CkH at h
 simp[World.frozen?,h]
theorem CkH.same {w':World} (h:CkH w B gf op i rl m1 m2 m3 dep wh) (hb:w'.heap[B]?=w.heap[B]?):CkH w' B gf op i rl m1 m2 m3 dep wh:=hb.trans h
theorem CkH.put (h:CkH w B gf op i rl m1 m2 m3 dep wh) (k:Nat) (v:Value):(w.setCell ⟨B,k,none⟩ v).heap[B]?=some (.cells ((ckA gf op i rl m1 m2 m3 dep wh).setIfInBounds k v) 115 (0,0)):=by
 show (w.heap.modify B _)[B]?=_
 unfold CkH at h
 rw[Array.getElem?_modify,if_pos rfl,h]
 rfl
theorem CkH.setOp (h:CkH w B gf op i rl m1 m2 m3 dep wh) (v:Value):CkH (w.setCell ⟨B,0,none⟩ v) B gf v i rl m1 m2 m3 dep wh:=h.put 0 v
theorem CkH.setPlace (h:CkH w B gf op i rl m1 m2 m3 dep wh) (j:Int):CkH (w.setCell ⟨B,2,none⟩ (.int .i64 j)) B gf op j rl m1 m2 m3 dep wh:=h.put 2 _
theorem CkH.setWh (h:CkH w B gf op i rl m1 m2 m3 dep wh) (b:Bool):CkH (w.setCell ⟨B,23,none⟩ (.bool b)) B gf op i rl m1 m2 m3 dep b:=h.put 23 _
theorem CkH.setDep (h:CkH w B gf op i rl m1 m2 m3 dep wh) (q:Nat) (hq:q<16) (v:Int):CkH (w.setCell ⟨B,4+q,none⟩ (.int .i64 v)) B gf op i rl m1 m2 m3 (fun k=>if k=q then v else dep k) wh:=by
 have:=h.put (4+q) (.int .i64 v)
 unfold CkH
 rw[this]
 rcases(show q=0\/q=1\/q=2\/q=3\/q=4\/q=5\/q=6\/q=7\/q=8\/q=9\/q=10\/q=11\/q=12\/q=13\/q=14\/q=15 by omega) with rfl|rfl|rfl|rfl|rfl|rfl|rfl|rfl|rfl|rfl|rfl|rfl|rfl|rfl|rfl|rfl<;>rfl
end
theorem set_oth {w:World} {b o B:Nat} {v:Value} (h:b≠B):(w.setCell ⟨b,o,none⟩ v).heap[B]?=w.heap[B]?:=by
 show (w.heap.modify b _)[B]?=_
 rw[Array.getElem?_modify,if_neg h]
theorem Kb.setNew {E:List Nat} {a b:World} (h:Kb E a b) {g o:Nat} (hg:a.heap.size<=g) (v:Value):Kb E a (b.setCell ⟨g,o,none⟩ v):=by
 refine⟨h.os,h.tape,h.output,?_,fun k hk he=>?_⟩
 ·show a.heap.size<=(b.heap.modify g _).size
  rw[Array.size_modify];exact h.size
 ·rw[set_oth (by omega)]
  exact h.block k hk he
abbrev svV (g o:Nat) (x:Sv):Value:=.agg #[.pointer (some ⟨g,o+x.at_*21,none⟩),.int .i64 (x.at_:Int),.int .i64 x.cnt,.int .i64 x.last,.int .i64 x.fld,.int .i64 x.row,.int .i64 x.en,.int .i64 x.cod]
theorem pop_any (B gf go n cap g o m1 m2 m3:Nat) (i:Int) (rl:Value) (dep:Nat->Int) (wh:Bool) (x:Sv) (w:World) (hH:CkH w B gf (.slice (some ⟨go,0,none⟩) (n+1) cap) i rl m1 m2 m3 dep wh) (hX:ScC w g o go (n*8) x) (hgo:go<w.heap.size) (hn:n<1000000000000) (hcap:n+1<=cap) :
  Calls Tryz.prog 100 #[.pointer (some ⟨B,0,none⟩)] w fun r w'=>r = .returned (svV g o x)/\CkH w' B gf (.slice (some ⟨go,0,none⟩) n cap) i rl m1 m2 m3 dep wh/\Kb [B] w w':=by
 have hBl:=hH.lt
 have cT:=fun W (hW:Below w.heap.size w W)=>top_any B go n cap W ((hW.cell (p:=⟨B,0,none⟩) hBl).trans (hH.cell 0)) hn
 have hY:∀ W,Below w.heap.size w W->ScC W g o go (n*8) x:=fun W hW=>hX.same (hW.block go hgo)
 go_enter Tryz.func100,Tryz.ntmps100
 go_wp2_with (go_at_call 102;refine(cT _ (bel1 _ _)).mono ?_;rintro _ w1 ⟨rfl,hb⟩;have hb1:Below w.heap.size w w1:=(bel1 _ _).trans (hb.mono (al_le _ _));obtain⟨y0,y1,y2,y3,y4,y5,y6,y7⟩:=hY _ hb1)
 have b0:w1.cell? ⟨B,0,none⟩=some (.slice (some ⟨go,0,none⟩) (n+1) cap):=(hb1.cell (p:=⟨B,0,none⟩) hBl).trans (hH.cell 0)
 have e1:((n+1:Nat):Int)-1=(n:Int):=by omega
 have hB1:B<w1.heap.size:=Nat.lt_of_lt_of_le hBl hb1.size
 clear y0 y1 y2 y3 y4 y5 y6 y7 hY cT
 have fz:w1.frozen? ⟨B,0,none⟩=false:=(hH.same (hb1.block B hBl)).frz 0
 have hw0:w.heap.size<w1.heap.size:=Nat.lt_of_lt_of_le (szal _ _) hb.size
 have hBw:B≠w.heap.size:=by omega
 have hBw1:B≠w1.heap.size:=by omega
 go_region
 have hz1:w1.heap[w.heap.size]?=some (.cells #[.pointer none,.int .i64 0,.int .i64 0,.int .i64 0,.int .i64 0,.int .i64 0,.int .i64 0,.int .i64 0] 137):=(hb.block _ (by rw[World.size_alloc];omega)).trans (heap_al _ _)
 have hs1:(w1.setCell ⟨B,0,none⟩ (.slice (some ⟨go,0,none⟩) n cap)).heap.size=w1.heap.size:=by show (w1.heap.modify B _).size=_;rw[Array.size_modify]
 have k1:Kb [B] w (w1.setCell ⟨B,0,none⟩ (.slice (some ⟨go,0,none⟩) n cap)):=(Kb.of_below hb1).set (List.mem_singleton.2 rfl) _
 have k3:Kb [B] w (((w1.setCell ⟨B,0,none⟩ (.slice (some ⟨go,0,none⟩) n cap)).alloc (.cells #[.pointer (some ⟨g,o+x.at_*21,none⟩),.int .i64 (x.at_:Int),.int .i64 x.cnt,.int .i64 x.last,.int .i64 x.fld,.int .i64 x.row,.int .i64 x.en,.int .i64 x.cod] 137)).drew):=(k1.alloc _).drew
 have c3:CkH (((w1.setCell ⟨B,0,none⟩ (.slice (some ⟨go,0,none⟩) n cap)).alloc (.cells #[.pointer (some ⟨g,o+x.at_*21,none⟩),.int .i64 (x.at_:Int),.int .i64 x.cnt,.int .i64 x.last,.int .i64 x.fld,.int .i64 x.row,.int .i64 x.en,.int .i64 x.cod] 137)).drew) B gf (.slice (some ⟨go,0,none⟩) n cap) i rl m1 m2 m3 dep wh:=((hH.same (hb1.block B hBl)).setOp _).same ((bel1 _ _).block B (by rw[hs1];exact hB1))
 have l3:(((w1.setCell ⟨B,0,none⟩ (.slice (some ⟨go,0,none⟩) n cap)).alloc (.cells #[.pointer (some ⟨g,o+x.at_*21,none⟩),.int .i64 (x.at_:Int),.int .i64 x.cnt,.int .i64 x.last,.int .i64 x.fld,.int .i64 x.row,.int .i64 x.en,.int .i64 x.cod] 137)).drew).heap[w1.heap.size]?=some (.cells #[.pointer (some ⟨g,o+x.at_*21,none⟩),.int .i64 (x.at_:Int),.int .i64 x.cnt,.int .i64 x.last,.int .i64 x.fld,.int .i64 x.row,.int .i64 x.en,.int .i64 x.cod] 137):=by
  rw[<- hs1]
  exact heap_al _ _
 have z3:(((w1.setCell ⟨B,0,none⟩ (.slice (some ⟨go,0,none⟩) n cap)).alloc (.cells #[.pointer (some ⟨g,o+x.at_*21,none⟩),.int .i64 (x.at_:Int),.int .i64 x.cnt,.int .i64 x.last,.int .i64 x.fld,.int .i64 x.row,.int .i64 x.en,.int .i64 x.cod] 137)).drew).heap[w.heap.size]?=some (.cells #[.pointer none,.int .i64 0,.int .i64 0,.int .i64 0,.int .i64 0,.int .i64 0,.int .i64 0,.int .i64 0] 137):=by
  refine((bel1 _ _).block w.heap.size (by rw[hs1];exact hw0)).trans ?_
  show (w1.heap.modify B _)[w.heap.size]?=_
  rw[Array.getElem?_modify,if_neg hBw]
  exact hz1
 generalize (((w1.setCell ⟨B,0,none⟩ (.slice (some ⟨go,0,none⟩) n cap)).alloc (.cells #[.pointer (some ⟨g,o+x.at_*21,none⟩),.int .i64 (x.at_:Int),.int .i64 x.cnt,.int .i64 x.last,.int .i64 x.fld,.int .i64 x.row,.int .i64 x.en,.int .i64 x.cod] 137)).drew)=W3 at k3 c3 l3 z3 ⊢
 have l_0:W3.cell? ⟨w1.heap.size,0,none⟩=some (.pointer (some ⟨g,o+x.at_*21,none⟩)):=cell_at l3 0
 have z_0:W3.cell? ⟨w.heap.size,0,none⟩=some (.pointer none):=cell_at z3 0
 have f_0:W3.frozen? ⟨w.heap.size,0,none⟩=false:=by simp[World.frozen?,z3]
 have l_1:W3.cell? ⟨w1.heap.size,1,none⟩=some (.int .i64 (x.at_:Int)):=cell_at l3 1
 have z_1:W3.cell? ⟨w.heap.size,1,none⟩=some (.int .i64 0):=cell_at z3 1
 have f_1:W3.frozen? ⟨w.heap.size,1,none⟩=false:=by simp[World.frozen?,z3]
 have l_2:W3.cell? ⟨w1.heap.size,2,none⟩=some (.int .i64 x.cnt):=cell_at l3 2
 have z_2:W3.cell? ⟨w.heap.size,2,none⟩=some (.int .i64 0):=cell_at z3 2
 have f_2:W3.frozen? ⟨w.heap.size,2,none⟩=false:=by simp[World.frozen?,z3]
 have l_3:W3.cell? ⟨w1.heap.size,3,none⟩=some (.int .i64 x.last):=cell_at l3 3
 have z_3:W3.cell? ⟨w.heap.size,3,none⟩=some (.int .i64 0):=cell_at z3 3
 have f_3:W3.frozen? ⟨w.heap.size,3,none⟩=false:=by simp[World.frozen?,z3]
 have l_4:W3.cell? ⟨w1.heap.size,4,none⟩=some (.int .i64 x.fld):=cell_at l3 4
 have z_4:W3.cell? ⟨w.heap.size,4,none⟩=some (.int .i64 0):=cell_at z3 4
 have f_4:W3.frozen? ⟨w.heap.size,4,none⟩=false:=by simp[World.frozen?,z3]
 have l_5:W3.cell? ⟨w1.heap.size,5,none⟩=some (.int .i64 x.row):=cell_at l3 5
 have z_5:W3.cell? ⟨w.heap.size,5,none⟩=some (.int .i64 0):=cell_at z3 5
 have f_5:W3.frozen? ⟨w.heap.size,5,none⟩=false:=by simp[World.frozen?,z3]
 have l_6:W3.cell? ⟨w1.heap.size,6,none⟩=some (.int .i64 x.en):=cell_at l3 6
 have z_6:W3.cell? ⟨w.heap.size,6,none⟩=some (.int .i64 0):=cell_at z3 6
 have f_6:W3.frozen? ⟨w.heap.size,6,none⟩=false:=by simp[World.frozen?,z3]
 have l_7:W3.cell? ⟨w1.heap.size,7,none⟩=some (.int .i64 x.cod):=cell_at l3 7
 have z_7:W3.cell? ⟨w.heap.size,7,none⟩=some (.int .i64 0):=cell_at z3 7
 have f_7:W3.frozen? ⟨w.heap.size,7,none⟩=false:=by simp[World.frozen?,z3]
 replace k3:=Hid.mk k3
 replace c3:=Hid.mk c3
 clear b0 fz hb hb1 hH hX
 go_wp2_with fail
 refine bodyPost_ret (v:=svV g o x) ?_ rfl ⟨rfl,?_,?_⟩
 ·simp[results,Tryz.results100,go_sem,z_0,z_1,z_2,z_3,z_4,z_5,z_6,z_7]
 ·exact(((((((((c3.out.same (set_oth hBw.symm)).same (set_oth hBw.symm)).same (set_oth hBw.symm)).same (set_oth hBw.symm)).same (set_oth hBw.symm)).same (set_oth hBw.symm)).same (set_oth hBw.symm)).same (set_oth hBw.symm)))
 ·exact(((((((k3.out.setNew (Nat.le_refl _) _).setNew (Nat.le_refl _) _).setNew (Nat.le_refl _) _).setNew (Nat.le_refl _) _).setNew (Nat.le_refl _) _).setNew (Nat.le_refl _) _).setNew (Nat.le_refl _) _).setNew (Nat.le_refl _) _
def rulA (B:Nat):Array Value:=#[.func (.func 87) #[.pointer (some ⟨B,0,none⟩)] #[],.nilFunc,.func (.func 88) #[.pointer (some ⟨B,0,none⟩)] #[],.nilFunc,.func (.func 89) #[.pointer (some ⟨B,0,none⟩)] #[],.nilFunc,.func (.func 90) #[.pointer (some ⟨B,0,none⟩)] #[],.nilFunc,.func (.func 91) #[.pointer (some ⟨B,0,none⟩)] #[],.nilFunc,.func (.func 92) #[.pointer (some ⟨B,0,none⟩)] #[],.nilFunc,.func (.func 92) #[.pointer (some ⟨B,0,none⟩)] #[],.nilFunc,.func (.func 93) #[.pointer (some ⟨B,0,none⟩)] #[],.func (.func 94) #[.pointer (some ⟨B,0,none⟩)] #[]]
theorem al5 (w:World) (a b c d e:Obj):(((((w.alloc a).alloc b).alloc c).alloc d).alloc e).heap[w.heap.size]?=some a/\(((((w.alloc a).alloc b).alloc c).alloc d).alloc e).heap[w.heap.size+1]?=some b/\(((((w.alloc a).alloc b).alloc c).alloc d).alloc e).heap[w.heap.size+2]?=some c/\(((((w.alloc a).alloc b).alloc c).alloc d).alloc e).heap[w.heap.size+3]?=some d/\(((((w.alloc a).alloc b).alloc c).alloc d).alloc e).heap[w.heap.size+4]?=some e/\(((((w.alloc a).alloc b).alloc c).alloc d).alloc e).heap.size=w.heap.size+5/\Below w.heap.size w (((((w.alloc a).alloc b).alloc c).alloc d).alloc e):=by
 have s1:=World.size_alloc w a
 have s2:=World.size_alloc (w.alloc a) b
 have s3:=World.size_alloc ((w.alloc a).alloc b) c
 have s4:=World.size_alloc (((w.alloc a).alloc b).alloc c) d
 have s5:=World.size_alloc ((((w.alloc a).alloc b).alloc c).alloc d) e
 have b1:=bel1 w a
 have b2:=bel1 (w.alloc a) b
 have b3:=bel1 ((w.alloc a).alloc b) c
 have b4:=bel1 (((w.alloc a).alloc b).alloc c) d
 have b5:=bel1 ((((w.alloc a).alloc b).alloc c).alloc d) e
 have h1:=heap_al w a
 have h2:=heap_al (w.alloc a) b
 have h3:=heap_al ((w.alloc a).alloc b) c
 have h4:=heap_al (((w.alloc a).alloc b).alloc c) d
 have h5:=heap_al ((((w.alloc a).alloc b).alloc c).alloc d) e
 generalize ((((w.alloc a).alloc b).alloc c).alloc d).alloc e=w5 at *
 generalize (((w.alloc a).alloc b).alloc c).alloc d=w4 at *
 generalize ((w.alloc a).alloc b).alloc c=w3 at *
 generalize (w.alloc a).alloc b=w2 at *
 generalize w.alloc a=w1 at *
 rw[s1] at s2 h2
 rw[s2] at s3 h3
 rw[s3] at s4 h4
 rw[s4] at s5 h5
 refine⟨?_,?_,?_,?_,h5,s5,?_⟩
 ·rw[b5.block _ (by omega),b4.block _ (by omega),b3.block _ (by omega),b2.block _ (by omega)];exact h1
 ·rw[b5.block _ (by omega),b4.block _ (by omega),b3.block _ (by omega)];exact h2
 ·rw[b5.block _ (by omega),b4.block _ (by omega)];exact h3
 ·rw[b5.block _ (by omega)];exact h4
 ·exact(((b1.trans (b2.mono (by omega))).trans (b3.mono (by omega))).trans (b4.mono (by omega))).trans (b5.mono (by omega))
theorem newChecker_any (gf:Nat) (w:World) :
  Calls Tryz.prog 70 #[.pointer (some ⟨gf,0,none⟩)] w fun r w'=>r = .returned (.pointer (some ⟨w.heap.size+3,0,none⟩))/\CkH w' (w.heap.size+3) gf (.slice none 0 0) 0 (.slice (some ⟨w.heap.size+4,0,none⟩) 16 16) w.heap.size (w.heap.size+1) (w.heap.size+2) (fun _=>0) false/\(∀ q:Nat,w'.cell? ⟨w.heap.size+4,q,none⟩=(rulA (w.heap.size+3))[q]?)/\MHas w' 3 w.heap.size 0 (fun _=>False)/\MHas w' 169 (w.heap.size+1) 0 (fun _=>False)/\MHas w' 152 (w.heap.size+2) 0 (fun _=>False)/\w'.heap.size=w.heap.size+5/\Below w.heap.size w w':=by
 have mk:=fun t W=>run_makeMap (P:=Tryz.prog) t W
 go_enter Tryz.func70,Tryz.ntmps70
 go_wp2_with fail
 obtain⟨a1,a2,a3,a4,a5,a6,a7⟩:=al5 w (Obj.map #[] 0) (Obj.map #[] 0) (Obj.map #[] 0) (Obj.cells (ckA gf (.slice none 0 0) 0 (.slice (some ⟨w.heap.size+4,0,none⟩) 16 16) w.heap.size (w.heap.size+1) (w.heap.size+2) (fun _=>0) false) 115) (Obj.cells (rulA (w.heap.size+3)) 117)
 go_ret
 refine⟨rfl,a4,fun q=>cell_at a5 q,?_,?_,?_,a6,a7⟩
 ·exact(MHas.made w _).same (a1.trans (heap_al _ _).symm)
 ·have:=MHas.made (w.alloc (.map #[] 0)) 169
  rw[World.size_alloc] at this
  refine this.same (a2.trans ?_)
  rw[<- World.size_alloc w (.map #[] 0)]
  exact(heap_al _ _).symm
 ·have:=MHas.made ((w.alloc (.map #[] 0)).alloc (.map #[] 0)) 152
  rw[World.size_alloc,World.size_alloc] at this
  refine this.same (a3.trans ?_)
  have hh:=heap_al ((w.alloc (.map #[] 0)).alloc (.map #[] 0)) (.map #[] 0)
  rw[World.size_alloc,World.size_alloc] at hh
  exact hh.symm
end Go.Proofs.YtcgimchhcaankaaGreatDoor
