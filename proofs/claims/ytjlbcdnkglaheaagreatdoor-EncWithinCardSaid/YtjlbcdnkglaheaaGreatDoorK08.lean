import Derived.Test.YtjlbcdnkglaheaaGreatDoorK07
import Derived.Deep.RegionLaw
import Derived.Test.YtjlbcdnkglaheaaGreatDoorK06
namespace Go.Proofs.YtjlbcdnkglaheaaGreatDoor
set_option maxRecDepth 1000000
set_option maxHeartbeats 16000000
open Go.ChangeShapes Go.WideShapes Go.ChangeAt Go.RowKit Go.Shelf Go.Maps
structure Cf where
 B:Nat
 gf:Nat
 go:Nat
 cap:Nat
 g:Nat
 o:Nat
 cp:Nat
 m1:Nat
 m2:Nat
 m3:Nat
 H:Nat
 i:Nat
structure Apart (c:Cf):Prop where
 g:c.g<c.H
 gf:c.H<=c.gf
 B:c.H<=c.B
 go:c.H<=c.go
 m1:c.H<=c.m1
 m2:c.H<=c.m2
 m3:c.H<=c.m3
 fB:c.gf≠c.B
 fo:c.gf≠c.go
 f1:c.gf≠c.m1
 f2:c.gf≠c.m2
 f3:c.gf≠c.m3
 Bo:c.B≠c.go
 B1:c.B≠c.m1
 B2:c.B≠c.m2
 B3:c.B≠c.m3
 o1:c.go≠c.m1
 o2:c.go≠c.m2
 o3:c.go≠c.m3
 m12:c.m1≠c.m2
 m13:c.m1≠c.m3
 m23:c.m2≠c.m3
structure Ct (w:World) (c:Cf) (f:Fm) (L:List Sv) (x:Sv) (xt t:Tk) (rl:Value) (dep:Nat->Int) (wh:Bool):Prop where
 ck:CkC w c.B c.gf (.slice (some ⟨c.go,0,none⟩) (L.length+1) c.cap) (c.i:Int) rl c.m1 c.m2 c.m3 dep wh
 op:OpR w c.g c.o c.go c.cap (L++[x])
 fm:FmC w c.gf 0 f (some ⟨c.g,c.o,none⟩) c.cp
 tl:TkL w (some ⟨c.g,c.o,none⟩) c.H f.toks
 hx:f.toks[x.at_]?=some xt
 ht:f.toks[c.i]?=some t
 ap:Apart c
 kt:KT w
 sz:c.H<=w.heap.size
 fl:c.gf<w.heap.size
 k0:0<c.H
 ln:L.length<1000000000000
theorem KT.same {w w':World} (h:KT w) (hs:w.heap.size<=w'.heap.size) (hb:w'.heap[0]?=w.heap[0]?):KT w' :=
 ⟨Nat.lt_of_lt_of_le h.pos hs,fun p hp=>(cell_blk hb).trans (h.size p hp),fun p hp=>(cell_blk hb).trans (h.reading p hp),fun p hp=>(cell_blk hb).trans (h.null p hp),fun p hp=>(cell_blk hb).trans (h.least p hp),fun p hp=>(cell_blk hb).trans (h.most p hp)⟩
section
variable {w w':World} {c:Cf} {f:Fm} {L:List Sv} {x x':Sv} {xt t:Tk} {rl:Value} {dep:Nat->Int} {wh:Bool}
theorem Ct.lg (h:Ct w c f L x xt t rl dep wh):c.g<w.heap.size:=Nat.lt_of_lt_of_le h.ap.g h.sz
theorem Ct.ll (h:Ct w c f L x xt t rl dep wh):f.toks.length<=733007751850:=by have:=h.tl.len;omega
theorem Ct.il (h:Ct w c f L x xt t rl dep wh):c.i<f.toks.length:=(List.getElem?_eq_some_iff.1 h.ht).1
theorem Ct.xl (h:Ct w c f L x xt t rl dep wh):x.at_<f.toks.length:=(List.getElem?_eq_some_iff.1 h.hx).1
theorem Ct.kept {E:List Nat} (h:Ct w c f L x xt t rl dep wh) (hb:Kb E w w') (hE:∀ k∈E,k=c.m1\/k=c.m2\/k=c.m3):Ct w' c f L x xt t rl dep wh:=by
 have a:=h.ap
 have nB:c.B∉E:=fun e=>(hE _ e).elim a.B1 fun e=>e.elim a.B2 a.B3
 have no:c.go∉E:=fun e=>(hE _ e).elim a.o1 fun e=>e.elim a.o2 a.o3
 have nf:c.gf∉E:=fun e=>(hE _ e).elim a.f1 fun e=>e.elim a.f2 a.f3
 have nl:∀ k,k<c.H->k∉E:=fun k hk e=>by have:=a.m1;have:=a.m2;have:=a.m3;rcases hE _ e with e|e|e<;>omega
 exact⟨h.ck.same hb.size (hb.block _ h.ck.lt nB),h.op.same (hb.block _ h.op.lt no),h.fm.same (hb.block _ h.fl nf),⟨h.tl.row.same fun k hk=>hb.block k (Nat.lt_of_lt_of_le hk h.sz) (nl k hk),h.tl.len,h.tl.ok⟩,h.hx,h.ht,h.ap,h.kt.same hb.size (hb.block _ (Nat.lt_of_lt_of_le h.k0 h.sz) (nl _ h.k0)),Nat.le_trans h.sz hb.size,Nat.lt_of_lt_of_le h.fl hb.size,h.k0,h.ln⟩
theorem Ct.below (h:Ct w c f L x xt t rl dep wh) (hb:Below w.heap.size w w'):Ct w' c f L x xt t rl dep wh:=h.kept (E:=[]) (Kb.of_below hb) (fun _ e=>absurd e List.not_mem_nil)
theorem Ct.tk (h:Ct w c f L x xt t rl dep wh):∃ pc cc,TkC w c.g (c.o+c.i*21) t pc cc/\URow w pc c.H t.cst/\t.cst.length<=cc/\TkOk t:=by
 obtain⟨g,o,pc,cc,e,_,h1,h2,h3,h4⟩:=h.tl.at h.ht
 cases e
 exact⟨pc,cc,h1,h2,h3,h4⟩
theorem Ct.xk (h:Ct w c f L x xt t rl dep wh):∃ pc cc,TkC w c.g (c.o+x.at_*21) xt pc cc/\TkOk xt:=by
 obtain⟨g,o,pc,cc,e,_,h1,_,_,h4⟩:=h.tl.at h.hx
 cases e
 exact⟨pc,cc,h1,h4⟩
theorem Ct.sc (h:Ct w c f L x xt t rl dep wh):ScC w c.g c.o c.go (L.length*8) x:=h.op.last
theorem OpR.frz {g o go cap:Nat} {l:List Sv} (h:OpR w g o go cap l) (j:Nat):w.frozen? ⟨go,j,none⟩=false:=by
 obtain⟨cur,h1,_⟩:=h.ex
 simp[World.frozen?,h1]
theorem Ct.wrote (h:Ct w c f L x xt t rl dep wh) {j:Nat} {v:Value} (hj:j<8) (hx:svC c.g c.o x'=(svC c.g c.o x).set j v) (ha:x'.at_=x.at_):Ct (w.setCell ⟨c.go,L.length*8+j,none⟩ v) c f L x' xt t rl dep wh:=by
 have hb:Kb [c.go] w (w.setCell ⟨c.go,L.length*8+j,none⟩ v):=(Kb.refl _ _).set (List.mem_singleton.2 rfl) v
 have a:=h.ap
 have nl:∀ k,k<c.H->k∉[c.go]:=fun k hk e=>by have:=a.go;have:=List.mem_singleton.1 e;omega
 exact⟨h.ck.same hb.size (hb.block _ h.ck.lt (notin1 a.Bo)),h.op.set hj hx,h.fm.same (hb.block _ h.fl (notin1 a.fo)),⟨h.tl.row.same fun k hk=>hb.block k (Nat.lt_of_lt_of_le hk h.sz) (nl k hk),h.tl.len,h.tl.ok⟩,by rw[ha];exact h.hx,h.ht,h.ap,h.kt.same hb.size (hb.block _ (Nat.lt_of_lt_of_le h.k0 h.sz) (nl _ h.k0)),Nat.le_trans h.sz hb.size,Nat.lt_of_lt_of_le h.fl hb.size,h.k0,h.ln⟩
end
def ckA (gf:Nat) (op:Value) (i:Int) (rl:Value) (m1 m2 m3:Nat) (dep:Nat->Int) (wh:Bool):Array Value:=#[op,.pointer (some ⟨gf,0,none⟩),.int .i64 i,rl,.int .i64 (dep 0),.int .i64 (dep 1),.int .i64 (dep 2),.int .i64 (dep 3),.int .i64 (dep 4),.int .i64 (dep 5),.int .i64 (dep 6),.int .i64 (dep 7),.int .i64 (dep 8),.int .i64 (dep 9),.int .i64 (dep 10),.int .i64 (dep 11),.int .i64 (dep 12),.int .i64 (dep 13),.int .i64 (dep 14),.int .i64 (dep 15),.map (some m1),.map (some m2),.map (some m3),.bool wh]
def CkH (w:World) (B gf:Nat) (op:Value) (i:Int) (rl:Value) (m1 m2 m3:Nat) (dep:Nat->Int) (wh:Bool):Prop:=w.heap[B]?=some (.cells (ckA gf op i rl m1 m2 m3 dep wh) 134 (0,0))
section
variable {w:World} {B gf:Nat} {op:Value} {i:Int} {rl:Value} {m1 m2 m3:Nat} {dep:Nat->Int} {wh:Bool}
theorem CkH.lt (h:CkH w B gf op i rl m1 m2 m3 dep wh):B<w.heap.size:=(Array.getElem?_eq_some_iff.1 h).1
theorem CkH.cell (h:CkH w B gf op i rl m1 m2 m3 dep wh) (k:Nat):w.cell? ⟨B,k,none⟩=(ckA gf op i rl m1 m2 m3 dep wh)[k]?:=cell_at h k
theorem CkH.ck (h:CkH w B gf op i rl m1 m2 m3 dep wh):CkC w B gf op i rl m1 m2 m3 dep wh :=
 ⟨h.lt,h.cell 0,h.cell 1,h.cell 2,h.cell 3,fun q hq=>by
  rw[h.cell]
  rcases(show q=0\/q=1\/q=2\/q=3\/q=4\/q=5\/q=6\/q=7\/q=8\/q=9\/q=10\/q=11\/q=12\/q=13\/q=14\/q=15 by omega) with rfl|rfl|rfl|rfl|rfl|rfl|rfl|rfl|rfl|rfl|rfl|rfl|rfl|rfl|rfl|rfl<;>rfl,h.cell 20,h.cell 21,h.cell 22,h.cell 23⟩
theorem CkH.frz (h:CkH w B gf op i rl m1 m2 m3 dep wh) (k:Nat):w.frozen? ⟨B,k,none⟩=false:=by
 unfold CkH at h
 simp[World.frozen?,h]
theorem CkH.same {w':World} (h:CkH w B gf op i rl m1 m2 m3 dep wh) (hb:w'.heap[B]?=w.heap[B]?):CkH w' B gf op i rl m1 m2 m3 dep wh:=hb.trans h
theorem CkH.put (h:CkH w B gf op i rl m1 m2 m3 dep wh) (k:Nat) (v:Value):(w.setCell ⟨B,k,none⟩ v).heap[B]?=some (.cells ((ckA gf op i rl m1 m2 m3 dep wh).setIfInBounds k v) 134 (0,0)):=by
 show (w.heap.modify B _)[B]?=_
 unfold CkH at h
 rw[Array.getElem?_modify,if_pos rfl,h]
 rfl
theorem CkH.setOp (h:CkH w B gf op i rl m1 m2 m3 dep wh) (v:Value):CkH (w.setCell ⟨B,0,none⟩ v) B gf v i rl m1 m2 m3 dep wh:=h.put 0 v
theorem CkH.setPlace (h:CkH w B gf op i rl m1 m2 m3 dep wh) (j:Int):CkH (w.setCell ⟨B,2,none⟩ (.int .i64 j)) B gf op j rl m1 m2 m3 dep wh:=h.put 2 _
theorem CkH.setWh (h:CkH w B gf op i rl m1 m2 m3 dep wh) (b:Bool):CkH (w.setCell ⟨B,23,none⟩ (.bool b)) B gf op i rl m1 m2 m3 dep b:=h.put 23 _
theorem CkH.setDep (h:CkH w B gf op i rl m1 m2 m3 dep wh) (q:Nat) (hq:q<16) (v:Int):CkH (w.setCell ⟨B,4+q,none⟩ (.int .i64 v)) B gf op i rl m1 m2 m3 (fun k=>if k=q then v else dep k) wh:=by
 have:=h.put (4+q) (.int .i64 v)
 unfold CkH
 rw[this]
 rcases(show q=0\/q=1\/q=2\/q=3\/q=4\/q=5\/q=6\/q=7\/q=8\/q=9\/q=10\/q=11\/q=12\/q=13\/q=14\/q=15 by omega) with rfl|rfl|rfl|rfl|rfl|rfl|rfl|rfl|rfl|rfl|rfl|rfl|rfl|rfl|rfl|rfl<;>rfl
end
theorem set_oth {w:World} {b o B:Nat} {v:Value} (h:b≠B):(w.setCell ⟨b,o,none⟩ v).heap[B]?=w.heap[B]?:=by
 show (w.heap.modify b _)[B]?=_
 rw[Array.getElem?_modify,if_neg h]
theorem Kb.setNew {E:List Nat} {a b:World} (h:Kb E a b) {g o:Nat} (hg:a.heap.size<=g) (v:Value):Kb E a (b.setCell ⟨g,o,none⟩ v):=by
 refine⟨h.os,h.tape,h.output,?_,fun k hk he=>?_⟩
 ·show a.heap.size<=(b.heap.modify g _).size
  rw[Array.size_modify];exact h.size
 ·rw[set_oth (by omega)]
  exact h.block k hk he
abbrev svV (g o:Nat) (x:Sv):Value:=.agg #[.pointer (some ⟨g,o+x.at_*21,none⟩),.int .i64 (x.at_:Int),.int .i64 x.cnt,.int .i64 x.last,.int .i64 x.fld,.int .i64 x.row,.int .i64 x.en,.int .i64 x.cod]
theorem pop_any (B gf go n cap g o m1 m2 m3:Nat) (i:Int) (rl:Value) (dep:Nat->Int) (wh:Bool) (x:Sv) (w:World) (hH:CkH w B gf (.slice (some ⟨go,0,none⟩) (n+1) cap) i rl m1 m2 m3 dep wh) (hX:ScC w g o go (n*8) x) (hgo:go<w.heap.size) (hn:n<1000000000000) (hcap:n+1<=cap) :
  Calls Tryz.prog 90 #[.pointer (some ⟨B,0,none⟩)] w fun r w'=>r = .returned (svV g o x)/\CkH w' B gf (.slice (some ⟨go,0,none⟩) n cap) i rl m1 m2 m3 dep wh/\Kb [B] w w':=by
 have hBl:=hH.lt
 have cT:=fun W (hW:Below w.heap.size w W)=>top_any B go n cap W ((hW.cell (p:=⟨B,0,none⟩) hBl).trans (hH.cell 0)) hn
 have hY:∀ W,Below w.heap.size w W->ScC W g o go (n*8) x:=fun W hW=>hX.same (hW.block go hgo)
 go_enter Tryz.func90,Tryz.ntmps90
 go_wp2_with (go_at_call 92;refine(cT _ (bel1 _ _)).mono ?_;rintro _ w1 ⟨rfl,hb⟩;have hb1:Below w.heap.size w w1:=(bel1 _ _).trans (hb.mono (al_le _ _));obtain⟨y0,y1,y2,y3,y4,y5,y6,y7⟩:=hY _ hb1)
 have b0:w1.cell? ⟨B,0,none⟩=some (.slice (some ⟨go,0,none⟩) (n+1) cap):=(hb1.cell (p:=⟨B,0,none⟩) hBl).trans (hH.cell 0)
 have e1:((n+1:Nat):Int)-1=(n:Int):=by omega
 have hB1:B<w1.heap.size:=Nat.lt_of_lt_of_le hBl hb1.size
 clear y0 y1 y2 y3 y4 y5 y6 y7 hY cT
 have fz:w1.frozen? ⟨B,0,none⟩=false:=(hH.same (hb1.block B hBl)).frz 0
 have hw0:w.heap.size<w1.heap.size:=Nat.lt_of_lt_of_le (szal _ _) hb.size
 have hBw:B≠w.heap.size:=by omega
 have hBw1:B≠w1.heap.size:=by omega
 go_region
 have hz1:w1.heap[w.heap.size]?=some (.cells #[.pointer none,.int .i64 0,.int .i64 0,.int .i64 0,.int .i64 0,.int .i64 0,.int .i64 0,.int .i64 0] 164):=(hb.block _ (by rw[World.size_alloc];omega)).trans (heap_al _ _)
 have hs1:(w1.setCell ⟨B,0,none⟩ (.slice (some ⟨go,0,none⟩) n cap)).heap.size=w1.heap.size:=by show (w1.heap.modify B _).size=_;rw[Array.size_modify]
 have k1:Kb [B] w (w1.setCell ⟨B,0,none⟩ (.slice (some ⟨go,0,none⟩) n cap)):=(Kb.of_below hb1).set (List.mem_singleton.2 rfl) _
 have k3:Kb [B] w (((w1.setCell ⟨B,0,none⟩ (.slice (some ⟨go,0,none⟩) n cap)).alloc (.cells #[.pointer (some ⟨g,o+x.at_*21,none⟩),.int .i64 (x.at_:Int),.int .i64 x.cnt,.int .i64 x.last,.int .i64 x.fld,.int .i64 x.row,.int .i64 x.en,.int .i64 x.cod] 164)).drew):=(k1.alloc _).drew
 have c3:CkH (((w1.setCell ⟨B,0,none⟩ (.slice (some ⟨go,0,none⟩) n cap)).alloc (.cells #[.pointer (some ⟨g,o+x.at_*21,none⟩),.int .i64 (x.at_:Int),.int .i64 x.cnt,.int .i64 x.last,.int .i64 x.fld,.int .i64 x.row,.int .i64 x.en,.int .i64 x.cod] 164)).drew) B gf (.slice (some ⟨go,0,none⟩) n cap) i rl m1 m2 m3 dep wh:=((hH.same (hb1.block B hBl)).setOp _).same ((bel1 _ _).block B (by rw[hs1];exact hB1))
 have l3:(((w1.setCell ⟨B,0,none⟩ (.slice (some ⟨go,0,none⟩) n cap)).alloc (.cells #[.pointer (some ⟨g,o+x.at_*21,none⟩),.int .i64 (x.at_:Int),.int .i64 x.cnt,.int .i64 x.last,.int .i64 x.fld,.int .i64 x.row,.int .i64 x.en,.int .i64 x.cod] 164)).drew).heap[w1.heap.size]?=some (.cells #[.pointer (some ⟨g,o+x.at_*21,none⟩),.int .i64 (x.at_:Int),.int .i64 x.cnt,.int .i64 x.last,.int .i64 x.fld,.int .i64 x.row,.int .i64 x.en,.int .i64 x.cod] 164):=by
  rw[<- hs1]
  exact heap_al _ _
 have z3:(((w1.setCell ⟨B,0,none⟩ (.slice (some ⟨go,0,none⟩) n cap)).alloc (.cells #[.pointer (some ⟨g,o+x.at_*21,none⟩),.int .i64 (x.at_:Int),.int .i64 x.cnt,.int .i64 x.last,.int .i64 x.fld,.int .i64 x.row,.int .i64 x.en,.int .i64 x.cod] 164)).drew).heap[w.heap.size]?=some (.cells #[.pointer none,.int .i64 0,.int .i64 0,.int .i64 0,.int .i64 0,.int .i64 0,.int .i64 0,.int .i64 0] 164):=by
  refine((bel1 _ _).block w.heap.size (by rw[hs1];exact hw0)).trans ?_
  show (w1.heap.modify B _)[w.heap.size]?=_
  rw[Array.getElem?_modify,if_neg hBw]
  exact hz1
 generalize (((w1.setCell ⟨B,0,none⟩ (.slice (some ⟨go,0,none⟩) n cap)).alloc (.cells #[.pointer (some ⟨g,o+x.at_*21,none⟩),.int .i64 (x.at_:Int),.int .i64 x.cnt,.int .i64 x.last,.int .i64 x.fld,.int .i64 x.row,.int .i64 x.en,.int .i64 x.cod] 164)).drew)=W3 at k3 c3 l3 z3 ⊢
 have l_0:W3.cell? ⟨w1.heap.size,0,none⟩=some (.pointer (some ⟨g,o+x.at_*21,none⟩)):=cell_at l3 0
 have z_0:W3.cell? ⟨w.heap.size,0,none⟩=some (.pointer none):=cell_at z3 0
 have f_0:W3.frozen? ⟨w.heap.size,0,none⟩=false:=by simp[World.frozen?,z3]
 have l_1:W3.cell? ⟨w1.heap.size,1,none⟩=some (.int .i64 (x.at_:Int)):=cell_at l3 1
 have z_1:W3.cell? ⟨w.heap.size,1,none⟩=some (.int .i64 0):=cell_at z3 1
 have f_1:W3.frozen? ⟨w.heap.size,1,none⟩=false:=by simp[World.frozen?,z3]
 have l_2:W3.cell? ⟨w1.heap.size,2,none⟩=some (.int .i64 x.cnt):=cell_at l3 2
 have z_2:W3.cell? ⟨w.heap.size,2,none⟩=some (.int .i64 0):=cell_at z3 2
 have f_2:W3.frozen? ⟨w.heap.size,2,none⟩=false:=by simp[World.frozen?,z3]
 have l_3:W3.cell? ⟨w1.heap.size,3,none⟩=some (.int .i64 x.last):=cell_at l3 3
 have z_3:W3.cell? ⟨w.heap.size,3,none⟩=some (.int .i64 0):=cell_at z3 3
 have f_3:W3.frozen? ⟨w.heap.size,3,none⟩=false:=by simp[World.frozen?,z3]
 have l_4:W3.cell? ⟨w1.heap.size,4,none⟩=some (.int .i64 x.fld):=cell_at l3 4
 have z_4:W3.cell? ⟨w.heap.size,4,none⟩=some (.int .i64 0):=cell_at z3 4
 have f_4:W3.frozen? ⟨w.heap.size,4,none⟩=false:=by simp[World.frozen?,z3]
 have l_5:W3.cell? ⟨w1.heap.size,5,none⟩=some (.int .i64 x.row):=cell_at l3 5
 have z_5:W3.cell? ⟨w.heap.size,5,none⟩=some (.int .i64 0):=cell_at z3 5
 have f_5:W3.frozen? ⟨w.heap.size,5,none⟩=false:=by simp[World.frozen?,z3]
 have l_6:W3.cell? ⟨w1.heap.size,6,none⟩=some (.int .i64 x.en):=cell_at l3 6
 have z_6:W3.cell? ⟨w.heap.size,6,none⟩=some (.int .i64 0):=cell_at z3 6
 have f_6:W3.frozen? ⟨w.heap.size,6,none⟩=false:=by simp[World.frozen?,z3]
 have l_7:W3.cell? ⟨w1.heap.size,7,none⟩=some (.int .i64 x.cod):=cell_at l3 7
 have z_7:W3.cell? ⟨w.heap.size,7,none⟩=some (.int .i64 0):=cell_at z3 7
 have f_7:W3.frozen? ⟨w.heap.size,7,none⟩=false:=by simp[World.frozen?,z3]
 replace k3:=Hid.mk k3
 replace c3:=Hid.mk c3
 clear b0 fz hb hb1 hH hX
 go_wp2_with fail
 refine bodyPost_ret (v:=svV g o x) ?_ rfl ⟨rfl,?_,?_⟩
 ·simp[results,Tryz.results90,go_sem,z_0,z_1,z_2,z_3,z_4,z_5,z_6,z_7]
 ·exact(((((((((c3.out.same (set_oth hBw.symm)).same (set_oth hBw.symm)).same (set_oth hBw.symm)).same (set_oth hBw.symm)).same (set_oth hBw.symm)).same (set_oth hBw.symm)).same (set_oth hBw.symm)).same (set_oth hBw.symm)))
 ·exact(((((((k3.out.setNew (Nat.le_refl _) _).setNew (Nat.le_refl _) _).setNew (Nat.le_refl _) _).setNew (Nat.le_refl _) _).setNew (Nat.le_refl _) _).setNew (Nat.le_refl _) _).setNew (Nat.le_refl _) _).setNew (Nat.le_refl _) _
theorem xstep_ex {P:Program} {w:World} {ops:Array Oper} {o:Oper} {a:Act} {K:Act->World->Prop} {Q:Exit->Act->World->Prop} {E:Prop} (hgd:o.guard=none) (f:FuncId) (x:Array Operand) (tx:Array TypeId)
  (ho:o.op = .call { callee:=.value (.func f),args:=x,argTypes:=tx }) (hen:∀ ag w,(callFunc f ag).run P w = .ok (.enter f ag) w) (xv:Array Value) (hx:x.map a.eval=xv) (Post:Value->World->Prop)
  (hc:Calls P f xv w fun e w'=>∃ v,e = .returned v/\Post v w') (h:∀ v w',Post v w'->K (a.put o.dst v) w'):if Region.wanted o (yielded ops a.tmps)=true then Oper.wp P o a w K Q else E:=by
 have hw:Region.wanted o (yielded ops a.tmps)=true:=by simp[Region.wanted,hgd]
 rw[if_pos hw]
 unfold Oper.wp execOp
 have hf:a.eval (.func f) = .func (.func f) #[] #[]:=rfl
 simp only[ho,resolve,invoke,Sem.run_bind,hx,hf]
 simp[Deferred.ofValue,hen,Oper.upon_enter]
 refine hc.mono ?_
 rintro e w' ⟨v,rfl,hp⟩
 exact h v w' hp
theorem xstep1 {P:Program} {w:World} {ops:Array Oper} {o:Oper} {a:Act} {K:Act->World->Prop} {Q:Exit->Act->World->Prop} {E:Prop} (hgd:o.guard=none) (f:FuncId) (x:Operand) (tx:Array TypeId)
  (ho:o.op = .call { callee:=.value (.func f),args:=#[x],argTypes:=tx }) (hen:∀ ag w,(callFunc f ag).run P w = .ok (.enter f ag) w) (xv:Value) (hx:a.eval x=xv) (Post:Value->World->Prop)
  (hc:Calls P f #[xv] w fun e w'=>∃ v,e = .returned v/\Post v w') (h:∀ v w',Post v w'->K (a.put o.dst v) w'):if Region.wanted o (yielded ops a.tmps)=true then Oper.wp P o a w K Q else E :=
 xstep_ex hgd f #[x] tx ho hen #[xv] (by simp[hx]) Post hc h
theorem xstep2 {P:Program} {w:World} {ops:Array Oper} {o:Oper} {a:Act} {K:Act->World->Prop} {Q:Exit->Act->World->Prop} {E:Prop} (hgd:o.guard=none) (f:FuncId) (x y:Operand) (tx:Array TypeId)
  (ho:o.op = .call { callee:=.value (.func f),args:=#[x,y],argTypes:=tx }) (hen:∀ ag w,(callFunc f ag).run P w = .ok (.enter f ag) w) (xv yv:Value) (hx:a.eval x=xv) (hy:a.eval y=yv) (Post:Value->World->Prop)
  (hc:Calls P f #[xv,yv] w fun e w'=>∃ v,e = .returned v/\Post v w') (h:∀ v w',Post v w'->K (a.put o.dst v) w'):if Region.wanted o (yielded ops a.tmps)=true then Oper.wp P o a w K Q else E :=
 xstep_ex hgd f #[x,y] tx ho hen #[xv,yv] (by simp[hx,hy]) Post hc h
theorem wpList_append_ex {P:Program} {w:World} {ops:Array Oper} {rest:List Oper} {o:Oper} {a:Act} {Q:Exit->Act->World->Prop} (hgd:o.guard=none) (s x:Operand) (t tx:TypeId)
  (ho:o.op = .call { callee:=.builtin .append,args:=#[s,x],argTypes:=#[t,tx] }) (sv xv:Value) (hs:a.eval s=sv) (hx:a.eval x=xv) (Post:Value->World->Prop)
  (hrun:∃ v w',(∀ ty,(Builtin.append_ #[t,tx] ty #[sv,xv]).run P w = .ok v w')/\Post v w')
  (h:∀ v w',Post v w'->wpList P ops Q rest (a.put o.dst v) w'):wpList P ops Q (o::rest) a w:=by
 obtain⟨v,w',hr,hp⟩:=hrun
 refine wpList_plain hgd fun _ hK=>?_
 unfold Oper.wp execOp
 simp only[ho,resolve,invoke,builtin,Sem.run_bind,Sem.run_pure,Result.andThen_ok,List.map_toArray,List.map_cons,List.map_nil,hs,hx,hr]
 exact hK _ _ (h v w' hp)
theorem step_append_ex {P:Program} {w:World} {ops:Array Oper} {o:Oper} {a:Act} {K:Act->World->Prop} {Q:Exit->Act->World->Prop} {E:Prop} (hgd:o.guard=none) (s x:Operand) (t tx:TypeId)
  (ho:o.op = .call { callee:=.builtin .append,args:=#[s,x],argTypes:=#[t,tx] }) (sv xv:Value) (hs:a.eval s=sv) (hx:a.eval x=xv) (Post:Value->World->Prop)
  (hrun:∃ v w',(∀ ty,(Builtin.append_ #[t,tx] ty #[sv,xv]).run P w = .ok v w')/\Post v w')
  (h:∀ v w',Post v w'->K (a.put o.dst v) w'):if Region.wanted o (yielded ops a.tmps)=true then Oper.wp P o a w K Q else E:=by
 have hw:Region.wanted o (yielded ops a.tmps)=true:=by simp[Region.wanted,hgd]
 rw[if_pos hw]
 obtain⟨v,w',hr,hp⟩:=hrun
 unfold Oper.wp execOp
 simp only[ho,resolve,invoke,builtin,Sem.run_bind,Sem.run_pure,Result.andThen_ok,List.map_toArray,List.map_cons,List.map_nil,hs,hx,hr]
 exact h v w' hp
theorem infoOf (t:TypeId) (z:Value) (s b:Nat) (h:(Tryz.prog.info? t).map (fun i=>(i.zero,i.size,i.bytes))=some (some z,s,b)):∃ i,Tryz.prog.info? t=some i/\i.zero=some z/\i.size=s/\i.bytes=b:=by
 obtain⟨i,hi,hz⟩:=Option.map_eq_some_iff.1 h
 simp only[Prod.mk.injEq] at hz
 exact⟨i,hi,hz.1,hz.2.1,hz.2.2⟩
theorem svCs_one (g o:Nat) (l:List Sv):∀ u∈svCs g o l,u.oneCell'=true:=by
 intro u hu
 obtain⟨a,_,h⟩:=List.mem_flatMap.1 hu
 simp only[svC,List.mem_cons,List.not_mem_nil,or_false] at h
 rcases h with rfl|rfl|rfl|rfl|rfl|rfl|rfl|rfl<;>rfl
theorem s_ap {W:World} {base g o:Nat} {v:Value} {al bl:List Sv} {ad:Addr} (cb:Nat) (own:W.ownsRow base 164 8 v al.length (svCs g o al)) (hB:∀ (j:Nat) (u:Value),(svCs g o bl)[j]?=some u->W.cell? (ad.add j)=some u) (hl:al.length+bl.length<=977343669134) (hb:base<=W.heap.size) :
  ∃ v' w',(∀ ty,(Builtin.append_ #[125,125] ty #[v,.slice (some ad) bl.length cb]).run Tryz.prog W = .ok v' w')/\(w'.ownsRow base 164 8 v' (al++bl).length (svCs g o (al++bl))/\W.grownBy w' v.ownBlock/\(v'.ownBlock=v.ownBlock\/v'.ownBlock=some W.heap.size)):=by
 obtain⟨i0,hi,hz,hs,hby⟩:=infoOf 164 (.agg #[.pointer none,.int .i64 0,.int .i64 0,.int .i64 0,.int .i64 0,.int .i64 0,.int .i64 0,.int .i64 0]) 8 64 (by kernel_rfl)
 have hr:=fun ty=>run_append_own_at (P:=Tryz.prog) W base 125 ty 164 i0 _ 8 64 Tryz.underlying125 hi hz hs hby rfl (by decide) v al.length (svCs g o al) own ad bl.length cb (svCs g o bl) (svCs_length g o bl) hB (svCs_one g o bl) (by simp only[maxLen];omega) (by omega) hb
 obtain⟨v',w',h1,h2,h3,_,h4⟩:=hr 0
 refine⟨v',w',fun ty=>?_,by rw[List.length_append,svCs_append];exact h2,h3,h4⟩
 have e:(Builtin.append_ #[125,125] ty #[v,.slice (some ad) bl.length cb])=(Builtin.append_ #[125,125] 0 #[v,.slice (some ad) bl.length cb]):=rfl
 rw[e]
 exact h1
theorem own_alloc2 {W W':World} {base:Nat} {e:TypeId} {s:Nat} {v:Value} {n:Nat} {xs:List Value} (h:W.ownsRow base e s v n xs) (hb:Below W.heap.size W W'):W'.ownsRow base e s v n xs:=by
 refine⟨h.1,?_⟩
 rcases h.2 with h0|⟨g,cap,cur,rfl,hb',hg,r⟩
 ·exact .inl h0
 ·exact .inr ⟨g,cap,cur,rfl,hb',(hb.block g (Array.getElem?_eq_some_iff.1 hg).1).trans hg,r⟩
theorem own_op {W:World} {base g o:Nat} {v:Value} {l:List Sv} (h:W.ownsRow base 164 8 v l.length (svCs g o l)) (hl:0<l.length):∃ go cap,v = .slice (some ⟨go,0,none⟩) l.length cap/\OpR W g o go cap l/\base<=go:=by
 rcases h.2 with ⟨_,h0⟩|⟨go,cap,cur,e,hb',hg,h1,h2,h3,h4⟩
 ·omega
 ·exact⟨go,cap,e,⟨cur,hg,h1,h2,h3,h4⟩,hb'⟩
theorem bb2 (w:World) (a b:Obj):Below w.heap.size w ((w.alloc a).alloc b):=(bel1 w a).trans ((bel1 (w.alloc a) b).mono (al_le _ _))
theorem sz2 (w:World) (a b:Obj):((w.alloc a).alloc b).heap.size=w.heap.size+2:=by rw[World.size_alloc,World.size_alloc]
theorem hp2 (w:World) (a b:Obj):((w.alloc a).alloc b).heap[w.heap.size+1]?=some b:=by rw[show w.heap.size+1=(w.alloc a).heap.size from (World.size_alloc ..).symm];exact heap_al _ _
theorem lit8 {W:World} {gB g o:Nat} {x:Sv} {ty:TypeId} (h:W.heap[gB]?=some (.cells (svC g o x).toArray ty)):∀ (j:Nat) (u:Value),(svCs g o [x])[j]?=some u->W.cell? ((⟨gB,0,none⟩:Addr).add j)=some u:=by
 intro j u hu
 have e:(⟨gB,0,none⟩:Addr).add j=⟨gB,0+j,none⟩:=by unfold Addr.add;split<;>simp_all
 rw[e,Nat.zero_add,cell_at h]
 unfold svCs at hu
 rw[List.flatMap_cons,List.flatMap_nil,List.append_nil] at hu
 simpa using hu
theorem push_fin {w W w':World} {B gf g o H m1 m2 m3 go' cap':Nat} {i:Int} {rl v:Value} {dep:Nat->Int} {wh:Bool} {l:List Sv} {n:Nat} (hBl:B<w.heap.size) (hvB:v.ownBlock≠some B) (hW:Below w.heap.size w W) (q2:W.grownBy w' v.ownBlock) (q3:(Value.slice (some ⟨go',0,none⟩) n cap').ownBlock=v.ownBlock\/(Value.slice (some ⟨go',0,none⟩) n cap').ownBlock=some W.heap.size) (qO:OpR w' g o go' cap' l) (qH:H<=go') (c4:CkH w' B gf v i rl m1 m2 m3 dep wh) (k:Nat) :
  CkH (w'.setCell ⟨B,0,none⟩ (.slice (some ⟨go',0,none⟩) k cap')) B gf (.slice (some ⟨go',0,none⟩) k cap') i rl m1 m2 m3 dep wh/\OpR (w'.setCell ⟨B,0,none⟩ (.slice (some ⟨go',0,none⟩) k cap')) g o go' cap' l/\H<=go'/\(some go'=v.ownBlock\/w.heap.size<=go')/\Kb (B::v.ownBlock.toList) w (w'.setCell ⟨B,0,none⟩ (.slice (some ⟨go',0,none⟩) k cap')):=by
 have hs:=hW.size
 have h3:some go'=v.ownBlock\/go'=W.heap.size:=by
  rcases q3 with q|q
  ·exact .inl q
  ·exact .inr (by simpa[Value.ownBlock] using q)
 have hne:B≠go':=by
  rintro rfl
  rcases h3 with q|q
  ·exact hvB q.symm
  ·omega
 refine⟨c4.setOp _,qO.same (set_oth hne),qH,?_,?_⟩
 ·rcases h3 with q|q
  ·exact .inl q
  ·exact .inr (by omega)
 ·have kg:Kb (B::v.ownBlock.toList) W w':=⟨q2.os,q2.tape,q2.output,q2.size,fun j hj he=>q2.block j hj fun e=>he (List.mem_cons_of_mem _ (by rw[<- e];simp))⟩
  exact((Kb.of_below hW).trans kg).set (List.mem_cons_self ..) _
theorem push_any (B gf g o H m1 m2 m3:Nat) (i:Int) (rl v:Value) (dep:Nat->Int) (wh:Bool) (al:List Sv) (x:Sv) (w:World) (hH:CkH w B gf v i rl m1 m2 m3 dep wh) (own:w.ownsRow H 164 8 v al.length (svCs g o al)) (hl:al.length+1<=977343669134) (hHs:H<=w.heap.size) (hvB:v.ownBlock≠some B) :
  Calls Tryz.prog 94 #[.pointer (some ⟨B,0,none⟩),svV g o x] w fun r w'=>r = .returned (.tuple #[])/\∃ go' cap',CkH w' B gf (.slice (some ⟨go',0,none⟩) (al.length+1) cap') i rl m1 m2 m3 dep wh/\OpR w' g o go' cap' (al++[x])/\H<=go'/\(some go'=v.ownBlock\/w.heap.size<=go')/\Kb (B::v.ownBlock.toList) w w':=by
 have hBl:=hH.lt
 have b0:w.cell? ⟨B,0,none⟩=some v:=hH.cell 0
 have hBn:B≠w.heap.size:=by omega
 have fz:=hH.frz 0
 go_enter Tryz.func94,Tryz.ntmps94
 go_wp2_with fail
 go_region_law ((refine step_append_ex rfl _ _ _ _ (by rfl) v (.slice (some ⟨w.heap.size+1,0,none⟩) 1 1) (by rfl) (by rfl) _ (s_ap (bl:=[x]) 1 (own_alloc2 own (by first|exact bb2 _ _ _|exact drw (bb2 _ _ _))) (lit8 (hp2 _ _ _)) hl (by first|(rw[sz2];omega)|(show H<=((w.alloc _).alloc _).heap.size;rw[sz2];omega))) ?_;rintro v' w' ⟨q1,q2,q3⟩;obtain⟨go',cap',rfl,qO,qH⟩:=own_op q1 (by simp);have hk2:w'.heap[B]?=w.heap[B]?:=(q2.block B (Nat.lt_of_lt_of_le hBl (bb2 w _ _).size) (fun e=>hvB e.symm)).trans ((bb2 _ _ _).block B hBl);have c4:=hH.same hk2;have y0:w'.cell? ⟨B,0,none⟩=some v:=c4.cell 0;have yf:=c4.frz 0))
 all_goals
  go_wp2_with fail
  refine bodyPost_end (v:=.tuple #[]) (results_none (by rfl) _ _ _) rfl ⟨rfl,go',cap',?_⟩
  first
  | exact push_fin hBl hvB (drw (bb2 _ _ _)) q2 q3 qO qH c4 _
  | exact push_fin hBl hvB (bb2 _ _ _) q2 q3 qO qH c4 _
theorem l_ap {W:World} {base:Nat} {v:Value} {al bl:List (Nat×Lv)} {ad:Addr} (cb:Nat) (own:W.ownsRow base 115 4 v al.length (lvCs al)) (hB:∀ (j:Nat) (u:Value),(lvCs bl)[j]?=some u->W.cell? (ad.add j)=some u) (hl:al.length+bl.length<=977343669134) (hb:base<=W.heap.size) :
  ∃ v' w',(∀ ty,(Builtin.append_ #[98,98] ty #[v,.slice (some ad) bl.length cb]).run Tryz.prog W = .ok v' w')/\(w'.ownsRow base 115 4 v' (al++bl).length (lvCs (al++bl))/\W.grownBy w' v.ownBlock/\(v'.ownBlock=v.ownBlock\/v'.ownBlock=some W.heap.size)):=by
 obtain⟨i0,hi,hz,hs,hby⟩:=infoOf 115 (.agg #[.pointer none,.int .i64 0,.bool false,.int .i64 0]) 4 32 (by kernel_rfl)
 have hr:=fun ty=>run_append_own_at (P:=Tryz.prog) W base 98 ty 115 i0 _ 4 32 Tryz.underlying98 hi hz hs hby rfl (by decide) v al.length (lvCs al) own ad bl.length cb (lvCs bl) (lvCs_length bl) hB (lvCs_one bl) (by simp only[maxLen];omega) (by omega) hb
 obtain⟨v',w',h1,h2,h3,_,h4⟩:=hr 0
 refine⟨v',w',fun ty=>?_,by rw[List.length_append,lvCs_append];exact h2,h3,h4⟩
 have e:(Builtin.append_ #[98,98] ty #[v,.slice (some ad) bl.length cb])=(Builtin.append_ #[98,98] 0 #[v,.slice (some ad) bl.length cb]):=rfl
 rw[e]
 exact h1
theorem own_lv {W:World} {base:Nat} {v:Value} {l:List (Nat×Lv)} (h:W.ownsRow base 115 4 v l.length (lvCs l)) (hl:0<l.length):∃ go cap,v = .slice (some ⟨go,0,none⟩) l.length cap/\Op4 W go cap l/\base<=go:=by
 rcases h.2 with ⟨_,h0⟩|⟨go,cap,cur,e,hb',hg,h1,h2,h3,h4⟩
 ·omega
 ·exact⟨go,cap,e,⟨cur,hg,h1,h2,h3,h4⟩,hb'⟩
theorem lvCs_take:∀ (zs:List (Nat×Lv)) (k:Nat),(lvCs zs).take (k*4)=lvCs (zs.take k)
 | [],k=>by simp[lvCs]
 | z::zs,0=>by simp[lvCs]
 | z::zs,k+1=>by
  have hl:(lvC z.1 z.2).length=4:=rfl
  rw[List.take_succ_cons,lvCs,lvCs,List.take_append,hl,List.take_of_length_le (by rw[hl];omega),show (k+1)*4-4=k*4 by omega,lvCs_take zs k]
theorem Op4.own {W:World} {go cap k H:Nat} {zs:List (Nat×Lv)} (h:Op4 W go cap zs) (hk:k<=zs.length) (hH:H<=go):W.ownsRow H 115 4 (.slice (some ⟨go,0,none⟩) k cap) (zs.take k).length (lvCs (zs.take k)):=by
 obtain⟨cur,h1,h2,h3,h4,h5⟩:=h
 have hl:(zs.take k).length=k:=by rw[List.length_take];omega
 refine⟨lvCs_length _,.inr ⟨go,cap,cur,by rw[hl],hH,h1,by omega,h3,h4,?_⟩⟩
 rw[hl,<- lvCs_take,<- h5,List.take_take,Nat.min_eq_left (by omega)]
theorem lit4 {W:World} {gB:Nat} {y:Nat×Lv} {ty:TypeId} (h:W.heap[gB]?=some (.cells (lvC y.1 y.2).toArray ty)):∀ (j:Nat) (u:Value),(lvCs [y])[j]?=some u->W.cell? ((⟨gB,0,none⟩:Addr).add j)=some u:=by
 intro j u hu
 have e:(⟨gB,0,none⟩:Addr).add j=⟨gB,0+j,none⟩:=by unfold Addr.add;split<;>simp_all
 rw[e,Nat.zero_add,cell_at h]
 rw[lvCs,lvCs,List.append_nil] at hu
 simpa using hu
theorem opush_fin {w W w':World} {a H go' cap':Nat} {ent:Int} {v:Value} {l:List (Nat×Lv)} {n:Nat} (hn:0<n) (hln:n=l.length) (hl:l.length<=1000000) (hal:a<w.heap.size) (hva:v.ownBlock≠some a) (hW:Below w.heap.size w W) (q2:W.grownBy w' v.ownBlock) (q3:(Value.slice (some ⟨go',0,none⟩) n cap').ownBlock=v.ownBlock\/(Value.slice (some ⟨go',0,none⟩) n cap').ownBlock=some W.heap.size) (qO:Op4 w' go' cap' l) (qH:H<=go') (hc:w'.heap[a]?=some (.cells #[v,.int .i64 ent] 103)) :
  SM (w'.setCell ⟨a,0,none⟩ (.slice (some ⟨go',0,none⟩) n cap')) a go' cap' n l ent/\H<=go'/\(some go'=v.ownBlock\/w.heap.size<=go')/\Kb (a::v.ownBlock.toList) w (w'.setCell ⟨a,0,none⟩ (.slice (some ⟨go',0,none⟩) n cap')):=by
 have hs:=hW.size
 have h3:some go'=v.ownBlock\/go'=W.heap.size:=by
  rcases q3 with q|q
  ·exact .inl q
  ·exact .inr (by simpa[Value.ownBlock] using q)
 have hne:a≠go':=by
  rintro rfl
  rcases h3 with q|q
  ·exact hva q.symm
  ·omega
 have e:(w'.setCell ⟨a,0,none⟩ (.slice (some ⟨go',0,none⟩) n cap')).heap=w'.heap.modify a (fun o=>match o with
   | .cells cs t f=>.cells (cs.setIfInBounds 0 (.slice (some ⟨go',0,none⟩) n cap')) t f
   | o=>o):=rfl
 refine⟨⟨?_,qO.same (set_oth hne),by omega,hn,hne,hl⟩,qH,?_,?_⟩
 ·rw[e,Array.getElem?_modify,if_pos rfl,hc]
  rfl
 ·rcases h3 with q|q
  ·exact .inl q
  ·exact .inr (by omega)
 ·have kg:Kb (a::v.ownBlock.toList) W w':=⟨q2.os,q2.tape,q2.output,q2.size,fun j hj he=>q2.block j hj fun e=>he (List.mem_cons_of_mem _ (by rw[<- e];simp))⟩
  exact((Kb.of_below hW).trans kg).set (List.mem_cons_self ..) _
theorem opush_any (a H:Nat) (ent:Int) (v:Value) (al:List (Nat×Lv)) (y:Nat×Lv) (w:World) (hc:w.heap[a]?=some (.cells #[v,.int .i64 ent] 103)) (own:w.ownsRow H 115 4 v al.length (lvCs al)) (hl:al.length+1<=1000000) (hHs:H<=w.heap.size) (hva:v.ownBlock≠some a) :
  Calls Tryz.prog 53 #[.pointer (some ⟨a,0,none⟩),lvV y.1 y.2] w fun r w'=>r = .returned (.tuple #[])/\∃ go' cap',SM w' a go' cap' (al.length+1) (al++[y]) ent/\H<=go'/\(some go'=v.ownBlock\/w.heap.size<=go')/\Kb (a::v.ownBlock.toList) w w':=by
 have hal:a<w.heap.size:=(Array.getElem?_eq_some_iff.1 hc).1
 have b0:w.cell? ⟨a,0,none⟩=some v:=cell_at hc 0
 have han:a≠w.heap.size:=by omega
 have fz:w.frozen? ⟨a,0,none⟩=false:=by simp[World.frozen?,hc]
 obtain⟨g,xp,xl,xb,xc⟩:=y
 go_enter Tryz.func53,Tryz.ntmps53
 go_wp2_with fail
 go_region_law ((refine step_append_ex rfl _ _ _ _ (by rfl) v (.slice (some ⟨w.heap.size+1,0,none⟩) 1 1) (by rfl) (by rfl) _ (l_ap (bl:=[(g,⟨xp,xl,xb,xc⟩)]) 1 (own_alloc2 own (by first|exact bb2 _ _ _|exact drw (bb2 _ _ _))) (lit4 (hp2 _ _ _)) (Nat.le_trans hl (by decide)) (by first|(rw[sz2];omega)|(show H<=((w.alloc _).alloc _).heap.size;rw[sz2];omega))) ?_;rintro v' w' ⟨q1,q2,q3⟩;obtain⟨go',cap',rfl,qO,qH⟩:=own_lv q1 (by simp);have hk2:w'.heap[a]?=some (.cells #[v,.int .i64 ent] 103):=((q2.block a (Nat.lt_of_lt_of_le hal (bb2 w _ _).size) (fun e=>hva e.symm)).trans ((bb2 _ _ _).block a hal)).trans hc;have y0:w'.cell? ⟨a,0,none⟩=some v:=cell_at hk2 0;have yf:w'.frozen? ⟨a,0,none⟩=false:=by simp[World.frozen?,hk2]))
 all_goals
  go_wp2_with fail
  refine bodyPost_end (v:=.tuple #[]) (results_none (by rfl) _ _ _) rfl ⟨rfl,go',cap',?_⟩
  rw[show al.length+1=(al++[(g,(⟨xp,xl,xb,xc⟩:Lv))]).length by simp]
  first
  | exact opush_fin (by simp) rfl (by simpa using hl) hal hva (drw (bb2 _ _ _)) q2 q3 qO qH hk2
  | exact opush_fin (by simp) rfl (by simpa using hl) hal hva (bb2 _ _ _) q2 q3 qO qH hk2
end Go.Proofs.YtjlbcdnkglaheaaGreatDoor
