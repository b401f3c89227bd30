import Derived.Test.YtjnafpefolgcoaaGreatDoorK20
namespace Go.Proofs.YtjnafpefolgcoaaGreatDoor
set_option maxRecDepth 1000000
set_option maxHeartbeats 16000000
open Go.ChangeShapes Go.WideShapes Go.ChangeAt Go.RowKit Go.Shelf Go.Maps
def ckA (gf:Nat) (op:Value) (i:Int) (rl:Value) (m1 m2 m3:Nat) (dep:Nat->Int) (wh:Bool):Array Value:=#[op,.pointer (some ⟨gf,0,none⟩),.int .i64 i,rl,.int .i64 (dep 0),.int .i64 (dep 1),.int .i64 (dep 2),.int .i64 (dep 3),.int .i64 (dep 4),.int .i64 (dep 5),.int .i64 (dep 6),.int .i64 (dep 7),.int .i64 (dep 8),.int .i64 (dep 9),.int .i64 (dep 10),.int .i64 (dep 11),.int .i64 (dep 12),.int .i64 (dep 13),.int .i64 (dep 14),.int .i64 (dep 15),.map (some m1),.map (some m2),.map (some m3),.bool wh]
def CkH (w:World) (B gf:Nat) (op:Value) (i:Int) (rl:Value) (m1 m2 m3:Nat) (dep:Nat->Int) (wh:Bool):Prop:=w.heap[B]?=some (.cells (ckA gf op i rl m1 m2 m3 dep wh) 91 (0,0))
section
variable {w:World} {B gf:Nat} {op:Value} {i:Int} {rl:Value} {m1 m2 m3:Nat} {dep:Nat->Int} {wh:Bool}
theorem CkH.lt (h:CkH w B gf op i rl m1 m2 m3 dep wh):B<w.heap.size:=(Array.getElem?_eq_some_iff.1 h).1
theorem CkH.cell (h:CkH w B gf op i rl m1 m2 m3 dep wh) (k:Nat):w.cell? ⟨B,k,none⟩=(ckA gf op i rl m1 m2 m3 dep wh)[k]?:=cell_at h k
theorem CkH.ck (h:CkH w B gf op i rl m1 m2 m3 dep wh):CkC w B gf op i rl m1 m2 m3 dep wh :=
 ⟨h.lt,h.cell 0,h.cell 1,h.cell 2,h.cell 3,fun q hq=>by
  rw[h.cell]
  rcases(show q=0\/q=1\/q=2\/q=3\/q=4\/q=5\/q=6\/q=7\/q=8\/q=9\/q=10\/q=11\/q=12\/q=13\/q=14\/q=15 by omega) with rfl|rfl|rfl|rfl|rfl|rfl|rfl|rfl|rfl|rfl|rfl|rfl|rfl|rfl|rfl|rfl<;>rfl,h.cell 20,h.cell 21,h.cell 22,h.cell 23⟩
theorem CkH.frz (h:CkH w B gf op i rl m1 m2 m3 dep wh) (k:Nat):w.frozen? ⟨B,k,none⟩=false:=by
 unfold CkH at h
 simp[World.frozen?,h]
theorem CkH.same {w':World} (h:CkH w B gf op i rl m1 m2 m3 dep wh) (hb:w'.heap[B]?=w.heap[B]?):CkH w' B gf op i rl m1 m2 m3 dep wh:=hb.trans h
theorem CkH.put (h:CkH w B gf op i rl m1 m2 m3 dep wh) (k:Nat) (v:Value):(w.setCell ⟨B,k,none⟩ v).heap[B]?=some (.cells ((ckA gf op i rl m1 m2 m3 dep wh).setIfInBounds k v) 91 (0,0)):=by
 show (w.heap.modify B _)[B]?=_
 unfold CkH at h
 rw[Array.getElem?_modify,if_pos rfl,h]
 rfl
theorem CkH.setOp (h:CkH w B gf op i rl m1 m2 m3 dep wh) (v:Value):CkH (w.setCell ⟨B,0,none⟩ v) B gf v i rl m1 m2 m3 dep wh:=h.put 0 v
theorem CkH.setPlace (h:CkH w B gf op i rl m1 m2 m3 dep wh) (j:Int):CkH (w.setCell ⟨B,2,none⟩ (.int .i64 j)) B gf op j rl m1 m2 m3 dep wh:=h.put 2 _
theorem CkH.setWh (h:CkH w B gf op i rl m1 m2 m3 dep wh) (b:Bool):CkH (w.setCell ⟨B,23,none⟩ (.bool b)) B gf op i rl m1 m2 m3 dep b:=h.put 23 _
theorem CkH.setDep (h:CkH w B gf op i rl m1 m2 m3 dep wh) (q:Nat) (hq:q<16) (v:Int):CkH (w.setCell ⟨B,4+q,none⟩ (.int .i64 v)) B gf op i rl m1 m2 m3 (fun k=>if k=q then v else dep k) wh:=by
 have:=h.put (4+q) (.int .i64 v)
 unfold CkH
 rw[this]
 rcases(show q=0\/q=1\/q=2\/q=3\/q=4\/q=5\/q=6\/q=7\/q=8\/q=9\/q=10\/q=11\/q=12\/q=13\/q=14\/q=15 by omega) with rfl|rfl|rfl|rfl|rfl|rfl|rfl|rfl|rfl|rfl|rfl|rfl|rfl|rfl|rfl|rfl<;>rfl
end
theorem set_oth {w:World} {b o B:Nat} {v:Value} (h:b≠B):(w.setCell ⟨b,o,none⟩ v).heap[B]?=w.heap[B]?:=by
 show (w.heap.modify b _)[B]?=_
 rw[Array.getElem?_modify,if_neg h]
theorem Kb.setNew {E:List Nat} {a b:World} (h:Kb E a b) {g o:Nat} (hg:a.heap.size<=g) (v:Value):Kb E a (b.setCell ⟨g,o,none⟩ v):=by
 refine⟨h.os,h.tape,h.output,?_,fun k hk he=>?_⟩
 ·show a.heap.size<=(b.heap.modify g _).size
  rw[Array.size_modify];exact h.size
 ·rw[set_oth (by omega)]
  exact h.block k hk he
abbrev svV (g o:Nat) (x:Sv):Value:=.agg #[.pointer (some ⟨g,o+x.at_*21,none⟩),.int .i64 (x.at_:Int),.int .i64 x.cnt,.int .i64 x.last,.int .i64 x.fld,.int .i64 x.row,.int .i64 x.en,.int .i64 x.cod]
theorem pop_any (B gf go n cap g o m1 m2 m3:Nat) (i:Int) (rl:Value) (dep:Nat->Int) (wh:Bool) (x:Sv) (w:World) (hH:CkH w B gf (.slice (some ⟨go,0,none⟩) (n+1) cap) i rl m1 m2 m3 dep wh) (hX:ScC w g o go (n*8) x) (hgo:go<w.heap.size) (hn:n<1000000000000) (hcap:n+1<=cap) :
  Calls Tryz.prog 76 #[.pointer (some ⟨B,0,none⟩)] w fun r w'=>r = .returned (svV g o x)/\CkH w' B gf (.slice (some ⟨go,0,none⟩) n cap) i rl m1 m2 m3 dep wh/\Kb [B] w w':=by
 have hBl:=hH.lt
 have cT:=fun W (hW:Below w.heap.size w W)=>top_any B go n cap W ((hW.cell (p:=⟨B,0,none⟩) hBl).trans (hH.cell 0)) hn
 have hY:∀ W,Below w.heap.size w W->ScC W g o go (n*8) x:=fun W hW=>hX.same (hW.block go hgo)
 go_enter Tryz.func76,Tryz.ntmps76
 go_wp2_with (go_at_call 78;refine(cT _ (bel1 _ _)).mono ?_;rintro _ w1 ⟨rfl,hb⟩;have hb1:Below w.heap.size w w1:=(bel1 _ _).trans (hb.mono (al_le _ _));obtain⟨y0,y1,y2,y3,y4,y5,y6,y7⟩:=hY _ hb1)
 have b0:w1.cell? ⟨B,0,none⟩=some (.slice (some ⟨go,0,none⟩) (n+1) cap):=(hb1.cell (p:=⟨B,0,none⟩) hBl).trans (hH.cell 0)
 have e1:((n+1:Nat):Int)-1=(n:Int):=by omega
 have hB1:B<w1.heap.size:=Nat.lt_of_lt_of_le hBl hb1.size
 clear y0 y1 y2 y3 y4 y5 y6 y7 hY cT
 have fz:w1.frozen? ⟨B,0,none⟩=false:=(hH.same (hb1.block B hBl)).frz 0
 have hw0:w.heap.size<w1.heap.size:=Nat.lt_of_lt_of_le (szal _ _) hb.size
 have hBw:B≠w.heap.size:=by omega
 have hBw1:B≠w1.heap.size:=by omega
 go_region
 have hz1:w1.heap[w.heap.size]?=some (.cells #[.pointer none,.int .i64 0,.int .i64 0,.int .i64 0,.int .i64 0,.int .i64 0,.int .i64 0,.int .i64 0] 109):=(hb.block _ (by rw[World.size_alloc];omega)).trans (heap_al _ _)
 have hs1:(w1.setCell ⟨B,0,none⟩ (.slice (some ⟨go,0,none⟩) n cap)).heap.size=w1.heap.size:=by show (w1.heap.modify B _).size=_;rw[Array.size_modify]
 have k1:Kb [B] w (w1.setCell ⟨B,0,none⟩ (.slice (some ⟨go,0,none⟩) n cap)):=(Kb.of_below hb1).set (List.mem_singleton.2 rfl) _
 have k3:Kb [B] w (((w1.setCell ⟨B,0,none⟩ (.slice (some ⟨go,0,none⟩) n cap)).alloc (.cells #[.pointer (some ⟨g,o+x.at_*21,none⟩),.int .i64 (x.at_:Int),.int .i64 x.cnt,.int .i64 x.last,.int .i64 x.fld,.int .i64 x.row,.int .i64 x.en,.int .i64 x.cod] 109)).drew):=(k1.alloc _).drew
 have c3:CkH (((w1.setCell ⟨B,0,none⟩ (.slice (some ⟨go,0,none⟩) n cap)).alloc (.cells #[.pointer (some ⟨g,o+x.at_*21,none⟩),.int .i64 (x.at_:Int),.int .i64 x.cnt,.int .i64 x.last,.int .i64 x.fld,.int .i64 x.row,.int .i64 x.en,.int .i64 x.cod] 109)).drew) B gf (.slice (some ⟨go,0,none⟩) n cap) i rl m1 m2 m3 dep wh:=((hH.same (hb1.block B hBl)).setOp _).same ((bel1 _ _).block B (by rw[hs1];exact hB1))
 have l3:(((w1.setCell ⟨B,0,none⟩ (.slice (some ⟨go,0,none⟩) n cap)).alloc (.cells #[.pointer (some ⟨g,o+x.at_*21,none⟩),.int .i64 (x.at_:Int),.int .i64 x.cnt,.int .i64 x.last,.int .i64 x.fld,.int .i64 x.row,.int .i64 x.en,.int .i64 x.cod] 109)).drew).heap[w1.heap.size]?=some (.cells #[.pointer (some ⟨g,o+x.at_*21,none⟩),.int .i64 (x.at_:Int),.int .i64 x.cnt,.int .i64 x.last,.int .i64 x.fld,.int .i64 x.row,.int .i64 x.en,.int .i64 x.cod] 109):=by
  rw[<- hs1]
  exact heap_al _ _
 have z3:(((w1.setCell ⟨B,0,none⟩ (.slice (some ⟨go,0,none⟩) n cap)).alloc (.cells #[.pointer (some ⟨g,o+x.at_*21,none⟩),.int .i64 (x.at_:Int),.int .i64 x.cnt,.int .i64 x.last,.int .i64 x.fld,.int .i64 x.row,.int .i64 x.en,.int .i64 x.cod] 109)).drew).heap[w.heap.size]?=some (.cells #[.pointer none,.int .i64 0,.int .i64 0,.int .i64 0,.int .i64 0,.int .i64 0,.int .i64 0,.int .i64 0] 109):=by
  refine((bel1 _ _).block w.heap.size (by rw[hs1];exact hw0)).trans ?_
  show (w1.heap.modify B _)[w.heap.size]?=_
  rw[Array.getElem?_modify,if_neg hBw]
  exact hz1
 generalize (((w1.setCell ⟨B,0,none⟩ (.slice (some ⟨go,0,none⟩) n cap)).alloc (.cells #[.pointer (some ⟨g,o+x.at_*21,none⟩),.int .i64 (x.at_:Int),.int .i64 x.cnt,.int .i64 x.last,.int .i64 x.fld,.int .i64 x.row,.int .i64 x.en,.int .i64 x.cod] 109)).drew)=W3 at k3 c3 l3 z3 ⊢
 have l_0:W3.cell? ⟨w1.heap.size,0,none⟩=some (.pointer (some ⟨g,o+x.at_*21,none⟩)):=cell_at l3 0
 have z_0:W3.cell? ⟨w.heap.size,0,none⟩=some (.pointer none):=cell_at z3 0
 have f_0:W3.frozen? ⟨w.heap.size,0,none⟩=false:=by simp[World.frozen?,z3]
 have l_1:W3.cell? ⟨w1.heap.size,1,none⟩=some (.int .i64 (x.at_:Int)):=cell_at l3 1
 have z_1:W3.cell? ⟨w.heap.size,1,none⟩=some (.int .i64 0):=cell_at z3 1
 have f_1:W3.frozen? ⟨w.heap.size,1,none⟩=false:=by simp[World.frozen?,z3]
 have l_2:W3.cell? ⟨w1.heap.size,2,none⟩=some (.int .i64 x.cnt):=cell_at l3 2
 have z_2:W3.cell? ⟨w.heap.size,2,none⟩=some (.int .i64 0):=cell_at z3 2
 have f_2:W3.frozen? ⟨w.heap.size,2,none⟩=false:=by simp[World.frozen?,z3]
 have l_3:W3.cell? ⟨w1.heap.size,3,none⟩=some (.int .i64 x.last):=cell_at l3 3
 have z_3:W3.cell? ⟨w.heap.size,3,none⟩=some (.int .i64 0):=cell_at z3 3
 have f_3:W3.frozen? ⟨w.heap.size,3,none⟩=false:=by simp[World.frozen?,z3]
 have l_4:W3.cell? ⟨w1.heap.size,4,none⟩=some (.int .i64 x.fld):=cell_at l3 4
 have z_4:W3.cell? ⟨w.heap.size,4,none⟩=some (.int .i64 0):=cell_at z3 4
 have f_4:W3.frozen? ⟨w.heap.size,4,none⟩=false:=by simp[World.frozen?,z3]
 have l_5:W3.cell? ⟨w1.heap.size,5,none⟩=some (.int .i64 x.row):=cell_at l3 5
 have z_5:W3.cell? ⟨w.heap.size,5,none⟩=some (.int .i64 0):=cell_at z3 5
 have f_5:W3.frozen? ⟨w.heap.size,5,none⟩=false:=by simp[World.frozen?,z3]
 have l_6:W3.cell? ⟨w1.heap.size,6,none⟩=some (.int .i64 x.en):=cell_at l3 6
 have z_6:W3.cell? ⟨w.heap.size,6,none⟩=some (.int .i64 0):=cell_at z3 6
 have f_6:W3.frozen? ⟨w.heap.size,6,none⟩=false:=by simp[World.frozen?,z3]
 have l_7:W3.cell? ⟨w1.heap.size,7,none⟩=some (.int .i64 x.cod):=cell_at l3 7
 have z_7:W3.cell? ⟨w.heap.size,7,none⟩=some (.int .i64 0):=cell_at z3 7
 have f_7:W3.frozen? ⟨w.heap.size,7,none⟩=false:=by simp[World.frozen?,z3]
 replace k3:=Hid.mk k3
 replace c3:=Hid.mk c3
 clear b0 fz hb hb1 hH hX
 go_wp2_with fail
 refine bodyPost_ret (v:=svV g o x) ?_ rfl ⟨rfl,?_,?_⟩
 ·simp[results,Tryz.results76,go_sem,z_0,z_1,z_2,z_3,z_4,z_5,z_6,z_7]
 ·exact(((((((((c3.out.same (set_oth hBw.symm)).same (set_oth hBw.symm)).same (set_oth hBw.symm)).same (set_oth hBw.symm)).same (set_oth hBw.symm)).same (set_oth hBw.symm)).same (set_oth hBw.symm)).same (set_oth hBw.symm)))
 ·exact(((((((k3.out.setNew (Nat.le_refl _) _).setNew (Nat.le_refl _) _).setNew (Nat.le_refl _) _).setNew (Nat.le_refl _) _).setNew (Nat.le_refl _) _).setNew (Nat.le_refl _) _).setNew (Nat.le_refl _) _).setNew (Nat.le_refl _) _
def rulA (B:Nat):Array Value:=#[.func (.func 64) #[.pointer (some ⟨B,0,none⟩)] #[],.nilFunc,.func (.func 65) #[.pointer (some ⟨B,0,none⟩)] #[],.nilFunc,.func (.func 66) #[.pointer (some ⟨B,0,none⟩)] #[],.nilFunc,.func (.func 67) #[.pointer (some ⟨B,0,none⟩)] #[],.nilFunc,.func (.func 68) #[.pointer (some ⟨B,0,none⟩)] #[],.nilFunc,.func (.func 69) #[.pointer (some ⟨B,0,none⟩)] #[],.nilFunc,.func (.func 69) #[.pointer (some ⟨B,0,none⟩)] #[],.nilFunc,.func (.func 70) #[.pointer (some ⟨B,0,none⟩)] #[],.func (.func 71) #[.pointer (some ⟨B,0,none⟩)] #[]]
theorem al5 (w:World) (a b c d e:Obj):(((((w.alloc a).alloc b).alloc c).alloc d).alloc e).heap[w.heap.size]?=some a/\(((((w.alloc a).alloc b).alloc c).alloc d).alloc e).heap[w.heap.size+1]?=some b/\(((((w.alloc a).alloc b).alloc c).alloc d).alloc e).heap[w.heap.size+2]?=some c/\(((((w.alloc a).alloc b).alloc c).alloc d).alloc e).heap[w.heap.size+3]?=some d/\(((((w.alloc a).alloc b).alloc c).alloc d).alloc e).heap[w.heap.size+4]?=some e/\(((((w.alloc a).alloc b).alloc c).alloc d).alloc e).heap.size=w.heap.size+5/\Below w.heap.size w (((((w.alloc a).alloc b).alloc c).alloc d).alloc e):=by
 have s1:=World.size_alloc w a
 have s2:=World.size_alloc (w.alloc a) b
 have s3:=World.size_alloc ((w.alloc a).alloc b) c
 have s4:=World.size_alloc (((w.alloc a).alloc b).alloc c) d
 have s5:=World.size_alloc ((((w.alloc a).alloc b).alloc c).alloc d) e
 have b1:=bel1 w a
 have b2:=bel1 (w.alloc a) b
 have b3:=bel1 ((w.alloc a).alloc b) c
 have b4:=bel1 (((w.alloc a).alloc b).alloc c) d
 have b5:=bel1 ((((w.alloc a).alloc b).alloc c).alloc d) e
 have h1:=heap_al w a
 have h2:=heap_al (w.alloc a) b
 have h3:=heap_al ((w.alloc a).alloc b) c
 have h4:=heap_al (((w.alloc a).alloc b).alloc c) d
 have h5:=heap_al ((((w.alloc a).alloc b).alloc c).alloc d) e
 generalize ((((w.alloc a).alloc b).alloc c).alloc d).alloc e=w5 at *
 generalize (((w.alloc a).alloc b).alloc c).alloc d=w4 at *
 generalize ((w.alloc a).alloc b).alloc c=w3 at *
 generalize (w.alloc a).alloc b=w2 at *
 generalize w.alloc a=w1 at *
 rw[s1] at s2 h2
 rw[s2] at s3 h3
 rw[s3] at s4 h4
 rw[s4] at s5 h5
 refine⟨?_,?_,?_,?_,h5,s5,?_⟩
 ·rw[b5.block _ (by omega),b4.block _ (by omega),b3.block _ (by omega),b2.block _ (by omega)];exact h1
 ·rw[b5.block _ (by omega),b4.block _ (by omega),b3.block _ (by omega)];exact h2
 ·rw[b5.block _ (by omega),b4.block _ (by omega)];exact h3
 ·rw[b5.block _ (by omega)];exact h4
 ·exact(((b1.trans (b2.mono (by omega))).trans (b3.mono (by omega))).trans (b4.mono (by omega))).trans (b5.mono (by omega))
theorem newChecker_any (gf:Nat) (w:World) :
  Calls Tryz.prog 43 #[.pointer (some ⟨gf,0,none⟩)] w fun r w'=>r = .returned (.pointer (some ⟨w.heap.size+3,0,none⟩))/\CkH w' (w.heap.size+3) gf (.slice none 0 0) 0 (.slice (some ⟨w.heap.size+4,0,none⟩) 16 16) w.heap.size (w.heap.size+1) (w.heap.size+2) (fun _=>0) false/\(∀ q:Nat,w'.cell? ⟨w.heap.size+4,q,none⟩=(rulA (w.heap.size+3))[q]?)/\MHas w' 3 w.heap.size 0 (fun _=>False)/\MHas w' 159 (w.heap.size+1) 0 (fun _=>False)/\MHas w' 138 (w.heap.size+2) 0 (fun _=>False)/\w'.heap.size=w.heap.size+5/\Below w.heap.size w w':=by
 have mk:=fun t W=>run_makeMap (P:=Tryz.prog) t W
 go_enter Tryz.func43,Tryz.ntmps43
 go_wp2_with fail
 obtain⟨a1,a2,a3,a4,a5,a6,a7⟩:=al5 w (Obj.map #[] 0) (Obj.map #[] 0) (Obj.map #[] 0) (Obj.cells (ckA gf (.slice none 0 0) 0 (.slice (some ⟨w.heap.size+4,0,none⟩) 16 16) w.heap.size (w.heap.size+1) (w.heap.size+2) (fun _=>0) false) 91) (Obj.cells (rulA (w.heap.size+3)) 93)
 go_ret
 refine⟨rfl,a4,fun q=>cell_at a5 q,?_,?_,?_,a6,a7⟩
 ·exact(MHas.made w _).same (a1.trans (heap_al _ _).symm)
 ·have:=MHas.made (w.alloc (.map #[] 0)) 159
  rw[World.size_alloc] at this
  refine this.same (a2.trans ?_)
  rw[<- World.size_alloc w (.map #[] 0)]
  exact(heap_al _ _).symm
 ·have:=MHas.made ((w.alloc (.map #[] 0)).alloc (.map #[] 0)) 138
  rw[World.size_alloc,World.size_alloc] at this
  refine this.same (a3.trans ?_)
  have hh:=heap_al ((w.alloc (.map #[] 0)).alloc (.map #[] 0)) (.map #[] 0)
  rw[World.size_alloc,World.size_alloc] at hh
  exact hh.symm
theorem takes_no (B g ot:Nat) (op:Int) (w:World) (t0v:w.cell? ⟨g,ot,none⟩=some (.int .i64 op)) (hlg:g<w.heap.size)
  (cMay:∀ W,Below w.heap.size w W->Calls Tryz.prog 72 #[.pointer (some ⟨B,0,none⟩),.int .i64 op] W fun r w'=>r = .returned (.bool false)/\Below W.heap.size W w') :
  Calls Tryz.prog 44 #[.pointer (some ⟨B,0,none⟩),.pointer (some ⟨g,ot,none⟩)] w fun r w'=>r = .returned (.bool false)/\Below w.heap.size w w':=by
 obtain⟨p,pB,pK,hN,t0⟩:∃ p:World->Prop,(∀ W,p W->Kb [] w W) /\
   (∀ W,Kb [] w W->p W) /\
   Nonempty (CW p) /\
   (∀ θ:CW p,θ.w.cell? ⟨g,ot,none⟩=some (.int .i64 op)) :=
  ⟨Kb [] w,
   fun _ h=>h,
   fun _ h=>h,
   ⟨⟨_,Kb.refl _ _⟩⟩,
   fun θ=>(θ.h.cell hlg List.not_mem_nil).trans t0v⟩
 clear t0v hlg
 go_enter Tryz.func44,Tryz.ntmps44
 go_wp2_with fail
 refine wp_region_lx p (by kernel_rfl) (by kernel_rfl) (fun _ _ d _ _ h=>by cases d<;>exact h) (pK _ (Kb.refl _ _).drew) ?_
 repeat (first|(refine lx_one rfl ?_;(first|go_big_quiet_skip|(go_big_quiet_want;go_big_quiet_op;go_big_quiet_on));refine wpQuiet_nil ?_)|(refine lx_call2 ent_mayStand (cMay w.drew (tdr1 (Below.refl _ _))) rfl rfl (by rfl) ?_;intro W1 hb1;have j1:Below w.heap.size w W1:=(tdr1 (Below.refl _ _)).trans hb1;refine⟨⟨⟨_,pK _ (Kb.of_below j1)⟩,rfl⟩,?_⟩;simp only[pts])|(refine lx_skip (by rfl) ?_;simp only[pts]))
 refine lx_done ?_
 go_wp2_with fail
 all_goals
  go_ret
  exact⟨rfl,j1⟩
theorem may_op {l:List Tk} {x:Sc} {op:Int} (h:mayB l x op=true) (hb:bgO x.tk.op=true):0<=op/\op<16:=by
 cases he:edO op with
 | true=>unfold edO at he;have:=decT he;omega
 | false =>
  rcases may_typ h he hb with ⟨_,h,_⟩|⟨_,_,h⟩|⟨_,h⟩|⟨_,⟨_,h⟩|⟨_,h⟩⟩
  ·unfold ptO at h;have:=decT h;omega
  ·unfold tyO at h;have:=decT h;omega
  ·unfold tyO at h;have:=decT h;omega
  ·omega
  ·omega
structure RlC (w:World) (c:Cf) (gr:Nat):Prop where
 lt:gr<w.heap.size
 m1:gr≠c.m1
 m2:gr≠c.m2
 m3:gr≠c.m3
 go:gr≠c.go
 c:∀ q:Nat,w.cell? ⟨gr,q,none⟩=(rulA c.B)[q]?
section
variable {c:Cf} {f:Fm} {x:Sc} {r:List Sc} {t:Tk} {gr:Nat} {dep:Nat->Int} {wh:Bool} {n:Nat} {ids:List Int} {h1 h2 h3:Value->Prop}
theorem nest_at {o:List Sc} (hN:Nest f.toks c.i (x::o)) (hA:∀ a∈x::o,ScOk f.toks c.i a):∀ a∈o,a.at_<x.at_:=out_lt hN.2.2 (fun a ha=>hA a (List.mem_cons_of_mem _ ha))
theorem takes_one (w:World) (h:Ct w c f (r.reverse.map (svOf f.toks)) (svOf f.toks x) x.tk t (.slice (some ⟨gr,0,none⟩) 16 16) dep wh) (hg:RlC w c gr) (hMT:MT w) (hx:ScOk f.toks c.i x) (q fr:Nat) (br bp:Bool) (P:World->Prop) (hq:t.op=q) (hq2:q<16) (hne:edO t.op=false) (hrc:(rulA c.B)[q]?=some (.func (.func fr) #[.pointer (some ⟨c.B,0,none⟩)] #[])) (hen:∀ ag w,(callFunc fr ag).run Tryz.prog w = .ok (.enter fr ag) w)
  (cPair:∀ W,Below w.heap.size w W->Calls Tryz.prog 75 #[.pointer (some ⟨c.B,0,none⟩),.pointer (some ⟨c.g,c.o+c.i*21,none⟩)] W fun r w'=>r = .returned (.bool bp)/\Below W.heap.size W w')
  (cRule:mayB f.toks x t.op=true->plainB t=true->symbolB t.name=true->bp=true->∀ W,Below w.heap.size w W->Calls Tryz.prog fr #[.pointer (some ⟨c.B,0,none⟩),.pointer (some ⟨c.g,c.o+c.i*21,none⟩)] W fun r w'=>r = .returned (.bool br)/\Kb [c.m1,c.m2,c.m3,c.go] W w'/\(br=true->P w')) :
  Calls Tryz.prog 44 #[.pointer (some ⟨c.B,0,none⟩),.pointer (some ⟨c.g,c.o+c.i*21,none⟩)] w fun e w'=>e = .returned (.bool (mayB f.toks x t.op&&plainB t&&symbolB t.name&&(bp&&br)))/\Kb [c.m1,c.m2,c.m3,c.go] w w'/\((mayB f.toks x t.op&&plainB t&&symbolB t.name&&(bp&&br))=true->P w'):=by
 obtain⟨g0,o0,pc,cc,e0,hgH,hT,hU,hUc,kT⟩:=h.tl.at h.ht
 cases e0
 obtain⟨_,_,px,cx,e1,_,hXk,_⟩:=h.tl.at h.hx
 cases e1
 have hap:=h.ap
 have c1:=takes_rule [c.m1,c.m2,c.m3,c.go] c.B c.g (c.o+c.i*21) t pc cc w hT h.lg kT.name h.ck.lt (by simp;have:=hap.g;have:=hap.m1;have:=hap.m2;have:=hap.m3;have:=hap.go;omega) (by simp;exact⟨hap.B1,hap.B2,hap.B3,hap.Bo⟩) q gr fr (mayB f.toks x t.op) br bp (fun W w'=>Kb [c.m1,c.m2,c.m3,c.go] W w'/\(br=true->P w')) hq hq2 hne h.ck.c3 hg.lt (by simp;exact⟨hg.m1,hg.m2,hg.m3,hg.go⟩) (by rw[hg.c];exact hrc) hen hMT
  (fun W hW=>by
   have hC:=(h.below hW)
   have c2:=mayStand_any c.B c.gf c.go (r.reverse.map (svOf f.toks)).length c.cap c.g c.o c.m1 c.m2 c.m3 (c.i:Int) (q:Int) x.tk.op _ dep wh (svOf f.toks x) W hC.ck hC.op.last hC.op.lt hC.lg (by obtain⟨_,_,px,cx,e1,_,hXk,_⟩:=hC.tl.at hC.hx;cases e1;exact hXk.c0) h.ln hx.beg
   rw[show mayP x.tk.op (svOf f.toks x).last (svOf f.toks x).cnt (q:Int)=mayB f.toks x (q:Int) from may_eq f.toks x q,<- hq] at c2
   rw[<- hq]
   exact c2)
  cPair cRule (fun _ _ h=>h.1)
 refine c1.mono ?_
 rintro _ w' ⟨rfl,hL⟩
 have e:(mayB f.toks x t.op&&plainB t&&symbolB t.name&&bp&&br)=(mayB f.toks x t.op&&plainB t&&symbolB t.name&&(bp&&br)):=by rw[Bool.and_assoc]
 rw[e] at hL ⊢
 exact⟨rfl,hL.kb,fun hb=>by
  obtain⟨W,_,_,hP⟩:=hL.ct hb
  simp only[Bool.and_eq_true] at hb
  exact hP hb.2.2⟩
theorem takes_mid (w:World) (h:Ct w c f (r.reverse.map (svOf f.toks)) (svOf f.toks x) x.tk t (.slice (some ⟨gr,0,none⟩) 16 16) dep wh) (hg:RlC w c gr) (hMT:MT w) (hm:Cm w c n h1 h2 h3) (hn:n<17592186043000) (hK:KeysV f.toks (x::r) c.i ids h1 h2 h3) (hA:∀ a∈x::r,ScOk f.toks c.i a) (hN:Nest f.toks c.i (x::r)) (hd:depOk (x::r) dep) (hne:edO t.op=false) :
  Calls Tryz.prog 44 #[.pointer (some ⟨c.B,0,none⟩),.pointer (some ⟨c.g,c.o+c.i*21,none⟩)] w fun e w'=>e = .returned (.bool (inOk f (x::r) ids c.i x t))/\Kb [c.m1,c.m2,c.m3,c.go] w w'/\(inOk f (x::r) ids c.i x t=true->Rst w' c f (r.reverse.map (svOf f.toks)) x r t (.slice (some ⟨gr,0,none⟩) 16 16) dep wh n (if ptO t.op then ids++[t.id] else ids)):=by
 have hx:=hA x (List.mem_cons_self ..)
 have hr:=nest_at hN hA
 have hbl:∀ W,Below w.heap.size w W->Ct W c f (r.reverse.map (svOf f.toks)) (svOf f.toks x) x.tk t (.slice (some ⟨gr,0,none⟩) 16 16) dep wh:=fun W hW=>h.below hW
 have hml:∀ W,Below w.heap.size w W->Cm W c n h1 h2 h3:=fun W hW=>hm.below hW
 unfold inOk
 rw[hne]
 simp only[Bool.false_eq_true,if_false]
 by_cases hmay:mayB f.toks x t.op=true
 rotate_left
 ·have hmay:mayB f.toks x t.op=false:=by simpa using hmay
  rw[hmay]
  simp only[Bool.false_and]
  obtain⟨_,_,pc,cc,e0,hgH,hT,hU,hUc,kT⟩:=h.tl.at h.ht
  cases e0
  refine(takes_no c.B c.g (c.o+c.i*21) t.op w hT.c0 h.lg (fun W hW=>?_)).mono (fun e w' hh=>⟨hh.1,Kb.of_below hh.2,fun e=>by cases e⟩)
  have hC:=hbl W hW
  have c2:=mayStand_any c.B c.gf c.go (r.reverse.map (svOf f.toks)).length c.cap c.g c.o c.m1 c.m2 c.m3 (c.i:Int) t.op x.tk.op _ dep wh (svOf f.toks x) W hC.ck hC.op.last hC.op.lt hC.lg (by obtain⟨_,_,px,cx,e1,_,hXk,_⟩:=hC.tl.at hC.hx;cases e1;exact hXk.c0) h.ln hx.beg
  rw[show mayP x.tk.op (svOf f.toks x).last (svOf f.toks x).cnt t.op=mayB f.toks x t.op from may_eq f.toks x t.op,hmay] at c2
  exact c2
 ·have hty:=may_typ hmay hne hx.beg
  have hop:=may_op hmay hx.beg
  have hN2:=hN.2.1
  have pBeg:bgO t.op=true->∀ W,Below w.heap.size w W->Calls Tryz.prog 75 #[.pointer (some ⟨c.B,0,none⟩),.pointer (some ⟨c.g,c.o+c.i*21,none⟩)] W fun r w'=>r = .returned (.bool (pairB f.toks c.i t))/\Below W.heap.size W w':=fun hb W hW =>
   isPaired_beg c.B c.gf c.g c.o c.i c.H c.m1 c.m2 c.m3 c.cp _ _ dep wh f t W (hbl W hW).ck (hbl W hW).fm (hbl W hW).fl (hbl W hW).tl (hbl W hW).sz h.ht hb
  have pOwn:(t.op=14\/t.op=15)->∀ W,Below w.heap.size w W->Calls Tryz.prog 75 #[.pointer (some ⟨c.B,0,none⟩),.pointer (some ⟨c.g,c.o+c.i*21,none⟩)] W fun r w'=>r = .returned (.bool (decide (t.pair=(c.i:Int))))/\Below W.heap.size W w':=fun hb W hW=>by
   have:=isPaired_own c f (r.reverse.map (svOf f.toks)) (svOf f.toks x) x.tk t _ dep wh W (hbl W hW) hb
   rwa [beqd] at this
  have hTO:tyO t.op=true->x.tk.op=2\/x.tk.op=8\/((x.tk.op=10\/x.tk.op=12)/\x.kids=[]/\c.i=x.at_+1):=fun e=>by
   have e:=decT e
   rcases hty with ⟨_,hp,_⟩|⟨h0,_⟩|⟨h0,_⟩|⟨h0,⟨h3,_⟩|⟨_,h4⟩⟩
   ·unfold ptO at hp;have:=decT hp;omega
   ·exact .inl h0
   ·exact .inr (.inl h0)
   ·refine .inr (.inr ⟨h0,h3,?_⟩)
    have h5:=(hN2 h0).1
    rw[h3] at h5
    have h6:=congrArg List.length h5
    rw[List.length_range'] at h6
    have:=hx.lt
    simp at h6
    omega
   ·omega
  have hPT:ptO t.op=true->x.tk.op=0\/x.tk.op=4:=fun e=>by
   have e:=decT e
   rcases hty with ⟨h0,_⟩|⟨_,_,h3⟩|⟨_,h3⟩|⟨_,⟨_,h4⟩|⟨_,h4⟩⟩
   ·exact h0
   ·unfold tyO at h3;have:=decT h3;omega
   ·unfold tyO at h3;have:=decT h3;omega
   ·omega
   ·omega
  have hcases:t.op=2\/t.op=4\/t.op=6\/t.op=8\/t.op=10\/t.op=12\/t.op=14\/t.op=15:=by
   rcases hty with ⟨_,h3,_⟩|⟨_,_,h3⟩|⟨_,h3⟩|⟨_,⟨_,h4⟩|⟨_,h4⟩⟩
   ·unfold ptO at h3;have:=decT h3;omega
   ·unfold tyO at h3;have:=decT h3;omega
   ·unfold tyO at h3;have:=decT h3;omega
   ·omega
   ·omega
  unfold rulB
  rcases hcases with e|e|e|e|e|e|e|e
  ·rw[if_pos (show bgO t.op=true by rw[e];decide),if_pos (show ptO t.op=true by rw[e];decide),if_pos e]
   exact takes_one w h hg hMT hx 2 _ _ _ _ e (by decide) hne rfl ent_isField (pBeg (by rw[e];decide)) (fun _ _ _ hp W hW=>rule_fld W (hbl W hW) (hml W hW) hn hK hx hr (hPT (by rw[e];decide)) e hp)
  ·rw[if_pos (show bgO t.op=true by rw[e];decide),if_pos (show ptO t.op=true by rw[e];decide),if_neg (by omega),if_pos e]
   exact takes_one w h hg hMT hx 4 _ _ _ _ e (by decide) hne rfl ent_isGroup (pBeg (by rw[e];decide)) (fun _ _ _ hp W hW=>rule_grp W (hbl W hW) (hml W hW) hn hK hx hr (hPT (by rw[e];decide)) e hd)
  ·rw[if_pos (show bgO t.op=true by rw[e];decide),if_pos (show ptO t.op=true by rw[e];decide),if_neg (by omega),if_neg (by omega),if_pos e]
   exact takes_one w h hg hMT hx 6 _ _ _ _ e (by decide) hne rfl ent_isData (pBeg (by rw[e];decide)) (fun _ _ _ hp W hW=>rule_dat W (hbl W hW) (hml W hW) hn hK hx hr (hPT (by rw[e];decide)) e)
  ·rw[if_pos (show bgO t.op=true by rw[e];decide),if_neg (show ¬ ptO t.op=true by rw[e];decide),if_neg (by omega),if_neg (by omega),if_neg (by omega),if_pos e]
   exact takes_one w h hg hMT hx 8 _ _ _ _ e (by decide) hne rfl ent_isComposite (pBeg (by rw[e];decide)) (fun _ _ _ hp W hW=>rule_cmp W (hbl W hW) (hml W hW) hn hK hx (hTO (by rw[e];decide)) e hd)
  ·rw[if_pos (show bgO t.op=true by rw[e];decide),if_neg (show ¬ ptO t.op=true by rw[e];decide),if_neg (by omega),if_neg (by omega),if_neg (by omega),if_neg (by omega),if_pos (.inl e)]
   exact takes_one w h hg hMT hx 10 _ _ _ _ e (by decide) hne rfl ent_isPlaced (pBeg (by rw[e];decide)) (fun _ _ _ hp W hW=>rule_plc W (hbl W hW) (hml W hW) hn hK hx (hTO (by rw[e];decide)) (.inl e))
  ·rw[if_pos (show bgO t.op=true by rw[e];decide),if_neg (show ¬ ptO t.op=true by rw[e];decide),if_neg (by omega),if_neg (by omega),if_neg (by omega),if_neg (by omega),if_pos (.inr e)]
   exact takes_one w h hg hMT hx 12 _ _ _ _ e (by decide) hne rfl ent_isPlaced (pBeg (by rw[e];decide)) (fun _ _ _ hp W hW=>rule_plc W (hbl W hW) (hml W hW) hn hK hx (hTO (by rw[e];decide)) (.inr e))
  ·rw[if_neg (show ¬ bgO t.op=true by rw[e];decide),if_neg (show ¬ ptO t.op=true by rw[e];decide),if_neg (by omega),if_neg (by omega),if_neg (by omega),if_neg (by omega),if_neg (by omega),if_pos e]
   exact takes_one w h hg hMT hx 14 _ _ _ _ e (by decide) hne rfl ent_isEncoding (pOwn (.inl e)) (fun _ _ _ hp W hW=>rule_enc W (hbl W hW) (hml W hW) hn hK hx (hTO (by rw[e];decide)) e)
  ·rw[if_neg (show ¬ bgO t.op=true by rw[e];decide),if_neg (show ¬ ptO t.op=true by rw[e];decide),if_neg (by omega),if_neg (by omega),if_neg (by omega),if_neg (by omega),if_neg (by omega),if_neg (by omega)]
   exact takes_one w h hg hMT hx 15 _ _ _ _ e (by decide) hne rfl ent_isChoice (pOwn (.inr e)) (fun _ _ _ hp W hW=>rule_cho W (hbl W hW) (hml W hW) hn hK hx hr (by rcases hty with ⟨_,h3,_⟩|⟨_,_,h3⟩|⟨_,h3⟩|⟨h0,_⟩;(unfold ptO at h3;have:=decT h3;omega);(unfold tyO at h3;have:=decT h3;omega);(unfold tyO at h3;have:=decT h3;omega);exact h0) (by rcases hty with ⟨_,h3,_⟩|⟨_,_,h3⟩|⟨_,h3⟩|⟨_,⟨_,h4⟩|⟨h3,_⟩⟩;(unfold ptO at h3;have:=decT h3;omega);(unfold tyO at h3;have:=decT h3;omega);(unfold tyO at h3;have:=decT h3;omega);omega;exact h3) e)
end
section
variable {c:Cf} {f:Fm} {x:Sc} {r:List Sc} {t:Tk} {gr:Nat} {dep:Nat->Int} {wh:Bool} {n:Nat} {ids:List Int} {h1 h2 h3:Value->Prop}
theorem takes_fin (w:World) (rl:Value) (h:Ct w c f (r.reverse.map (svOf f.toks)) (svOf f.toks x) x.tk t rl dep wh) (hMT:MT w) (hx:ScOk f.toks c.i x) (hne:edO t.op=true) :
  Calls Tryz.prog 44 #[.pointer (some ⟨c.B,0,none⟩),.pointer (some ⟨c.g,c.o+c.i*21,none⟩)] w fun e w'=>e = .returned (.bool (inOk f (x::r) ids c.i x t))/\Below w.heap.size w w':=by
 obtain⟨_,_,pc,cc,e0,hgH,hT,hU,hUc,kT⟩:=h.tl.at h.ht
 cases e0
 obtain⟨q,hq,hq2⟩:∃ q:Nat,t.op=q/\q<16:=by
  unfold edO at hne
  have:=decT hne
  exact⟨t.op.toNat,by omega,by omega⟩
 have c1:=takes_end c.B c.g (c.o+c.i*21) t pc cc w hT h.lg kT.name q (mayB f.toks x t.op) ((t.pair==(x.at_:Int))&&(x.tk.pair==(c.i:Int))) hq hq2 hne hMT
  (fun W hW=>by
   have hC:=(h.below hW)
   have c2:=mayStand_any c.B c.gf c.go (r.reverse.map (svOf f.toks)).length c.cap c.g c.o c.m1 c.m2 c.m3 (c.i:Int) (q:Int) x.tk.op _ dep wh (svOf f.toks x) W hC.ck hC.op.last hC.op.lt hC.lg (by obtain⟨_,_,px,cx,e1,_,hXk,_⟩:=hC.tl.at hC.hx;cases e1;exact hXk.c0) h.ln hx.beg
   rw[show mayP x.tk.op (svOf f.toks x).last (svOf f.toks x).cnt (q:Int)=mayB f.toks x (q:Int) from may_eq f.toks x q,<- hq] at c2
   rw[<- hq]
   exact c2)
  (fun W hW=>isPaired_end c f (r.reverse.map (svOf f.toks)) (svOf f.toks x) x.tk t rl dep wh W (h.below hW) hne)
 refine c1.mono ?_
 rintro _ w' ⟨rfl,hb⟩
 refine⟨?_,hb⟩
 unfold inOk
 rw[hne,beqd,beqd]
 simp only[if_true]
theorem takes_top (w:World) (p:Option Addr) (cap:Nat) (hC:CkC w c.B c.gf (.slice p 0 cap) (c.i:Int) (.slice (some ⟨gr,0,none⟩) 16 16) c.m1 c.m2 c.m3 dep wh) (hF:FmC w c.gf 0 f (some ⟨c.g,c.o,none⟩) c.cp) (hfl:c.gf<w.heap.size) (tl:TkL w (some ⟨c.g,c.o,none⟩) c.H f.toks) (hs:c.H<=w.heap.size) (ht:f.toks[c.i]?=some t) (kt:KT w) (hg:RlC w c gr) (hMT:MT w) (hwh:wh=decide (c.i≠0)) (s:St) (h0:s.open_=[]) :
  Calls Tryz.prog 44 #[.pointer (some ⟨c.B,0,none⟩),.pointer (some ⟨c.g,c.o+c.i*21,none⟩)] w fun e w'=>e = .returned (.bool (okZ f s c.i t))/\Below w.heap.size w w':=by
 obtain⟨_,_,pc,cc,e0,hgH,hT,hU,hUc,kT⟩:=tl.at ht
 cases e0
 have hlg:c.g<w.heap.size:=Nat.lt_of_lt_of_le hgH hs
 have hCb:∀ W,Below w.heap.size w W->CkC W c.B c.gf (.slice p 0 cap) (c.i:Int) (.slice (some ⟨gr,0,none⟩) 16 16) c.m1 c.m2 c.m3 dep wh:=fun W hW=>hC.same hW.size (hW.block _ hC.lt)
 have hok:okZ f s c.i t=(decide (c.i=0)&&decide (t.op=0)&&plainB t&&symbolB t.name&&pairB f.toks c.i t&&msgB f t):=by
  unfold okZ
  rw[h0]
 rw[hok]
 by_cases hm:c.i=0/\t.op=0
 ·have hq:t.op=((0:Nat):Int):=hm.2
  have hne:edO t.op=false:=by rw[hm.2];decide
  have hbg:bgO t.op=true:=by rw[hm.2];decide
  have c1:=takes_rule [] c.B c.g (c.o+c.i*21) t pc cc w hT hlg kT.name hC.lt List.not_mem_nil List.not_mem_nil 0 gr 64 true (msgB f t) (pairB f.toks c.i t) (fun W w'=>Below W.heap.size W w') hq (by decide) hne hC.c3 hg.lt List.not_mem_nil (by rw[hg.c];rfl) ent_isMessage hMT
   (fun W hW=>by
    have c2:=mayStand_none c.B c.gf cap c.m1 c.m2 c.m3 p (c.i:Int) ((0:Nat):Int) _ dep wh W (hCb W hW)
    rw[hwh,show (decide (((0:Nat):Int)=0) && !decide (c.i≠0))=true by simp[hm.1]] at c2
    exact c2)
   (fun W hW=>isPaired_beg c.B c.gf c.g c.o c.i c.H c.m1 c.m2 c.m3 c.cp _ _ dep wh f t W (hCb W hW) (hF.below hfl hW) (Nat.lt_of_lt_of_le hfl hW.size) (tl.below (hW.mono hs)) (Nat.le_trans hs hW.size) ht hbg)
   (fun _ _ _ _ W hW=>isMessage_any c.B c.gf c.g (c.o+c.i*21) c.m1 c.m2 c.m3 _ _ (c.i:Int) dep wh f _ _ t pc cc W (hCb W hW) (hF.below hfl hW) (Nat.lt_of_lt_of_le hfl hW.size) (hT.below hlg hW) (Nat.lt_of_lt_of_le hlg hW.size) (kt.up hW))
   (fun _ _ h=>Kb.of_below h)
  refine c1.mono ?_
  rintro _ w' ⟨rfl,hL⟩
  refine⟨by simp[hm],?_⟩
  exact⟨hL.kb.os,hL.kb.tape,hL.kb.output,hL.kb.size,fun k hk=>hL.kb.block k hk List.not_mem_nil⟩
 ·refine(takes_no c.B c.g (c.o+c.i*21) t.op w hT.c0 hlg (fun W hW=>?_)).mono (fun e w' hh=>⟨?_,hh.2⟩)
  ·have c2:=mayStand_none c.B c.gf cap c.m1 c.m2 c.m3 p (c.i:Int) t.op _ dep wh W (hCb W hW)
   rw[hwh,show (decide (t.op=0) && !decide (c.i≠0))=false by
    by_cases e:t.op=0
    ·by_cases e2:c.i=0
     ·exact absurd ⟨e2,e⟩ hm
     ·simp[e2]
    ·simp[e]] at c2
   exact c2
  ·rw[hh.1]
   congr 2
   by_cases e:t.op=0
   ·by_cases e2:c.i=0
    ·exact absurd ⟨e2,e⟩ hm
    ·simp[e2]
   ·simp[e]
end
theorem xstep_ex {P:Program} {w:World} {ops:Array Oper} {o:Oper} {a:Act} {K:Act->World->Prop} {Q:Exit->Act->World->Prop} {E:Prop} (hgd:o.guard=none) (f:FuncId) (x:Array Operand) (tx:Array TypeId)
  (ho:o.op = .call { callee:=.value (.func f),args:=x,argTypes:=tx }) (hen:∀ ag w,(callFunc f ag).run P w = .ok (.enter f ag) w) (xv:Array Value) (hx:x.map a.eval=xv) (Post:Value->World->Prop)
  (hc:Calls P f xv w fun e w'=>∃ v,e = .returned v/\Post v w') (h:∀ v w',Post v w'->K (a.put o.dst v) w'):if Region.wanted o (yielded ops a.tmps)=true then Oper.wp P o a w K Q else E:=by
 have hw:Region.wanted o (yielded ops a.tmps)=true:=by simp[Region.wanted,hgd]
 rw[if_pos hw]
 unfold Oper.wp execOp
 have hf:a.eval (.func f) = .func (.func f) #[] #[]:=rfl
 simp only[ho,resolve,invoke,Sem.run_bind,hx,hf]
 simp[Deferred.ofValue,hen,Oper.upon_enter]
 refine hc.mono ?_
 rintro e w' ⟨v,rfl,hp⟩
 exact h v w' hp
theorem xstep1 {P:Program} {w:World} {ops:Array Oper} {o:Oper} {a:Act} {K:Act->World->Prop} {Q:Exit->Act->World->Prop} {E:Prop} (hgd:o.guard=none) (f:FuncId) (x:Operand) (tx:Array TypeId)
  (ho:o.op = .call { callee:=.value (.func f),args:=#[x],argTypes:=tx }) (hen:∀ ag w,(callFunc f ag).run P w = .ok (.enter f ag) w) (xv:Value) (hx:a.eval x=xv) (Post:Value->World->Prop)
  (hc:Calls P f #[xv] w fun e w'=>∃ v,e = .returned v/\Post v w') (h:∀ v w',Post v w'->K (a.put o.dst v) w'):if Region.wanted o (yielded ops a.tmps)=true then Oper.wp P o a w K Q else E :=
 xstep_ex hgd f #[x] tx ho hen #[xv] (by simp[hx]) Post hc h
theorem xstep2 {P:Program} {w:World} {ops:Array Oper} {o:Oper} {a:Act} {K:Act->World->Prop} {Q:Exit->Act->World->Prop} {E:Prop} (hgd:o.guard=none) (f:FuncId) (x y:Operand) (tx:Array TypeId)
  (ho:o.op = .call { callee:=.value (.func f),args:=#[x,y],argTypes:=tx }) (hen:∀ ag w,(callFunc f ag).run P w = .ok (.enter f ag) w) (xv yv:Value) (hx:a.eval x=xv) (hy:a.eval y=yv) (Post:Value->World->Prop)
  (hc:Calls P f #[xv,yv] w fun e w'=>∃ v,e = .returned v/\Post v w') (h:∀ v w',Post v w'->K (a.put o.dst v) w'):if Region.wanted o (yielded ops a.tmps)=true then Oper.wp P o a w K Q else E :=
 xstep_ex hgd f #[x,y] tx ho hen #[xv,yv] (by simp[hx,hy]) Post hc h
theorem step_append_ex {P:Program} {w:World} {ops:Array Oper} {o:Oper} {a:Act} {K:Act->World->Prop} {Q:Exit->Act->World->Prop} {E:Prop} (hgd:o.guard=none) (s x:Operand) (t tx:TypeId)
  (ho:o.op = .call { callee:=.builtin .append,args:=#[s,x],argTypes:=#[t,tx] }) (sv xv:Value) (hs:a.eval s=sv) (hx:a.eval x=xv) (Post:Value->World->Prop)
  (hrun:∃ v w',(∀ ty,(Builtin.append_ #[t,tx] ty #[sv,xv]).run P w = .ok v w')/\Post v w')
  (h:∀ v w',Post v w'->K (a.put o.dst v) w'):if Region.wanted o (yielded ops a.tmps)=true then Oper.wp P o a w K Q else E:=by
 have hw:Region.wanted o (yielded ops a.tmps)=true:=by simp[Region.wanted,hgd]
 rw[if_pos hw]
 obtain⟨v,w',hr,hp⟩:=hrun
 unfold Oper.wp execOp
 simp only[ho,resolve,invoke,builtin,Sem.run_bind,Sem.run_pure,Result.andThen_ok,List.map_toArray,List.map_cons,List.map_nil,hs,hx,hr]
 exact h v w' hp
end Go.Proofs.YtjnafpefolgcoaaGreatDoor
