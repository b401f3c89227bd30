import Derived.Test.YtjnafpefolgcoaaGreatDoorRows
import Derived.Test.YtjnafpefolgcoaaGreatDoorK19
import Derived.Deep.DeepHandedRow
import Derived.LaidMore
import Derived.Test.YtjnafpefolgcoaaGreatDoorK06
import Derived.Deep.Slices
namespace Go.Proofs.YtjnafpefolgcoaaGreatDoor
set_option maxRecDepth 1000000
set_option maxHeartbeats 16000000
open Go.ChangeShapes Go.WideShapes Go.ChangeAt Go.RowKit Go.Lib
abbrev laid2:List (String×DataW Unit):=[("stencil/prim.kinds",Rows.laid_stencil_prim_kinds),("stencil/ir.mayHave",Rows.laid_stencil_ir_mayHave)]
theorem gTab:Tryz.prog.globalNamed "stencil/prim.kinds" = some 3:=by kernel_rfl
theorem gTabType:(Tryz.prog.globals[3]?).map (·.type)=some 172:=by kernel_rfl
theorem gMay:Tryz.prog.globalNamed "stencil/ir.mayHave" = some 1:=by kernel_rfl
theorem gMayType:(Tryz.prog.globals[1]?).map (·.type)=some 142:=by kernel_rfl
theorem cellsKs:Tryz.prog.cellsOf 172=55:=by kernel_rfl
theorem cellsK:Tryz.prog.cellsOf 154=5:=by kernel_rfl
theorem cellsKr:Tryz.prog.cellsOf 152=1:=by kernel_rfl
theorem cellsKu:Tryz.prog.cellsOf 50=1:=by kernel_rfl
theorem cellsKi:Tryz.prog.cellsOf 3=1:=by kernel_rfl
theorem cellsMs:Tryz.prog.cellsOf 142=16:=by kernel_rfl
theorem cellsM:Tryz.prog.cellsOf 140=1:=by kernel_rfl
def kindD {H:Type} (p:Int):DataW H:=.agg [.lit (.int .i64 (sz p)),.lit (.int .i64 (rd p)),.lit (.int .u64 (nl p)),.lit (.int .u64 (mn p)),.lit (.int .u64 (mx p))]
theorem kindsD_eq {H:Type}:(Rows.laid_stencil_prim_kinds:DataW H) = .agg ((List.range 11).map fun i:Nat=>kindD i):=by kernel_rfl
def mayTab:List Int:=(List.range 16).map fun p:Nat=>(mayN p:Int)
theorem mayD_eq:(Rows.laid_stencil_ir_mayHave:DataW Unit)=Lib.tabData .i64 mayTab:=by kernel_rfl
theorem klist5 {α:Type} {l:List α} (h:l.length=5):∃ a b c d e,l=[a,b,c,d,e]:=by
 rcases l with _|⟨a,_|⟨b,_|⟨c,_|⟨d,_|⟨e,l⟩⟩⟩⟩⟩<;>simp at h
 subst h;exact⟨a,b,c,d,e,rfl⟩
theorem klit_of {H:Type} {enc:TypeId×Value->H} {w:World} {base:Nat} {sp:Nat->Bool} {held:Bool} {fuel:Nat} {t:TypeId} {k:IntKind} {c:Value} {z:Int} {q:List MemPlace}
  (ht:Tryz.prog.underlying t=some (.int k)) (h:DataW.trod enc Tryz.prog w base sp held fuel t [c]=some (.lit (.int k z),q)):c = .int k z:=by
 obtain⟨n,hc,hx,_⟩:=DataW.trod_int ht h
 simp at hc hx
 rw[hc,hx.1]
theorem kind_cells {H:Type} {enc:TypeId×Value->H} {w:World} {base:Nat} {sp:Nat->Bool} {held:Bool} {fuel:Nat} {cs:List Value} {p:Int} {q:List MemPlace}
  (h:DataW.trod enc Tryz.prog w base sp held fuel 154 cs=some (kindD p,q)):cs=[.int .i64 (sz p),.int .i64 (rd p),.int .u64 (nl p),.int .u64 (mn p),.int .u64 (mx p)]:=by
 obtain⟨ys,n,_,hx,hl,hyl,hf⟩:=DataW.trod_struct Tryz.underlying154 h
 rw[cellsK] at hl
 obtain⟨c0,c1,c2,c3,c4,rfl⟩:=klist5 hl
 obtain⟨⟨d0,q0⟩,⟨d1,q1⟩,⟨d2,q2⟩,⟨d3,q3⟩,⟨d4,q4⟩,rfl⟩:=klist5 hyl
 have f0:=hf 0 _ rfl
 have f1:=hf 1 _ rfl
 have f2:=hf 2 _ rfl
 have f3:=hf 3 _ rfl
 have f4:=hf 4 _ rfl
 simp[cellsKi,cellsKr,cellsKu] at f0 f1 f2 f3 f4
 simp[kindD] at hx
 obtain⟨⟨rfl,rfl,rfl,rfl,rfl⟩,_⟩:=hx
 rw[klit_of Tryz.underlying3 f0,klit_of Tryz.underlying152 f1,klit_of Tryz.underlying50 f2,klit_of Tryz.underlying50 f3,klit_of Tryz.underlying50 f4]
theorem tabs_of_laid {W:World} (h:laidMetH Tryz.prog laid2 W):KT W/\MT W:=by
 have h':laidMet Tryz.prog laid2 W:=h
 obtain⟨ps,⟨g',t',cs,fuel,p,q,hg',ht',hvar,hd,⟨g2,t2,cs2,f2,p2,q2,hg2,ht2,hv2,hd2,_,_⟩,_⟩,_⟩:=h'
 obtain rfl:=Option.some.inj (gTab.symm.trans hg')
 obtain rfl:=Option.some.inj (gTabType.symm.trans ht')
 obtain rfl:=Option.some.inj (gMay.symm.trans hg2)
 obtain rfl:=Option.some.inj (gMayType.symm.trans ht2)
 rw[kindsD_eq] at hd
 rw[mayD_eq] at hd2
 have hpos:∀ (g:Nat) (o:Nat) (v:Value),W.cell? ⟨g,o,none⟩=some v->g<W.heap.size:=fun g o v hc=>by
  rcases Nat.lt_or_ge g W.heap.size with h1|h1
  ·exact h1
  ·simp[World.cell?,Array.getElem?_eq_none h1] at hc
 constructor
 ·obtain⟨xs,m,_,hx,hl,hxl,hf⟩:=DataW.trod_array Tryz.underlying172 hd
  rw[cellsKs] at hl
  have hxs:xs.map (·.1)=(List.range 11).map fun i:Nat=>(kindD i:DataW Unit):=by
   have:=congrArg Prod.fst hx
   simpa using this.symm
  have row:∀ i:Nat,i<11->(cs.toList.drop (i*5)).take 5=[.int .i64 (sz i),.int .i64 (rd i),.int .u64 (nl i),.int .u64 (mn i),.int .u64 (mx i)]:=by
   intro i hi
   have h1:=hf i hi
   rw[cellsK] at h1
   have h2:(xs.map (·.1))[i]?=some (kindD i):=by rw[hxs];simp[hi]
   simp only[List.getElem?_map,Option.map_eq_some_iff] at h2
   obtain⟨⟨d,q'⟩,h3,rfl⟩:=h2
   rw[h3] at h1
   exact kind_cells h1
  have cell:∀ (i j:Nat) (v:Value),i<11->j<5->([.int .i64 (sz i),.int .i64 (rd i),.int .u64 (nl i),.int .u64 (mn i),.int .u64 (mx i)]:List Value)[j]?=some v->W.cell? ⟨3,5*i+j,none⟩=some v:=by
   intro i j v hi hj hv
   have:=World.var?_cell gTab hvar (5*i+j)
   rw[this]
   rw[<- row i hi] at hv
   simp[hj] at hv
   simpa[Nat.mul_comm] using hv
  exact⟨hpos _ _ _ (cell 0 0 _ (by omega) (by omega) rfl),fun i hi=>cell i 0 _ hi (by omega) rfl,fun i hi=>cell i 1 _ hi (by omega) rfl,fun i hi=>cell i 2 _ hi (by omega) rfl,fun i hi=>cell i 3 _ hi (by omega) rfl,fun i hi=>cell i 4 _ hi (by omega) rfl⟩
 ·have hcs2:=Lib.cells_of_tab Tryz.underlying142 Tryz.underlying140 cellsM cellsMs hd2
  have cell:∀ p:Nat,p<16->W.cell? ⟨1,p,none⟩=some (.int .i64 (mayN p:Int)):=fun p hp=>by
   rw[World.var?_cell gMay hv2 p]
   have hc:cs2.toList[p]?=some (.int .i64 (mayN p:Int)):=by
    rw[hcs2,List.getElem?_map]
    unfold mayTab
    rw[List.getElem?_map,List.getElem?_range hp]
    rfl
   simpa using hc
  exact⟨hpos _ _ _ (cell 0 (by omega)),cell⟩
namespace J
theorem lt_of_cell {w:World} {a:Addr} {v:Value} (h:w.cell? a=some v):a.block<w.heap.size:=by
 rcases Nat.lt_or_ge a.block w.heap.size with h1|h1
 ·exact h1
 ·simp[World.cell?,Array.getElem?_eq_none h1] at h
theorem tlist1 {α:Type} {l:List α} (h:l.length=1):∃ a0,l=[a0]:=by
 rcases l with _|⟨a0,l⟩<;>simp at h
 subst h;exact⟨a0,rfl⟩
theorem tlist2 {α:Type} {l:List α} (h:l.length=2):∃ a0 a1,l=[a0,a1]:=by
 rcases l with _|⟨a0,_|⟨a1,l⟩⟩<;>simp at h
 subst h;exact⟨a0,a1,rfl⟩
theorem tlist5 {α:Type} {l:List α} (h:l.length=5):∃ a0 a1 a2 a3 a4,l=[a0,a1,a2,a3,a4]:=by
 rcases l with _|⟨a0,_|⟨a1,_|⟨a2,_|⟨a3,_|⟨a4,l⟩⟩⟩⟩⟩<;>simp at h
 subst h;exact⟨a0,a1,a2,a3,a4,rfl⟩
theorem tlist13 {α:Type} {l:List α} (h:l.length=13):∃ a0 a1 a2 a3 a4 a5 a6 a7 a8 a9 a10 a11 a12,l=[a0,a1,a2,a3,a4,a5,a6,a7,a8,a9,a10,a11,a12]:=by
 rcases l with _|⟨a0,_|⟨a1,_|⟨a2,_|⟨a3,_|⟨a4,_|⟨a5,_|⟨a6,_|⟨a7,_|⟨a8,_|⟨a9,_|⟨a10,_|⟨a11,_|⟨a12,l⟩⟩⟩⟩⟩⟩⟩⟩⟩⟩⟩⟩⟩<;>simp at h
 subst h;exact⟨a0,a1,a2,a3,a4,a5,a6,a7,a8,a9,a10,a11,a12,rfl⟩
theorem tlist19 {α:Type} {l:List α} (h:l.length=19):∃ a0 a1 a2 a3 a4 a5 a6 a7 a8 a9 a10 a11 a12 a13 a14 a15 a16 a17 a18,l=[a0,a1,a2,a3,a4,a5,a6,a7,a8,a9,a10,a11,a12,a13,a14,a15,a16,a17,a18]:=by
 rcases l with _|⟨a0,_|⟨a1,_|⟨a2,_|⟨a3,_|⟨a4,_|⟨a5,_|⟨a6,_|⟨a7,_|⟨a8,_|⟨a9,_|⟨a10,_|⟨a11,_|⟨a12,_|⟨a13,_|⟨a14,_|⟨a15,_|⟨a16,_|⟨a17,_|⟨a18,l⟩⟩⟩⟩⟩⟩⟩⟩⟩⟩⟩⟩⟩⟩⟩⟩⟩⟩⟩<;>simp at h
 subst h;exact⟨a0,a1,a2,a3,a4,a5,a6,a7,a8,a9,a10,a11,a12,a13,a14,a15,a16,a17,a18,rfl⟩
theorem tlist21 {α:Type} {l:List α} (h:l.length=21):∃ a0 a1 a2 a3 a4 a5 a6 a7 a8 a9 a10 a11 a12 a13 a14 a15 a16 a17 a18 a19 a20,l=[a0,a1,a2,a3,a4,a5,a6,a7,a8,a9,a10,a11,a12,a13,a14,a15,a16,a17,a18,a19,a20]:=by
 rcases l with _|⟨a0,_|⟨a1,_|⟨a2,_|⟨a3,_|⟨a4,_|⟨a5,_|⟨a6,_|⟨a7,_|⟨a8,_|⟨a9,_|⟨a10,_|⟨a11,_|⟨a12,_|⟨a13,_|⟨a14,_|⟨a15,_|⟨a16,_|⟨a17,_|⟨a18,_|⟨a19,_|⟨a20,l⟩⟩⟩⟩⟩⟩⟩⟩⟩⟩⟩⟩⟩⟩⟩⟩⟩⟩⟩⟩⟩<;>simp at h
 subst h;exact⟨a0,a1,a2,a3,a4,a5,a6,a7,a8,a9,a10,a11,a12,a13,a14,a15,a16,a17,a18,a19,a20,rfl⟩
theorem cellsTk:Tryz.prog.cellsOf 53=21:=by kernel_rfl
theorem cellsFm:Tryz.prog.cellsOf 30=13:=by kernel_rfl
theorem cellsHd:Tryz.prog.cellsOf 27=9:=by kernel_rfl
theorem cellsSp:Tryz.prog.cellsOf 25=2:=by kernel_rfl
theorem cellsWs:Tryz.prog.cellsOf 51=1:=by kernel_rfl
theorem cellsTs:Tryz.prog.cellsOf 28=1:=by kernel_rfl
theorem cellsU:Tryz.prog.cellsOf 50=1:=by kernel_rfl
theorem cellsStr:Tryz.prog.cellsOf 9=1:=by kernel_rfl
theorem cellsInt:Tryz.prog.cellsOf 3=1:=by kernel_rfl
theorem cellsOp:Tryz.prog.cellsOf 48=1:=by kernel_rfl
theorem cellsPr:Tryz.prog.cellsOf 23=1:=by kernel_rfl
theorem cellsPs:Tryz.prog.cellsOf 49=1:=by kernel_rfl
theorem cellsEn:Tryz.prog.cellsOf 22=1:=by kernel_rfl
theorem bytesTk:Tryz.prog.bytesOf 53=192:=by kernel_rfl
theorem bytesU:Tryz.prog.bytesOf 50=8:=by kernel_rfl
theorem addr_at (g o k:Nat):(⟨g,o,none⟩:Addr).add k=⟨g,o+k,none⟩:=by unfold Addr.add;split<;>simp_all
theorem weightsAll_mem {H:Type} {P:Program} {e:TypeId} {d:DataW H} {n:Nat} (hn:n∈d.weights P e):∀ {l:List (DataW H)},d∈l->n∈DataW.weightsAll P e l
 | [],h=>by cases h
 | x::r,h=>by
  simp only[DataW.weightsAll,List.mem_append]
  rcases List.mem_cons.1 h with rfl|h
  ·exact .inl hn
  ·exact .inr (weightsAll_mem hn h)
theorem words_open {H:Type} {enc:TypeId×Value->H} {W:World} {fuel:Nat} {v:Value} {x:DataW H×List MemPlace} (h:DataW.trod enc Tryz.prog W 0 (fun _=>true) true fuel 51 [v]=some x) :
  ∃ pa al ca,v = .slice pa al.length ca/\URow W pa W.heap.size al/\(∀ y∈al,u64ok y)/\al.length<=ca/\((x.1.weights Tryz.prog 51).all (·<=reachBytes)=true->al.length*8<=140737488351232):=by
 rcases Go.Deep.open_slice Tryz.underlying51 h with ⟨hcs,hx⟩|⟨a,len,cap,m,n,D,Pl,hcs,_,hl,hm,hmm,hx,hel⟩
 ·obtain rfl:v = .slice none 0 0:=by simpa using hcs
  exact⟨none,[],0,rfl,⟨fun i t ht=>(by cases ht)⟩,fun y hy=>(by cases hy),Nat.le_refl _,fun _=>(by decide)⟩
 ·obtain rfl:v = .slice (some a) len cap:=by simpa using hcs
  simp only[if_true] at hmm
  subst m
  rw[cellsU] at hel
  have one:∀ i,i<len->∃ t:Int,W.cell? (a.add i)=some (.int .u64 t)/\u64ok t:=by
   intro i hi
   obtain⟨cs',hc,ht⟩:=hel i (by omega)
   obtain⟨_,hlen,hcell⟩:=World.cells?_some hc
   obtain⟨c0,rfl⟩:=tlist1 hlen
   obtain⟨z0,h0,_,b0⟩:=DataW.trod_int Tryz.underlying50 ht
   simp only[List.cons.injEq,and_true] at h0
   subst h0
   have g0:=hcell 0 (by decide)
   rw[Go.Deep.add_add,Nat.mul_one,Nat.add_zero] at g0
   have bb:=bounds_u64 b0
   exact⟨z0,g0,by unfold u64ok;omega⟩
  haveI:Inhabited Int:=⟨0⟩
  obtain⟨f,hf⟩:=Go.Deep.choose_lt one
  refine⟨some a,(List.range len).map f,cap,by simp,⟨fun i t ht=>?_⟩,fun y hy=>?_,by rw[List.length_map,List.length_range];omega,fun hw=>?_⟩
  ·rw[List.getElem?_map] at ht
   by_cases hi:i<len
   ·rw[List.getElem?_range hi] at ht
    cases ht
    obtain⟨h0,_⟩:=hf i hi
    obtain⟨g,o,spot⟩:=a
    have hspot:spot=none:=by simpa[Addr.add] using World.cell?_spot (hf 0 (by omega)).1
    subst hspot
    rw[addr_at] at h0
    exact⟨g,o,rfl,lt_of_cell (a:=⟨g,o+i,none⟩) h0,h0⟩
   ·rw[List.getElem?_eq_none (by simp;omega)] at ht
    cases ht
  ·obtain⟨i,hi,rfl⟩:=List.mem_map.1 hy
   exact(hf i (List.mem_range.1 hi)).2
  ·have he:x.1 = .slice ((List.range len).map D) ((List.range (cap-len)).map fun j=>D (len+j)):=by rw[hx]
   rw[he] at hw
   have h2:=List.all_eq_true.1 hw (((List.range len).map D).length+((List.range (cap-len)).map fun j=>D (len+j)).length |> (· * Tryz.prog.bytesOf 50)) (by simp[DataW.weights,Tryz.underlying51])
   rw[bytesU] at h2
   simp[reachBytes] at h2
   rw[List.length_map,List.length_range]
   omega
theorem spot_open {H:Type} {enc:TypeId×Value->H} {W:World} {fuel:Nat} {c d:Value} {x:DataW H×List MemPlace} (h:DataW.trod enc Tryz.prog W 0 (fun _=>true) true fuel 25 [c,d]=some x) :
  ∃ s:Sp,c = .int .i64 s.p/\d = .int .i64 s.o/\SpOk s:=by
 obtain⟨ys,k,_,hx',_,hyl,hfl⟩:=DataW.trod_struct Tryz.underlying25 h
 obtain⟨⟨e0,q0⟩,⟨e1,q1⟩,rfl⟩:=tlist2 hyl
 have f0:=hfl 0 _ rfl
 have f1:=hfl 1 _ rfl
 simp[cellsPr,cellsInt] at f0 f1
 obtain⟨z0,h0,_,b0⟩:=DataW.trod_int Tryz.underlying23 f0
 obtain⟨z1,h1,_,b1⟩:=DataW.trod_int Tryz.underlying3 f1
 simp only[List.cons.injEq,and_true] at h0 h1
 subst h0 h1
 have bb:=bounds_i64 b0
 have bc:=bounds_i64 b1
 exact⟨⟨z0,z1⟩,rfl,rfl,⟨by unfold i64ok;dsimp only;omega,by unfold i64ok;dsimp only;omega⟩⟩
theorem toks_open {H:Type} {enc:TypeId×Value->H} {W:World} {fuel:Nat} {v:Value} {x:DataW H×List MemPlace} (h:DataW.trod enc Tryz.prog W 0 (fun _=>true) true fuel 28 [v]=some x)
  (hw:(x.1.weights Tryz.prog 28).all (·<=reachBytes)=true) :
  ∃ pp es cp,v = .slice pp es.length cp/\TkL W pp W.heap.size es/\es.length*192<=140737488351232/\(∀ e∈es,e.cst.length*8<=140737488351232)/\∀ e∈es,e.name.size<=140737488351232:=by
 rcases Go.Deep.open_slice Tryz.underlying28 h with ⟨hcs,hx⟩|⟨a,len,cap,m,n,D,Pl,hcs,_,hl,hm,hmm,hx,hel⟩
 ·obtain rfl:v = .slice none 0 0:=by simpa using hcs
  exact⟨none,[],0,rfl,⟨⟨fun i t ht=>by cases ht⟩,by decide,fun e he=>(by cases he)⟩,by decide,fun e he=>(by cases he),fun e he=>(by cases he)⟩
 ·obtain rfl:v = .slice (some a) len cap:=by simpa using hcs
  simp only[if_true] at hmm
  subst m
  rw[cellsTk] at hel
  have he:x.1 = .slice ((List.range len).map D) ((List.range (cap-len)).map fun j=>D (len+j)):=by rw[hx]
  rw[he] at hw
  have hwl:=List.all_eq_true.1 hw (((List.range len).map D).length+((List.range (cap-len)).map fun j=>D (len+j)).length |> (· * Tryz.prog.bytesOf 53)) (by simp[DataW.weights,Tryz.underlying28])
  rw[bytesTk] at hwl
  simp[reachBytes] at hwl
  have one:∀ i,i<len->∃ t:Tk,∃ pc cc,(∀ (j:Nat) (u:Value),(tkC t pc cc)[j]?=some u->W.cell? (a.add (i*21+j))=some u)/\URow W pc W.heap.size t.cst/\t.cst.length<=cc/\TkOk t/\t.cst.length*8<=140737488351232/\t.name.size<=140737488351232:=by
   intro i hi
   obtain⟨cs',hc,ht⟩:=hel i (by omega)
   obtain⟨_,hlen,hcell⟩:=World.cells?_some hc
   obtain⟨c0,c1,c2,c3,c4,c5,c6,c7,c8,c9,c10,c11,c12,c13,c14,c15,c16,c17,c18,c19,c20,rfl⟩:=tlist21 hlen
   obtain⟨ys,k,_,hx',_,hyl,hfl⟩:=DataW.trod_struct Tryz.underlying53 ht
   obtain⟨⟨e0,q0⟩,⟨e1,q1⟩,⟨e2,q2⟩,⟨e3,q3⟩,⟨e4,q4⟩,⟨e5,q5⟩,⟨e6,q6⟩,⟨e7,q7⟩,⟨e8,q8⟩,⟨e9,q9⟩,⟨e10,q10⟩,⟨e11,q11⟩,⟨e12,q12⟩,⟨e13,q13⟩,⟨e14,q14⟩,⟨e15,q15⟩,⟨e16,q16⟩,⟨e17,q17⟩,⟨e18,q18⟩,rfl⟩:=tlist19 hyl
   have f0:=hfl 0 _ rfl
   have f1:=hfl 1 _ rfl
   have f2:=hfl 2 _ rfl
   have f3:=hfl 3 _ rfl
   have f4:=hfl 4 _ rfl
   have f5:=hfl 5 _ rfl
   have f6:=hfl 6 _ rfl
   have f7:=hfl 7 _ rfl
   have f8:=hfl 8 _ rfl
   have f9:=hfl 9 _ rfl
   have f10:=hfl 10 _ rfl
   have f11:=hfl 11 _ rfl
   have f12:=hfl 12 _ rfl
   have f13:=hfl 13 _ rfl
   have f14:=hfl 14 _ rfl
   have f15:=hfl 15 _ rfl
   have f16:=hfl 16 _ rfl
   have f17:=hfl 17 _ rfl
   have f18:=hfl 18 _ rfl
   simp[cellsSp,cellsWs,cellsU,cellsStr,cellsInt,cellsOp,cellsPr,cellsPs] at f0 f1 f2 f3 f4 f5 f6 f7 f8 f9 f10 f11 f12 f13 f14 f15 f16 f17 f18
   obtain⟨z0,h0,_,b0⟩:=DataW.trod_int Tryz.underlying48 f0
   have d0:=bounds_i64 b0
   obtain⟨s1,h1,j1,-⟩:=DataW.trod_string Tryz.underlying9 f1
   have hS1:e1 = .lit (.string s1.data.toList):=congrArg Prod.fst j1
   obtain⟨z2,h2,_,b2⟩:=DataW.trod_int Tryz.underlying3 f2
   have d2:=bounds_i64 b2
   obtain⟨z3,h3,_,b3⟩:=DataW.trod_int Tryz.underlying3 f3
   have d3:=bounds_i64 b3
   obtain⟨z4,h4,_,b4⟩:=DataW.trod_int Tryz.underlying3 f4
   have d4:=bounds_i64 b4
   obtain⟨z5,h5,_,b5⟩:=DataW.trod_int Tryz.underlying3 f5
   have d5:=bounds_i64 b5
   obtain⟨z6,h6,_,b6⟩:=DataW.trod_int Tryz.underlying23 f6
   have d6:=bounds_i64 b6
   obtain⟨z7,h7,_,b7⟩:=DataW.trod_int Tryz.underlying3 f7
   have d7:=bounds_i64 b7
   obtain⟨z8,h8,_,b8⟩:=DataW.trod_int Tryz.underlying49 f8
   have d8:=bounds_i64 b8
   obtain⟨z9,h9,_,b9⟩:=DataW.trod_int Tryz.underlying50 f9
   have d9:=bounds_u64 b9
   obtain⟨z10,h10,_,b10⟩:=DataW.trod_int Tryz.underlying50 f10
   have d10:=bounds_u64 b10
   obtain⟨z11,h11,_,b11⟩:=DataW.trod_int Tryz.underlying50 f11
   have d11:=bounds_u64 b11
   obtain⟨pa,al,ca,h12,hU,hUo,hUc,hUw⟩:=words_open f12
   obtain⟨z13,h13,_,b13⟩:=DataW.trod_int Tryz.underlying50 f13
   have d13:=bounds_u64 b13
   obtain⟨z14,h14,_,b14⟩:=DataW.trod_int Tryz.underlying3 f14
   have d14:=bounds_i64 b14
   obtain⟨z15,h15,_,b15⟩:=DataW.trod_int Tryz.underlying3 f15
   have d15:=bounds_i64 b15
   obtain⟨s16,r16,t16,o16⟩:=spot_open f16
   obtain⟨s17,r17,t17,o17⟩:=spot_open f17
   obtain⟨z18,h18,_,b18⟩:=DataW.trod_int Tryz.underlying3 f18
   have d18:=bounds_i64 b18
   simp only[List.cons.injEq,and_true] at h0 h1 h2 h3 h4 h5 h6 h7 h8 h9 h10 h11 h13 h14 h15 h18
   subst h0 h1 h2 h3 h4 h5 h6 h7 h8 h9 h10 h11 h13 h14 h15 h18 h12 r16 t16 r17 t17
   have hD:D i = .agg [e0,e1,e2,e3,e4,e5,e6,e7,e8,e9,e10,e11,e12,e13,e14,e15,e16,e17,e18]:=by
    have:=congrArg Prod.fst hx'
    simpa using this
   have hcw:=hUw (List.all_eq_true.2 fun nn hnn=>List.all_eq_true.1 hw nn (by
    have hm1:nn∈(D i).weights Tryz.prog 53:=by
     rw[hD]
     simp only[DataW.weights,Tryz.underlying53]
     exact DataW.weights_mem_each (j:=12) rfl rfl nn hnn
    simp only[DataW.weights,Tryz.underlying28,List.mem_cons,List.mem_append]
    exact .inr (.inl (weightsAll_mem hm1 (List.mem_map.2 ⟨i,List.mem_range.2 hi,rfl⟩)))))
   have hNM:s1.size<=140737488351232:=by
    have h1:=List.all_eq_true.1 hw s1.size (by
     have hm1:s1.size∈(D i).weights Tryz.prog 53:=by
      rw[hD]
      simp only[DataW.weights,Tryz.underlying53]
      exact DataW.weights_mem_each (j:=1) rfl rfl s1.size (by rw[hS1];show s1.size∈[s1.data.toList.length];rw[Array.length_toList];exact List.mem_singleton.2 rfl)
     simp only[DataW.weights,Tryz.underlying28,List.mem_cons,List.mem_append]
     exact .inr (.inl (weightsAll_mem hm1 (List.mem_map.2 ⟨i,List.mem_range.2 hi,rfl⟩))))
    exact of_decide_eq_true h1
   refine⟨⟨z0,s1,z2,z3,z4,z5,z6,z7,z8,z9,z10,z11,al,z13,z14,z15,s16,s17,z18⟩,pa,ca,fun j u hu=>?_,hU,hUc,⟨⟨d0.1,d0.2⟩,Nat.le_trans hNM (by decide),⟨d2.1,d2.2⟩,⟨d3.1,d3.2⟩,⟨d4.1,d4.2⟩,⟨d5.1,d5.2⟩,⟨d6.1,d6.2⟩,⟨d7.1,d7.2⟩,⟨d8.1,d8.2⟩,⟨d9.1,d9.2⟩,⟨d10.1,d10.2⟩,⟨d11.1,d11.2⟩,Nat.le_trans hcw (by decide),hUo,⟨d13.1,d13.2⟩,⟨d14.1,d14.2⟩,⟨d15.1,d15.2⟩,o16.p,o16.o,o17.p,o17.o,⟨d18.1,d18.2⟩⟩,hcw,hNM⟩
   have hj:j<21:=(List.getElem?_eq_some_iff.1 hu).1
   have g:=hcell j (by simpa using hj)
   rw[Go.Deep.add_add] at g
   rw[g]
   exact hu
  haveI:Inhabited Tk:=⟨⟨0,ByteArray.empty,0,0,0,0,0,0,0,0,0,0,[],0,0,0,⟨0,0⟩,⟨0,0⟩,0⟩⟩
  obtain⟨f,hf⟩:=Go.Deep.choose_lt one
  refine⟨some a,(List.range len).map f,cap,by simp,⟨⟨fun i t ht=>?_⟩,?_,fun e he=>?_⟩,?_,fun e he=>?_,fun e he=>?_⟩
  ·rw[List.getElem?_map] at ht
   by_cases hi:i<len
   ·rw[List.getElem?_range hi] at ht
    cases ht
    obtain⟨pc,cc,h0,h1,h2,_⟩:=hf i hi
    obtain⟨g,o,spot⟩:=a
    have hspot:spot=none:=by
     obtain⟨_,_,h00,_⟩:=hf 0 (by omega)
     simpa[Addr.add] using World.cell?_spot (h00 0 _ rfl)
    subst hspot
    have hc:TkC W g (o+i*21) (f i) pc cc:=tkC_of fun j u hu=>by
     have:=h0 j u hu
     rw[addr_at] at this
     rw[Nat.add_assoc]
     exact this
    exact⟨g,o,pc,cc,rfl,lt_of_cell (a:=⟨g,o+i*21,none⟩) hc.c0,hc,h1,h2⟩
   ·rw[List.getElem?_eq_none (by simp;omega)] at ht
    cases ht
  ·rw[List.length_map,List.length_range];omega
  ·obtain⟨i,hi,rfl⟩:=List.mem_map.1 he
   obtain⟨_,_,_,_,_,h4,_,_⟩:=hf i (List.mem_range.1 hi)
   exact h4
  ·rw[List.length_map,List.length_range];omega
  ·obtain⟨i,hi,rfl⟩:=List.mem_map.1 he
   obtain⟨_,_,_,_,_,_,h5,_⟩:=hf i (List.mem_range.1 hi)
   exact h5
  ·obtain⟨i,hi,rfl⟩:=List.mem_map.1 he
   obtain⟨_,_,_,_,_,_,_,h6⟩:=hf i (List.mem_range.1 hi)
   exact h6
end J
open J
theorem form_opened {H:Type} {enc:TypeId×Value->H} {W:World} {fuel:Nat} {v:Value} {x:DataW H×List MemPlace} {r:Reach} {b0:Nat} (hv:Value.okWide Tryz.prog W r b0 30 v) (h:DataW.trod enc Tryz.prog W 0 (fun _=>true) true fuel 30 v.cells.toList=some x)
  (hw:(x.1.weights Tryz.prog 30).all (·<=reachBytes)=true) :
  ∃ f pp cp,v=fmV f pp cp/\TkL W pp W.heap.size f.toks/\f.toks.length*192<=140737488351232/\(∀ e∈f.toks,e.cst.length*8<=140737488351232)/\(∀ e∈f.toks,e.name.size<=140737488351232)/\FmOk f:=by
 obtain⟨cs,rfl⟩:∃ cs,v = .agg cs:=by
  unfold Value.okWide at hv
  rw[Tryz.underlying30] at hv
  obtain⟨cs,e,_⟩:=hv
  exact⟨cs,e⟩
 have hcs:(Value.agg cs).cells.toList=cs.toList:=rfl
 rw[hcs] at h
 obtain⟨ys,k,_,hx',hlen,hyl,hfl⟩:=DataW.trod_struct Tryz.underlying30 h
 rw[cellsFm] at hlen
 obtain⟨c0,c1,c2,c3,c4,c5,c6,c7,c8,c9,c10,c11,c12,hcl⟩:=tlist13 hlen
 rw[hcl] at hfl
 obtain⟨⟨e0,q0⟩,⟨e1,q1⟩,⟨e2,q2⟩,⟨e3,q3⟩,⟨e4,q4⟩,rfl⟩:=tlist5 hyl
 have f0:=hfl 0 _ rfl
 have f1:=hfl 1 _ rfl
 have f2:=hfl 2 _ rfl
 have f3:=hfl 3 _ rfl
 have f4:=hfl 4 _ rfl
 simp[cellsEn,cellsInt,cellsHd,cellsTs] at f0 f1 f2 f3 f4
 obtain⟨z0,h0,_,b0⟩:=DataW.trod_int Tryz.underlying22 f0
 obtain⟨z1,h1,_,b1⟩:=DataW.trod_int Tryz.underlying3 f1
 obtain⟨z2,h2,_,b2⟩:=DataW.trod_int Tryz.underlying3 f2
 obtain⟨ys3,k3,_,hx3,_,hyl3,hfl3⟩:=DataW.trod_struct Tryz.underlying27 f3
 obtain⟨⟨d0,p0⟩,⟨d1,p1⟩,⟨d2,p2⟩,⟨d3,p3⟩,⟨d4,p4⟩,rfl⟩:=tlist5 hyl3
 have g0:=hfl3 0 _ rfl
 have g1:=hfl3 1 _ rfl
 have g2:=hfl3 2 _ rfl
 have g3:=hfl3 3 _ rfl
 have g4:=hfl3 4 _ rfl
 simp[cellsSp,cellsInt] at g0 g1 g2 g3 g4
 obtain⟨z3,h3,_,b3⟩:=DataW.trod_int Tryz.underlying3 g0
 obtain⟨s1,r1,t1,o1⟩:=spot_open g1
 obtain⟨s2,r2,t2,o2⟩:=spot_open g2
 obtain⟨s3,r3,t3,o3⟩:=spot_open g3
 obtain⟨s4,r4,t4,o4⟩:=spot_open g4
 have hD:x.1 = .agg [e0,e1,e2,e3,e4]:=by
  have:=congrArg Prod.fst hx'
  simpa using this
 obtain⟨pp,es,cp,h12,hT,hl,hc,hn⟩:=toks_open f4 (List.all_eq_true.2 fun nn hnn=>List.all_eq_true.1 hw nn (by
  rw[hD]
  simp only[DataW.weights,Tryz.underlying30]
  exact DataW.weights_mem_each (j:=4) rfl rfl nn hnn))
 simp only[List.cons.injEq,and_true] at h0 h1 h2 h3
 subst h0 h1 h2 h3 r1 t1 r2 t2 r3 t3 r4 t4 h12
 have d0:=bounds_i64 b0
 have d1:=bounds_i64 b1
 have d2:=bounds_i64 b2
 have d3:=bounds_i64 b3
 refine⟨⟨z0,z1,z2,z3,s1,s2,s3,s4,es⟩,pp,cp,?_,hT,hl,hc,hn,⟨d0,d1,d2,d3,o1,o2,o3,o4⟩⟩
 rw[<- Array.toArray_toList (xs:=cs),hcl]
end Go.Proofs.YtjnafpefolgcoaaGreatDoor
