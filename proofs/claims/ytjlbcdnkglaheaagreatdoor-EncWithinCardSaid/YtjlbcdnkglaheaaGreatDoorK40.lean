import Derived.Test.YtjlbcdnkglaheaaGreatDoorK39
namespace Go.Proofs.YtjlbcdnkglaheaaGreatDoor
set_option maxRecDepth 1000000
set_option maxHeartbeats 16000000
open Go.ChangeShapes Go.WideShapes Go.ChangeAt Go.RowKit
open Go.Shelf Go.Maps
namespace J
theorem lt_of_cell {w:World} {a:Addr} {v:Value} (h:w.cell? a=some v):a.block<w.heap.size:=by
 rcases Nat.lt_or_ge a.block w.heap.size with h1|h1
 ·exact h1
 ·simp[World.cell?,Array.getElem?_eq_none h1] at h
theorem tlist1 {α:Type} {l:List α} (h:l.length=1):∃ a0,l=[a0]:=by
 rcases l with _|⟨a0,l⟩<;>simp at h
 subst h;exact⟨a0,rfl⟩
theorem tlist2 {α:Type} {l:List α} (h:l.length=2):∃ a0 a1,l=[a0,a1]:=by
 rcases l with _|⟨a0,_|⟨a1,l⟩⟩<;>simp at h
 subst h;exact⟨a0,a1,rfl⟩
theorem tlist5 {α:Type} {l:List α} (h:l.length=5):∃ a0 a1 a2 a3 a4,l=[a0,a1,a2,a3,a4]:=by
 rcases l with _|⟨a0,_|⟨a1,_|⟨a2,_|⟨a3,_|⟨a4,l⟩⟩⟩⟩⟩<;>simp at h
 subst h;exact⟨a0,a1,a2,a3,a4,rfl⟩
theorem tlist13 {α:Type} {l:List α} (h:l.length=13):∃ a0 a1 a2 a3 a4 a5 a6 a7 a8 a9 a10 a11 a12,l=[a0,a1,a2,a3,a4,a5,a6,a7,a8,a9,a10,a11,a12]:=by
 rcases l with _|⟨a0,_|⟨a1,_|⟨a2,_|⟨a3,_|⟨a4,_|⟨a5,_|⟨a6,_|⟨a7,_|⟨a8,_|⟨a9,_|⟨a10,_|⟨a11,_|⟨a12,l⟩⟩⟩⟩⟩⟩⟩⟩⟩⟩⟩⟩⟩<;>simp at h
 subst h;exact⟨a0,a1,a2,a3,a4,a5,a6,a7,a8,a9,a10,a11,a12,rfl⟩
theorem tlist19 {α:Type} {l:List α} (h:l.length=19):∃ a0 a1 a2 a3 a4 a5 a6 a7 a8 a9 a10 a11 a12 a13 a14 a15 a16 a17 a18,l=[a0,a1,a2,a3,a4,a5,a6,a7,a8,a9,a10,a11,a12,a13,a14,a15,a16,a17,a18]:=by
 rcases l with _|⟨a0,_|⟨a1,_|⟨a2,_|⟨a3,_|⟨a4,_|⟨a5,_|⟨a6,_|⟨a7,_|⟨a8,_|⟨a9,_|⟨a10,_|⟨a11,_|⟨a12,_|⟨a13,_|⟨a14,_|⟨a15,_|⟨a16,_|⟨a17,_|⟨a18,l⟩⟩⟩⟩⟩⟩⟩⟩⟩⟩⟩⟩⟩⟩⟩⟩⟩⟩⟩<;>simp at h
 subst h;exact⟨a0,a1,a2,a3,a4,a5,a6,a7,a8,a9,a10,a11,a12,a13,a14,a15,a16,a17,a18,rfl⟩
theorem tlist21 {α:Type} {l:List α} (h:l.length=21):∃ a0 a1 a2 a3 a4 a5 a6 a7 a8 a9 a10 a11 a12 a13 a14 a15 a16 a17 a18 a19 a20,l=[a0,a1,a2,a3,a4,a5,a6,a7,a8,a9,a10,a11,a12,a13,a14,a15,a16,a17,a18,a19,a20]:=by
 rcases l with _|⟨a0,_|⟨a1,_|⟨a2,_|⟨a3,_|⟨a4,_|⟨a5,_|⟨a6,_|⟨a7,_|⟨a8,_|⟨a9,_|⟨a10,_|⟨a11,_|⟨a12,_|⟨a13,_|⟨a14,_|⟨a15,_|⟨a16,_|⟨a17,_|⟨a18,_|⟨a19,_|⟨a20,l⟩⟩⟩⟩⟩⟩⟩⟩⟩⟩⟩⟩⟩⟩⟩⟩⟩⟩⟩⟩⟩<;>simp at h
 subst h;exact⟨a0,a1,a2,a3,a4,a5,a6,a7,a8,a9,a10,a11,a12,a13,a14,a15,a16,a17,a18,a19,a20,rfl⟩
theorem cellsTk:Tryz.prog.cellsOf 78=21:=by kernel_rfl
theorem cellsFm:Tryz.prog.cellsOf 30=13:=by kernel_rfl
theorem cellsHd:Tryz.prog.cellsOf 27=9:=by kernel_rfl
theorem cellsSp:Tryz.prog.cellsOf 25=2:=by kernel_rfl
theorem cellsWs:Tryz.prog.cellsOf 42=1:=by kernel_rfl
theorem cellsTs:Tryz.prog.cellsOf 28=1:=by kernel_rfl
theorem cellsU:Tryz.prog.cellsOf 49=1:=by kernel_rfl
theorem cellsStr:Tryz.prog.cellsOf 9=1:=by kernel_rfl
theorem cellsInt:Tryz.prog.cellsOf 3=1:=by kernel_rfl
theorem cellsOp:Tryz.prog.cellsOf 75=1:=by kernel_rfl
theorem cellsPr:Tryz.prog.cellsOf 23=1:=by kernel_rfl
theorem cellsPs:Tryz.prog.cellsOf 76=1:=by kernel_rfl
theorem cellsEn:Tryz.prog.cellsOf 22=1:=by kernel_rfl
theorem bytesTk:Tryz.prog.bytesOf 78=192:=by kernel_rfl
theorem bytesU:Tryz.prog.bytesOf 49=8:=by kernel_rfl
theorem addr_at (g o k:Nat):(⟨g,o,none⟩:Addr).add k=⟨g,o+k,none⟩:=by unfold Addr.add;split<;>simp_all
theorem weightsAll_mem {H:Type} {P:Program} {e:TypeId} {d:DataW H} {n:Nat} (hn:n∈d.weights P e):∀ {l:List (DataW H)},d∈l->n∈DataW.weightsAll P e l
 | [],h=>by cases h
 | x::r,h=>by
  simp only[DataW.weightsAll,List.mem_append]
  rcases List.mem_cons.1 h with rfl|h
  ·exact .inl hn
  ·exact .inr (weightsAll_mem hn h)
theorem words_open {H:Type} {enc:TypeId×Value->H} {W:World} {fuel:Nat} {v:Value} {x:DataW H×List MemPlace} (h:DataW.trod enc Tryz.prog W 0 (fun _=>true) true fuel 42 [v]=some x) :
  ∃ pa al ca,v = .slice pa al.length ca/\URow W pa W.heap.size al/\(∀ y∈al,u64ok y)/\al.length<=ca/\((x.1.weights Tryz.prog 42).all (·<=reachBytes)=true->al.length*8<=140737488351232):=by
 rcases Go.Deep.open_slice Tryz.underlying42 h with ⟨hcs,hx⟩|⟨a,len,cap,m,n,D,Pl,hcs,_,hl,hm,hmm,hx,hel⟩
 ·obtain rfl:v = .slice none 0 0:=by simpa using hcs
  exact⟨none,[],0,rfl,⟨fun i t ht=>(by cases ht)⟩,fun y hy=>(by cases hy),Nat.le_refl _,fun _=>(by decide)⟩
 ·obtain rfl:v = .slice (some a) len cap:=by simpa using hcs
  simp only[if_true] at hmm
  subst m
  rw[cellsU] at hel
  have one:∀ i,i<len->∃ t:Int,W.cell? (a.add i)=some (.int .u64 t)/\u64ok t:=by
   intro i hi
   obtain⟨cs',hc,ht⟩:=hel i (by omega)
   obtain⟨_,hlen,hcell⟩:=World.cells?_some hc
   obtain⟨c0,rfl⟩:=tlist1 hlen
   obtain⟨z0,h0,_,b0⟩:=DataW.trod_int Tryz.underlying49 ht
   simp only[List.cons.injEq,and_true] at h0
   subst h0
   have g0:=hcell 0 (by decide)
   rw[Go.Deep.add_add,Nat.mul_one,Nat.add_zero] at g0
   have bb:=bounds_u64 b0
   exact⟨z0,g0,by unfold u64ok;omega⟩
  haveI:Inhabited Int:=⟨0⟩
  obtain⟨f,hf⟩:=Go.Deep.choose_lt one
  refine⟨some a,(List.range len).map f,cap,by simp,⟨fun i t ht=>?_⟩,fun y hy=>?_,by rw[List.length_map,List.length_range];omega,fun hw=>?_⟩
  ·rw[List.getElem?_map] at ht
   by_cases hi:i<len
   ·rw[List.getElem?_range hi] at ht
    cases ht
    obtain⟨h0,_⟩:=hf i hi
    obtain⟨g,o,spot⟩:=a
    have hspot:spot=none:=by simpa[Addr.add] using World.cell?_spot (hf 0 (by omega)).1
    subst hspot
    rw[addr_at] at h0
    exact⟨g,o,rfl,lt_of_cell (a:=⟨g,o+i,none⟩) h0,h0⟩
   ·rw[List.getElem?_eq_none (by simp;omega)] at ht
    cases ht
  ·obtain⟨i,hi,rfl⟩:=List.mem_map.1 hy
   exact(hf i (List.mem_range.1 hi)).2
  ·have he:x.1 = .slice ((List.range len).map D) ((List.range (cap-len)).map fun j=>D (len+j)):=by rw[hx]
   rw[he] at hw
   have h2:=List.all_eq_true.1 hw (((List.range len).map D).length+((List.range (cap-len)).map fun j=>D (len+j)).length |> (· * Tryz.prog.bytesOf 49)) (by simp[DataW.weights,Tryz.underlying42])
   rw[bytesU] at h2
   simp[reachBytes] at h2
   rw[List.length_map,List.length_range]
   omega
theorem spot_open {H:Type} {enc:TypeId×Value->H} {W:World} {fuel:Nat} {c d:Value} {x:DataW H×List MemPlace} (h:DataW.trod enc Tryz.prog W 0 (fun _=>true) true fuel 25 [c,d]=some x) :
  ∃ s:Sp,c = .int .i64 s.p/\d = .int .i64 s.o/\SpOk s:=by
 obtain⟨ys,k,_,hx',_,hyl,hfl⟩:=DataW.trod_struct Tryz.underlying25 h
 obtain⟨⟨e0,q0⟩,⟨e1,q1⟩,rfl⟩:=tlist2 hyl
 have f0:=hfl 0 _ rfl
 have f1:=hfl 1 _ rfl
 simp[cellsPr,cellsInt] at f0 f1
 obtain⟨z0,h0,_,b0⟩:=DataW.trod_int Tryz.underlying23 f0
 obtain⟨z1,h1,_,b1⟩:=DataW.trod_int Tryz.underlying3 f1
 simp only[List.cons.injEq,and_true] at h0 h1
 subst h0 h1
 have bb:=bounds_i64 b0
 have bc:=bounds_i64 b1
 exact⟨⟨z0,z1⟩,rfl,rfl,⟨by unfold i64ok;dsimp only;omega,by unfold i64ok;dsimp only;omega⟩⟩
theorem toks_open {H:Type} {enc:TypeId×Value->H} {W:World} {fuel:Nat} {v:Value} {x:DataW H×List MemPlace} (h:DataW.trod enc Tryz.prog W 0 (fun _=>true) true fuel 28 [v]=some x)
  (hw:(x.1.weights Tryz.prog 28).all (·<=reachBytes)=true) :
  ∃ pp es cp,v = .slice pp es.length cp/\TkL W pp W.heap.size es/\es.length*192<=140737488351232/\(∀ e∈es,e.cst.length*8<=140737488351232)/\∀ e∈es,e.name.size<=140737488351232:=by
 rcases Go.Deep.open_slice Tryz.underlying28 h with ⟨hcs,hx⟩|⟨a,len,cap,m,n,D,Pl,hcs,_,hl,hm,hmm,hx,hel⟩
 ·obtain rfl:v = .slice none 0 0:=by simpa using hcs
  exact⟨none,[],0,rfl,⟨⟨fun i t ht=>by cases ht⟩,by decide,fun e he=>(by cases he)⟩,by decide,fun e he=>(by cases he),fun e he=>(by cases he)⟩
 ·obtain rfl:v = .slice (some a) len cap:=by simpa using hcs
  simp only[if_true] at hmm
  subst m
  rw[cellsTk] at hel
  have he:x.1 = .slice ((List.range len).map D) ((List.range (cap-len)).map fun j=>D (len+j)):=by rw[hx]
  rw[he] at hw
  have hwl:=List.all_eq_true.1 hw (((List.range len).map D).length+((List.range (cap-len)).map fun j=>D (len+j)).length |> (· * Tryz.prog.bytesOf 78)) (by simp[DataW.weights,Tryz.underlying28])
  rw[bytesTk] at hwl
  simp[reachBytes] at hwl
  have one:∀ i,i<len->∃ t:Tk,∃ pc cc,(∀ (j:Nat) (u:Value),(tkC t pc cc)[j]?=some u->W.cell? (a.add (i*21+j))=some u)/\URow W pc W.heap.size t.cst/\t.cst.length<=cc/\TkOk t/\t.cst.length*8<=140737488351232/\t.name.size<=140737488351232:=by
   intro i hi
   obtain⟨cs',hc,ht⟩:=hel i (by omega)
   obtain⟨_,hlen,hcell⟩:=World.cells?_some hc
   obtain⟨c0,c1,c2,c3,c4,c5,c6,c7,c8,c9,c10,c11,c12,c13,c14,c15,c16,c17,c18,c19,c20,rfl⟩:=tlist21 hlen
   obtain⟨ys,k,_,hx',_,hyl,hfl⟩:=DataW.trod_struct Tryz.underlying78 ht
   obtain⟨⟨e0,q0⟩,⟨e1,q1⟩,⟨e2,q2⟩,⟨e3,q3⟩,⟨e4,q4⟩,⟨e5,q5⟩,⟨e6,q6⟩,⟨e7,q7⟩,⟨e8,q8⟩,⟨e9,q9⟩,⟨e10,q10⟩,⟨e11,q11⟩,⟨e12,q12⟩,⟨e13,q13⟩,⟨e14,q14⟩,⟨e15,q15⟩,⟨e16,q16⟩,⟨e17,q17⟩,⟨e18,q18⟩,rfl⟩:=tlist19 hyl
   have f0:=hfl 0 _ rfl
   have f1:=hfl 1 _ rfl
   have f2:=hfl 2 _ rfl
   have f3:=hfl 3 _ rfl
   have f4:=hfl 4 _ rfl
   have f5:=hfl 5 _ rfl
   have f6:=hfl 6 _ rfl
   have f7:=hfl 7 _ rfl
   have f8:=hfl 8 _ rfl
   have f9:=hfl 9 _ rfl
   have f10:=hfl 10 _ rfl
   have f11:=hfl 11 _ rfl
   have f12:=hfl 12 _ rfl
   have f13:=hfl 13 _ rfl
   have f14:=hfl 14 _ rfl
   have f15:=hfl 15 _ rfl
   have f16:=hfl 16 _ rfl
   have f17:=hfl 17 _ rfl
   have f18:=hfl 18 _ rfl
   simp[cellsSp,cellsWs,cellsU,cellsStr,cellsInt,cellsOp,cellsPr,cellsPs] at f0 f1 f2 f3 f4 f5 f6 f7 f8 f9 f10 f11 f12 f13 f14 f15 f16 f17 f18
   obtain⟨z0,h0,_,b0⟩:=DataW.trod_int Tryz.underlying75 f0
   have d0:=bounds_i64 b0
   obtain⟨s1,h1,j1,-⟩:=DataW.trod_string Tryz.underlying9 f1
   have hS1:e1 = .lit (.string s1.data.toList):=congrArg Prod.fst j1
   obtain⟨z2,h2,_,b2⟩:=DataW.trod_int Tryz.underlying3 f2
   have d2:=bounds_i64 b2
   obtain⟨z3,h3,_,b3⟩:=DataW.trod_int Tryz.underlying3 f3
   have d3:=bounds_i64 b3
   obtain⟨z4,h4,_,b4⟩:=DataW.trod_int Tryz.underlying3 f4
   have d4:=bounds_i64 b4
   obtain⟨z5,h5,_,b5⟩:=DataW.trod_int Tryz.underlying3 f5
   have d5:=bounds_i64 b5
   obtain⟨z6,h6,_,b6⟩:=DataW.trod_int Tryz.underlying23 f6
   have d6:=bounds_i64 b6
   obtain⟨z7,h7,_,b7⟩:=DataW.trod_int Tryz.underlying3 f7
   have d7:=bounds_i64 b7
   obtain⟨z8,h8,_,b8⟩:=DataW.trod_int Tryz.underlying76 f8
   have d8:=bounds_i64 b8
   obtain⟨z9,h9,_,b9⟩:=DataW.trod_int Tryz.underlying49 f9
   have d9:=bounds_u64 b9
   obtain⟨z10,h10,_,b10⟩:=DataW.trod_int Tryz.underlying49 f10
   have d10:=bounds_u64 b10
   obtain⟨z11,h11,_,b11⟩:=DataW.trod_int Tryz.underlying49 f11
   have d11:=bounds_u64 b11
   obtain⟨pa,al,ca,h12,hU,hUo,hUc,hUw⟩:=words_open f12
   obtain⟨z13,h13,_,b13⟩:=DataW.trod_int Tryz.underlying49 f13
   have d13:=bounds_u64 b13
   obtain⟨z14,h14,_,b14⟩:=DataW.trod_int Tryz.underlying3 f14
   have d14:=bounds_i64 b14
   obtain⟨z15,h15,_,b15⟩:=DataW.trod_int Tryz.underlying3 f15
   have d15:=bounds_i64 b15
   obtain⟨s16,r16,t16,o16⟩:=spot_open f16
   obtain⟨s17,r17,t17,o17⟩:=spot_open f17
   obtain⟨z18,h18,_,b18⟩:=DataW.trod_int Tryz.underlying3 f18
   have d18:=bounds_i64 b18
   simp only[List.cons.injEq,and_true] at h0 h1 h2 h3 h4 h5 h6 h7 h8 h9 h10 h11 h13 h14 h15 h18
   subst h0 h1 h2 h3 h4 h5 h6 h7 h8 h9 h10 h11 h13 h14 h15 h18 h12 r16 t16 r17 t17
   have hD:D i = .agg [e0,e1,e2,e3,e4,e5,e6,e7,e8,e9,e10,e11,e12,e13,e14,e15,e16,e17,e18]:=by
    have:=congrArg Prod.fst hx'
    simpa using this
   have hcw:=hUw (List.all_eq_true.2 fun nn hnn=>List.all_eq_true.1 hw nn (by
    have hm1:nn∈(D i).weights Tryz.prog 78:=by
     rw[hD]
     simp only[DataW.weights,Tryz.underlying78]
     exact DataW.weights_mem_each (j:=12) rfl rfl nn hnn
    simp only[DataW.weights,Tryz.underlying28,List.mem_cons,List.mem_append]
    exact .inr (.inl (weightsAll_mem hm1 (List.mem_map.2 ⟨i,List.mem_range.2 hi,rfl⟩)))))
   have hNM:s1.size<=140737488351232:=by
    have h1:=List.all_eq_true.1 hw s1.size (by
     have hm1:s1.size∈(D i).weights Tryz.prog 78:=by
      rw[hD]
      simp only[DataW.weights,Tryz.underlying78]
      exact DataW.weights_mem_each (j:=1) rfl rfl s1.size (by rw[hS1];show s1.size∈[s1.data.toList.length];rw[Array.length_toList];exact List.mem_singleton.2 rfl)
     simp only[DataW.weights,Tryz.underlying28,List.mem_cons,List.mem_append]
     exact .inr (.inl (weightsAll_mem hm1 (List.mem_map.2 ⟨i,List.mem_range.2 hi,rfl⟩))))
    exact of_decide_eq_true h1
   refine⟨⟨z0,s1,z2,z3,z4,z5,z6,z7,z8,z9,z10,z11,al,z13,z14,z15,s16,s17,z18⟩,pa,ca,fun j u hu=>?_,hU,hUc,⟨⟨d0.1,d0.2⟩,Nat.le_trans hNM (by decide),⟨d2.1,d2.2⟩,⟨d3.1,d3.2⟩,⟨d4.1,d4.2⟩,⟨d5.1,d5.2⟩,⟨d6.1,d6.2⟩,⟨d7.1,d7.2⟩,⟨d8.1,d8.2⟩,⟨d9.1,d9.2⟩,⟨d10.1,d10.2⟩,⟨d11.1,d11.2⟩,Nat.le_trans hcw (by decide),hUo,⟨d13.1,d13.2⟩,⟨d14.1,d14.2⟩,⟨d15.1,d15.2⟩,o16.p,o16.o,o17.p,o17.o,⟨d18.1,d18.2⟩⟩,hcw,hNM⟩
   have hj:j<21:=(List.getElem?_eq_some_iff.1 hu).1
   have g:=hcell j (by simpa using hj)
   rw[Go.Deep.add_add] at g
   rw[g]
   exact hu
  haveI:Inhabited Tk:=⟨⟨0,ByteArray.empty,0,0,0,0,0,0,0,0,0,0,[],0,0,0,⟨0,0⟩,⟨0,0⟩,0⟩⟩
  obtain⟨f,hf⟩:=Go.Deep.choose_lt one
  refine⟨some a,(List.range len).map f,cap,by simp,⟨⟨fun i t ht=>?_⟩,?_,fun e he=>?_⟩,?_,fun e he=>?_,fun e he=>?_⟩
  ·rw[List.getElem?_map] at ht
   by_cases hi:i<len
   ·rw[List.getElem?_range hi] at ht
    cases ht
    obtain⟨pc,cc,h0,h1,h2,_⟩:=hf i hi
    obtain⟨g,o,spot⟩:=a
    have hspot:spot=none:=by
     obtain⟨_,_,h00,_⟩:=hf 0 (by omega)
     simpa[Addr.add] using World.cell?_spot (h00 0 _ rfl)
    subst hspot
    have hc:TkC W g (o+i*21) (f i) pc cc:=tkC_of fun j u hu=>by
     have:=h0 j u hu
     rw[addr_at] at this
     rw[Nat.add_assoc]
     exact this
    exact⟨g,o,pc,cc,rfl,lt_of_cell (a:=⟨g,o+i*21,none⟩) hc.c0,hc,h1,h2⟩
   ·rw[List.getElem?_eq_none (by simp;omega)] at ht
    cases ht
  ·rw[List.length_map,List.length_range];omega
  ·obtain⟨i,hi,rfl⟩:=List.mem_map.1 he
   obtain⟨_,_,_,_,_,h4,_,_⟩:=hf i (List.mem_range.1 hi)
   exact h4
  ·rw[List.length_map,List.length_range];omega
  ·obtain⟨i,hi,rfl⟩:=List.mem_map.1 he
   obtain⟨_,_,_,_,_,_,h5,_⟩:=hf i (List.mem_range.1 hi)
   exact h5
  ·obtain⟨i,hi,rfl⟩:=List.mem_map.1 he
   obtain⟨_,_,_,_,_,_,_,h6⟩:=hf i (List.mem_range.1 hi)
   exact h6
end J
theorem cellsCa:Tryz.prog.cellsOf 44=5:=by kernel_rfl
theorem cellsCk:Tryz.prog.cellsOf 41=1:=by kernel_rfl
theorem bytesCa:Tryz.prog.bytesOf 44=72:=by kernel_rfl
structure WdC (w:World) (H:Nat) (c:Cl):Prop where
 h:∃ q cp ws,c.ws = .slice q ws.length cp/\ws.length<=cp/\cp<=1000000000000000/\(∀ y∈ws,u64ok y)/\URow w q H ws/\c.tx.size<=281474976710656
theorem WdC.below {w w':World} {H:Nat} {c:Cl} (h:WdC w H c) (hb:Below H w w'):WdC w' H c:=by
 obtain⟨q,cp,ws,h1,h2,h3,h4,h5,h6⟩:=h.h
 exact⟨q,cp,ws,h1,h2,h3,h4,h5.same fun k hk=>hb.block k hk,h6⟩
theorem WdC.ws {w:World} {H:Nat} {c:Cl} (h:WdC w H c) {V:Nat->Prop} (hv:∀ k,V k->H<=k):c.tx.size<=281474976710656/\∃ q cp ws,c.ws = .slice q ws.length cp/\WsC V q cp ws w:=by
 obtain⟨q,cp,ws,h1,h2,h3,h4,h5,h6⟩:=h.h
 exact⟨h6,q,cp,ws,h1,h2,h3,fun y hy=>by have:=h4 y hy;unfold u64ok at this;omega,fun j y hy=>by
  obtain⟨g,o,e,hg,hc⟩:=h5.c j y hy
  exact⟨g,o,e,fun hk=>by have:=hv g hk;omega,hc⟩⟩
theorem words_cap {H:Type} {enc:TypeId×Value->H} {W:World} {fuel:Nat} {v:Value} {x:DataW H×List MemPlace} (h:DataW.trod enc Tryz.prog W 0 (fun _=>true) true fuel 42 [v]=some x) :
  ∀ p n m,v = .slice p n m->(x.1.weights Tryz.prog 42).all (·<=reachBytes)=true->m<=1000000000000000:=by
 rcases Go.Deep.open_slice Tryz.underlying42 h with ⟨hcs,hx⟩|⟨a,len,cap,m,n,D,Pl,hcs,_,hl,hm,hmm,hx,hel⟩
 ·obtain rfl:v = .slice none 0 0:=by simpa using hcs
  rintro p n m e _
  cases e
  decide
 ·obtain rfl:v = .slice (some a) len cap:=by simpa using hcs
  simp only[if_true] at hmm
  subst m
  rintro p n' m' e hw
  cases e
  have he:x.1 = .slice ((List.range len).map D) ((List.range (cap-len)).map fun j=>D (len+j)):=by rw[hx]
  rw[he] at hw
  have h2:=List.all_eq_true.1 hw (((List.range len).map D).length+((List.range (cap-len)).map fun j=>D (len+j)).length |> (· * Tryz.prog.bytesOf 49)) (by simp[DataW.weights,Tryz.underlying42])
  rw[J.bytesU] at h2
  simp[reachBytes] at h2
  omega
theorem callsW_open {H:Type} {enc:TypeId×Value->H} {W:World} {fuel:Nat} {v:Value} {x:DataW H×List MemPlace} (h:DataW.trod enc Tryz.prog W 0 (fun _=>true) true fuel 32 [v]=some x)
  (hw:(x.1.weights Tryz.prog 32).all (·<=reachBytes)=true) :
  ∃ pq cs cq,v = .slice pq cs.length cq/\CRow W pq W.heap.size cs/\cs.length<=2000000000000/\∀ c∈cs,WdC W W.heap.size c:=by
 rcases Go.Deep.open_slice Tryz.underlying32 h with ⟨hcs,hx⟩|⟨a,len,cap,m,n,D,Pl,hcs,_,hl,hm,hmm,hx,hel⟩
 ·obtain rfl:v = .slice none 0 0:=by simpa using hcs
  exact⟨none,[],0,rfl,⟨fun i t ht=>(by cases ht),fun e he=>(by cases he)⟩,by decide,fun c hc=>(by cases hc)⟩
 ·obtain rfl:v = .slice (some a) len cap:=by simpa using hcs
  simp only[if_true] at hmm
  subst m
  rw[cellsCa] at hel
  have he:x.1 = .slice ((List.range len).map D) ((List.range (cap-len)).map fun j=>D (len+j)):=by rw[hx]
  rw[he] at hw
  have hwl:=List.all_eq_true.1 hw (((List.range len).map D).length+((List.range (cap-len)).map fun j=>D (len+j)).length |> (· * Tryz.prog.bytesOf 44)) (by simp[DataW.weights,Tryz.underlying32])
  rw[bytesCa] at hwl
  simp[reachBytes] at hwl
  have one:∀ i,i<len->∃ t:Cl,(∀ (j:Nat) (u:Value),[Value.int .i64 t.k,.string t.nm,t.ws,.int .i64 t.cnt,.string t.tx][j]?=some u->W.cell? (a.add (i*5+j))=some u)/\i64ok t.cnt/\t.nm.size<=maxLen/\(∃ p n m,t.ws = .slice p n m)/\WdC W W.heap.size t:=by
   intro i hi
   obtain⟨cs',hc,ht⟩:=hel i (by omega)
   obtain⟨_,hlen,hcell⟩:=World.cells?_some hc
   obtain⟨c0,c1,c2,c3,c4,rfl⟩:=J.tlist5 hlen
   obtain⟨ys,k,_,hx',_,hyl,hfl⟩:=DataW.trod_struct Tryz.underlying44 ht
   obtain⟨⟨e0,q0⟩,⟨e1,q1⟩,⟨e2,q2⟩,⟨e3,q3⟩,⟨e4,q4⟩,rfl⟩:=J.tlist5 hyl
   have f0:=hfl 0 _ rfl
   have f1:=hfl 1 _ rfl
   have f2:=hfl 2 _ rfl
   have f3:=hfl 3 _ rfl
   have f4:=hfl 4 _ rfl
   simp[cellsCk,J.cellsWs,J.cellsStr,J.cellsInt] at f0 f1 f2 f3 f4
   obtain⟨z0,h0,_,b0⟩:=DataW.trod_int Tryz.underlying41 f0
   obtain⟨s1,h1,j1,-⟩:=DataW.trod_string Tryz.underlying9 f1
   have hS1:e1 = .lit (.string s1.data.toList):=congrArg Prod.fst j1
   have hcap:=words_cap f2
   obtain⟨pa,al,ca,h2,hU,hUo,hUc,hUw⟩:=J.words_open f2
   obtain⟨z3,h3,_,b3⟩:=DataW.trod_int Tryz.underlying3 f3
   have d3:=bounds_i64 b3
   obtain⟨s4,h4,j4,-⟩:=DataW.trod_string Tryz.underlying9 f4
   have hS4:e4 = .lit (.string s4.data.toList):=congrArg Prod.fst j4
   simp only[List.cons.injEq,and_true] at h0 h1 h3 h4
   subst h0 h1 h3 h4 h2
   have hD:D i = .agg [e0,e1,e2,e3,e4]:=by
    have:=congrArg Prod.fst hx'
    simpa using this
   have hNM:s1.size<=140737488351232:=by
    have h1:=List.all_eq_true.1 hw s1.size (by
     have hm1:s1.size∈(D i).weights Tryz.prog 44:=by
      rw[hD]
      simp only[DataW.weights,Tryz.underlying44]
      exact DataW.weights_mem_each (j:=1) rfl rfl s1.size (by rw[hS1];show s1.size∈[s1.data.toList.length];rw[Array.length_toList];exact List.mem_singleton.2 rfl)
     simp only[DataW.weights,Tryz.underlying32,List.mem_cons,List.mem_append]
     exact .inr (.inl (J.weightsAll_mem hm1 (List.mem_map.2 ⟨i,List.mem_range.2 hi,rfl⟩))))
    exact of_decide_eq_true h1
   have hTX:s4.size<=140737488351232:=by
    have h1:=List.all_eq_true.1 hw s4.size (by
     have hm4:s4.size∈(D i).weights Tryz.prog 44:=by
      rw[hD]
      simp only[DataW.weights,Tryz.underlying44]
      exact DataW.weights_mem_each (j:=4) rfl rfl s4.size (by rw[hS4];show s4.size∈[s4.data.toList.length];rw[Array.length_toList];exact List.mem_singleton.2 rfl)
     simp only[DataW.weights,Tryz.underlying32,List.mem_cons,List.mem_append]
     exact .inr (.inl (J.weightsAll_mem hm4 (List.mem_map.2 ⟨i,List.mem_range.2 hi,rfl⟩))))
    exact of_decide_eq_true h1
   have hCP:ca<=1000000000000000:=hcap pa _ ca rfl (List.all_eq_true.2 fun n hn=>List.all_eq_true.1 hw n (by
     have hm2:n∈(D i).weights Tryz.prog 44:=by
      rw[hD]
      simp only[DataW.weights,Tryz.underlying44]
      exact DataW.weights_mem_each (j:=2) rfl rfl n hn
     simp only[DataW.weights,Tryz.underlying32,List.mem_cons,List.mem_append]
     exact .inr (.inl (J.weightsAll_mem hm2 (List.mem_map.2 ⟨i,List.mem_range.2 hi,rfl⟩)))))
   refine⟨⟨z0,s1,.slice pa al.length ca,z3,s4⟩,fun j u hu=>?_,⟨d3.1,d3.2⟩,Nat.le_trans hNM (by simp only[maxLen];omega),⟨pa,_,ca,rfl⟩,⟨pa,ca,al,rfl,hUc,hCP,hUo,hU,Nat.le_trans hTX (by omega)⟩⟩
   have hj:j<5:=(List.getElem?_eq_some_iff.1 hu).1
   have g:=hcell j (by simpa using hj)
   rw[Go.Deep.add_add] at g
   rw[g]
   exact hu
  haveI:Inhabited Cl:=⟨⟨0,ByteArray.empty,.slice none 0 0,0,ByteArray.empty⟩⟩
  obtain⟨f,hf⟩:=Go.Deep.choose_lt one
  refine⟨some a,(List.range len).map f,cap,by simp,⟨fun i t ht=>?_,fun e he=>?_⟩,by rw[List.length_map,List.length_range];omega,fun e he=>?_⟩
  ·rw[List.getElem?_map] at ht
   by_cases hi:i<len
   ·rw[List.getElem?_range hi] at ht
    cases ht
    obtain⟨h0,-⟩:=hf i hi
    obtain⟨g,o,spot⟩:=a
    have hspot:spot=none:=by
     obtain⟨h00,-⟩:=hf 0 (by omega)
     simpa[Addr.add] using World.cell?_spot (h00 0 _ rfl)
    subst hspot
    have hc:∀ (j:Nat) (u:Value),[Value.int .i64 (f i).k,.string (f i).nm,(f i).ws,.int .i64 (f i).cnt,.string (f i).tx][j]?=some u->W.cell? ⟨g,o+i*5+j,none⟩=some u:=fun j u hu=>by
     have:=h0 j u hu
     rw[addrK] at this
     rw[Nat.add_assoc]
     exact this
    exact⟨g,o,rfl,J.lt_of_cell (a:=⟨g,o+i*5,none⟩) (hc 0 _ rfl),hc 0 _ rfl,hc 1 _ rfl,hc 2 _ rfl,hc 3 _ rfl,hc 4 _ rfl⟩
   ·rw[List.getElem?_eq_none (by simp;omega)] at ht
    cases ht
  ·obtain⟨i,hi,rfl⟩:=List.mem_map.1 he
   obtain⟨_,h4,h5,h6,-⟩:=hf i (List.mem_range.1 hi)
   exact⟨h4,h5,h6⟩
  ·obtain⟨i,hi,rfl⟩:=List.mem_map.1 he
   exact(hf i (List.mem_range.1 hi)).2.2.2.2
theorem E0I.low {f:Fm} {B B' e T:Nat} {W:World} (h:E0I f B e T W) (hB:B'<=B):E0I f B' e T W:=by
 obtain⟨n,S0,S1,pa,pm,ma,cu,wt,bl,h1,h2,h3,h4,h5,h6,h7⟩:=h.h
 have hb:=h.b
 exact⟨⟨n,S0,S1,pa,pm,ma,cu,wt,bl,h1,h2,by omega,h4,h5,by omega,h7⟩,by omega,hb.2.1,hb.2.2⟩
structure WiI (f:Fm) (w:World) (e g L cap a0:Nat) (hi:Bool) (bi:Nat->Int) (x:Es) (V:Nat->Prop) (W:World):Prop where
 i:EwI f w.heap.size e g L cap a0 hi x V W
 s:∀ j,j<a0->x.fb j=bi j
 b:Below w.heap.size w W
theorem WiI.below {f:Fm} {w:World} {e g L cap a0:Nat} {hi:Bool} {bi:Nat->Int} {x:Es} {V:Nat->Prop} {W W':World} (h:WiI f w e g L cap a0 hi bi x V W) (hb:Below W.heap.size W W'):WiI f w e g L cap a0 hi bi x V W' :=
 ⟨h.i.below hb,h.s,h.b.trans (hb.mono h.b.size)⟩
theorem E0I.wrap2 {f:Fm} {w:World} {e T:Nat} {W:World} (h:E0I f w.heap.size e T W) (hb:Below w.heap.size w W) (hz:chkZ f=none) (hl:f.toks.length<=733007751850) {g cap:Nat} (L:Nat) {bi:Nat->Int} (row:C.RowM W g 5 cap (fun j=>.int .u8 (C.fM L bi j))) (bd:∀ j,0<=bi j/\bi j<=255) (h3:L+3<=cap) (h4:L<=140737488355328) (hg:T<=g) (a:Int) :
  (Calls Tryz.prog 6 #[pV e,.slice (some ⟨g,0,none⟩) L cap,.int .i64 a] W fun r w'=>∃ er,r = .returned (.int .i64 er)/\(er==0)=false/\E0I f w.heap.size e T w'/\Below W.heap.size W w') \/
  ∃ a0:Nat,a=(a0:Int)/\a0<=L/\∃ hi,Calls Tryz.prog 6 #[pV e,.slice (some ⟨g,0,none⟩) L cap,.int .i64 (a0:Int)] W fun r w'=>r = .returned (.int .i64 0)/\∃ x V,WiI f w e g L cap a0 hi bi x V w'/\∀ j,x.en<=j->x.fb j=C.fM L bi j:=by
 by_cases ha:a<0\/(L:Int)<a
 ·exact .inl ((h.wrapno hz _ L cap a ha).mono fun r w' hP=>⟨170,hP.1,rfl,hP.2.1,hP.2.2⟩)
 ·obtain⟨a0,rfl⟩:∃ a0:Nat,a=a0:=⟨a.toNat,by omega⟩
  obtain⟨hi,ho⟩:=ord_hi hz
  obtain⟨t,ht,cW⟩:=h.wrap hz hl ho L row (C.fM_bd bd) (by omega) h4 hg a0 (by omega)
  by_cases hr:(wrpZ f (numZ f t) t hi L (C.fM L bi) (a0:Int)).1=0
  ·refine .inr ⟨a0,rfl,by omega,hi,cW.mono ?_⟩
   rintro r w' ⟨rfl,hP|⟨_,V,k1,k2⟩⟩
   ·exact absurd hr hP.1
   ·obtain⟨o1,o2,o3⟩:=wrpZ_ok hr (by omega:a0<=L)
    have hbt:=h.b
    rw[hr]
    refine⟨rfl,_,V,⟨k1,fun j hj=>?_,hb.trans (blw_frm k2 (fun k hk=>by rcases hk with rfl|rfl<;>omega) (by omega))⟩,fun j hj=>o3 j (.inr hj)⟩
    show (wrpZ f (numZ f t) t hi L (C.fM L bi) (a0:Int)).2.1 j=bi j
    rw[o3 j (.inl hj)]
    unfold C.fM
    rw[if_pos (by omega)]
  ·refine .inl (cW.mono ?_)
   rintro r w' ⟨rfl,hP|⟨h0,_⟩⟩
   ·exact⟨_,rfl,by simpa using hr,hP.2.1,hP.2.2⟩
   ·exact absurd h0 hr
theorem E0I.next {f:Fm} {B e T:Nat} {W:World} (h:E0I f B e T W):Calls Tryz.prog 9 #[pV e] W fun r w'=>r = .returned (.int .i64 180)/\E0I f B e T w'/\Below W.heap.size W w':=by
 refine(Next_of (h.do_ cNxt)).mono ?_
 rintro r w' ⟨_,rfl,rfl,hP⟩
 exact⟨rfl,hP⟩
theorem WiI.do_ {f:Fm} {w:World} {e g L cap a0:Nat} {hi:Bool} {bi:Nat->Int} {x:Es} {V:Nat->Prop} {W:World} (h:WiI f w e g L cap a0 hi bi x V W) (hz:chkZ f=none) (hl:f.toks.length<=733007751850) (c:Cl) (hco:i64ok c.cnt) (hnm:c.nm.size<=maxLen) (hwd:WdC w w.heap.size c) :
  Calls Tryz.prog 10 #[pV e,caV c] W fun r w'=>∃ er y V',r = .returned (.int .i64 er)/\WiI f w e g L cap a0 hi bi y V' w'/\x.en<=y.en/\(∀ j,y.en<=j->y.fb j=x.fb j)/\(er≠0->y.en=x.en/\y.fb=x.fb/\y.s=x.s)/\(c.k=2->y.fb=x.fb)/\Frm V W w':=by
 obtain⟨hts,q,cp,ws,hq,hw⟩:=(hwd.below h.b).ws (V:=V) (fun k hk=>(h.i.v k hk).1)
 obtain⟨t,k,u,-,D⟩:=h.i.do_ hz hl c hco hnm hts q cp ws hq hw
 have r:=h.i.rng
 obtain⟨⟨o1,o2⟩,o3,o4,o5⟩:=doZ_ok (f:=f) (hi:=hi) (len:=L) r.1 r.2.1 c.k c.cnt c.nm c.tx ws t u (ptL f.toks k u)
 have hB:=h.i.v e r.2.2.2.2
 refine D.mono ?_
 rintro _ w' ⟨rfl,V',k1,k2,k3⟩
 exact⟨_,_,V',rfl,⟨k1,fun j hj=>(o3 j (.inl hj)).trans (h.s j hj),h.b.trans (blw_frm k3 (fun k hk=>(h.i.v k hk).1) (by omega))⟩,o1,fun j hj=>o3 j (.inr hj),o4,o5,k3⟩
theorem ent_End:∀ ag w,(callFunc 7 ag).run Tryz.prog w = .ok (.enter 7 ag) w:=enters_of Tryz.func7 (by kernel_rfl) rfl
theorem ent_Done:∀ ag w,(callFunc 8 ag).run Tryz.prog w = .ok (.enter 8 ag) w:=enters_of Tryz.func8 (by kernel_rfl) rfl
theorem sl_str (s:ByteArray) (n:Nat) (h:n<=s.size) (W:World):(Instr.sliceAt 9 (.string s) (some (.int .i64 (n:Int))) none none).run Tryz.prog W = .ok (.string (s.extract n s.size)) W:=by
 simp[Instr.sliceAt,Instr.slice,Instr.sliceBounds,Instr.sliceBound,run_underlying Tryz.underlying9,h,asIntOf]
theorem sl_own (g L C n:Nat) (h:n<=L) (h2:n<C) (W:World):(Instr.sliceAt 31 (.slice (some ⟨g,0,none⟩) L C) (some (.int .i64 (n:Int))) none none).run Tryz.prog W = .ok (.slice (some ⟨g,n,none⟩) (L-n) (C-n)) W:=by
 rw[sl_lo _ _ _ _ h,if_neg (by omega)]
 simp[Addr.add]
 exact fun h=>h.symm
theorem sl_own0 (g L C n:Nat) (h:n<=C) (W:World):(Instr.sliceAt 31 (.slice (some ⟨g,0,none⟩) L C) none (some (.int .i64 (n:Int))) none).run Tryz.prog W = .ok (.slice (some ⟨g,0,none⟩) n C) W:=by
 rw[sl_hi _ _ _ _ h]
 split<;>simp[Addr.add]
end Go.Proofs.YtjlbcdnkglaheaaGreatDoor
