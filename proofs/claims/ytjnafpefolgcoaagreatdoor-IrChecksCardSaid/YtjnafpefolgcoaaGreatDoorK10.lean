import Derived.Test.YtjnafpefolgcoaaGreatDoorK05
namespace Go.Proofs.YtjnafpefolgcoaaGreatDoor
open Go.ChangeShapes Go.WideShapes Go.ChangeAt Go.RowKit Go.Shelf Go.Maps
theorem laidOut:laidOutB Tryz.prog=true:=by kernel_rfl
theorem lawI:Keyed Tryz.prog 3:=int_keyed Tryz.underlying3
theorem lawN:Keyed Tryz.prog 159:=Keyed.of_law (deep_law_laid laidOut (m:=3) (by omega) (of_decide_eq_true (by kernel_rfl)) (by kernel_rfl) (by kernel_rfl))
theorem lawV:Keyed Tryz.prog 138:=Keyed.of_law (deep_law_laid laidOut (m:=3) (by omega) (of_decide_eq_true (by kernel_rfl)) (by kernel_rfl) (by kernel_rfl))
theorem zeroI (w:World):(zeroValue 3).run Tryz.prog w = .ok (.int .i64 0) w:=by kernel_rfl
def MHas (W:World) (k:TypeId) (m n:Nat) (hs:Value->Prop):Prop:=∃ D:DataW Unit,W.ownsMap Tryz.prog k (plainElem Tryz.prog 3) m n D/\∀ v kl,keyOf Tryz.prog k v=some kl->(Maps.has D kl=true↔hs v)
theorem MHas.same {W W':World} {k:TypeId} {m n:Nat} {hs:Value->Prop} (h:MHas W k m n hs) (hb:W'.heap[m]?=W.heap[m]?):MHas W' k m n hs:=by
 obtain⟨D,⟨es,ck,e,r⟩,h2⟩:=h
 exact⟨D,⟨es,ck,hb.trans e,r⟩,h2⟩
theorem MHas.lt {W:World} {k:TypeId} {m n:Nat} {hs:Value->Prop} (h:MHas W k m n hs):m<W.heap.size:=by
 obtain⟨D,h1,h2⟩:=h
 exact h1.lt
theorem has_nil (kl:Lit):Maps.has (DataW.map []:DataW Unit) kl=false:=rfl
theorem MHas.made (w:World) (k:TypeId):MHas (w.alloc (.map #[] 0)) k w.heap.size 0 (fun _=>False) :=
 ⟨_,World.ownsMap_made w _ _ _,fun v kl _=>by rw[has_nil];simp⟩
theorem MHas.put {W W':World} {k:TypeId} {m n:Nat} {hs:Value->Prop} (K:Keyed Tryz.prog k) {D:DataW Unit} (hD:W.ownsMap Tryz.prog k (plainElem Tryz.prog 3) m n D) (h:∀ v kl,keyOf Tryz.prog k v=some kl->(Maps.has D kl=true↔hs v)) {v0:Value} {k0:Lit} (hk:keyOf Tryz.prog k v0=some k0) {d:DataW Unit} (h':W'.ownsMap Tryz.prog k (plainElem Tryz.prog 3) m (n+1) (D.put k0 d)) :
  MHas W' k m (n+1) (fun v=>v=v0\/hs v):=by
 refine⟨_,h',fun v kl hv=>?_⟩
 by_cases e:kl=k0
 ·subst e
  rw[has_put_same hD.isMap (K.key hk)]
  have:=K.inj hv hk
  simp[this]
 ·rw[has_put_other e,h v kl hv]
  constructor
  ·exact .inr
  ·rintro(rfl|h)
   ·rw[hk] at hv;cases hv;exact absurd rfl e
   ·exact h
theorem isNewI_any (m n:Nat) (x i:Int) (hs:Value->Prop) (b:Bool) (w:World) (hM:MHas w 3 m n hs) (hn:n<17592186044416) (hx:i64ok x) (hi:i64ok i) (hb:b=true↔¬ hs (.int .i64 x)) :
  Calls Tryz.prog 128 #[.map (some m),.int .i64 x,.int .i64 i] w fun r w'=>r = .returned (.bool b)/\MHas w' 3 m (n+1) (fun v=>v = .int .i64 x\/hs v)/\w.grownBy w' (some m):=by
 obtain⟨D,hD,hh⟩:=hM
 have hkey:keyOf Tryz.prog 3 (.int .i64 x)=some (.int .i64 x):=keyOf_int_mk Tryz.underlying3 (WalkArith.wf_i64 hx)
 have e:Maps.has D (.int .i64 x) = !b:=by
  have:=hh _ _ hkey
  cases b<;>simp_all
 go_enter Tryz.func128,Tryz.ntmps128
 go_wp2_with (first|(at_lookup;refine wpList_lookup_own_ok_int _ rfl _ _ 87 rfl 3 3 .i64 lawI Tryz.underlying87 Tryz.underlying3 (zeroI _) m n D rfl hD _ _ rfl hkey ?_;intro c hat hwc)|(at_mapUpdate;refine wpList_mapUpdate_own _ rfl _ _ _ 87 rfl 3 3 lawI Tryz.underlying87 _ m n D rfl hD (by unfold maxLen;omega) _ _ _ rfl rfl hkey _ [] (plainElem_int Tryz.underlying3 (WalkArith.wf_i64 hi)) ?_;intro w1 hown1 hturn1))
 go_ret
 exact⟨rfl,MHas.put lawI hD hh hkey hown1,hturn1⟩
theorem tySize:∃ m,Tryz.prog.types.size=m+1:=⟨Tryz.prog.types.size-1,by kernel_rfl⟩
theorem ktN:Tryz.prog.keyType 159=true:=by kernel_rfl
theorem ktV:Tryz.prog.keyType 138=true:=by kernel_rfl
theorem clN:Tryz.prog.cellsOf 159=2:=by kernel_rfl
theorem clV:Tryz.prog.cellsOf 138=2:=by kernel_rfl
theorem clI:Tryz.prog.cellsOf 3=1:=by kernel_rfl
theorem clS:Tryz.prog.cellsOf 9=1:=by kernel_rfl
theorem clU:Tryz.prog.cellsOf 50=1:=by kernel_rfl
theorem keyN (a:Int) (s:ByteArray) (ha:i64ok a) (hs:s.size<=maxLen):∃ kl,keyOf Tryz.prog 159 (.agg #[.int .i64 a,.string s])=some kl:=by
 obtain⟨m,hm⟩:=tySize
 have wa:(Lit.int .i64 a).wf=true:=WalkArith.wf_i64 ha
 have hf:(Value.agg #[.int .i64 a,.string s]).formed Tryz.prog 159=true:=by simp[Value.formed,Tryz.underlying159,clN]
 unfold keyOf
 rw[Tryz.underlying159]
 simp only[ktN,hf,Bool.and_self,if_true,Value.cells]
 rw[hm]
 simp[Program.keyLits,Tryz.underlying159,Tryz.underlying3,Tryz.underlying9,clN,clI,clS,wa,hs]
theorem keyV (a b:Int) (ha:i64ok a) (hb:u64ok b):∃ kl,keyOf Tryz.prog 138 (.agg #[.int .i64 a,.int .u64 b])=some kl:=by
 obtain⟨m,hm⟩:=tySize
 have wa:(Lit.int .i64 a).wf=true:=WalkArith.wf_i64 ha
 have wb:(Lit.int .u64 b).wf=true:=WalkArith.wf_u64 hb
 have hf:(Value.agg #[.int .i64 a,.int .u64 b]).formed Tryz.prog 138=true:=by simp[Value.formed,Tryz.underlying138,clV]
 unfold keyOf
 rw[Tryz.underlying138]
 simp only[ktV,hf,Bool.and_self,if_true,Value.cells]
 rw[hm]
 simp[Program.keyLits,Tryz.underlying138,Tryz.underlying3,Tryz.underlying50,clV,clI,clU,wa,wb]
theorem isNewN_any (m n:Nat) (a i:Int) (s:ByteArray) (hs:Value->Prop) (b:Bool) (w:World) (hM:MHas w 159 m n hs) (hn:n<17592186044416) (ha:i64ok a) (hl:s.size<=maxLen) (hi:i64ok i) (hb:b=true↔¬ hs (.agg #[.int .i64 a,.string s])) :
  Calls Tryz.prog 129 #[.map (some m),.agg #[.int .i64 a,.string s],.int .i64 i] w fun r w'=>r = .returned (.bool b)/\MHas w' 159 m (n+1) (fun v=>v = .agg #[.int .i64 a,.string s]\/hs v)/\w.grownBy w' (some m):=by
 obtain⟨D,hD,hh⟩:=hM
 obtain⟨kl,hkey⟩:=keyN a s ha hl
 have e:Maps.has D kl = !b:=by
  have:=hh _ _ hkey
  cases b<;>simp_all
 go_enter Tryz.func129,Tryz.ntmps129
 go_wp2_with (first|(at_lookup;refine wpList_lookup_own_ok_int _ rfl _ _ 88 rfl 159 3 .i64 lawN Tryz.underlying88 Tryz.underlying3 (zeroI _) m n D rfl (hD.alloc _) _ _ rfl hkey ?_;intro c hat hwc)|(at_mapUpdate;refine wpList_mapUpdate_own _ rfl _ _ _ 88 rfl 159 3 lawN Tryz.underlying88 _ m n D rfl (hD.alloc _) (by unfold maxLen;omega) _ _ _ rfl rfl hkey _ [] (plainElem_int Tryz.underlying3 (WalkArith.wf_i64 hi)) ?_;intro w1 hown1 hturn1))
 go_ret
 exact⟨rfl,MHas.put lawN hD hh hkey hown1,(World.grownBy_alloc w _ _).trans hturn1⟩
theorem isNewV_any (m n:Nat) (a i x:Int) (hs:Value->Prop) (b:Bool) (w:World) (hM:MHas w 138 m n hs) (hn:n<17592186044416) (ha:i64ok a) (hx:u64ok x) (hi:i64ok i) (hb:b=true↔¬ hs (.agg #[.int .i64 a,.int .u64 x])) :
  Calls Tryz.prog 110 #[.map (some m),.agg #[.int .i64 a,.int .u64 x],.int .i64 i] w fun r w'=>r = .returned (.bool b)/\MHas w' 138 m (n+1) (fun v=>v = .agg #[.int .i64 a,.int .u64 x]\/hs v)/\w.grownBy w' (some m):=by
 obtain⟨D,hD,hh⟩:=hM
 obtain⟨kl,hkey⟩:=keyV a x ha hx
 have e:Maps.has D kl = !b:=by
  have:=hh _ _ hkey
  cases b<;>simp_all
 go_enter Tryz.func110,Tryz.ntmps110
 go_wp2_with (first|(at_lookup;refine wpList_lookup_own_ok_int _ rfl _ _ 89 rfl 138 3 .i64 lawV Tryz.underlying89 Tryz.underlying3 (zeroI _) m n D rfl (hD.alloc _) _ _ rfl hkey ?_;intro c hat hwc)|(at_mapUpdate;refine wpList_mapUpdate_own _ rfl _ _ _ 89 rfl 138 3 lawV Tryz.underlying89 _ m n D rfl (hD.alloc _) (by unfold maxLen;omega) _ _ _ rfl rfl hkey _ [] (plainElem_int Tryz.underlying3 (WalkArith.wf_i64 hi)) ?_;intro w1 hown1 hturn1))
 go_ret
 exact⟨rfl,MHas.put lawV hD hh hkey hown1,(World.grownBy_alloc w _ _).trans hturn1⟩
structure Kb (E:List Nat) (w W:World):Prop where
 os:W.os=w.os
 tape:W.tape=w.tape
 output:W.output=w.output
 size:w.heap.size<=W.heap.size
 block:∀ k,k<w.heap.size->k∉E->W.heap[k]?=w.heap[k]?
theorem Kb.refl (E:List Nat) (w:World):Kb E w w:=⟨rfl,rfl,rfl,Nat.le_refl _,fun _ _ _=>rfl⟩
theorem Kb.trans {E:List Nat} {a b c:World} (h:Kb E a b) (h':Kb E b c):Kb E a c :=
 ⟨h'.os.trans h.os,h'.tape.trans h.tape,h'.output.trans h.output,Nat.le_trans h.size h'.size,fun k hk he=>(h'.block k (Nat.lt_of_lt_of_le hk h.size) he).trans (h.block k hk he)⟩
theorem Kb.mono {E E':List Nat} {a b:World} (h:Kb E a b) (hE:∀ x∈E,x∈E'):Kb E' a b:=⟨h.os,h.tape,h.output,h.size,fun k hk he=>h.block k hk fun hx=>he (hE k hx)⟩
theorem Kb.of_below {E:List Nat} {a b:World} (h:Below a.heap.size a b):Kb E a b:=⟨h.os,h.tape,h.output,h.size,fun k hk _=>h.block k hk⟩
theorem Kb.of_grown {E:List Nat} {a b:World} {m:Nat} (h:a.grownBy b (some m)) (hm:m∈E):Kb E a b:=⟨h.os,h.tape,h.output,h.size,fun k hk he=>h.block k hk fun e=>he (by cases e;exact hm)⟩
theorem Kb.drew {E:List Nat} {a b:World} (h:Kb E a b):Kb E a b.drew:=⟨h.os,h.tape,h.output,h.size,h.block⟩
theorem Kb.alloc {E:List Nat} {a b:World} (h:Kb E a b) (o:Obj):Kb E a (b.alloc o):=h.trans (Kb.of_below (bel1 _ _))
theorem Kb.set {E:List Nat} {a b:World} (h:Kb E a b) {g o:Nat} (hg:g∈E) (v:Value):Kb E a (b.setCell ⟨g,o,none⟩ v):=by
 refine⟨h.os,h.tape,h.output,?_,fun k hk he=>?_⟩
 ·show a.heap.size<=(b.heap.modify g _).size
  rw[Array.size_modify];exact h.size
 ·show (b.heap.modify g _)[k]?=_
  rw[Array.getElem?_modify,if_neg (fun e=>he (by subst e;exact hg))]
  exact h.block k hk he
theorem Kb.below {E:List Nat} {a b:World} {B:Nat} (h:Kb E a b) (hB:B<=a.heap.size) (hE:∀ x∈E,B<=x):Below B a b:=⟨h.os,h.tape,h.output,h.size,fun k hk=>h.block k (by omega) fun hx=>by have:=hE k hx;omega⟩
theorem Kb.cell {E:List Nat} {a b:World} (h:Kb E a b) {g o:Nat} (hg:g<a.heap.size) (hE:g∉E):b.cell? ⟨g,o,none⟩=a.cell? ⟨g,o,none⟩:=cell_blk (h.block g hg hE)
theorem Kb0 {w W:World} (h:Kb [] w W):Below w.heap.size w W:=⟨h.os,h.tape,h.output,h.size,fun k hk=>h.block k hk List.not_mem_nil⟩
theorem tdr1 {B:Nat} {a w:World} (h:Below B a w):Below B a w.drew:=⟨h.os,h.tape,h.output,h.size,h.block⟩
structure Sv where
 at_:Nat
 cnt:Int
 last:Int
 fld:Int
 row:Int
 en:Int
 cod:Int
def svC (g o:Nat) (s:Sv):List Value:=[.pointer (some ⟨g,o+s.at_*21,none⟩),.int .i64 (s.at_:Int),.int .i64 s.cnt,.int .i64 s.last,.int .i64 s.fld,.int .i64 s.row,.int .i64 s.en,.int .i64 s.cod]
def svCs (g o:Nat) (l:List Sv):List Value:=l.flatMap (svC g o)
theorem svCs_length (g o:Nat) (l:List Sv):(svCs g o l).length=l.length*8:=by
 induction l with
 | nil=>rfl
 | cons a r ih =>
  unfold svCs at ih ⊢
  rw[List.flatMap_cons,List.length_append,ih,List.length_cons]
  show 8+_=_
  omega
theorem svCs_append (g o:Nat) (a b:List Sv):svCs g o (a++b)=svCs g o a++svCs g o b:=by unfold svCs;rw[List.flatMap_append]
structure ScC (w:World) (g o go k:Nat) (x:Sv):Prop where
 c0:w.cell? ⟨go,k,none⟩=some (.pointer (some ⟨g,o+x.at_*21,none⟩))
 c1:w.cell? ⟨go,k+1,none⟩=some (.int .i64 (x.at_:Int))
 c2:w.cell? ⟨go,k+2,none⟩=some (.int .i64 x.cnt)
 c3:w.cell? ⟨go,k+3,none⟩=some (.int .i64 x.last)
 c4:w.cell? ⟨go,k+4,none⟩=some (.int .i64 x.fld)
 c5:w.cell? ⟨go,k+5,none⟩=some (.int .i64 x.row)
 c6:w.cell? ⟨go,k+6,none⟩=some (.int .i64 x.en)
 c7:w.cell? ⟨go,k+7,none⟩=some (.int .i64 x.cod)
structure OpR (w:World) (g o go cap:Nat) (l:List Sv):Prop where
 ex:∃ cur:Array Value,w.heap[go]?=some (.cells cur 109 (0,0))/\l.length<=cap/\cap<=maxLen/\cur.size=cap*8/\cur.toList.take (l.length*8)=svCs g o l
theorem OpR.same {w w':World} {g o go cap:Nat} {l:List Sv} (h:OpR w g o go cap l) (hb:w'.heap[go]?=w.heap[go]?):OpR w' g o go cap l:=by
 obtain⟨cur,h1,r⟩:=h.ex
 exact⟨cur,hb.trans h1,r⟩
theorem OpR.lt {w:World} {g o go cap:Nat} {l:List Sv} (h:OpR w g o go cap l):go<w.heap.size:=by
 obtain⟨cur,h1,_⟩:=h.ex
 exact(Array.getElem?_eq_some_iff.1 h1).1
theorem OpR.owns {w:World} {g o go cap:Nat} {l:List Sv} (h:OpR w g o go cap l) {base:Nat} (hb:base<=go):w.ownsRow base 109 8 (.slice (some ⟨go,0,none⟩) l.length cap) l.length (svCs g o l):=by
 obtain⟨cur,h1,h2,h3,h4,h5⟩:=h.ex
 exact⟨svCs_length g o l,.inr ⟨go,cap,cur,rfl,hb,h1,h2,h3,h4,h5⟩⟩
theorem OpR.cell {w:World} {g o go cap:Nat} {l:List Sv} (h:OpR w g o go cap l) {j:Nat} {u:Value} (hu:(svCs g o l)[j]?=some u):w.cell? ⟨go,j,none⟩=some u:=by
 obtain⟨cur,h1,h2,h3,h4,h5⟩:=h.ex
 rw[<- h5,List.getElem?_take] at hu
 split at hu
 ·simp only[World.cell?,h1]
  simpa using hu
 ·cases hu
theorem svCs_last (g o:Nat) (L:List Sv) (x:Sv) (j:Nat) (hj:j<8):(svCs g o (L++[x]))[L.length*8+j]?=(svC g o x)[j]?:=by
 rw[svCs_append,List.getElem?_append_right (by rw[svCs_length];omega),svCs_length]
 rw[show L.length*8+j-L.length*8=j by omega]
 unfold svCs
 rw[List.flatMap_cons,List.flatMap_nil,List.append_nil]
theorem OpR.last {w:World} {g o go cap:Nat} {L:List Sv} {x:Sv} (h:OpR w g o go cap (L++[x])):ScC w g o go (L.length*8) x :=
 have c:=fun j u (hj:j<8) (hu:(svC g o x)[j]?=some u)=>h.cell ((svCs_last g o L x j hj).trans hu)
 ⟨c 0 _ (by decide) rfl,c 1 _ (by decide) rfl,c 2 _ (by decide) rfl,c 3 _ (by decide) rfl,c 4 _ (by decide) rfl,c 5 _ (by decide) rfl,c 6 _ (by decide) rfl,c 7 _ (by decide) rfl⟩
theorem OpR.set {w:World} {g o go cap:Nat} {L:List Sv} {x x':Sv} {j:Nat} {v:Value} (h:OpR w g o go cap (L++[x])) (hj:j<8) (hx:svC g o x'=(svC g o x).set j v):OpR (w.setCell ⟨go,L.length*8+j,none⟩ v) g o go cap (L++[x']):=by
 obtain⟨cur,h1,h2,h3,h4,h5⟩:=h.ex
 have hl:(L++[x]).length=(L++[x']).length:=by simp
 have hx8:(svC g o x).length=8:=rfl
 refine⟨cur.setIfInBounds (L.length*8+j) v,?_,by rw[<- hl];exact h2,h3,by rw[Array.size_setIfInBounds];exact h4,?_⟩
 ·show (w.heap.modify go _)[go]?=_
  rw[Array.getElem?_modify,if_pos rfl,h1]
  rfl
 ·rw[Array.toList_setIfInBounds,List.take_set,<- hl,h5,svCs_append,svCs_append,List.set_append_right _ _ (by rw[svCs_length];omega),svCs_length]
  rw[show L.length*8+j-L.length*8=j by omega]
  congr 1
  unfold svCs
  rw[List.flatMap_cons,List.flatMap_nil,List.append_nil,List.flatMap_cons,List.flatMap_nil,List.append_nil,hx]
theorem tdr {B n:Nat} {a w:World} (h:Below B a w):Below B a (w.drewN n):=⟨h.os,h.tape,h.output,h.size,h.block⟩
theorem top_any (B go n cap:Nat) (w:World) (hc:w.cell? ⟨B,0,none⟩=some (.slice (some ⟨go,0,none⟩) (n+1) cap)) (hn:n<1000000000000) :
  Calls Tryz.prog 78 #[.pointer (some ⟨B,0,none⟩)] w fun r w'=>r = .returned (.pointer (some ⟨go,n*8,none⟩))/\Below w.heap.size w w':=by
 have e1:((n+1:Nat):Int)-1=(n:Int):=by omega
 have e2:(n:Int)<((n+1:Nat):Int):=by omega
 go_enter Tryz.func78,Tryz.ntmps78
 go_wp2_with fail
 go_quiet (fail)
 go_wp2_with fail
 go_ret
 exact⟨rfl,tdr (Below.refl _ _)⟩
theorem isEmpty_any (B n cap:Nat) (p:Option Addr) (w:World) (hc:w.cell? ⟨B,0,none⟩=some (.slice p n cap)) :
  Calls Tryz.prog 77 #[.pointer (some ⟨B,0,none⟩)] w fun r w'=>r = .returned (.bool (decide (n=0)))/\w'=w:=by
 go_enter Tryz.func77,Tryz.ntmps77
 go_wp2_with fail
 go_ret
 exact⟨rb (by rw[Bool.eq_iff_iff];simp),rfl⟩
structure CkC (w:World) (B gf:Nat) (op:Value) (i:Int) (rl:Value) (m1 m2 m3:Nat) (dep:Nat->Int) (wh:Bool):Prop where
 lt:B<w.heap.size
 c0:w.cell? ⟨B,0,none⟩=some op
 c1:w.cell? ⟨B,1,none⟩=some (.pointer (some ⟨gf,0,none⟩))
 c2:w.cell? ⟨B,2,none⟩=some (.int .i64 i)
 c3:w.cell? ⟨B,3,none⟩=some rl
 cd:∀ q,q<16->w.cell? ⟨B,4+q,none⟩=some (.int .i64 (dep q))
 c20:w.cell? ⟨B,20,none⟩=some (.map (some m1))
 c21:w.cell? ⟨B,21,none⟩=some (.map (some m2))
 c22:w.cell? ⟨B,22,none⟩=some (.map (some m3))
 c23:w.cell? ⟨B,23,none⟩=some (.bool wh)
theorem CkC.same {w w':World} {B gf:Nat} {op:Value} {i:Int} {rl:Value} {m1 m2 m3:Nat} {dep:Nat->Int} {wh:Bool} (h:CkC w B gf op i rl m1 m2 m3 dep wh) (hs:w.heap.size<=w'.heap.size) (hb:w'.heap[B]?=w.heap[B]?):CkC w' B gf op i rl m1 m2 m3 dep wh :=
 ⟨Nat.lt_of_lt_of_le h.lt hs,(cell_blk hb).trans h.c0,(cell_blk hb).trans h.c1,(cell_blk hb).trans h.c2,(cell_blk hb).trans h.c3,fun q hq=>(cell_blk hb).trans (h.cd q hq),(cell_blk hb).trans h.c20,(cell_blk hb).trans h.c21,(cell_blk hb).trans h.c22,(cell_blk hb).trans h.c23⟩
theorem ScC.same {w w':World} {g o go k:Nat} {x:Sv} (h:ScC w g o go k x) (hb:w'.heap[go]?=w.heap[go]?):ScC w' g o go k x :=
 ⟨(cell_blk hb).trans h.c0,(cell_blk hb).trans h.c1,(cell_blk hb).trans h.c2,(cell_blk hb).trans h.c3,(cell_blk hb).trans h.c4,(cell_blk hb).trans h.c5,(cell_blk hb).trans h.c6,(cell_blk hb).trans h.c7⟩
end Go.Proofs.YtjnafpefolgcoaaGreatDoor
