import Derived.Test.YtchfphakhmifmabGreatDoorTA1
import Derived.Test.YtchfphakhmifmabGreatDoorMY
import Derived.Test.YtchfphakhmifmabGreatDoorXI
namespace Go.Proofs.YtchfphakhmifmabGreatDoor
set_option maxRecDepth 1000000
set_option maxHeartbeats 16000000
open Go.ChangeShapes Go.WideShapes Go.ChangeAt Go.RowKit
theorem thnK (w:World) (o:Obj):(w.alloc o).heap[w.heap.size]? = some o:=by
 show (w.heap.push o)[w.heap.size]? = some o
 simp
theorem drop_at {α:Type} {l:List α} {n:Nat} {x:α} (h:l[n]? = some x):l.drop n = x :: l.drop (n + 1):=by
 obtain ⟨hl,e⟩:=List.getElem?_eq_some_iff.1 h
 rw [List.drop_eq_getElem_cons hl,e]
theorem own_ge {w:World} {base:Nat} {e:TypeId} {size:Nat} {v:Value} {n:Nat} {xs:List Value} (h:w.ownsRow base e size v n xs):∀ k,v.ownBlock = some k → base ≤ k:=fun k hk=>(h.lt k hk).1
theorem twpList_append_ex {P:Program} {w:World} {ops:Array Oper} {rest:List Oper} {o:Oper} {a:Act} {Q:Exit → Act → World → Prop} (hgd:o.guard = none) (s x:Operand) (t tx:TypeId)
  (ho:o.op = .call { callee:=.builtin .append,args:=#[s,x],argTypes:=#[t,tx] }) (sv xv:Value) (hs:a.eval s = sv) (hx:a.eval x = xv) (Post:Value → World → Prop)
  (hrun:∃ v w',(∀ ty,(Builtin.append_ #[t,tx] ty #[sv,xv]).run P w = .ok v w') ∧ Post v w')
  (h:∀ v w',Post v w' → wpList P ops Q rest (a.put o.dst v) w'):wpList P ops Q (o :: rest) a w:=by
 obtain ⟨v,w',hr,hp⟩:=hrun
 refine wpList_plain hgd fun _ hK=>?_
 unfold Oper.wp execOp
 simp only [ho,resolve,invoke,builtin,Sem.run_bind,Sem.run_pure,Result.andThen_ok,List.map_toArray,List.map_cons,List.map_nil,hs,hx,hr]
 exact hK _ _ (h v w' hp)
theorem ownsRow_below {w w':World} {base:Nat} {e:TypeId} {size:Nat} {v:Value} {n:Nat} {xs:List Value} (h:w.ownsRow base e size v n xs) (hb:Below w.heap.size w w'):w'.ownsRow base e size v n xs:=by
 refine World.ownsRow.kept (row:=none) h ⟨hb.os,hb.tape,hb.output,hb.size,fun k hk _=>hb.block k hk⟩ ?_
 cases hv:v.ownBlock <;> simp
theorem tinfo {t:TypeId} {z:Value} {s b:Nat} (h:(Tryz.prog.info? t).map (fun i=>(i.zero,i.size,i.bytes)) = some (some z,s,b)):∃ i,Tryz.prog.info? t = some i ∧ i.zero = some z ∧ i.size = s ∧ i.bytes = b:=by
 obtain ⟨i,hi,hz⟩:=Option.map_eq_some_iff.1 h
 simp only [Prod.mk.injEq] at hz
 exact ⟨i,hi,hz.1,hz.2.1,hz.2.2⟩
abbrev zAtK:Value:=.agg #[.string ⟨#[]⟩,.string ⟨#[]⟩,.int .i64 0]
abbrev zEl:Value:=.agg #[.int .i64 0,.string ⟨#[]⟩,.slice none 0 0,.string ⟨#[]⟩,.int .i64 0]
theorem infoAtK:(Tryz.prog.info? 54).map (fun i=>(i.zero,i.size,i.bytes)) = some (some zAtK,3,40):=by kernel_rfl
theorem infoElK:(Tryz.prog.info? 32).map (fun i=>(i.zero,i.size,i.bytes)) = some (some zEl,5,72):=by kernel_rfl
theorem attCells_get:∀ (al:List Att) (i:Nat) (t:Att),al[i]? = some t → ∀ j,j < 3 → (attCells al)[i * 3 + j]? = (attC t)[j]?
 | [],_,_,h,_,_=>by cases h
 | a :: r,0,t,h,j,hj=>by
  cases h
  unfold attCells
  rw [List.flatMap_cons,List.getElem?_append_left (by simp [attC];omega),Nat.zero_mul,Nat.zero_add]
 | a :: r,i + 1,t,h,j,hj=>by
  have ih:=attCells_get r i t h j hj
  unfold attCells at ih ⊢
  have hl:(attC a).length = 3:=rfl
  rw [List.flatMap_cons,List.getElem?_append_right (by omega),hl,← ih]
  congr 1
  omega
theorem addr0 (g k:Nat):(⟨g,0,none⟩:Addr).add k = ⟨g,k,none⟩:=by unfold Addr.add;split <;> simp_all
theorem addrk (g o k:Nat):(⟨g,o,none⟩:Addr).add k = ⟨g,o + k,none⟩:=by unfold Addr.add;split <;> simp_all
theorem ARow.news {w:World} {ad:Addr} {H:Nat} {al:List Att} (h:ARow w (some ad) H al):∀ j u,(attCells al)[j]? = some u → w.cell? (ad.add j) = some u:=by
 intro j u hu
 have hj:j < al.length * 3:=by rw [← attCells_length];exact (List.getElem?_eq_some_iff.1 hu).1
 have hi:j / 3 < al.length:=by omega
 obtain ⟨g,o,e,_,h0,h1,h2⟩:=h.c (j / 3) al[j / 3] (List.getElem?_eq_getElem hi)
 cases e
 have hg:=attCells_get al (j / 3) al[j / 3] (List.getElem?_eq_getElem hi) (j % 3) (by omega)
 rw [show j / 3 * 3 + j % 3 = j by omega,hu] at hg
 rw [addrk]
 have h3:j % 3 = 0 ∨ j % 3 = 1 ∨ j % 3 = 2:=by omega
 rcases h3 with h3 | h3 | h3
 ·rw [h3] at hg
  cases Option.some.inj hg
  rw [show o + j = o + j / 3 * 3 by omega];exact h0
 ·rw [h3] at hg
  cases Option.some.inj hg
  rw [show o + j = o + j / 3 * 3 + 1 by omega];exact h1
 ·rw [h3] at hg
  cases Option.some.inj hg
  rw [show o + j = o + j / 3 * 3 + 2 by omega];exact h2
theorem ARow.of_own {w:World} {base g cap H:Nat} {al bl:List Att} {n:Nat} (h:w.ownsRow base 54 3 (.slice (some ⟨g,0,none⟩) n cap) n (attCells (al ++ bl))) (hg:g < H):ARow w (some ⟨g,0,none⟩) H al :=
 ⟨fun i t ht=>by
  have hti:(al ++ bl)[i]? = some t:=by rw [List.getElem?_append_left (List.getElem?_eq_some_iff.1 ht).1];exact ht
  have hc:=World.ownsRow.cells h (g:=g) rfl
  have c0:=hc (i * 3) _ (attCells_get _ i t hti 0 (by decide))
  have c1:=hc (i * 3 + 1) _ (attCells_get _ i t hti 1 (by decide))
  have c2:=hc (i * 3 + 2) _ (attCells_get _ i t hti 2 (by decide))
  rw [addr0] at c0 c1 c2
  exact ⟨g,0,rfl,hg,by rw [Nat.zero_add];exact c0,by rw [Nat.zero_add];exact c1,by rw [Nat.zero_add];exact c2⟩⟩
theorem att_cp {w:World} {pa:Option Addr} {ca H:Nat} {al:List Att} (hA:ARow w pa H al) (hl:al.length * 40 ≤ 140737488351232) :
  ∃ v' w',(∀ ty,(Builtin.append_ #[30,30] ty #[.slice none 0 0,.slice pa al.length ca]).run Tryz.prog w = .ok v' w') ∧ (w'.ownsRow w.heap.size 54 3 v' al.length (attCells al) ∧ Below w.heap.size w w'):=by
 obtain ⟨i0,hi,hz,hs,hb⟩:=tinfo infoAtK
 cases pa with
 | none =>
  have h0:al = []:=by
   cases al with
   | nil=>rfl
   | cons a r =>
    obtain ⟨g,o,e,_⟩:=hA.c 0 a rfl
    cases e
  subst h0
  refine ⟨.slice none 0 0,w,fun ty=>?_,World.ownsRow_nil _ _ _ 3,Below.refl _ _⟩
  have S:=Src.ofNil (P:=Tryz.prog) (size:=i0.size) w Tryz.underlying30 ca
  have hln:∀ w':World,(Builtin.lenOf (.slice none 0 ca)).run Tryz.prog w' = .ok 0 w':=S.len
  have hcl:(Builtin.firstCells i0.size 0 (.slice none 0 ca)).run Tryz.prog w = .ok #[] w:=S.cells
  simp [Builtin.append_,run_underlying Tryz.underlying30,sizeOf,typeInfo,hi,hln,hcl]
 | some ad =>
  have hr:=fun ty=>run_append_own_at (P:=Tryz.prog) w w.heap.size 30 ty 54 i0 zAtK 3 40 Tryz.underlying30 hi hz hs hb rfl (by decide) (.slice none 0 0) 0 [] (World.ownsRow_nil _ _ _ 3) ad al.length ca (attCells al) (attCells_length al) hA.news (attCells_one al) (by simp only [maxLen];omega) (by omega) (Nat.le_refl _)
  obtain ⟨v',w',h1,h2,h3,_⟩:=hr 0
  refine ⟨v',w',fun ty=>?_,by simpa using h2,⟨h3.os,h3.tape,h3.output,h3.size,fun k hk=>h3.block k hk (by simp [Value.ownBlock])⟩⟩
  obtain ⟨v2,w2,k1,_⟩:=hr ty
  have e:(Builtin.append_ #[30,30] ty #[.slice none 0 0,.slice (some ad) al.length ca]) = (Builtin.append_ #[30,30] 0 #[.slice none 0 0,.slice (some ad) al.length ca]):=rfl
  rw [e]
  exact h1
abbrev spareS:ByteArray:=⟨#[115,112,97,114,101]⟩
def spareA:Att:=⟨spareS,⟨#[]⟩,0⟩
def elK (e:El) (av:Value):List Value:=[.int .i64 e.d,.string e.nm,av,.string e.tx,.int .i64 e.p]
def elCells (ps:List (El × Value)):List Value:=ps.flatMap fun x=>elK x.1 x.2
theorem elCells_get:∀ (ps:List (El × Value)) (i:Nat) (x:El × Value),ps[i]? = some x → ∀ j,j < 5 → (elCells ps)[i * 5 + j]? = (elK x.1 x.2)[j]?
 | [],_,_,h,_,_=>by cases h
 | a :: r,0,t,h,j,hj=>by
  cases h
  unfold elCells
  rw [List.flatMap_cons,List.getElem?_append_left (by simp [elK];omega),Nat.zero_mul,Nat.zero_add]
 | a :: r,i + 1,t,h,j,hj=>by
  have ih:=elCells_get r i t h j hj
  unfold elCells at ih ⊢
  have hl:(elK a.1 a.2).length = 5:=rfl
  rw [List.flatMap_cons,List.getElem?_append_right (by omega),hl,← ih]
  congr 1
  omega
def AGood (w:World) (base:Nat) (ow:Option Nat) (e:El) (av:Value):Prop :=
 ∃ ga ca,av = .slice (some ⟨ga,0,none⟩) e.ats.length ca ∧ e.ats.length + 1 ≤ ca ∧ base ≤ ga ∧ ga < w.heap.size ∧ some ga ≠ ow ∧ ARow w (some ⟨ga,0,none⟩) w.heap.size e.ats ∧ w.cell? ⟨ga,e.ats.length * 3,none⟩ = some (.string spareS)
theorem AGood.below {w w':World} {base:Nat} {ow:Option Nat} {e:El} {av:Value} (h:AGood w base ow e av) (hb:Below w.heap.size w w'):AGood w' base ow e av:=by
 obtain ⟨ga,ca,h1,h2,h3,h4,h5,h6,h7⟩:=h
 exact ⟨ga,ca,h1,h2,h3,Nat.lt_of_lt_of_le h4 hb.size,h5,(h6.below hb).mono hb.size,(hb.cell (p:=⟨ga,_,none⟩) h4).trans h7⟩
theorem AGood.grown {w w':World} {base g':Nat} {ow:Option Nat} {e:El} {av:Value} (h:AGood w base ow e av) (hg:w.grownBy w' ow) (hl:ow = some g' ∨ g' = w.heap.size):AGood w' base (some g') e av:=by
 obtain ⟨ga,ca,h1,h2,h3,h4,h5,h6,h7⟩:=h
 have hc:∀ k,w'.cell? ⟨ga,k,none⟩ = w.cell? ⟨ga,k,none⟩:=fun k=>hg.cell_far ⟨ga,k,none⟩ h4 h5
 refine ⟨ga,ca,h1,h2,h3,Nat.lt_of_lt_of_le h4 hg.size,?_,⟨fun i t ht=>?_⟩,(hc _).trans h7⟩
 ·rcases hl with hl | hl
  ·rw [← hl];exact h5
  ·rw [hl];intro e;injection e with e;omega
 ·obtain ⟨g,o,e,hgl,q0,q1,q2⟩:=h6.c i t ht
  cases e
  exact ⟨ga,0,rfl,Nat.lt_of_lt_of_le hgl hg.size,(hc _).trans q0,(hc _).trans q1,(hc _).trans q2⟩
structure CRow (w:World) (base g cap:Nat) (es:List El):Prop where
 er:ERow w (some ⟨g,0,none⟩) w.heap.size es
 room:es.length + 1 ≤ cap
 ge:base ≤ g
 sp:w.cell? ⟨g,es.length * 5 + 1,none⟩ = some (.string spareS)
 at_:∀ (i:Nat) (e:El),es[i]? = some e → ∃ ga ca,w.cell? ⟨g,i * 5 + 2,none⟩ = some (.slice (some ⟨ga,0,none⟩) e.ats.length ca) ∧ e.ats.length + 1 ≤ ca ∧ ga < w.heap.size ∧ w.cell? ⟨ga,e.ats.length * 3,none⟩ = some (.string spareS)
 blk:∃ cur,w.heap[g]? = some (.cells cur 32 (0,0)) ∧ cur.size = cap * 5
abbrev elOK (e:El) (av:Value):Obj:=.cells #[.int .i64 e.d,.string e.nm,av,.string e.tx,.int .i64 e.p] 32
theorem elCells_snoc (ps:List (El × Value)) (x:El × Value):elCells (ps ++ [x]) = elCells ps ++ elK x.1 x.2:=by
 unfold elCells
 rw [List.flatMap_append]
 simp
theorem attCells_snoc (al:List Att) (x:Att):attCells (al ++ [x]) = attCells al ++ attC x:=by
 unfold attCells
 rw [List.flatMap_append]
 simp
theorem elK_one (e:El) (pa:Option Addr) (n c:Nat):∀ u ∈ elK e (.slice pa n c),u.oneCell' = true:=by
 intro u hu
 simp only [elK,List.mem_cons,List.not_mem_nil,or_false] at hu
 rcases hu with rfl | rfl | rfl | rfl | rfl <;> rfl
theorem own_capK {w:World} {base:Nat} {e:TypeId} {size:Nat} {pp:Option Addr} {n cap:Nat} {xs:List Value} (h:w.ownsRow base e size (.slice pp n cap) n xs) (hn:0 < n):n ≤ cap:=by
 rcases h.2 with ⟨_,h0⟩ | ⟨g,cp,cur,hv,_,_,hc,_⟩
 ·omega
 ·injection hv with _ _ h3
  omega
theorem elO_set {W:World} {X:Nat} {x:El} {a:Value} (h:W.heap[X]? = some (elOK x a)) (b:Value):(W.setCell ⟨X,2,none⟩ b).heap[X]? = some (elOK x b):=by
 have hX:=(Array.getElem?_eq_some_iff.1 h).1
 have e:(W.setCell ⟨X,2,none⟩ b).heap = W.heap.modify X (fun o=>match o with
  | .cells cs t f=>.cells (cs.setIfInBounds 2 b) t f
  | o=>o):=by
  rfl
 rw [e,Array.getElem?_modify,if_pos rfl,h]
 rfl
theorem elOK_cell {W:World} {X:Nat} {x:El} {a:Value} (h:W.heap[X]? = some (elOK x a)):W.cell? ⟨X,0,none⟩ = some (.int .i64 x.d) ∧ W.cell? ⟨X,1,none⟩ = some (.string x.nm) ∧ W.cell? ⟨X,2,none⟩ = some a ∧ W.cell? ⟨X,3,none⟩ = some (.string x.tx) ∧ W.cell? ⟨X,4,none⟩ = some (.int .i64 x.p) ∧ ∀ o,W.frozen? ⟨X,o,none⟩ = false:=by
 refine ⟨?_,?_,?_,?_,?_,fun o=>?_⟩
 ·simp only [World.cell?,h];rfl
 ·simp only [World.cell?,h];rfl
 ·simp only [World.cell?,h];rfl
 ·simp only [World.cell?,h];rfl
 ·simp only [World.cell?,h];rfl
 ·simp only [World.frozen?,h];simp
theorem copied_any (pp:Option Addr) (cp:Nat) (es:List El) (w:World) (hr:ERow w pp w.heap.size es) (hl:es.length * 72 ≤ 140737488351232) (ha:∀ e ∈ es,e.ats.length * 40 ≤ 140737488351232) :
  Calls Tryz.prog 18 #[.slice pp es.length cp] w fun e w'=>∃ g cap,e = .returned (.slice (some ⟨g,0,none⟩) es.length cap) ∧ CRow w' w.heap.size g cap es ∧ Below w.heap.size w w':=by
 obtain ⟨iA,hiA,hzA,hsA,hbA⟩:=tinfo infoAtK
 obtain ⟨iE,hiE,hzE,hsE,hbE⟩:=tinfo infoElK
 go_enter Tryz.func18,Tryz.ntmps18
 go_wp2_with fail
 go_loopw [3,4] (fun v i wr=>∃ (k:Nat) (ps:List (El × Value)),k ≤ es.length ∧ i = .int .i64 k ∧ ps.map (·.1) = es.take k ∧ wr.ownsRow w.heap.size 32 5 v k (elCells ps) ∧ (∀ x ∈ ps,AGood wr w.heap.size v.ownBlock x.1 x.2) ∧ Below w.heap.size w wr) (fun _ i _=>es.length - (RowKit.intOf i).toNat)
 case atStart=>exact ⟨0,[],Nat.zero_le _,rfl,rfl,World.ownsRow_nil _ _ _ 5,fun _ h=>(by cases h),Below.refl _ _⟩
 case round =>
  obtain ⟨k,ps,hk,rfl,hps,hO,hG,hB⟩:=hrel
  by_cases hlt:k < es.length
  ·obtain ⟨x,hx⟩:∃ x,es[k]? = some x:=⟨es[k],List.getElem?_eq_getElem hlt⟩
   obtain ⟨g,o,pa,ca,rfl,hg,q0,q1,q2,q3,q4,hA⟩:=(hr.below hB).c k x hx
   have hxa:=ha x (List.mem_of_getElem? hx)
   have hb1:Below wr.heap.size wr (wr.alloc (elOK x (.slice pa x.ats.length ca))):=(Below.refl _ _).alloc (Nat.le_refl _) _
   have hA1:=(hA.mono hB.size).below hb1
   obtain ⟨v2,w2,hrun,hO2,hB2⟩:=att_cp (ca:=ca) hA1 hxa
   have hlt2:(k:Int) < es.length:=by omega
   have hX:=thnK wr (elOK x (.slice pa x.ats.length ca))
   have hXc:(wr.alloc (elOK x (.slice pa x.ats.length ca))).cell? ⟨wr.heap.size,2,none⟩ = some (.slice pa x.ats.length ca):=by simp only [World.cell?,hX];rfl
   have F1:Hid (1 = 1):=rfl
   have F2:Hid (1 = 1):=rfl
   have F3:Hid (1 = 1):=rfl
   have hN2:∀ j u,(attC spareA)[j]? = some u → (w2.alloc (.cells #[.string spareS,.string ⟨#[]⟩,.int .i64 0] 54)).cell? ((⟨w2.heap.size,0,none⟩:Addr).add j) = some u:=World.news_of_block (thnK w2 _)
   rw [World.size_alloc] at hO2 hB2
   have hO3:=ownsRow_below hO2 ((Below.refl _ w2).alloc (Nat.le_refl _) (.cells #[.string spareS,.string ⟨#[]⟩,.int .i64 0] 54))
   go_wp2_with (first
    | (at_builtin;clear F1;go_must (refine (twpList_append_ex (by rfl) _ _ _ _ (by rfl) _ _ (by rfl) (by rfl) (fun a b=>v2 = a ∧ w2 = b) ⟨v2,w2,hrun,rfl,rfl⟩ ?_));rintro _ _ ⟨rfl,rfl⟩)
    | (at_builtin;clear F2;go_must (refine wpList_append_lies _ rfl _ _ 30 rfl (wr.heap.size + 1) 54 iA zAtK 3 40 Tryz.underlying30 hiA hzA hsA hbA rfl (by decide) v2 x.ats.length (attCells x.ats) rfl hO3 ⟨w2.heap.size,0,none⟩ 1 1 (attC spareA) rfl rfl hN2 (fun u hu=>by simp only [attC,List.mem_cons,List.not_mem_nil,or_false] at hu;rcases hu with rfl | rfl | rfl <;> rfl) (by decide) (by simp only [maxLen];omega) (by omega) (by have:=hB2.size;simp at this ⊢;omega) (w2.heap.size + 1) (by simp) ?_);intro ga capa w4 hO4 hgr4 hat4 hlt4;have hB4:Below (wr.heap.size + 1) (wr.alloc (elOK x (.slice pa x.ats.length ca))) w4:=hB2.trans (((Below.refl _ w2).alloc (by have:=hB2.size;simp at this;omega) _).grown hgr4 (by have:=hB2.size;simp at this ⊢;omega) (own_ge hO2));have hX4:w4.heap[wr.heap.size]? = some (elOK x (.slice pa x.ats.length ca)):=(hB4.block _ (by omega)).trans hX;have q24:w4.cell? ⟨g,o + k * 5 + 2,none⟩ = some (.slice pa x.ats.length ca):=(hB4.cell (p:=⟨g,_,none⟩) (by have:=hB.size;show g < _;omega)).trans ((hb1.cell (p:=⟨g,_,none⟩) (by have:=hB.size;show g < _;omega)).trans q2);have hcap:=own_capK hO4 (by omega);obtain ⟨c0,c1,c2,c3,c4,cf⟩:=elOK_cell hX4;obtain ⟨d0,d1,d2,d3,d4,df⟩:=elOK_cell (elO_set hX4 (.slice (some ⟨ga,0,none⟩) x.ats.length capa));have hci:(x.ats.length:Int) ≤ capa:=(by omega);have hB5:Below wr.heap.size wr ((w4.setCell ⟨wr.heap.size,2,none⟩ (.slice (some ⟨ga,0,none⟩) x.ats.length capa)).alloc (elOK x (.slice (some ⟨ga,0,none⟩) x.ats.length capa))):=((hb1.trans (hB4.mono (by omega))).setCell (Nat.le_refl _) _).alloc (by have:=hB4.size;simp [World.setCell] at this ⊢;omega) _;have hO5:=ownsRow_below hO hB5)
    | (at_builtin;clear F3;go_must (refine wpList_append_lies _ rfl _ _ 24 rfl w.heap.size 32 iE zEl 5 72 Tryz.underlying24 hiE hzE hsE hbE rfl (by decide) _ k (elCells ps) rfl hO5 ⟨w4.heap.size,0,none⟩ 1 1 (elK x (.slice (some ⟨ga,0,none⟩) x.ats.length capa)) rfl rfl (World.news_of_block (by simpa [World.setCell] using thnK (w4.setCell ⟨wr.heap.size,2,none⟩ (.slice (some ⟨ga,0,none⟩) x.ats.length capa)) (elOK x (.slice (some ⟨ga,0,none⟩) x.ats.length capa)))) (elK_one x _ _ _) (by decide) (by simp only [maxLen];omega) (by omega) (Nat.le_trans hB.size hB5.size) _ rfl ?_);intro gn capn w6 hO6 hgr6 hat6 hlt6))
   have hX5:∀ off,((w4.setCell ⟨wr.heap.size,2,none⟩ (.slice (some ⟨ga,0,none⟩) x.ats.length capa)).alloc (elOK x (.slice (some ⟨ga,0,none⟩) x.ats.length capa))).cell? ⟨ga,off,none⟩ = w4.cell? ⟨ga,off,none⟩:=fun off=>by
    have hga:=own_ge hO4 ga rfl
    refine (((Below.refl _ (w4.setCell ⟨wr.heap.size,2,none⟩ (.slice (some ⟨ga,0,none⟩) x.ats.length capa))).alloc (Nat.le_refl _) _).cell (p:=⟨ga,off,none⟩) (by simpa [World.setCell] using hlt4)).trans ?_
    exact World.cell?_setCell_other w4 _ _ _ (fun e=>by injection e with e1 _;omega)
   rw [show attCells x.ats ++ attC spareA = attCells (x.ats ++ [spareA]) from (attCells_snoc _ _).symm] at hO4
   have hAr:=ARow.of_own hO4 hlt4
   have hsp:=World.ownsRow.cells hO4 (g:=ga) rfl (x.ats.length * 3) _ (attCells_get _ x.ats.length spareA (by simp) 0 (by decide))
   rw [addr0] at hsp
   have hnew:AGood ((w4.setCell ⟨wr.heap.size,2,none⟩ (.slice (some ⟨ga,0,none⟩) x.ats.length capa)).alloc (elOK x (.slice (some ⟨ga,0,none⟩) x.ats.length capa))) w.heap.size u3.ownBlock x (.slice (some ⟨ga,0,none⟩) x.ats.length capa):=by
    have hga:=own_ge hO4 ga rfl
    have hsz5:((w4.setCell ⟨wr.heap.size,2,none⟩ (.slice (some ⟨ga,0,none⟩) x.ats.length capa)).alloc (elOK x (.slice (some ⟨ga,0,none⟩) x.ats.length capa))).heap.size = w4.heap.size + 1:=by simp [World.setCell]
    refine ⟨ga,capa,rfl,hcap,by have:=hB.size;omega,by omega,fun e=>?_,⟨fun i t ht=>?_⟩,(hX5 _).trans hsp⟩
    ·have:=hO.lt ga e.symm;omega
    ·obtain ⟨g1,o1,e1,hgl,r0,r1,r2⟩:=hAr.c i t ht
     cases e1
     exact ⟨ga,0,rfl,by omega,(hX5 _).trans r0,(hX5 _).trans r1,(hX5 _).trans r2⟩
   have hmem:∀ y ∈ ps ++ [(x,Value.slice (some ⟨ga,0,none⟩) x.ats.length capa)],AGood w6 w.heap.size (some gn) y.1 y.2:=by
    intro y hy
    rcases List.mem_append.1 hy with hy | hy
    ·exact ((hG y hy).below hB5).grown hgr6 hat6
    ·obtain rfl:=List.mem_singleton.1 hy
     exact hnew.grown hgr6 hat6
   have hB6:Below w.heap.size w w6:=hB.trans ((hB5.mono hB.size).trans ((Below.refl _ _).grown hgr6 (Nat.le_trans hB.size hB5.size) (own_ge hO)))
   have htk:(ps ++ [(x,Value.slice (some ⟨ga,0,none⟩) x.ats.length capa)]).map (·.1) = es.take (k + 1):=by
    rw [List.map_append,hps,List.take_add_one,hx];rfl
   rw [show elCells ps ++ elK x (.slice (some ⟨ga,0,none⟩) x.ats.length capa) = elCells (ps ++ [(x,.slice (some ⟨ga,0,none⟩) x.ats.length capa)]) from (elCells_snoc ps (x,_)).symm] at hO6
   go_roundw
   case rel=>exact ⟨k + 1,_,by omega,by go_num,htk,hO6,hmem,hB6⟩
   case measure=>simp [RowKit.intOf];omega
  ·obtain rfl:k = es.length:=by omega
   have F1:Hid (1 = 1):=rfl
   have hb1:Below wr.heap.size wr (wr.alloc (.cells #[.int .i64 0,.string spareS,.slice none 0 0,.string ⟨#[]⟩,.int .i64 0] 32)):=(Below.refl _ _).alloc (Nat.le_refl _) _
   have hO1:=ownsRow_below hO hb1
   have hN2:∀ j u,(elK ⟨0,spareS,[],⟨#[]⟩,0⟩ (.slice none 0 0))[j]? = some u → (wr.alloc (.cells #[.int .i64 0,.string spareS,.slice none 0 0,.string ⟨#[]⟩,.int .i64 0] 32)).cell? ((⟨wr.heap.size,0,none⟩:Addr).add j) = some u:=World.news_of_block (thnK wr _)
   go_wp2_with (at_builtin;clear F1;go_must (refine wpList_append_lies _ rfl _ _ 24 rfl w.heap.size 32 iE zEl 5 72 Tryz.underlying24 hiE hzE hsE hbE rfl (by decide) _ es.length (elCells ps) rfl hO1 ⟨wr.heap.size,0,none⟩ 1 1 (elK ⟨0,spareS,[],⟨#[]⟩,0⟩ (.slice none 0 0)) rfl rfl hN2 (elK_one _ _ _ _) (by decide) (by simp only [maxLen];omega) (by omega) (Nat.le_trans hB.size hb1.size) _ rfl ?_);intro gn capn w6 hO6 hgr6 hat6 hlt6;have hcap:=own_capK hO6 (by omega);have hci:(es.length:Int) ≤ capn:=(by omega))
   have hG6:∀ y ∈ ps,AGood w6 w.heap.size (some gn) y.1 y.2:=fun y hy=>((hG y hy).below hb1).grown hgr6 hat6
   have hB6:Below w.heap.size w w6:=hB.trans ((hb1.mono hB.size).trans ((Below.refl _ _).grown hgr6 (Nat.le_trans hB.size hb1.size) (own_ge hO)))
   rw [List.take_length] at hps
   have hpl:ps.length = es.length:=by rw [← hps,List.length_map]
   have hcl:=World.ownsRow.cells hO6 (g:=gn) rfl
   rw [show elCells ps ++ elK ⟨0,spareS,[],⟨#[]⟩,0⟩ (.slice none 0 0) = elCells (ps ++ [(⟨0,spareS,[],⟨#[]⟩,0⟩,.slice none 0 0)]) from (elCells_snoc ps (⟨0,spareS,[],⟨#[]⟩,0⟩,_)).symm] at hcl
   have hget:∀ (i:Nat) (e:El),es[i]? = some e → ∃ av,(e,av) ∈ ps ∧ ∀ j u,j < 5 → (elK e av)[j]? = some u → w6.cell? ⟨gn,i * 5 + j,none⟩ = some u:=by
    intro i e he
    rw [← hps,List.getElem?_map] at he
    cases hp:ps[i]? with
    | none=>rw [hp] at he;cases he
    | some y =>
     obtain ⟨e',av⟩:=y
     rw [hp] at he
     cases he
     refine ⟨av,List.mem_of_getElem? hp,fun j u hj hu=>?_⟩
     have hp2:(ps ++ [((⟨0,spareS,[],⟨#[]⟩,0⟩:El),Value.slice none 0 0)])[i]? = some (e',av):=by rw [List.getElem?_append_left (List.getElem?_eq_some_iff.1 hp).1];exact hp
     have:=hcl (i * 5 + j) u ((elCells_get _ i _ hp2 j hj).trans hu)
     rwa [addr0] at this
   have hspr:=hcl (es.length * 5 + 1) _ (elCells_get _ es.length (⟨0,spareS,[],⟨#[]⟩,0⟩,.slice none 0 0) (by rw [← hpl];simp) 1 (by decide))
   rw [addr0] at hspr
   go_ret
   refine ⟨gn,capn,rfl,⟨⟨fun i e he=>?_⟩,hcap,own_ge hO6 gn rfl,hspr,fun i e he=>?_,?_⟩,hB6⟩
   ·obtain ⟨av,hm,hc⟩:=hget i e he
    have hgd:AGood w6 w.heap.size (some gn) e av:=hG6 _ hm
    obtain ⟨ga,ca,rfl,h2,h3,h4,h5,h6,h7⟩:=hgd
    exact ⟨gn,0,_,_,rfl,hlt6,by rw [Nat.zero_add];exact hc 0 _ (by decide) rfl,by rw [Nat.zero_add];exact hc 1 _ (by decide) rfl,by rw [Nat.zero_add];exact hc 2 _ (by decide) rfl,by rw [Nat.zero_add];exact hc 3 _ (by decide) rfl,by rw [Nat.zero_add];exact hc 4 _ (by decide) rfl,h6⟩
   ·obtain ⟨av,hm,hc⟩:=hget i e he
    have hgd:AGood w6 w.heap.size (some gn) e av:=hG6 _ hm
    obtain ⟨ga,ca,rfl,h2,h3,h4,h5,h6,h7⟩:=hgd
    exact ⟨ga,ca,hc 2 _ (by decide) rfl,h2,h4,h7⟩
   ·rcases hO6.2 with ⟨e,_⟩ | ⟨g',cap',cur,e,_,hg',_,_,hs',_⟩
    ·cases e
    ·injection e with e1 e2 e3
     injection e1 with e1
     injection e1 with e1
     subst e1 e3
     exact ⟨cur,hg',hs'⟩
open Go.Lib
theorem Hid.mkS {p:Prop} (h:p):Hid p:=h
abbrev attW (a:Att):Value:=.agg #[.string a.nm,.string a.vl,.int .i64 a.p]
def sameA (a b:Att):Bool:=decide (a.nm = b.nm) && decide (a.vl = b.vl)
def sameAs:List Att → List Att → Bool
 | [],[]=>true
 | a :: r,b :: s=>sameA a b && sameAs r s
 | _,_=>false
def sameE (a b:El):Bool:=decide (a.d = b.d) && (decide (a.nm = b.nm) && (decide (a.tx = b.tx) && sameAs a.ats b.ats))
def sameEs:List El → List El → Bool
 | [],[]=>true
 | a :: r,b :: s=>sameE a b && sameEs r s
 | _,_=>false
theorem sameAs_len:∀ {l m:List Att},sameAs l m = true → l.length = m.length
 | [],[],_=>rfl
 | a :: r,b :: s,h=>by
  unfold sameAs at h
  rw [Bool.and_eq_true] at h
  rw [List.length_cons,List.length_cons,sameAs_len h.2]
 | [],_ :: _,h=>by cases h
 | _ :: _,[],h=>by cases h
theorem sameEs_len:∀ {l m:List El},sameEs l m = true → l.length = m.length
 | [],[],_=>rfl
 | a :: r,b :: s,h=>by
  unfold sameEs at h
  rw [Bool.and_eq_true] at h
  rw [List.length_cons,List.length_cons,sameEs_len h.2]
 | [],_ :: _,h=>by cases h
 | _ :: _,[],h=>by cases h
theorem sameAs_drop {l m:List Att} {j:Nat} {a b:Att} (ha:l[j]? = some a) (hb:m[j]? = some b):sameAs (l.drop j) (m.drop j) = (sameA a b && sameAs (l.drop (j + 1)) (m.drop (j + 1))):=by
 obtain ⟨h1,e1⟩:=List.getElem?_eq_some_iff.1 ha
 obtain ⟨h2,e2⟩:=List.getElem?_eq_some_iff.1 hb
 rw [List.drop_eq_getElem_cons h1,List.drop_eq_getElem_cons h2,e1,e2,sameAs]
theorem sameEs_drop {l m:List El} {j:Nat} {a b:El} (ha:l[j]? = some a) (hb:m[j]? = some b):sameEs (l.drop j) (m.drop j) = (sameE a b && sameEs (l.drop (j + 1)) (m.drop (j + 1))):=by
 obtain ⟨h1,e1⟩:=List.getElem?_eq_some_iff.1 ha
 obtain ⟨h2,e2⟩:=List.getElem?_eq_some_iff.1 hb
 rw [List.drop_eq_getElem_cons h1,List.drop_eq_getElem_cons h2,e1,e2,sameEs]
abbrev attO (a:Att):Obj:=.cells #[.string a.nm,.string a.vl,.int .i64 a.p] 54
theorem two_1 (w:World) (A B:Obj):((w.alloc A).alloc B).heap[w.heap.size]? = some A:=by
 show ((w.heap.push A).push B)[w.heap.size]? = _
 rw [Array.getElem?_push,if_neg (by simp),Array.getElem?_push,if_pos rfl]
theorem two_2 (w:World) (A B:Obj):((w.alloc A).alloc B).heap[w.heap.size + 1]? = some B:=by
 show ((w.heap.push A).push B)[w.heap.size + 1]? = _
 rw [Array.getElem?_push,if_pos (by simp)]
theorem two_b (w:World) (A B:Obj):Below w.heap.size w ((w.alloc A).alloc B):=(bel1 w A).alloc (by simp) B
theorem sameAttr_any (a b:Att) (w:World):Calls Tryz.prog 63 #[attW a,attW b] w fun e w'=>e = .returned (.bool (sameA a b)) ∧ Below w.heap.size w w':=by
 have HB:=Hid.mkS (two_b w (attO a) (attO b))
 have hA:=two_1 w (attO a) (attO b)
 have hB:=two_2 w (attO a) (attO b)
 have a0:((w.alloc (attO a)).alloc (attO b)).cell? ⟨w.heap.size,0,none⟩ = some (.string a.nm):=by simp only [World.cell?,hA];rfl
 have a1:((w.alloc (attO a)).alloc (attO b)).cell? ⟨w.heap.size,1,none⟩ = some (.string a.vl):=by simp only [World.cell?,hA];rfl
 have b0:((w.alloc (attO a)).alloc (attO b)).cell? ⟨w.heap.size + 1,0,none⟩ = some (.string b.nm):=by simp only [World.cell?,hB];rfl
 have b1:((w.alloc (attO a)).alloc (attO b)).cell? ⟨w.heap.size + 1,1,none⟩ = some (.string b.vl):=by simp only [World.cell?,hB];rfl
 clear hA hB
 obtain ⟨n1,v1,p1⟩:=a
 obtain ⟨n2,v2,p2⟩:=b
 simp only [sameA] at a0 a1 b0 b1 ⊢
 by_cases h:n1 = n2
 ·subst h
  by_cases h2:v1 = v2
  ·subst h2
   go_enter Tryz.func63,Tryz.ntmps63
   go_wp2_with fail
   go_ret
   exact ⟨by simp,HB.out⟩
  ·have z2:=beq_ba h2
   go_enter Tryz.func63,Tryz.ntmps63
   go_wp2_with fail
   go_ret
   exact ⟨by simp [h2],HB.out⟩
 ·have z:=beq_ba h
  go_enter Tryz.func63,Tryz.ntmps63
  go_wp2_with fail
  go_ret
  exact ⟨by simp [h],HB.out⟩
theorem eqAttrs_any (l m:List Att) (pa pb:Option Addr) (ca cb:Nat) (w:World) (ha:ARow w pa w.heap.size l) (hb:ARow w pb w.heap.size m) (hl:l.length ≤ 100000000) :
  Calls Tryz.prog 62 #[.slice pa l.length ca,.slice pb m.length cb,.func (.func 63) #[] #[]] w fun e w'=>e = .returned (.bool (sameAs l m)) ∧ Below w.heap.size w w':=by
 by_cases hlm:l.length = m.length
 ·have b0:((l.length:Int) == (m.length:Int)) = true:=by simp [hlm]
  have b1:((l.length:Int) != (m.length:Int)) = false:=by rw [bne,b0];rfl
  have HL:=Hid.mkS hlm
  clear hlm
  go_enter Tryz.func62,Tryz.ntmps62
  go_wp2_with fail
  clear b0 b1
  go_loopw [7,17] (fun i7 i wr=>∃ j:Nat,j ≤ l.length ∧ i = .int .i64 j ∧ Below w.heap.size w wr ∧ Hid (sameAs l m = sameAs (l.drop j) (m.drop j)) ∧ i7 = i7) (fun _ i _=>l.length - (RowKit.intOf i).toNat)
  case atStart=>exact ⟨0,Nat.zero_le _,rfl,Below.refl _ _,Hid.mkS rfl,rfl⟩
  case round =>
   obtain ⟨j,hj,rfl,hB,hq,-⟩:=hrel
   by_cases hlt:j < l.length
   ·obtain ⟨a,hx⟩:∃ a,l[j]? = some a:=⟨l[j],List.getElem?_eq_getElem hlt⟩
    obtain ⟨b,hy⟩:∃ b,m[j]? = some b:=⟨m[j]'(by have:=HL.out;omega),List.getElem?_eq_getElem (by have:=HL.out;omega)⟩
    obtain ⟨g,o,rfl,hg,q0,q1,q2⟩:=ha.c j a hx
    obtain ⟨g2,o2,rfl,hg2,k0,k1,k2⟩:=hb.c j b hy
    have hg':g2 < wr.heap.size:=Nat.lt_of_lt_of_le hg2 hB.size
    have r0:=(hB.cell (p:=⟨g,_,none⟩) hg).trans q0
    have r1:=(hB.cell (p:=⟨g,_,none⟩) hg).trans q1
    have r2:=(hB.cell (p:=⟨g,_,none⟩) hg).trans q2
    have s0:=((bel1 wr (attO a)).cell (p:=⟨g2,_,none⟩) hg').trans ((hB.cell (p:=⟨g2,_,none⟩) hg2).trans k0)
    have s1:=((bel1 wr (attO a)).cell (p:=⟨g2,_,none⟩) hg').trans ((hB.cell (p:=⟨g2,_,none⟩) hg2).trans k1)
    have s2:=((bel1 wr (attO a)).cell (p:=⟨g2,_,none⟩) hg').trans ((hB.cell (p:=⟨g2,_,none⟩) hg2).trans k2)
    have c:=sameAttr_any a b ((wr.alloc (attO a)).alloc (attO b))
    have HT:=Hid.mkS (hB.trans ((two_b wr (attO a) (attO b)).mono hB.size))
    have hlti:(j:Int) < l.length:=by omega
    have hltm:(j:Int) < m.length:=by have:=HL.out;omega
    have hd:=sameAs_drop hx hy
    clear q0 q1 q2 k0 k1 k2 ha hb hx hy
    obtain ⟨n1,v1,p1⟩:=a
    obtain ⟨n2,v2,p2⟩:=b
    simp only at r0 r1 r2 s0 s1 s2 c HT
    cases hs:sameA ⟨n1,v1,p1⟩ ⟨n2,v2,p2⟩
    ·rw [hs] at c hd
     have HX:Hid (sameAs l m = false):=Hid.mkS (by rw [hq.out,hd];rfl)
     clear hs hd hq
     go_wp2_with fail
     refine c.mono ?_
     rintro e w1 ⟨rfl,hb1⟩
     go_wp2_with fail
     go_ret
     exact ⟨by rw [HX.out];rfl,HT.out.trans (hb1.mono HT.out.size)⟩
    ·rw [hs] at c hd
     have HX:Hid (sameAs l m = sameAs (l.drop (j + 1)) (m.drop (j + 1))):=Hid.mkS (by rw [hq.out,hd];rfl)
     clear hs hd hq
     go_wp2_with fail
     refine c.mono ?_
     rintro e w1 ⟨rfl,hb1⟩
     go_wp2_with fail
     go_roundw
     case rel=>exact ⟨j + 1,by omega,by go_num,HT.out.trans (hb1.mono HT.out.size),HX,trivial⟩
     case measure=>simp [RowKit.intOf];omega
   ·obtain rfl:j = l.length:=by omega
    have HX:Hid (sameAs l m = true):=Hid.mkS (by rw [hq.out,List.drop_length,HL.out,List.drop_length];rfl)
    clear hq
    go_wp2_with fail
    go_ret
    exact ⟨by rw [HX.out];rfl,hB⟩
 ·have hs:sameAs l m = false:=by
   cases h:sameAs l m
   ·rfl
   ·exact absurd (sameAs_len h) hlm
  have b0:((l.length:Int) == (m.length:Int)) = false:=beq_eq_false_iff_ne.2 (by omega)
  have b1:((l.length:Int) != (m.length:Int)) = true:=by rw [bne,b0];rfl
  rw [hs]
  go_enter Tryz.func62,Tryz.ntmps62
  go_wp2_with fail
  go_ret
  exact ⟨rfl,Below.refl _ _⟩
abbrev elW (e:El) (v:Value):Value:=.agg #[.int .i64 e.d,.string e.nm,v,.string e.tx,.int .i64 e.p]
abbrev elB (e:El) (v:Value):Obj:=.cells #[.int .i64 e.d,.string e.nm,v,.string e.tx,.int .i64 e.p] 32
theorem sameElem_any (a b:El) (pa pb:Option Addr) (ca cb:Nat) (w:World) (ha:ARow w pa w.heap.size a.ats) (hb:ARow w pb w.heap.size b.ats) (hl:a.ats.length ≤ 100000000) :
  Calls Tryz.prog 38 #[elW a (.slice pa a.ats.length ca),elW b (.slice pb b.ats.length cb)] w fun e w'=>e = .returned (.bool (sameE a b)) ∧ Below w.heap.size w w':=by
 have HB:=Hid.mkS (two_b w (elB a (.slice pa a.ats.length ca)) (elB b (.slice pb b.ats.length cb)))
 have hA:=two_1 w (elB a (.slice pa a.ats.length ca)) (elB b (.slice pb b.ats.length cb))
 have hB:=two_2 w (elB a (.slice pa a.ats.length ca)) (elB b (.slice pb b.ats.length cb))
 have c:=eqAttrs_any a.ats b.ats pa pb ca cb _ ((ha.below HB.out).mono HB.out.size) ((hb.below HB.out).mono HB.out.size) hl
 generalize hW:(w.alloc (elB a (.slice pa a.ats.length ca))).alloc (elB b (.slice pb b.ats.length cb)) = W at HB hA hB c
 have a0:W.cell? ⟨w.heap.size,0,none⟩ = some (.int .i64 a.d):=by simp only [World.cell?,hA];rfl
 have a1:W.cell? ⟨w.heap.size,1,none⟩ = some (.string a.nm):=by simp only [World.cell?,hA];rfl
 have a2:W.cell? ⟨w.heap.size,2,none⟩ = some (.slice pa a.ats.length ca):=by simp only [World.cell?,hA];rfl
 have a3:W.cell? ⟨w.heap.size,3,none⟩ = some (.string a.tx):=by simp only [World.cell?,hA];rfl
 have b0:W.cell? ⟨w.heap.size + 1,0,none⟩ = some (.int .i64 b.d):=by simp only [World.cell?,hB];rfl
 have b1:W.cell? ⟨w.heap.size + 1,1,none⟩ = some (.string b.nm):=by simp only [World.cell?,hB];rfl
 have b2:W.cell? ⟨w.heap.size + 1,2,none⟩ = some (.slice pb b.ats.length cb):=by simp only [World.cell?,hB];rfl
 have b3:W.cell? ⟨w.heap.size + 1,3,none⟩ = some (.string b.tx):=by simp only [World.cell?,hB];rfl
 clear hA hB ha hb
 obtain ⟨d1,n1,l1,t1,p1⟩:=a
 obtain ⟨d2,n2,l2,t2,p2⟩:=b
 simp only [sameE] at a0 a1 a2 a3 b0 b1 b2 b3 c hW hl ⊢
 by_cases h:d1 = d2
 ·subst h
  have z0:(d1 == d1) = true:=by simp
  by_cases h2:n1 = n2
  ·subst h2
   by_cases h3:t1 = t2
   ·subst h3
    generalize sameAs l1 l2 = R at c ⊢
    go_enter Tryz.func38,Tryz.ntmps38
    go_wp2_with (go_at_call 62;refine c.mono ?_;rintro _ w1 ⟨rfl,hb1⟩)
    go_ret
    exact ⟨by simp,HB.out.trans (hb1.mono HB.out.size)⟩
   ·have z2:=beq_ba h3
    clear c
    go_enter Tryz.func38,Tryz.ntmps38
    go_wp2_with fail
    go_ret
    exact ⟨by simp [h3],HB.out⟩
  ·have z2:=beq_ba h2
   clear c
   go_enter Tryz.func38,Tryz.ntmps38
   go_wp2_with fail
   go_ret
   exact ⟨by simp [h2],HB.out⟩
 ·have z:(d1 == d2) = false:=beq_eq_false_iff_ne.2 h
  clear c
  go_enter Tryz.func38,Tryz.ntmps38
  go_wp2_with fail
  go_ret
  exact ⟨by simp [h],HB.out⟩
theorem eqElems_any (l m:List El) (pa pb:Option Addr) (ca cb:Nat) (w:World) (ha:ERow w pa w.heap.size l) (hb:ERow w pb w.heap.size m) (hl:l.length ≤ 100000000) (hz:∀ a ∈ l,a.ats.length ≤ 100000000) :
  Calls Tryz.prog 37 #[.slice pa l.length ca,.slice pb m.length cb,.func (.func 38) #[] #[]] w fun e w'=>e = .returned (.bool (sameEs l m)) ∧ Below w.heap.size w w':=by
 by_cases hlm:l.length = m.length
 ·have b0:((l.length:Int) == (m.length:Int)) = true:=by simp [hlm]
  have b1:((l.length:Int) != (m.length:Int)) = false:=by rw [bne,b0];rfl
  have HL:=Hid.mkS hlm
  clear hlm
  go_enter Tryz.func37,Tryz.ntmps37
  go_wp2_with fail
  clear b0 b1
  go_loopw [7,17] (fun i7 i wr=>∃ j:Nat,j ≤ l.length ∧ i = .int .i64 j ∧ Below w.heap.size w wr ∧ Hid (sameEs l m = sameEs (l.drop j) (m.drop j)) ∧ i7 = i7) (fun _ i _=>l.length - (RowKit.intOf i).toNat)
  case atStart=>exact ⟨0,Nat.zero_le _,rfl,Below.refl _ _,Hid.mkS rfl,rfl⟩
  case round =>
   obtain ⟨j,hj,rfl,hB,hq,-⟩:=hrel
   by_cases hlt:j < l.length
   ·obtain ⟨a,hx⟩:∃ a,l[j]? = some a:=⟨l[j],List.getElem?_eq_getElem hlt⟩
    obtain ⟨b,hy⟩:∃ b,m[j]? = some b:=⟨m[j]'(by have:=HL.out;omega),List.getElem?_eq_getElem (by have:=HL.out;omega)⟩
    obtain ⟨g,o,pa1,ca1,rfl,hg,q0,q1,q2,q3,q4,hA1⟩:=ha.c j a hx
    obtain ⟨g2,o2,pb1,cb1,rfl,hg2,k0,k1,k2,k3,k4,hA2⟩:=hb.c j b hy
    have hg':g2 < wr.heap.size:=Nat.lt_of_lt_of_le hg2 hB.size
    have r0:=(hB.cell (p:=⟨g,_,none⟩) hg).trans q0
    have r1:=(hB.cell (p:=⟨g,_,none⟩) hg).trans q1
    have r2:=(hB.cell (p:=⟨g,_,none⟩) hg).trans q2
    have r3:=(hB.cell (p:=⟨g,_,none⟩) hg).trans q3
    have r4:=(hB.cell (p:=⟨g,_,none⟩) hg).trans q4
    have s0:=((bel1 wr (elB a (.slice pa1 a.ats.length ca1))).cell (p:=⟨g2,_,none⟩) hg').trans ((hB.cell (p:=⟨g2,_,none⟩) hg2).trans k0)
    have s1:=((bel1 wr (elB a (.slice pa1 a.ats.length ca1))).cell (p:=⟨g2,_,none⟩) hg').trans ((hB.cell (p:=⟨g2,_,none⟩) hg2).trans k1)
    have s2:=((bel1 wr (elB a (.slice pa1 a.ats.length ca1))).cell (p:=⟨g2,_,none⟩) hg').trans ((hB.cell (p:=⟨g2,_,none⟩) hg2).trans k2)
    have s3:=((bel1 wr (elB a (.slice pa1 a.ats.length ca1))).cell (p:=⟨g2,_,none⟩) hg').trans ((hB.cell (p:=⟨g2,_,none⟩) hg2).trans k3)
    have s4:=((bel1 wr (elB a (.slice pa1 a.ats.length ca1))).cell (p:=⟨g2,_,none⟩) hg').trans ((hB.cell (p:=⟨g2,_,none⟩) hg2).trans k4)
    have HW:∀ {p:Option Addr} {z:List Att},ARow w p w.heap.size z → ARow ((wr.alloc (elB a (.slice pa1 a.ats.length ca1))).alloc (elB b (.slice pb1 b.ats.length cb1))) p ((wr.alloc (elB a (.slice pa1 a.ats.length ca1))).alloc (elB b (.slice pb1 b.ats.length cb1))).heap.size z:=fun h=>((h.below (hB.trans ((two_b wr _ _).mono hB.size))).mono (hB.trans ((two_b wr _ _).mono hB.size)).size)
    have c:=sameElem_any a b pa1 pb1 ca1 cb1 ((wr.alloc (elB a (.slice pa1 a.ats.length ca1))).alloc (elB b (.slice pb1 b.ats.length cb1))) (HW hA1) (HW hA2) (hz a (List.mem_of_getElem? hx))
    have HT:=Hid.mkS (hB.trans ((two_b wr (elB a (.slice pa1 a.ats.length ca1)) (elB b (.slice pb1 b.ats.length cb1))).mono hB.size))
    have hlti:(j:Int) < l.length:=by omega
    have hltm:(j:Int) < m.length:=by have:=HL.out;omega
    have hd:=sameEs_drop hx hy
    clear q0 q1 q2 q3 q4 k0 k1 k2 k3 k4 ha hb hx hy hA1 hA2 HW hz
    obtain ⟨d1,n1,l1,t1,p1⟩:=a
    obtain ⟨d2,n2,l2,t2,p2⟩:=b
    simp only at r0 r1 r2 r3 r4 s0 s1 s2 s3 s4 c HT
    cases hs:sameE ⟨d1,n1,l1,t1,p1⟩ ⟨d2,n2,l2,t2,p2⟩
    ·rw [hs] at c hd
     have HX:Hid (sameEs l m = false):=Hid.mkS (by rw [hq.out,hd];rfl)
     clear hs hd hq
     go_wp2_with fail
     refine c.mono ?_
     rintro e w1 ⟨rfl,hb1⟩
     go_wp2_with fail
     go_ret
     exact ⟨by rw [HX.out];rfl,HT.out.trans (hb1.mono HT.out.size)⟩
    ·rw [hs] at c hd
     have HX:Hid (sameEs l m = sameEs (l.drop (j + 1)) (m.drop (j + 1))):=Hid.mkS (by rw [hq.out,hd];rfl)
     clear hs hd hq
     go_wp2_with fail
     refine c.mono ?_
     rintro e w1 ⟨rfl,hb1⟩
     go_wp2_with fail
     go_roundw
     case rel=>exact ⟨j + 1,by omega,by go_num,HT.out.trans (hb1.mono HT.out.size),HX,trivial⟩
     case measure=>simp [RowKit.intOf];omega
   ·obtain rfl:j = l.length:=by omega
    have HX:Hid (sameEs l m = true):=Hid.mkS (by rw [hq.out,List.drop_length,HL.out,List.drop_length];rfl)
    clear hq
    go_wp2_with fail
    go_ret
    exact ⟨by rw [HX.out];rfl,hB⟩
 ·have hs:sameEs l m = false:=by
   cases h:sameEs l m
   ·rfl
   ·exact absurd (sameEs_len h) hlm
  have b0:((l.length:Int) == (m.length:Int)) = false:=beq_eq_false_iff_ne.2 (by omega)
  have b1:((l.length:Int) != (m.length:Int)) = true:=by rw [bne,b0];rfl
  rw [hs]
  go_enter Tryz.func37,Tryz.ntmps37
  go_wp2_with fail
  go_ret
  exact ⟨rfl,Below.refl _ _⟩
theorem Same_any (l m:List El) (pa pb:Option Addr) (ca cb:Nat) (w:World) (ha:ERow w pa w.heap.size l) (hb:ERow w pb w.heap.size m) (hl:l.length ≤ 100000000) (hz:∀ a ∈ l,a.ats.length ≤ 100000000) :
  Calls Tryz.prog 20 #[.slice pa l.length ca,.slice pb m.length cb] w fun e w'=>e = .returned (.bool (sameEs l m)) ∧ Below w.heap.size w w':=by
 have c:=eqElems_any l m pa pb ca cb w ha hb hl hz
 go_enter Tryz.func20,Tryz.ntmps20
 go_wp2_with (go_at_call 37;refine c.mono ?_;rintro _ w1 ⟨rfl,hb1⟩)
 go_ret
 exact ⟨rfl,hb1⟩
open Go
def chrB (s:ByteArray):Bool:=decide ((faultN xmlB s).1 = 0)
def atE (l:List Att):List Att → Nat
 | []=>0
 | a :: r=>if xmlNameB a.nm = true ∧ chrB a.vl = true then (if hasA l a.nm = true then 52 else atE (l ++ [a]) r) else 55
def elE (n:Nat) (ahead:Int) (e:El):Nat :=
 if e.d < 1 ∨ ahead + 1 < e.d then 55
 else if e.d = 1 ∧ 0 < n then 53
 else if 16 < e.d then 50
 else if 20000 ≤ n then 54
 else if xmlNameB e.nm = false then 55
 else if 24 < e.ats.length then 54
 else if atE [] e.ats ≠ 0 then atE [] e.ats
 else if chrB e.tx = true then 0 else 55
def chkF:List El → Nat → Int → Nat × Nat
 | [],_,_=>(0,0)
 | e :: r,n,ahead=>if elE n ahead e = 0 then chkF r (n + 1) e.d else (elE n ahead e,n)
def chkZ (es:List El):Nat × Nat:=if es = [] then (53,0) else chkF es 0 0
theorem pof_esc (attr:Bool) (vl:ByteArray):(escB attr vl).data.toList.map UInt8.toNat = escL attr (lOf vl):=by
 show lOf (escB attr vl) = _
 unfold escB
 exact lOf_sOf _ fun b hb=>(esc_clean attr (lOf vl) (lOf_lt vl) b hb).1
theorem lw0 (nm vl:ByteArray):lOf (wrB 0 nm vl) = 60 :: lOf nm:=by unfold lOf;rw [wl0];rfl
theorem lw1 (nm vl:ByteArray):lOf (wrB 1 nm vl) = 32 :: (lOf nm ++ 61 :: 34 :: (escL true (lOf vl) ++ [34])):=by
 have e:=pof_esc true vl
 unfold lOf at e ⊢
 rw [wl1,← e]
 simp
theorem lw2 (nm vl:ByteArray):lOf (wrB 2 nm vl) = [62]:=by unfold lOf;rw [wl2];rfl
theorem lw3 (nm vl:ByteArray):lOf (wrB 3 nm vl) = [47,62]:=by unfold lOf;rw [wl3];rfl
theorem lw4 (nm vl:ByteArray):lOf (wrB 4 nm vl) = 60 :: 47 :: (lOf nm ++ [62]):=by unfold lOf;rw [wl4];simp
theorem lw5 (nm vl:ByteArray):lOf (wrB 5 nm vl) = escL false (lOf vl):=by
 have e:=pof_esc false vl
 unfold lOf at e ⊢
 rw [wl5]
 exact e
theorem pesc_nil:escL false [] = []:=rfl
structure GE (e:El):Prop where
 nm:xmlNameB e.nm = true
 a24:e.ats.length ≤ 24
 ats:∀ a ∈ e.ats,xmlNameB a.nm = true ∧ VX (lOf a.vl)
 tx:VX (lOf e.tx)
def Tr:Int → List El → Prop
 | _,[]=>True
 | a,e :: r=>1 ≤ e.d ∧ e.d ≤ a + 1 ∧ e.d ≤ 16 ∧ GE e ∧ Tr e.d r
theorem chr_vx {s:ByteArray} (h:chrB s = true):VX (lOf s):=(chars_iff s).1 (of_decide_eq_true h)
theorem atE_ok:∀ (r l:List Att),atE l r = 0 → ∀ a ∈ r,xmlNameB a.nm = true ∧ VX (lOf a.vl)
 | [],_,_,a,h=>by cases h
 | b :: r,l,h,a,ha=>by
  unfold atE at h
  split at h
  ·rename_i hb
   split at h
   ·cases h
   ·rcases List.mem_cons.1 ha with rfl | ha
    ·exact ⟨hb.1,chr_vx hb.2⟩
    ·exact atE_ok r _ h a ha
  ·cases h
theorem elE_ok {n:Nat} {ahead:Int} {e:El} (h:elE n ahead e = 0):1 ≤ e.d ∧ e.d ≤ ahead + 1 ∧ e.d ≤ 16 ∧ GE e ∧ (0 < n → 2 ≤ e.d) ∧ n < 20000:=by
 unfold elE at h
 split at h
 ·cases h
 ·split at h
  ·cases h
  ·split at h
   ·cases h
   ·split at h
    ·cases h
    ·split at h
     ·cases h
     ·split at h
      ·cases h
      ·split at h
       ·rename_i hx;exact absurd h hx
       ·split at h
        ·rename_i h1 h2 h3 h4 h5 h6 h7 h8
         exact ⟨by omega,by omega,by omega,⟨by simpa using h5,by omega,atE_ok _ _ (by simpa using h7),chr_vx h8⟩,by omega,by omega⟩
        ·cases h
theorem chkF_ok:∀ (r:List El) (n:Nat) (ahead:Int),(chkF r n ahead).1 = 0 → Tr ahead r ∧ (0 < n → ∀ e ∈ r,2 ≤ e.d) ∧ (r ≠ [] → n + r.length ≤ 20000)
 | [],_,_,_=>by
  refine ⟨trivial,fun _ e he=>?_,fun h=>absurd rfl h⟩
  cases he
 | e :: r,n,ahead,h=>by
  unfold chkF at h
  split at h
  ·rename_i he
   obtain ⟨a1,a2,a3,a4,a5,a6⟩:=elE_ok he
   obtain ⟨b1,b2,b3⟩:=chkF_ok r (n + 1) e.d h
   refine ⟨⟨a1,a2,a3,a4,b1⟩,fun hn x hx=>?_,fun _=>?_⟩
   ·rcases List.mem_cons.1 hx with rfl | hx
    ·exact a5 hn
    ·exact b2 (by omega) x hx
   ·rw [List.length_cons]
    by_cases hr:r = []
    ·subst hr;simp;omega
    ·have:=b3 hr;omega
  ·rename_i he;exact absurd h he
theorem chkF_zero:∀ (r:List El) (n:Nat) (ahead:Int),(chkF r n ahead).1 = 0 → chkF r n ahead = (0,0)
 | [],_,_,_=>rfl
 | e :: r,n,ahead,h=>by
  unfold chkF at h ⊢
  split at h
  ·rename_i he;rw [if_pos he];exact chkF_zero r _ _ h
  ·rename_i he;exact absurd h he
def pcC (nm:ByteArray):IT:=⟨4,nm,E0,0⟩
def pcO (nm:ByteArray):IT:=⟨0,nm,E0,0⟩
def pcA (a:Att):IT:=⟨1,a.nm,a.vl,0⟩
def pcE:IT:=⟨2,E0,E0,0⟩
def pcM:IT:=⟨3,E0,E0,0⟩
def pcT (v:ByteArray):IT:=⟨5,E0,v,0⟩
def shutL (st:List ByteArray) (d:Nat):List IT:=(st.take (st.length - d)).map pcC
def cutS (st:List ByteArray) (d:Nat):List ByteArray:=st.drop (st.length - d)
def holdsB (e:El):List El → Bool
 | []=>false
 | x :: _=>decide (e.d < x.d)
def leaf (e:El) (h:Bool):Bool:=!h && decide (e.tx.size = 0)
def putP (e:El) (h:Bool):List IT :=
 pcO e.nm :: (e.ats.map pcA ++ (if leaf e h = true then [pcM] else pcE :: (if e.tx.size = 0 then [] else [pcT e.tx])))
def putS (e:El) (h:Bool) (st:List ByteArray):List ByteArray:=if leaf e h = true then st else e.nm :: st
def pcsF:List El → List ByteArray → List IT
 | [],st=>shutL st 0
 | e :: r,st=>shutL st (e.d - 1).toNat ++ (putP e (holdsB e r) ++ pcsF r (putS e (holdsB e r) (cutS st (e.d - 1).toNat)))
def kidsS (d:Int):List El → List (List El)
 | []=>[]
 | e :: r=>if d < e.d then (if e.d = d + 1 then (e :: r) :: kidsS d r else kidsS d r) else []
def skipS (d:Int):List El → List El
 | []=>[]
 | e :: r=>if d < e.d then skipS d r else e :: r
def attTx (a:Att):List Nat:=32 :: (lOf a.nm ++ 61 :: 34 :: (escL true (lOf a.vl) ++ [34]))
def prtS:Nat → List El → List Nat
 | 0,_=>[]
 | _ + 1,[]=>[]
 | f + 1,x :: r=>60 :: (lOf x.nm ++ (x.ats.flatMap attTx ++ (if kidsS x.d r = [] ∧ x.tx.size = 0 then [47,62] else 62 :: (escL false (lOf x.tx) ++ ((kidsS x.d r).flatMap (prtS f) ++ 60 :: 47 :: (lOf x.nm ++ [62]))))))
theorem shutL_self (st:List ByteArray):shutL st st.length = []:=by unfold shutL;simp
theorem cutS_self (st:List ByteArray):cutS st st.length = st:=by unfold cutS;simp
theorem shutL_cons (nm:ByteArray) (st:List ByteArray) (d:Nat) (h:d ≤ st.length):shutL (nm :: st) d = pcC nm :: shutL st d:=by
 unfold shutL
 rw [List.length_cons,show st.length + 1 - d = (st.length - d) + 1 by omega,List.take_succ_cons,List.map_cons]
theorem cutS_cons (nm:ByteArray) (st:List ByteArray) (d:Nat) (h:d ≤ st.length):cutS (nm :: st) d = cutS st d:=by
 unfold cutS
 rw [List.length_cons,show st.length + 1 - d = (st.length - d) + 1 by omega,List.drop_succ_cons]
theorem pcsF_close (nm:ByteArray) (st:List ByteArray):∀ r:List El,(∀ e ∈ r.head?,(e.d - 1).toNat ≤ st.length) → pcsF r (nm :: st) = pcC nm :: pcsF r st
 | [],_=>by unfold pcsF;exact shutL_cons nm st 0 (Nat.zero_le _)
 | e :: r,h=>by
  have h1:=h e (by simp)
  unfold pcsF
  rw [shutL_cons nm st _ h1,cutS_cons nm st _ h1]
  rfl
theorem flatL_app (a b:List IT):flatL (a ++ b) = flatL a ++ flatL b:=by unfold flatL;exact List.flatMap_append
theorem flatL_cons (a:IT) (b:List IT):flatL (a :: b) = lOf (wrB a.k.toNat a.nm a.vl) ++ flatL b:=by unfold flatL;rw [List.flatMap_cons]
theorem flatL_ats:∀ l:List Att,flatL (l.map pcA) = l.flatMap attTx
 | []=>rfl
 | a :: l=>by rw [List.map_cons,flatL_cons,flatL_ats l,List.flatMap_cons];exact congrArg (· ++ _) (lw1 a.nm a.vl)
theorem kids_skip (d:Int):∀ r:List El,kidsS d (skipS (d + 1) r) = kidsS d r
 | []=>rfl
 | e :: r=>by
  unfold skipS
  split
  ·rename_i h
   rw [kids_skip d r]
   conv=>rhs;unfold kidsS
   rw [if_pos (by omega),if_neg (by omega)]
  ·rfl
theorem skip_skip (d:Int):∀ r:List El,skipS d (skipS (d + 1) r) = skipS d r
 | []=>rfl
 | e :: r=>by
  conv=>lhs;rw [skipS]
  split
  ·rename_i h
   rw [skip_skip d r]
   conv=>rhs;unfold skipS
   rw [if_pos (by omega)]
  ·rfl
theorem skip_len (d:Int):∀ r:List El,(skipS d r).length ≤ r.length
 | []=>Nat.le_refl _
 | e :: r=>by
  unfold skipS
  split
  ·have:=skip_len d r;rw [List.length_cons];omega
  ·exact Nat.le_refl _
theorem tr_weak {a b:Int} (h:a ≤ b):∀ r:List El,Tr a r → Tr b r
 | [],_=>trivial
 | _ :: _,⟨h1,h2,h3,h4,h5⟩=>⟨h1,by omega,h3,h4,h5⟩
theorem tr_skip (d:Int):∀ (r:List El) (a:Int),Tr a r → Tr (d - 1) (skipS d r)
 | [],_,_=>trivial
 | e :: r,a,⟨h1,h2,h3,h4,h5⟩=>by
  unfold skipS
  split
  ·exact tr_skip d r e.d h5
  ·exact ⟨h1,by omega,h3,h4,h5⟩
theorem kids_none {e:El} {r:List El} (h:holdsB e r = false):kidsS e.d r = []:=by
 cases r with
 | nil=>rfl
 | cons x r =>
  have:¬ e.d < x.d:=of_decide_eq_false h
  unfold kidsS
  rw [if_neg this]
theorem kids_some {e:El} {r:List El} (h:holdsB e r = true) (ht:Tr e.d r):kidsS e.d r ≠ []:=by
 cases r with
 | nil=>cases h
 | cons x r =>
  have:e.d < x.d:=of_decide_eq_true h
  have h2:=ht.2.1
  unfold kidsS
  rw [if_pos this,if_pos (by omega)]
  exact List.cons_ne_nil _ _
theorem skip_head (d:Int):∀ (r:List El),∀ e ∈ (skipS d r).head?,e.d ≤ d
 | [],e,h=>by cases h
 | x :: r,e,h=>by
  unfold skipS at h
  split at h
  ·exact skip_head d r e h
  ·rename_i hx
   have:x = e:=by simpa using h
   subst this
   omega
theorem pcs_main:∀ (n:Nat) (r:List El) (d:Nat) (st:List ByteArray) (f:Nat),r.length ≤ n → Tr d r → st.length = d → 16 ≤ f + d →
  flatL (pcsF r st) = (kidsS d r).flatMap (prtS f) ++ flatL (pcsF (skipS d r) st)
 | _,[],d,st,f,_,_,_,_=>rfl
 | 0,_ :: _,_,_,_,h,_,_,_=>absurd h (by simp)
 | n + 1,e :: r,d,st,f,hn,⟨h1,h2,h3,h4,h5⟩,hst,hf=>by
  rw [List.length_cons] at hn
  by_cases hd:(d:Int) < e.d
  ·have hed:e.d = d + 1:=by omega
   obtain ⟨f,rfl⟩:∃ g,f = g + 1:=⟨f - 1,by omega⟩
   have hk:kidsS d (e :: r) = (e :: r) :: kidsS d r:=by rw [kidsS,if_pos hd,if_pos hed]
   have hs:skipS d (e :: r) = skipS d r:=by rw [skipS,if_pos hd]
   rw [hk,hs,List.flatMap_cons]
   have hz:(e.d - 1).toNat = st.length:=by omega
   rw [pcsF,hz,shutL_self,cutS_self,List.nil_append,flatL_app]
   unfold putP putS
   rw [flatL_cons,flatL_app,flatL_ats,prtS]
   have e0:lOf (wrB (pcO e.nm).k.toNat (pcO e.nm).nm (pcO e.nm).vl) = 60 :: lOf e.nm:=lw0 _ _
   rw [e0]
   cases hl:leaf e (holdsB e r)
   ·
    simp only [Bool.false_eq_true,if_false]
    have hne:¬ (kidsS e.d r = [] ∧ e.tx.size = 0):=by
     rintro ⟨a,b⟩
     unfold leaf at hl
     rw [decide_eq_true b,Bool.and_true] at hl
     exact kids_some (by simpa using hl) h5 a
    rw [if_neg hne,flatL_cons]
    have e2:lOf (wrB pcE.k.toNat pcE.nm pcE.vl) = [62]:=lw2 _ _
    have et:flatL (if e.tx.size = 0 then [] else [pcT e.tx]) = escL false (lOf e.tx):=by
     split
     ·rename_i hz
      have:lOf e.tx = []:=by
       unfold lOf
       rw [List.map_eq_nil_iff,← List.length_eq_zero_iff]
       exact hz
      rw [this,pesc_nil]
      rfl
     ·rw [flatL_cons]
      have:lOf (wrB (pcT e.tx).k.toNat (pcT e.tx).nm (pcT e.tx).vl) = escL false (lOf e.tx):=lw5 _ _
      rw [this]
      show _ ++ [] = _
      rw [List.append_nil]
    have i1:=pcs_main n r (d + 1) (e.nm :: st) f (by omega) (by rw [hed] at h5;exact h5) (by rw [List.length_cons,hst]) (by omega)
    have i2:=pcs_main n (skipS ((d + 1:Nat):Int) r) d st (f + 1) (by have:=skip_len ((d + 1:Nat):Int) r;omega) (by have:=tr_skip ((d + 1:Nat):Int) r e.d h5;exact tr_weak (by omega) _ this) hst hf
    have i3:=pcsF_close e.nm st (skipS ((d + 1:Nat):Int) r) (fun x hx=>by have:=skip_head ((d + 1:Nat):Int) r x hx;omega)
    rw [i3,flatL_cons] at i1
    have e4:lOf (wrB (pcC e.nm).k.toNat (pcC e.nm).nm (pcC e.nm).vl) = 60 :: 47 :: (lOf e.nm ++ [62]):=lw4 _ _
    have hcast:((d + 1:Nat):Int) = (d:Int) + 1:=by omega
    rw [hcast,kids_skip,skip_skip] at i2
    rw [hcast,i2,e4] at i1
    rw [i1,e2,et,hed]
    simp only [List.append_assoc,List.cons_append,List.nil_append]
   ·rw [if_pos rfl,if_pos rfl]
    have hh:holdsB e r = false ∧ e.tx.size = 0:=by
     unfold leaf at hl
     simpa using hl
    rw [if_pos ⟨kids_none hh.1,hh.2⟩]
    have e3:lOf (wrB pcM.k.toNat pcM.nm pcM.vl) = [47,62]:=lw3 _ _
    rw [flatL_cons,e3]
    have ht:Tr d r:=by
     cases r with
     | nil=>trivial
     | cons x r =>
      have:¬ e.d < x.d:=of_decide_eq_false hh.1
      exact ⟨h5.1,by omega,h5.2.2.1,h5.2.2.2.1,h5.2.2.2.2⟩
    rw [pcs_main n r d st (f + 1) (by omega) ht hst hf]
    show _ ++ (_ ++ ([47,62] ++ [])) ++ _ = _
    simp only [List.append_assoc,List.cons_append,List.nil_append,List.append_nil]
  ·have hk:kidsS d (e :: r) = []:=by rw [kidsS,if_neg hd]
   have hs:skipS d (e :: r) = e :: r:=by rw [skipS,if_neg hd]
   rw [hk,hs]
   rfl
theorem skip_deep {d:Int}:∀ (r:List El),(∀ e ∈ r,d < e.d) → skipS d r = []
 | [],_=>rfl
 | e :: r,h=>by rw [skipS,if_pos (h e (by simp)),skip_deep r fun x hx=>h x (by simp [hx])]
theorem kids_deep {d:Int}:∀ (r:List El),(∀ e ∈ r,d + 1 < e.d) → kidsS d r = []
 | [],_=>rfl
 | e :: r,h=>by
  have:=h e (by simp)
  rw [kidsS,if_pos (by omega),if_neg (by omega),kids_deep r fun x hx=>h x (by simp [hx])]
theorem pcs_all {es:List El} (h:(chkZ es).1 = 0):flatL (pcsF es []) = prtS 16 es:=by
 cases es with
 | nil=>cases h
 | cons e r =>
  unfold chkZ at h
  rw [if_neg (List.cons_ne_nil _ _)] at h
  obtain ⟨ht,-,-⟩:=chkF_ok _ _ _ h
  have h2:∀ x ∈ r,2 ≤ x.d:=by
   unfold chkF at h
   split at h
   ·exact (chkF_ok _ _ _ h).2.1 (by omega)
   ·rename_i he;exact absurd h he
  have hd:e.d = 1:=by have:=ht.1;have:=ht.2.1;omega
  have m:=pcs_main _ (e :: r) 0 [] 16 (Nat.le_refl _) ht rfl (by omega)
  have hk:kidsS ((0:Nat):Int) (e :: r) = [e :: r]:=by
   rw [kidsS,if_pos (by omega),if_pos (by omega),kids_deep r fun x hx=>by have:=h2 x hx;omega]
  have hs:skipS ((0:Nat):Int) (e :: r) = []:=skip_deep _ fun x hx=>by
   rcases List.mem_cons.1 hx with rfl | hx
   ·omega
   ·have:=h2 x hx;omega
  rw [hk,hs] at m
  rw [m]
  simp [pcsF,shutL,flatL]
theorem chn_app:∀ (a b:List IT) (last:Int),(∀ t ∈ a,t.k = 4 ∧ xmlNameB t.nm = true ∧ t.vl = E0) → inT last = false → (∀ l:Int,(l = last ∨ l = 4) → Chn l b) → Chn last (a ++ b)
 | [],b,last,_,_,hb=>hb last (.inl rfl)
 | t :: a,b,last,ha,hl,hb=>by
  obtain ⟨h1,h2,h3⟩:=ha t (by simp)
  refine ⟨fits_put (k:=4) h1 ⟨by decide,fun h=>absurd h (by decide),fun _=>h3,hl.symm,fun h=>absurd h (by decide),fun h=>absurd h (by decide),fun _=>h2,by rw [h3];exact vx_nil,fun h=>absurd h (by decide),fun h=>absurd h (by decide)⟩,?_⟩
  rw [h1]
  exact chn_app a b 4 (fun t ht=>ha t (by simp [ht])) (by decide) fun l hl=>hb l (.inr (by rcases hl with h | h <;> exact h))
theorem chn_ats:∀ (l:List Att) (b:List IT) (last:Int),(∀ a ∈ l,xmlNameB a.nm = true ∧ VX (lOf a.vl)) → inT last = true → (∀ k:Int,inT k = true → Chn k b) → Chn last (l.map pcA ++ b)
 | [],b,last,_,hl,hb=>hb last hl
 | a :: l,b,last,h,hl,hb=>by
  obtain ⟨h2,h3⟩:=h a (by simp)
  exact ⟨fits_put (k:=1) rfl ⟨by decide,fun h=>absurd h (by decide),fun h=>absurd h (by decide),hl.symm,fun h=>absurd h (by decide),fun h=>absurd h (by decide),fun _=>h2,h3,fun h=>absurd h (by decide),fun h=>absurd h (by decide)⟩,chn_ats l b 1 (fun x hx=>h x (by simp [hx])) rfl hb⟩
theorem chn_pcs:∀ (r:List El) (a:Int) (st:List ByteArray) (last:Int),Tr a r → (∀ nm ∈ st,xmlNameB nm = true) → inT last = false → Chn last (pcsF r st)
 | [],a,st,last,_,hst,hl=>by
  unfold pcsF
  rw [← List.append_nil (shutL st 0)]
  refine chn_app _ _ last (fun t ht=>?_) hl fun l hl2=>?_
  ·obtain ⟨nm,hm,rfl⟩:=List.mem_map.1 ht
   exact ⟨rfl,hst nm (List.mem_of_mem_take hm),rfl⟩
  ·rcases hl2 with rfl | rfl
   ·exact hl
   ·rfl
 | e :: r,a,st,last,⟨h1,h2,h3,h4,h5⟩,hst,hl=>by
  unfold pcsF
  refine chn_app _ _ last (fun t ht=>?_) hl fun l hl2=>?_
  ·obtain ⟨nm,hm,rfl⟩:=List.mem_map.1 ht
   exact ⟨rfl,hst nm (List.mem_of_mem_take hm),rfl⟩
  ·have hll:inT l = false:=by
    rcases hl2 with rfl | rfl
    ·exact hl
    ·rfl
   have hcut:∀ nm ∈ cutS st (e.d - 1).toNat,xmlNameB nm = true:=fun nm hm=>hst nm (List.mem_of_mem_drop hm)
   unfold putP putS
   refine ⟨fits_put (k:=0) rfl ⟨by decide,fun h=>absurd h (by decide),fun _=>rfl,hll.symm,fun h=>absurd h (by decide),fun h=>absurd h (by decide),fun _=>h4.nm,vx_nil,fun h=>absurd h (by decide),fun h=>absurd h (by decide)⟩,?_⟩
   show Chn 0 ((_ ++ _) ++ _)
   rw [List.append_assoc]
   refine chn_ats e.ats _ _ h4.ats rfl fun k hk=>?_
   split
   ·refine ⟨fits_put (k:=3) rfl ⟨by decide,fun _=>rfl,fun _=>rfl,hk.symm,fun h=>absurd h (by decide),fun h=>absurd h (by decide),fun h=>absurd h (by decide),vx_nil,fun h=>absurd h (by decide),fun h=>absurd h (by decide)⟩,?_⟩
    exact chn_pcs r e.d _ 3 h5 hcut rfl
   ·have hcons:∀ nm ∈ e.nm :: cutS st (e.d - 1).toNat,xmlNameB nm = true:=fun nm hm=>by
     rcases List.mem_cons.1 hm with rfl | hm
     ·exact h4.nm
     ·exact hcut nm hm
    refine ⟨fits_put (k:=2) rfl ⟨by decide,fun _=>rfl,fun _=>rfl,hk.symm,fun h=>absurd h (by decide),fun h=>absurd h (by decide),fun h=>absurd h (by decide),vx_nil,fun h=>absurd h (by decide),fun h=>absurd h (by decide)⟩,?_⟩
    split
    ·exact chn_pcs r e.d _ 2 h5 hcons rfl
    ·rename_i hz
     refine ⟨fits_put (k:=5) rfl ⟨by decide,fun _=>rfl,fun h=>absurd h (by decide),rfl,fun h=>absurd h (by decide),fun _=>⟨?_,by decide⟩,fun h=>absurd h (by decide),h4.tx,fun h=>absurd h (by decide),fun h=>absurd h (by decide)⟩,chn_pcs r e.d _ 5 h5 hcons rfl⟩
     show 0 < e.tx.size
     omega
theorem chn_all {es:List El} (h:(chkZ es).1 = 0):Chn (-1) (pcsF es []):=by
 unfold chkZ at h
 split at h
 ·cases h
 ·exact chn_pcs es 0 [] (-1) (chkF_ok _ _ _ h).1 (fun nm hm=>by cases hm) rfl
theorem pcsF_len:∀ (r:List El) (a:Int) (st:List ByteArray),Tr a r → (pcsF r st).length ≤ st.length + r.length * 28
 | [],_,st,_=>by unfold pcsF shutL;rw [List.length_map,List.length_take];omega
 | e :: r,a,st,⟨h1,h2,h3,h4,h5⟩=>by
  unfold pcsF
  have ih:=pcsF_len r e.d (putS e (holdsB e r) (cutS st (e.d - 1).toNat)) h5
  have hp:(putS e (holdsB e r) (cutS st (e.d - 1).toNat)).length ≤ 1 + (cutS st (e.d - 1).toNat).length:=by
   unfold putS
   split
   ·omega
   ·rw [List.length_cons];omega
  have hq:(putP e (holdsB e r)).length ≤ 27:=by
   have:=h4.a24
   unfold putP
   split
   ·simp;omega
   ·split
    ·simp;omega
    ·simp;omega
  have hs:(shutL st (e.d - 1).toNat).length + (cutS st (e.d - 1).toNat).length = st.length:=by
   unfold shutL cutS
   rw [List.length_map,List.length_take,List.length_drop]
   omega
  rw [List.length_append,List.length_append,List.length_cons]
  omega
def prtZ (es:List El):List Nat × Nat × Nat :=
 if (chkZ es).1 = 0 then (if (prtS 16 es).length ≤ 1048576 then (prtS 16 es,0,0) else ([],45,es.length)) else ([],(chkZ es).1,(chkZ es).2)
theorem chk_len {es:List El} (h:(chkZ es).1 = 0):es.length ≤ 20000 ∧ es ≠ []:=by
 unfold chkZ at h
 split at h
 ·cases h
 ·rename_i hn
  exact ⟨by have:=(chkF_ok _ _ _ h).2.2 hn;omega,hn⟩
theorem chk_tr {es:List El} (h:(chkZ es).1 = 0):Tr 0 es:=by
 unfold chkZ at h
 split at h
 ·cases h
 ·exact (chkF_ok _ _ _ h).1
theorem chk_zero {es:List El} (h:(chkZ es).1 = 0):chkZ es = (0,0):=by
 unfold chkZ at h ⊢
 split at h
 ·cases h
 ·rename_i hn
  rw [if_neg hn]
  exact chkF_zero _ _ _ h
def p2 (vO vN:Value) (ts:List IT) (st:List ByteArray):Nat → Rw:=fun c =>
 if c = 0 then ⟨67,4,vO,ts.length,itCells ts⟩ else if c = 1 then ⟨9,1,vN,st.length,st.map .string⟩ else ⟨3,1,.slice none 0 0,0,[]⟩
theorem p2_up0 (vO vO' vN:Value) (ts ts':List IT) (st:List ByteArray):upF (p2 vO vN ts st) 0 ⟨67,4,vO',ts'.length,itCells ts'⟩ = p2 vO' vN ts' st:=by
 funext c
 unfold upF p2
 by_cases h:c = 0
 ·rw [if_pos h,if_pos h]
 ·rw [if_neg h,if_neg h,if_neg h]
theorem p2_up1 (vO vN vN':Value) (ts:List IT) (st st':List ByteArray):upF (p2 vO vN ts st) 1 ⟨9,1,vN',st'.length,st'.map .string⟩ = p2 vO vN' ts st':=by
 funext c
 unfold upF p2
 by_cases h:c = 1
 ·subst h;rfl
 ·rw [if_neg h]
  by_cases h0:c = 0
  ·rw [if_pos h0,if_pos h0]
  ·rw [if_neg h0,if_neg h0,if_neg h,if_neg h]
structure PP (W:World) (R bot:Nat) (vO vN:Value) (ts:List IT) (st:List ByteArray):Prop where
 c0:W.cell? ⟨R,0,none⟩ = some vO
 c1:W.cell? ⟨R,1,none⟩ = some vN
 fz:∀ o,W.frozen? ⟨R,o,none⟩ = false
 lt:R < bot
 hB:bot ≤ W.heap.size
 pf:PF W bot (p2 vO vN ts st)
theorem PP.own0 {W:World} {R bot:Nat} {vO vN:Value} {ts:List IT} {st:List ByteArray} (h:PP W R bot vO vN ts st):W.ownsRow bot 67 4 vO ts.length (itCells ts):=h.pf.own 0
theorem PP.own1 {W:World} {R bot:Nat} {vO vN:Value} {ts:List IT} {st:List ByteArray} (h:PP W R bot vO vN ts st):W.ownsRow bot 9 1 vN st.length (st.map .string):=h.pf.own 1
theorem PP.keep {W W':World} {R bot:Nat} {vO vN:Value} {ts:List IT} {st:List ByteArray} (h:PP W R bot vO vN ts st) (hb:Below W.heap.size W W'):PP W' R bot vO vN ts st:=by
 have hR:R < W.heap.size:=Nat.lt_of_lt_of_le h.lt h.hB
 have hh:=hb.block R hR
 exact ⟨(hb.cell (p:=⟨R,0,none⟩) hR).trans h.c0,(hb.cell (p:=⟨R,1,none⟩) hR).trans h.c1,fun o=>by rw [← h.fz o];simp only [World.frozen?,hh],h.lt,Nat.le_trans h.hB hb.size,h.pf.keep hb⟩
theorem ppf_app {W W1 W':World} {bot:Nat} {f:Nat → Rw} (h:PF W bot f) (hb:Below W.heap.size W W1) (c:Nat) {r:Rw} (hO:r.own W' bot) (hg:W1.grownBy W' (f c).v.ownBlock) (hv:r.v.ownBlock = (f c).v.ownBlock ∨ r.v.ownBlock = some W1.heap.size):PF W' bot (upF f c r) :=
 (h.keep hb).upd c hO (fun k hk=>by
  rcases hv with e | e
  ·exact .inl (e ▸ hk)
  ·rw [e] at hk;injection hk with hk;exact .inr (by omega)) (fun k _ hk hne=>hg.block k hk fun e=>hne e.symm)
theorem pap1 {W:World} {base:Nat} {t e:TypeId} {z:Value} {size bytes n:Nat} {v:Value} {xs:List Value} (ht:Tryz.prog.underlying t = some (.slice e)) (hi:(Tryz.prog.info? e).map (fun i=>(i.zero,i.size,i.bytes)) = some (some z,size,bytes)) (hz:z.cells.size = size) (hsz:0 < size)
  (own:W.ownsRow base e size v n xs) {G:Nat} {cs:Array Value} {fr:Nat × Nat} (hG:W.heap[G]? = some (.cells cs e fr)) (hcs:cs.toList.length = size) (h1:∀ u ∈ cs.toList,u.oneCell' = true) (hn:n ≤ 1000000000) (hb:bytes ≤ 100) (hbase:base ≤ W.heap.size) :
  ∃ v' w',(∀ ty,(Builtin.append_ #[t,t] ty #[v,.slice (some ⟨G,0,none⟩) 1 1]).run Tryz.prog W = .ok v' w') ∧ w'.ownsRow base e size v' (n + 1) (xs ++ cs.toList) ∧ W.grownBy w' v.ownBlock ∧ (v'.ownBlock = v.ownBlock ∨ v'.ownBlock = some W.heap.size):=by
 obtain ⟨i0,hi0,hz0⟩:=Option.map_eq_some_iff.1 hi
 simp only [Prod.mk.injEq] at hz0
 have hr:=fun ty=>run_append_own_at (P:=Tryz.prog) W base t ty e i0 z size bytes ht hi0 hz0.1 hz0.2.1 hz0.2.2 hz hsz v n xs own ⟨G,0,none⟩ 1 1 cs.toList (by rw [hcs,Nat.one_mul]) (World.news_of_block hG) h1 (by simp only [maxLen];omega) (Nat.le_trans (Nat.mul_le_mul (show n + 1 ≤ 1000000001 by omega) hb) (by decide)) hbase
 obtain ⟨v',w',q1,q2,q3,_,q4⟩:=hr 0
 refine ⟨v',w',fun ty=>?_,q2,q3,q4⟩
 have e:(Builtin.append_ #[t,t] ty #[v,.slice (some ⟨G,0,none⟩) 1 1]) = (Builtin.append_ #[t,t] 0 #[v,.slice (some ⟨G,0,none⟩) 1 1]):=rfl
 rw [e]
 exact q1
theorem infoStr:(Tryz.prog.info? 9).map (fun i=>(i.zero,i.size,i.bytes)) = some (some (.string ⟨#[]⟩),1,16):=by kernel_rfl
theorem Hid.mkP {p:Prop} (h:p):Hid p:=h
theorem heap_two2 (w:World) (A B:Obj):((w.alloc A).alloc B).heap[w.heap.size + 1]? = some B:=by
 show ((w.heap.push A).push B)[w.heap.size + 1]? = _
 rw [Array.getElem?_push,if_pos (by simp)]
theorem below_two (w:World) (A B:Obj):Below w.heap.size w ((w.alloc A).alloc B):=(bel1 w A).alloc (by simp) B
def itO (t:IT):Obj:=.cells #[.int .i64 t.k,.string t.nm,.string t.vl,.int .i64 t.p] 67
theorem itCells_snoc (ts:List IT) (t:IT):itCells (ts ++ [t]) = itCells ts ++ itC t:=by
 unfold itCells
 rw [List.flatMap_append]
 simp
structure Pk (R:Nat) (vO vN vO' vN':Value) (w w':World):Prop where
 os:w'.os = w.os
 tape:w'.tape = w.tape
 output:w'.output = w.output
 size:w.heap.size ≤ w'.heap.size
 block:∀ k,k < w.heap.size → k ≠ R → vO.ownBlock ≠ some k → vN.ownBlock ≠ some k → w'.heap[k]? = w.heap[k]?
 nO:∀ k,vO'.ownBlock = some k → vO.ownBlock = some k ∨ w.heap.size ≤ k
 nN:∀ k,vN'.ownBlock = some k → vN.ownBlock = some k ∨ w.heap.size ≤ k
theorem Pk.refl (R:Nat) (vO vN:Value) (w:World):Pk R vO vN vO vN w w:=⟨rfl,rfl,rfl,Nat.le_refl _,fun _ _ _ _ _=>rfl,fun _ h=>.inl h,fun _ h=>.inl h⟩
theorem Pk.of {R:Nat} {vO vN:Value} {w w':World} (h:Below w.heap.size w w'):Pk R vO vN vO vN w w':=⟨h.os,h.tape,h.output,h.size,fun k hk _ _ _=>h.block k hk,fun _ h=>.inl h,fun _ h=>.inl h⟩
theorem Pk.trans {R:Nat} {vO vN v1 n1 v2 n2:Value} {a b c:World} (h:Pk R vO vN v1 n1 a b) (q:Pk R v1 n1 v2 n2 b c):Pk R vO vN v2 n2 a c :=
 ⟨q.os.trans h.os,q.tape.trans h.tape,q.output.trans h.output,Nat.le_trans h.size q.size,
  fun k hk h1 h2 h3=>(q.block k (Nat.lt_of_lt_of_le hk h.size) h1 (fun e=>by rcases h.nO k e with e | e;exact h2 e;omega) (fun e=>by rcases h.nN k e with e | e;exact h3 e;omega)).trans (h.block k hk h1 h2 h3),
  fun k e=>by rcases q.nO k e with e | e;exact h.nO k e;exact .inr (Nat.le_trans h.size e),
  fun k e=>by rcases q.nN k e with e | e;exact h.nN k e;exact .inr (Nat.le_trans h.size e)⟩
theorem Pk.drewN {R:Nat} {vO vN v1 n1:Value} {a b:World} (h:Pk R vO vN v1 n1 a b) (n:Nat):Pk R vO vN v1 n1 a (b.drewN n):=⟨h.os,h.tape,h.output,h.size,h.block,h.nO,h.nN⟩
theorem PP.drewN {W:World} {R bot:Nat} {vO vN:Value} {ts:List IT} {st:List ByteArray} (h:PP W R bot vO vN ts st) (n:Nat):PP (W.drewN n) R bot vO vN ts st:=h.keep ⟨rfl,rfl,rfl,Nat.le_refl _,fun _ _=>rfl⟩
theorem Pk.below {R bot:Nat} {vO vN v1 n1:Value} {ts:List IT} {st:List ByteArray} {a b:World} (h:Pk R vO vN v1 n1 a b) (p:PP a R bot vO vN ts st):Below R a b :=
 ⟨h.os,h.tape,h.output,h.size,fun k hk=>h.block k (by have:=p.lt;have:=p.hB;omega) (by omega) (fun e=>by have:=(ownLt p.own0 e).1;have:=p.lt;omega) (fun e=>by have:=(ownLt p.own1 e).1;have:=p.lt;omega)⟩
theorem PP.put0 {w W1 w2:World} {R bot:Nat} {vO vN v2:Value} {ts ts':List IT} {st:List ByteArray} (h:PP w R bot vO vN ts st) (hb:Below w.heap.size w W1) (hown:w2.ownsRow bot 67 4 v2 ts'.length (itCells ts')) (hgr:W1.grownBy w2 vO.ownBlock) (hbk:v2.ownBlock = vO.ownBlock ∨ v2.ownBlock = some W1.heap.size) :
  Pk R vO vN v2 vN w (w2.setCell ⟨R,0,none⟩ v2) ∧ PP (w2.setCell ⟨R,0,none⟩ v2) R bot v2 vN ts' st ∧ w2.cell? ⟨R,0,none⟩ = some vO ∧ w2.frozen? ⟨R,0,none⟩ = false:=by
 have hR:=h.lt
 have hk:∀ k,k < w.heap.size → vO.ownBlock ≠ some k → w2.heap[k]? = w.heap[k]?:=fun k hk hne=>(hgr.block k (by have:=hb.size;omega) (fun e=>hne e.symm)).trans (hb.block k hk)
 have hRo:vO.ownBlock ≠ some R:=fun e=>by have:=(ownLt h.own0 e).1;omega
 have hh:=hk R (by have:=h.hB;omega) hRo
 have hsz:w.heap.size ≤ w2.heap.size:=Nat.le_trans hb.size hgr.size
 have c0:w2.cell? ⟨R,0,none⟩ = some vO:=by rw [← h.c0];simp only [World.cell?,hh]
 have c1:w2.cell? ⟨R,1,none⟩ = some vN:=by rw [← h.c1];simp only [World.cell?,hh]
 have hpf:=ppf_app h.pf hb 0 (r:=⟨67,4,v2,ts'.length,itCells ts'⟩) hown hgr hbk
 rw [p2_up0] at hpf
 have fz:∀ o,w2.frozen? ⟨R,o,none⟩ = false:=fun o=>by rw [← h.fz o];simp only [World.frozen?,hh]
 refine ⟨⟨hgr.os.trans hb.os,hgr.tape.trans hb.tape,hgr.output.trans hb.output,by simpa [World.setCell] using hsz,fun k hk1 hkR h1 _=>(Below.heap_setCell _ _ _ _ hkR).trans (hk k hk1 h1),fun k e=>?_,fun k e=>.inl e⟩,⟨World.cell?_setCell_same w2 ⟨R,0,none⟩ _ c0,(World.cell?_setCell_other w2 _ _ _ (fun e=>by injection e with _ e2;cases e2)).trans c1,fun o=>by rw [World.frozen?_setCell];exact fz o,hR,by simpa [World.setCell] using Nat.le_trans h.hB hsz,hpf.same fun k hk _=>Below.heap_setCell _ _ _ _ (show k ≠ R by omega)⟩,c0,fz 0⟩
 rcases hbk with e2 | e2
 ·exact .inl (e2 ▸ e)
 ·rw [e2] at e;injection e with e;exact .inr (by have:=hb.size;omega)
theorem PP.put1 {w W1 w2:World} {R bot:Nat} {vO vN v2:Value} {ts:List IT} {st st':List ByteArray} (h:PP w R bot vO vN ts st) (hb:Below w.heap.size w W1) (hown:w2.ownsRow bot 9 1 v2 st'.length (st'.map .string)) (hgr:W1.grownBy w2 vN.ownBlock) (hbk:v2.ownBlock = vN.ownBlock ∨ v2.ownBlock = some W1.heap.size) :
  Pk R vO vN vO v2 w (w2.setCell ⟨R,1,none⟩ v2) ∧ PP (w2.setCell ⟨R,1,none⟩ v2) R bot vO v2 ts st' ∧ w2.cell? ⟨R,1,none⟩ = some vN ∧ w2.frozen? ⟨R,1,none⟩ = false:=by
 have hR:=h.lt
 have hk:∀ k,k < w.heap.size → vN.ownBlock ≠ some k → w2.heap[k]? = w.heap[k]?:=fun k hk hne=>(hgr.block k (by have:=hb.size;omega) (fun e=>hne e.symm)).trans (hb.block k hk)
 have hRo:vN.ownBlock ≠ some R:=fun e=>by have:=(ownLt h.own1 e).1;omega
 have hh:=hk R (by have:=h.hB;omega) hRo
 have hsz:w.heap.size ≤ w2.heap.size:=Nat.le_trans hb.size hgr.size
 have c0:w2.cell? ⟨R,0,none⟩ = some vO:=by rw [← h.c0];simp only [World.cell?,hh]
 have c1:w2.cell? ⟨R,1,none⟩ = some vN:=by rw [← h.c1];simp only [World.cell?,hh]
 have hpf:=ppf_app h.pf hb 1 (r:=⟨9,1,v2,st'.length,st'.map .string⟩) hown hgr hbk
 rw [p2_up1] at hpf
 have fz:∀ o,w2.frozen? ⟨R,o,none⟩ = false:=fun o=>by rw [← h.fz o];simp only [World.frozen?,hh]
 refine ⟨⟨hgr.os.trans hb.os,hgr.tape.trans hb.tape,hgr.output.trans hb.output,by simpa [World.setCell] using hsz,fun k hk1 hkR _ h1=>(Below.heap_setCell _ _ _ _ hkR).trans (hk k hk1 h1),fun k e=>.inl e,fun k e=>?_⟩,⟨(World.cell?_setCell_other w2 _ _ _ (fun e=>by injection e with _ e2;cases e2)).trans c0,World.cell?_setCell_same w2 ⟨R,1,none⟩ _ c1,fun o=>by rw [World.frozen?_setCell];exact fz o,hR,by simpa [World.setCell] using Nat.le_trans h.hB hsz,hpf.same fun k hk _=>Below.heap_setCell _ _ _ _ (show k ≠ R by omega)⟩,c1,fz 1⟩
 rcases hbk with e2 | e2
 ·exact .inl (e2 ▸ e)
 ·rw [e2] at e;injection e with e;exact .inr (by have:=hb.size;omega)
theorem PP.cut1 {w:World} {R bot g n cap:Nat} {vO:Value} {ts:List IT} {st:List ByteArray} {nm:ByteArray} (h:PP w R bot vO (.slice (some ⟨g,0,none⟩) (n + 1) cap) ts (st ++ [nm])) (hn:st.length = n) :
  Pk R vO (.slice (some ⟨g,0,none⟩) (n + 1) cap) vO (.slice (some ⟨g,0,none⟩) n cap) w (w.setCell ⟨R,1,none⟩ (.slice (some ⟨g,0,none⟩) n cap)) ∧ PP (w.setCell ⟨R,1,none⟩ (.slice (some ⟨g,0,none⟩) n cap)) R bot vO (.slice (some ⟨g,0,none⟩) n cap) ts st:=by
 have hR:=h.lt
 subst hn
 have ho:w.ownsRow bot 9 1 (.slice (some ⟨g,0,none⟩) (st.length + 1) cap) (st.length + 1) ((st ++ [nm]).map .string):=by
  have:=h.own1
  rw [List.length_append] at this
  exact this
 have hf:=own_front ho (m:=st.length) (by omega)
 rw [Nat.mul_one,List.map_append,List.take_left' (by simp)] at hf
 have hpf:=h.pf.upd 1 (W':=w) (r:=⟨9,1,.slice (some ⟨g,0,none⟩) st.length cap,st.length,st.map .string⟩) hf (fun k hk=>.inl hk) (fun _ _ _ _=>rfl)
 rw [p2_up1] at hpf
 exact ⟨⟨rfl,rfl,rfl,by simp [World.setCell],fun k _ hkR _ _=>Below.heap_setCell _ _ _ _ hkR,fun k e=>.inl e,fun k e=>.inl e⟩,(World.cell?_setCell_other w _ _ _ (fun e=>by injection e with _ e2;cases e2)).trans h.c0,World.cell?_setCell_same w ⟨R,1,none⟩ _ h.c1,fun o=>by rw [World.frozen?_setCell];exact h.fz o,hR,by simpa [World.setCell] using h.hB,hpf.same fun k hk _=>Below.heap_setCell _ _ _ _ (show k ≠ R by omega)⟩
theorem ptell_any (R bot:Nat) (vO vN:Value) (ts:List IT) (st:List ByteArray) (t:IT) (w:World) (h:PP w R bot vO vN ts st) (hn:ts.length ≤ 1000000000) :
  Calls Tryz.prog 83 #[.pointer (some ⟨R,0,none⟩),.agg #[.int .i64 t.k,.string t.nm,.string t.vl,.int .i64 t.p]] w fun e w'=>e = .returned (.tuple #[]) ∧ ∃ vO',Pk R vO vN vO' vN w w' ∧ PP w' R bot vO' vN (ts ++ [t]) st:=by
 obtain ⟨pp,cp,hv⟩:=own_sl h.own0
 subst hv
 have hB2:Below w.heap.size w ((w.alloc (itO t)).alloc (itO t)).drew:=(below_two w _ _).drew
 obtain ⟨v2,w2,hrun,hown,hgr,hbk⟩:=pap1 (t:=62) Tryz.underlying62 infoT rfl (by decide) (h.keep hB2).own0 (heap_two2 w (itO t) (itO t)) rfl (fun u hu=>by simp only [List.mem_cons,List.not_mem_nil,or_false] at hu;rcases hu with rfl | rfl | rfl | rfl <;> rfl) hn (by decide) (Nat.le_trans h.hB hB2.size)
 have hown2:w2.ownsRow bot 67 4 v2 (ts ++ [t]).length (itCells (ts ++ [t])):=by rw [itCells_snoc,List.length_append];exact hown
 obtain ⟨hK,hP,q0,g0⟩:=h.put0 hB2 hown2 hgr hbk
 have HX:Hid (∃ vO',Pk R (.slice pp ts.length cp) vN vO' vN w (w2.setCell ⟨R,0,none⟩ v2) ∧ PP (w2.setCell ⟨R,0,none⟩ v2) R bot vO' vN (ts ++ [t]) st):=Hid.mkP ⟨_,hK,hP⟩
 have hRl:R < w.heap.size:=Nat.lt_of_lt_of_le h.lt h.hB
 have e0:=h.c0
 have e0b:(w.alloc (itO t)).cell? ⟨R,0,none⟩ = some (.slice pp ts.length cp):=((bel1 w _).cell (p:=⟨R,0,none⟩) hRl).trans e0
 have e0c:((w.alloc (itO t)).alloc (itO t)).cell? ⟨R,0,none⟩ = some (.slice pp ts.length cp):=((below_two w _ _).cell (p:=⟨R,0,none⟩) hRl).trans e0
 obtain ⟨p3,c3,hv2⟩:=own_sl hown
 subst hv2
 obtain ⟨k,nm,vl,p⟩:=t
 simp only [itO] at hrun e0b e0c HX ⊢
 clear hK hP hown hown2 hgr hbk hB2 h
 go_enter Tryz.func83,Tryz.ntmps83
 go_wp2_with fail
 go_region_law (refine step_append_ex ?_ (.tmp 8) (.tmp 10) _ _ ?_ _ _ ?_ ?_ (fun a b=>a = _ ∧ b = w2) ⟨_,w2,hrun,rfl,rfl⟩ ?_;rfl;rfl;rfl;rfl;rintro _ _ ⟨rfl,rfl⟩)
 all_goals
  go_wp2_with fail
  go_end0
  exact ⟨rfl,HX.out⟩
theorem shutL_le (st:List ByteArray) (d:Nat) (h:st.length ≤ d):shutL st d = []:=by unfold shutL;rw [show st.length - d = 0 by omega];rfl
theorem cutS_le (st:List ByteArray) (d:Nat) (h:st.length ≤ d):cutS st d = st:=by unfold cutS;rw [show st.length - d = 0 by omega];rfl
def slLen:Option Value → Nat
 | some (.slice _ n _)=>n
 | _=>0
theorem shutTo_any (R bot d:Nat) (vO vN:Value) (ts:List IT) (st:List ByteArray) (w:World) (h:PP w R bot vO vN ts st.reverse) (hn:ts.length + st.length ≤ 1000000000) :
  Calls Tryz.prog 60 #[.pointer (some ⟨R,0,none⟩),.int .i64 (d:Int)] w fun e w'=>e = .returned (.tuple #[]) ∧ ∃ vO' vN',Pk R vO vN vO' vN' w w' ∧ PP w' R bot vO' vN' (ts ++ shutL st d) (cutS st d).reverse:=by
 go_enter Tryz.func60,Tryz.ntmps60
 go_wp2_with fail
 go_loopw [4] (fun l4 wr=>l4 = l4 ∧ ∃ (v1 n1:Value) (t1:List IT) (s1:List ByteArray),Pk R vO vN v1 n1 w wr ∧ PP wr R bot v1 n1 t1 s1.reverse ∧ t1.length + s1.length ≤ 1000000000 ∧ Hid (t1 ++ shutL s1 d = ts ++ shutL st d ∧ cutS s1 d = cutS st d)) (fun _ wr=>slLen (wr.cell? ⟨R,1,none⟩))
 case atStart=>exact ⟨rfl,vO,vN,ts,st,Pk.refl _ _ _ _,h,hn,Hid.mkP ⟨rfl,rfl⟩⟩
 case round =>
  obtain ⟨-,v1,n1,t1,s1,hk,hp,hl,hq⟩:=hrel
  by_cases hlt:d < s1.length
  ·obtain ⟨nm,s2,rfl⟩:∃ nm s2,s1 = nm :: s2:=by
    cases s1 with
    | nil=>exact absurd hlt (by simp)
    | cons a b=>exact ⟨a,b,rfl⟩
   rw [List.length_cons] at hlt hl
   rw [List.reverse_cons] at hp
   have ho:=hp.own1
   rw [List.length_append,List.length_reverse] at ho
   obtain ⟨g,cap,hn1⟩:=own_shape ho (by simp)
   have hn2:n1 = .slice (some ⟨g,0,none⟩) (s2.length + 1) cap:=hn1
   subst hn2
   have ho2:wr.ownsRow bot 9 1 (.slice (some ⟨g,0,none⟩) (s2.length + 1) cap) (s2.length + 1) ((s2.reverse ++ [nm]).map .string):=ho
   have hcp:s2.length + 1 ≤ cap:=own_capK ho2 (by omega)
   have x1:=(own_get ho2 (o:=s2.length) (u:=.string nm) (by simp)).1
   have c:=ptell_any R bot v1 (.slice (some ⟨g,0,none⟩) (s2.length + 1) cap) t1 (s2.reverse ++ [nm]) ⟨4,nm,⟨#[]⟩,0⟩ wr hp (by omega)
   have e1:=hp.c1
   have z0:decide ((d:Int) < (s2.length:Int) + 1) = true:=by simp;omega
   have z1:(d:Int) < (s2.length:Int) + 1:=by omega
   have hw:IntKind.i64.wrap ((s2.length:Int) + 1 - 1) = s2.length:=by rw [IntKind.wrap_i64];omega
   have hw2:(s2.length:Int) < (s2.length:Int) + 1:=by omega
   have HM:Hid (slLen (wr.cell? ⟨R,1,none⟩) = s2.length + 1):=Hid.mkP (by rw [e1];rfl)
   have hz:Hid (∀ (v2:Value) (wX:World),Pk R v1 (.slice (some ⟨g,0,none⟩) (s2.length + 1) cap) v2 (.slice (some ⟨g,0,none⟩) (s2.length + 1) cap) wr wX → PP wX R bot v2 (.slice (some ⟨g,0,none⟩) (s2.length + 1) cap) (t1 ++ [⟨4,nm,⟨#[]⟩,0⟩]) (s2.reverse ++ [nm]) →
     ∃ v3 n3 t3 s3,Pk R vO vN v3 n3 w (wX.setCell ⟨R,1,none⟩ (.slice (some ⟨g,0,none⟩) s2.length cap)) ∧ PP (wX.setCell ⟨R,1,none⟩ (.slice (some ⟨g,0,none⟩) s2.length cap)) R bot v3 n3 t3 (List.reverse s3) ∧ t3.length + s3.length ≤ 1000000000 ∧ Hid (t3 ++ shutL s3 d = ts ++ shutL st d ∧ cutS s3 d = cutS st d)):=Hid.mkP fun v2 wX hkX hpX=>by
    obtain ⟨k1,p1⟩:=hpX.cut1 (by simp)
    refine ⟨_,_,_,s2,(hk.trans hkX).trans k1,p1,by rw [List.length_append];simp;omega,Hid.mkP ?_⟩
    obtain ⟨a,b⟩:=hq.out
    rw [shutL_cons nm s2 d (by omega)] at a
    rw [cutS_cons nm s2 d (by omega)] at b
    exact ⟨by rw [← a,List.append_assoc];rfl,b⟩
   clear hq hk ho ho2 hn hp hn1 h
   go_wp2_with (go_at_call 83;refine c.mono ?_;rintro _ w1 ⟨rfl,v2,k2,p2⟩;have e2:=p2.c1;have f2:=p2.fz 1)
   have hy:=hz.out v2 w1 k2 p2
   go_roundw
   case rel=>exact ⟨trivial,hy⟩
   case measure=>rw [HM.out,World.cell?_setCell_same w1 ⟨R,1,none⟩ _ e2];exact Nat.lt_succ_self _
  ·have a0:=hq.out.1
   have b0:=hq.out.2
   rw [shutL_le s1 d (by omega),List.append_nil] at a0
   rw [cutS_le s1 d (by omega)] at b0
   subst a0
   have e1:=hp.c1
   obtain ⟨p9,c9,hv⟩:=own_sl hp.own1
   rw [List.length_reverse] at hv
   subst hv
   have z0:decide ((d:Int) < (s1.length:Int)) = false:=by simp;omega
   have z1:¬ (d:Int) < (s1.length:Int):=by omega
   have HX:Hid (∃ vO' vN',Pk R vO vN vO' vN' w wr ∧ PP wr R bot vO' vN' (ts ++ shutL st d) (cutS st d).reverse):=Hid.mkP ⟨_,_,hk,by rw [← b0];exact hp⟩
   clear hq hk hp b0 h
   go_wp2_with fail
   go_end0
   exact ⟨rfl,HX.out⟩
theorem elB_cell {W:World} {X:Nat} {e:El} {v:Value} (h:W.heap[X]? = some (elB e v)):W.cell? ⟨X,1,none⟩ = some (.string e.nm) ∧ W.cell? ⟨X,2,none⟩ = some v ∧ W.cell? ⟨X,3,none⟩ = some (.string e.tx):=by
 refine ⟨?_,?_,?_⟩ <;> (simp only [World.cell?,h];rfl)
theorem putP_true (e:El) (hb:Bool) (h:leaf e hb = true):putP e hb = pcO e.nm :: (e.ats.map pcA ++ [pcM]):=by unfold putP;rw [if_pos h]
theorem putP_none (e:El) (hb:Bool) (h:leaf e hb = false) (h0:e.tx.size = 0):putP e hb = pcO e.nm :: (e.ats.map pcA ++ [pcE]):=by unfold putP;rw [h];simp [h0]
theorem putP_text (e:El) (hb:Bool) (h:leaf e hb = false) (h0:¬ e.tx.size = 0):putP e hb = pcO e.nm :: (e.ats.map pcA ++ [pcE,pcT e.tx]):=by unfold putP;rw [h];simp [h0]
theorem PP.name {w:World} {R bot:Nat} {vO vN:Value} {ts:List IT} {st:List ByteArray} (h:PP w R bot vO vN ts st.reverse) (nm:ByteArray) (hn:st.length ≤ 1000000) :
  ∃ v2 w2,(∀ ty,(Builtin.append_ #[40,40] ty #[vN,.slice (some ⟨w.heap.size,0,none⟩) 1 1]).run Tryz.prog (w.alloc (.cells #[.string nm] 9)).drew = .ok v2 w2) ∧
   (∃ p n c,v2 = .slice p n c) ∧ w2.cell? ⟨R,1,none⟩ = some vN ∧ w2.frozen? ⟨R,1,none⟩ = false ∧ (w.alloc (.cells #[.string nm] 9)).cell? ⟨R,1,none⟩ = some vN ∧ Pk R vO vN vO v2 w (w2.setCell ⟨R,1,none⟩ v2) ∧ PP (w2.setCell ⟨R,1,none⟩ v2) R bot vO v2 ts (nm :: st).reverse:=by
 have hB2:Below w.heap.size w (w.alloc (.cells #[.string nm] 9)).drew:=(bel1 w _).drew
 have hRl:R < w.heap.size:=Nat.lt_of_lt_of_le h.lt h.hB
 obtain ⟨v2,w2,hrun,hown,hgr,hbk⟩:=pap1 (t:=40) Tryz.underlying40 infoStr rfl (by decide) (h.keep hB2).own1 (heap_new w (.cells #[.string nm] 9)) rfl (fun u hu=>by simp only [List.mem_cons,List.not_mem_nil,or_false] at hu;subst hu;rfl) (by rw [List.length_reverse];omega) (by decide) (Nat.le_trans h.hB hB2.size)
 have hown2:w2.ownsRow bot 9 1 v2 (nm :: st).reverse.length ((nm :: st).reverse.map .string):=by
  rw [List.reverse_cons,List.length_append,List.map_append]
  exact hown
 obtain ⟨k,p,q1,q2⟩:=h.put1 hB2 hown2 hgr hbk
 obtain ⟨p3,c3,hv⟩:=own_sl hown2
 exact ⟨v2,w2,hrun,⟨_,_,_,hv⟩,q1,q2,((bel1 w _).cell (p:=⟨R,1,none⟩) hRl).trans h.c1,k,p⟩
theorem put_any (R bot:Nat) (vO vN:Value) (ts:List IT) (st:List ByteArray) (e:El) (pa:Option Addr) (ca:Nat) (hb:Bool) (w:World) (hp:PP w R bot vO vN ts st.reverse) (ha:ARow w pa R e.ats) (hl:e.ats.length ≤ 1000000) (hn:ts.length + e.ats.length + 4 ≤ 1000000000) (hs:st.length ≤ 1000000) :
  Calls Tryz.prog 61 #[.pointer (some ⟨R,0,none⟩),elW e (.slice pa e.ats.length ca),.bool hb] w fun r w'=>r = .returned (.tuple #[]) ∧ ∃ vO' vN',Pk R vO vN vO' vN' w w' ∧ PP w' R bot vO' vN' (ts ++ putP e hb) (putS e hb st).reverse:=by
 obtain ⟨pN,cN,hvN⟩:=own_sl hp.own1
 rw [List.length_reverse] at hvN
 subst hvN
 have hb0:=bel1 w (elB e (.slice pa e.ats.length ca))
 have hN:=heap_new w (elB e (.slice pa e.ats.length ca))
 have hp0:=hp.keep hb0
 have hbl:∀ k,vO.ownBlock = some k → k < w.heap.size:=fun k hk=>(ownLt hp.own0 hk).2
 have hbl1:∀ k,(Value.slice pN st.length cN).ownBlock = some k → k < w.heap.size:=fun k hk=>(ownLt hp.own1 hk).2
 have hRl:R < w.heap.size:=Nat.lt_of_lt_of_le hp.lt hp.hB
 have HPk:Hid (∀ v n W,Pk R vO (.slice pN st.length cN) v n (w.alloc (elB e (.slice pa e.ats.length ca))) W → Pk R vO (.slice pN st.length cN) v n w W):=Hid.mkP fun v n W h=>(Pk.of hb0).trans h
 have HAr:Hid (∀ v n W,Pk R vO (.slice pN st.length cN) v n w W → ARow W pa R e.ats):=Hid.mkP fun v n W h=>ha.below (h.below hp)
 generalize hW0:w.alloc (elB e (.slice pa e.ats.length ca)) = W0 at hb0 hN hp0 HPk
 have hs0:w.heap.size < W0.heap.size:=by rw [← hW0,World.size_alloc];omega
 have HBx:Hid (∀ v n W,Pk R vO (.slice pN st.length cN) v n W0 W → W.cell? ⟨w.heap.size,1,none⟩ = some (.string e.nm) ∧ W.cell? ⟨w.heap.size,2,none⟩ = some (.slice pa e.ats.length ca) ∧ W.cell? ⟨w.heap.size,3,none⟩ = some (.string e.tx)):=Hid.mkP fun v n W h =>
  elB_cell ((h.block w.heap.size hs0 (by omega) (fun e=>by have:=hbl _ e;omega) (fun e=>by have:=hbl1 _ e;omega)).trans hN)
 obtain ⟨x1,x2,x3⟩:=HBx.out _ _ W0 (Pk.refl _ _ _ _)
 have c:=ptell_any R bot vO (.slice pN st.length cN) ts st.reverse ⟨0,e.nm,⟨#[]⟩,0⟩ W0 hp0 (by omega)
 have HS:Hid (st.length ≤ 1000000):=Hid.mkP hs
 clear hb0 hN hp0 hbl hbl1 hs0 ha hs hRl hp
 go_enter Tryz.func61,Tryz.ntmps61
 go_wp2_with (go_at_call 83;refine c.mono ?_;rintro _ w1 ⟨rfl,v1,k1,p1⟩;obtain ⟨y1,y2,y3⟩:=HBx.out _ _ w1 k1)
 clear c hW0 x1 x2 x3
 go_loopw [16] (fun i wr=>∃ (j:Nat) (v2:Value),j ≤ e.ats.length ∧ i = .int .i64 j ∧ Pk R vO (.slice pN st.length cN) v2 (.slice pN st.length cN) W0 wr ∧ PP wr R bot v2 (.slice pN st.length cN) (ts ++ pcO e.nm :: (e.ats.take j).map pcA) st.reverse) (fun i _=>e.ats.length - (RowKit.intOf i).toNat)
 case atStart=>exact ⟨0,v1,Nat.zero_le _,rfl,k1,p1⟩
 case round =>
  obtain ⟨j,v2,hj,rfl,k2,p2⟩:=hrel
  obtain ⟨z1,z2,z3⟩:=HBx.out _ _ wr k2
  by_cases hlt:j < e.ats.length
  ·obtain ⟨a,hx⟩:∃ a,e.ats[j]? = some a:=⟨e.ats[j],List.getElem?_eq_getElem hlt⟩
   obtain ⟨g,o,rfl,hg,q0,q1,q2⟩:=(HAr.out _ _ wr (HPk.out _ _ _ k2)).c j a hx
   have hlti:(j:Int) < e.ats.length:=by omega
   have hb1:=bel1 wr (attO a)
   have hA:=heap_new wr (attO a)
   have a0:(wr.alloc (attO a)).cell? ⟨wr.heap.size,0,none⟩ = some (.string a.nm):=by simp only [World.cell?,hA];rfl
   have a1:(wr.alloc (attO a)).cell? ⟨wr.heap.size,1,none⟩ = some (.string a.vl):=by simp only [World.cell?,hA];rfl
   have c:=ptell_any R bot v2 (.slice pN st.length cN) _ st.reverse ⟨1,a.nm,a.vl,0⟩ _ (p2.keep hb1) (by simp;omega)
   have hk3:=k2.trans (Pk.of (R:=R) (vO:=v2) (vN:=.slice pN st.length cN) hb1)
   have et:(ts ++ pcO e.nm :: (e.ats.take j).map pcA) ++ [⟨1,a.nm,a.vl,0⟩] = ts ++ pcO e.nm :: (e.ats.take (j + 1)).map pcA:=by
    rw [List.take_add_one,hx,List.map_append,List.append_assoc]
    rfl
   rw [et] at c
   clear et hA hb1 hx p2
   obtain ⟨an,av,ap⟩:=a
   simp only at q0 q1 q2 a0 a1 c hk3
   go_wp2_with (go_at_call 83;refine c.mono ?_;rintro _ w3 ⟨rfl,v3,k3,p3⟩)
   go_roundw
   case rel=>exact ⟨j + 1,v3,by omega,by go_num,hk3.trans k3,p3⟩
   case measure=>simp [RowKit.intOf];omega
  ·obtain rfl:j = e.ats.length:=by omega
   rw [List.take_length] at p2
   have hlt2:¬ ((e.ats.length:Int) < e.ats.length):=by omega
   have htx:∀ h:e.tx.size = 0,e.tx = ⟨#[]⟩:=fun h=>size_zero h
   cases hb
   ·by_cases h0:e.tx.size = 0
    ·have hlf:leaf e false = true:=by unfold leaf;simp [h0]
     have HE:Hid (putP e false = pcO e.nm :: (e.ats.map pcA ++ [pcM]) ∧ putS e false st = st):=Hid.mkP ⟨putP_true e false hlf,by unfold putS;rw [if_pos hlf]⟩
     have ht:=htx h0
     rw [ht] at z3
     have c:=ptell_any R bot v2 (.slice pN st.length cN) _ st.reverse ⟨3,⟨#[]⟩,⟨#[]⟩,0⟩ wr p2 (by simp;omega)
     have et:(ts ++ pcO e.nm :: e.ats.map pcA) ++ [⟨3,⟨#[]⟩,⟨#[]⟩,0⟩] = ts ++ pcO e.nm :: (e.ats.map pcA ++ [pcM]):=by rw [List.append_assoc];rfl
     rw [et] at c
     clear et hlf ht h0 htx p2 HAr HBx
     go_wp2_with fail
     refine c.mono ?_
     rintro _ w3 ⟨rfl,v3,k3,p3⟩
     go_wp2_with fail
     exact bodyPost_ret (v:=.tuple #[]) (by simp [results,Tryz.results61,go_sem]) rfl ⟨rfl,_,_,HPk.out _ _ _ (k2.trans k3),by rw [HE.out.1,HE.out.2];exact p3⟩
    ·have hlf:leaf e false = false:=by unfold leaf;simp [h0]
     have HE:Hid (putP e false = pcO e.nm :: (e.ats.map pcA ++ [pcE,pcT e.tx]) ∧ putS e false st = e.nm :: st):=Hid.mkP ⟨putP_text e false hlf h0,by unfold putS;rw [hlf];rfl⟩
     have hne:e.tx ≠ ⟨#[]⟩:=fun hh=>h0 (by rw [hh];rfl)
     have y4:=lst_ne e.tx (by omega)
     have y5:(e.tx.toList != []) = true:=by rw [bne,y4];rfl
     have c:=ptell_any R bot v2 (.slice pN st.length cN) _ st.reverse ⟨2,⟨#[]⟩,⟨#[]⟩,0⟩ wr p2 (by simp;omega)
     have hlen:((ts ++ pcO e.nm :: e.ats.map pcA) ++ ([⟨2,⟨#[]⟩,⟨#[]⟩,0⟩]:List IT)).length ≤ 1000000000:=by simp;omega
     clear hlf h0 htx p2 HAr
     go_wp2_with fail
     refine c.mono ?_
     rintro _ w3 ⟨rfl,v3,k3,p3⟩
     obtain ⟨b1,b2,b3⟩:=HBx.out _ _ w3 (k2.trans k3)
     clear c z1 z2 z3
     go_wp2_with fail
     refine (ptell_any R bot v3 (.slice pN st.length cN) _ st.reverse ⟨5,⟨#[]⟩,e.tx,0⟩ w3 p3 hlen).mono ?_
     rintro _ w4 ⟨rfl,v4,k4,p4⟩
     obtain ⟨d1,d2,d3⟩:=HBx.out _ _ w4 ((k2.trans k3).trans k4)
     have k9:=HPk.out _ _ _ ((k2.trans k3).trans k4)
     clear b1 b2 b3 p3
     obtain ⟨vX,wX,hrun,⟨pX,nX,cX,rfl⟩,x1,x2,x3,kX,pX'⟩:=p4.name e.nm HS.out
     have e1:=p4.c1
     have HZ:Hid (∃ vO' vN',Pk R vO (.slice pN st.length cN) vO' vN' w (wX.setCell ⟨R,1,none⟩ (.slice pX nX cX)) ∧ PP (wX.setCell ⟨R,1,none⟩ (.slice pX nX cX)) R bot vO' vN' (ts ++ putP e false) (putS e false st).reverse):=Hid.mkP ⟨_,_,k9.trans kX,by
      have et:ts ++ putP e false = (ts ++ pcO e.nm :: e.ats.map pcA) ++ [⟨2,⟨#[]⟩,⟨#[]⟩,0⟩] ++ [⟨5,⟨#[]⟩,e.tx,0⟩]:=by rw [HE.out.1,List.append_assoc];simp [pcE,pcT];try rfl
      rw [et,HE.out.2]
      exact pX'⟩
     clear kX pX' p4 k9 k2 k3 HE HBx HPk k4
     go_wp2_with fail
     go_region_law (refine step_append_ex ?_ (.tmp 53) (.tmp 56) _ _ ?_ _ _ ?_ ?_ (fun a b=>a = _ ∧ b = wX) ⟨_,wX,hrun,rfl,rfl⟩ ?_;rfl;rfl;rfl;rfl;rintro _ _ ⟨rfl,rfl⟩)
     all_goals
      go_wp2_with fail
      go_end0
      exact ⟨rfl,HZ.out⟩
   ·by_cases h0:e.tx.size = 0
    ·have hlf:leaf e true = false:=by unfold leaf;rfl
     have HE:Hid (putP e true = pcO e.nm :: (e.ats.map pcA ++ [pcE]) ∧ putS e true st = e.nm :: st):=Hid.mkP ⟨putP_none e true hlf h0,by unfold putS;rw [hlf];rfl⟩
     have ht:=htx h0
     rw [ht] at z3
     have c:=ptell_any R bot v2 (.slice pN st.length cN) _ st.reverse ⟨2,⟨#[]⟩,⟨#[]⟩,0⟩ wr p2 (by simp;omega)
     have hlen:((ts ++ pcO e.nm :: e.ats.map pcA) ++ ([⟨2,⟨#[]⟩,⟨#[]⟩,0⟩]:List IT)).length ≤ 1000000000:=by simp;omega
     clear hlf h0 htx p2 HAr
     go_wp2_with fail
     refine c.mono ?_
     rintro _ w3 ⟨rfl,v3,k3,p3⟩
     obtain ⟨b1,b2,b3⟩:=HBx.out _ _ w3 (k2.trans k3)
     rw [ht] at b3
     clear c z1 z2 z3
     have k9:=HPk.out _ _ _ (k2.trans k3)
     obtain ⟨vX,wX,hrun,⟨pX,nX,cX,rfl⟩,x1,x2,x3,kX,pX'⟩:=p3.name e.nm HS.out
     have e1:=p3.c1
     have HZ:Hid (∃ vO' vN',Pk R vO (.slice pN st.length cN) vO' vN' w (wX.setCell ⟨R,1,none⟩ (.slice pX nX cX)) ∧ PP (wX.setCell ⟨R,1,none⟩ (.slice pX nX cX)) R bot vO' vN' (ts ++ putP e true) (putS e true st).reverse):=Hid.mkP ⟨_,_,k9.trans kX,by
      have et:ts ++ putP e true = (ts ++ pcO e.nm :: e.ats.map pcA) ++ [⟨2,⟨#[]⟩,⟨#[]⟩,0⟩]:=by rw [HE.out.1,List.append_assoc];simp [pcE];try rfl
      rw [et,HE.out.2]
      exact pX'⟩
     clear kX pX' p3 k9 k2 k3 HE HBx HPk
     go_wp2_with fail
     go_region_law (refine step_append_ex ?_ (.tmp 53) (.tmp 56) _ _ ?_ _ _ ?_ ?_ (fun a b=>a = _ ∧ b = wX) ⟨_,wX,hrun,rfl,rfl⟩ ?_;rfl;rfl;rfl;rfl;rintro _ _ ⟨rfl,rfl⟩)
     all_goals
      go_wp2_with fail
      go_end0
      exact ⟨rfl,HZ.out⟩
    ·have hlf:leaf e true = false:=by unfold leaf;rfl
     have HE:Hid (putP e true = pcO e.nm :: (e.ats.map pcA ++ [pcE,pcT e.tx]) ∧ putS e true st = e.nm :: st):=Hid.mkP ⟨putP_text e true hlf h0,by unfold putS;rw [hlf];rfl⟩
     have hne:e.tx ≠ ⟨#[]⟩:=fun hh=>h0 (by rw [hh];rfl)
     have y4:=lst_ne e.tx (by omega)
     have y5:(e.tx.toList != []) = true:=by rw [bne,y4];rfl
     have c:=ptell_any R bot v2 (.slice pN st.length cN) _ st.reverse ⟨2,⟨#[]⟩,⟨#[]⟩,0⟩ wr p2 (by simp;omega)
     have hlen:((ts ++ pcO e.nm :: e.ats.map pcA) ++ ([⟨2,⟨#[]⟩,⟨#[]⟩,0⟩]:List IT)).length ≤ 1000000000:=by simp;omega
     clear hlf h0 htx p2 HAr
     go_wp2_with fail
     refine c.mono ?_
     rintro _ w3 ⟨rfl,v3,k3,p3⟩
     obtain ⟨b1,b2,b3⟩:=HBx.out _ _ w3 (k2.trans k3)
     clear c z1 z2 z3
     go_wp2_with fail
     refine (ptell_any R bot v3 (.slice pN st.length cN) _ st.reverse ⟨5,⟨#[]⟩,e.tx,0⟩ w3 p3 hlen).mono ?_
     rintro _ w4 ⟨rfl,v4,k4,p4⟩
     obtain ⟨d1,d2,d3⟩:=HBx.out _ _ w4 ((k2.trans k3).trans k4)
     have k9:=HPk.out _ _ _ ((k2.trans k3).trans k4)
     clear b1 b2 b3 p3
     obtain ⟨vX,wX,hrun,⟨pX,nX,cX,rfl⟩,x1,x2,x3,kX,pX'⟩:=p4.name e.nm HS.out
     have e1:=p4.c1
     have HZ:Hid (∃ vO' vN',Pk R vO (.slice pN st.length cN) vO' vN' w (wX.setCell ⟨R,1,none⟩ (.slice pX nX cX)) ∧ PP (wX.setCell ⟨R,1,none⟩ (.slice pX nX cX)) R bot vO' vN' (ts ++ putP e true) (putS e true st).reverse):=Hid.mkP ⟨_,_,k9.trans kX,by
      have et:ts ++ putP e true = (ts ++ pcO e.nm :: e.ats.map pcA) ++ [⟨2,⟨#[]⟩,⟨#[]⟩,0⟩] ++ [⟨5,⟨#[]⟩,e.tx,0⟩]:=by rw [HE.out.1,List.append_assoc];simp [pcE,pcT];try rfl
      rw [et,HE.out.2]
      exact pX'⟩
     clear kX pX' p4 k9 k2 k3 HE HBx HPk k4
     go_wp2_with fail
     go_region_law (refine step_append_ex ?_ (.tmp 53) (.tmp 56) _ _ ?_ _ _ ?_ ?_ (fun a b=>a = _ ∧ b = wX) ⟨_,wX,hrun,rfl,rfl⟩ ?_;rfl;rfl;rfl;rfl;rintro _ _ ⟨rfl,rfl⟩)
     all_goals
      go_wp2_with fail
      go_end0
      exact ⟨rfl,HZ.out⟩
theorem pcsF_at {es:List El} {j:Nat} {e:El} (st:List ByteArray) (h:es[j]? = some e):pcsF (es.drop j) st = shutL st (e.d - 1).toNat ++ (putP e (holdsB e (es.drop (j + 1))) ++ pcsF (es.drop (j + 1)) (putS e (holdsB e (es.drop (j + 1))) (cutS st (e.d - 1).toNat))):=by
 rw [drop_at h,pcsF]
theorem holds_at {es:List El} {j:Nat} {e y:El} (h:es[j + 1]? = some y):holdsB e (es.drop (j + 1)) = decide (e.d < y.d):=by rw [drop_at h];rfl
theorem holds_end {es:List El} {j:Nat} {e:El} (h:es.length ≤ j + 1):holdsB e (es.drop (j + 1)) = false:=by rw [List.drop_eq_nil_of_le h];rfl
theorem putS_len (e:El) (hb:Bool) (st:List ByteArray):(putS e hb st).length ≤ st.length + 1:=by
 unfold putS
 split
 ·omega
 ·rw [List.length_cons];omega
theorem cutS_len (st:List ByteArray) (d:Nat):(cutS st d).length ≤ st.length:=by unfold cutS;rw [List.length_drop];omega
theorem shutL_len (st:List ByteArray) (d:Nat):(shutL st d).length ≤ st.length:=by unfold shutL;rw [List.length_map,List.length_take];omega
theorem tr_mem:∀ (r:List El) (a:Int),Tr a r → ∀ e ∈ r,1 ≤ e.d ∧ e.d ≤ 16 ∧ GE e
 | [],_,_,e,h=>by cases h
 | x :: r,a,⟨h1,h2,h3,h4,h5⟩,e,h=>by
  rcases List.mem_cons.1 h with rfl | h
  ·exact ⟨h1,h3,h4⟩
  ·exact tr_mem r _ h5 e h
abbrev prO (a b:Value):Obj:=.cells #[a,b] 111
theorem PP.new (w:World):PP (w.alloc (prO (.slice none 0 0) (.slice none 0 0))) w.heap.size (w.heap.size + 1) (.slice none 0 0) (.slice none 0 0) [] []:=by
 have hN:=heap_new w (prO (.slice none 0 0) (.slice none 0 0))
 refine ⟨by simp only [World.cell?,hN];rfl,by simp only [World.cell?,hN];rfl,fun o=>by simp only [World.frozen?,hN];simp,Nat.lt_succ_self _,by rw [World.size_alloc];omega,⟨fun c=>?_,fun c c' _ k hk=>?_⟩⟩
 ·unfold p2
  by_cases h0:c = 0
  ·rw [if_pos h0];exact World.ownsRow_nil _ _ _ _
  ·rw [if_neg h0]
   by_cases h1:c = 1
   ·rw [if_pos h1];exact World.ownsRow_nil _ _ _ _
   ·rw [if_neg h1];exact World.ownsRow_nil _ _ _ _
 ·unfold p2 at hk
  by_cases h0:c = 0
  ·rw [if_pos h0] at hk;cases hk
  ·rw [if_neg h0] at hk
   by_cases h1:c = 1
   ·rw [if_pos h1] at hk;cases hk
   ·rw [if_neg h1] at hk;cases hk
theorem elB_all {W:World} {X:Nat} {e:El} {v:Value} (h:W.heap[X]? = some (elB e v)):W.cell? ⟨X,0,none⟩ = some (.int .i64 e.d) ∧ W.cell? ⟨X,1,none⟩ = some (.string e.nm) ∧ W.cell? ⟨X,2,none⟩ = some v ∧ W.cell? ⟨X,3,none⟩ = some (.string e.tx) ∧ W.cell? ⟨X,4,none⟩ = some (.int .i64 e.p):=by
 refine ⟨?_,?_,?_,?_,?_⟩ <;> (simp only [World.cell?,h];rfl)
theorem pieces_any2 (pp:Option Addr) (cp:Nat) (es:List El) (w:World) (hr:ERow w pp w.heap.size es) (ht:Tr 0 es) (hn:es.length ≤ 20000) :
  Calls Tryz.prog 36 #[.slice pp es.length cp] w fun e w'=>∃ v,e = .returned v ∧ w'.ownsRow (w.heap.size + 1) 67 4 v (pcsF es []).length (itCells (pcsF es [])) ∧ Below w.heap.size w w':=by
 have hP:(pcsF es []).length ≤ 560000:=by have:=pcsF_len es 0 [] ht;simp at this;omega
 have hb0:=bel1 w (prO (.slice none 0 0) (.slice none 0 0))
 have hp0:=PP.new w
 have HBl:Hid (∀ v n W,Pk w.heap.size (.slice none 0 0) (.slice none 0 0) v n (w.alloc (prO (.slice none 0 0) (.slice none 0 0))) W → Below w.heap.size w W ∧ ERow W pp w.heap.size es):=Hid.mkP fun v n W h=>by
  have hb:=hb0.trans (h.below hp0)
  exact ⟨hb,hr.below hb⟩
 have hmem:=tr_mem es 0 ht
 generalize hW0:w.alloc (prO (.slice none 0 0) (.slice none 0 0)) = W0 at hp0 HBl
 generalize hPP:pcsF es [] = P at hP ⊢
 have HP:Hid (pcsF es [] = P):=hPP
 clear hb0 hr ht hPP
 go_enter Tryz.func36,Tryz.ntmps36
 go_wp2_with fail
 clear hW0
 go_loopw [4,6,9] (fun i h n wr=>∃ (j:Nat) (v1 n1:Value) (t1:List IT) (s1:List ByteArray),j ≤ es.length ∧ n = .int .i64 j ∧ Pk w.heap.size (.slice none 0 0) (.slice none 0 0) v1 n1 W0 wr ∧ PP wr w.heap.size (w.heap.size + 1) v1 n1 t1 s1.reverse ∧ s1.length ≤ j ∧ Hid (t1 ++ pcsF (es.drop j) s1 = P) ∧ i = i ∧ h = h) (fun _ _ n _=>es.length - (RowKit.intOf n).toNat)
 case atStart=>exact ⟨0,_,_,[],[],Nat.zero_le _,by go_num,Pk.refl _ _ _ _,hp0,Nat.le_refl _,HP,rfl,rfl⟩
 case round =>
  obtain ⟨j,v1,n1,t1,s1,hj,rfl,k1,p1,hs1,hq,-,-⟩:=hrel
  have ht1:t1.length ≤ 560000:=by have:=congrArg List.length hq.out;rw [List.length_append] at this;omega
  by_cases hlt:j < es.length
  ·obtain ⟨e,hx⟩:∃ e,es[j]? = some e:=⟨es[j],List.getElem?_eq_getElem hlt⟩
   obtain ⟨hd1,hd2,hge⟩:=hmem e (List.mem_of_getElem? hx)
   have ha24:=hge.a24
   obtain ⟨g,o,pa,ca,rfl,hg,q0,q1,q2,q3,q4,hA⟩:=(HBl.out _ _ wr k1).2.c j e hx
   have hb1:=bel1 wr (elB e (.slice pa e.ats.length ca))
   have hN:=heap_new wr (elB e (.slice pa e.ats.length ca))
   have hsl:=shutL_len s1 (e.d - 1).toNat
   have hcl:=cutS_len s1 (e.d - 1).toNat
   have cS:=shutTo_any w.heap.size (w.heap.size + 1) (e.d - 1).toNat v1 n1 t1 s1 _ (p1.keep hb1) (by omega)
   have hdz:(((e.d - 1).toNat:Nat):Int) = e.d - 1:=by omega
   have hdw:IntKind.i64.wrap (e.d - 1) = e.d - 1:=by rw [IntKind.wrap_i64];omega
   rw [hdz] at cS
   have hv1:∀ k,v1.ownBlock = some k → k < wr.heap.size:=fun k hk=>(ownLt p1.own0 hk).2
   have hn1:∀ k,n1.ownBlock = some k → k < wr.heap.size:=fun k hk=>(ownLt p1.own1 hk).2
   have hRl:w.heap.size < wr.heap.size:=by have:=p1.lt;have:=p1.hB;omega
   have HB:Hid (∀ v n W,Pk w.heap.size v1 n1 v n (wr.alloc (elB e (.slice pa e.ats.length ca))) W → W.heap[wr.heap.size]? = some (elB e (.slice pa e.ats.length ca)) ∧ Pk w.heap.size (.slice none 0 0) (.slice none 0 0) v n W0 W):=Hid.mkP fun v n W h =>
    ⟨(h.block wr.heap.size (by rw [World.size_alloc];omega) (by omega) (fun e=>by have:=hv1 _ e;omega) (fun e=>by have:=hn1 _ e;omega)).trans hN,k1.trans ((Pk.of hb1).trans h)⟩
   have hF:=pcsF_at s1 hx
   have hlti:(j:Int) < es.length:=by omega
   have HPut:Hid (∀ (hb:Bool) (v2 n2:Value) (w2:World),hb = holdsB e (es.drop (j + 1)) → Pk w.heap.size v1 n1 v2 n2 (wr.alloc (elB e (.slice pa e.ats.length ca))) w2 → PP w2 w.heap.size (w.heap.size + 1) v2 n2 (t1 ++ shutL s1 (e.d - 1).toNat) (cutS s1 (e.d - 1).toNat).reverse →
     Calls Tryz.prog 61 #[.pointer (some ⟨w.heap.size,0,none⟩),elW e (.slice pa e.ats.length ca),.bool hb] w2 fun r w'=>r = .returned (.tuple #[]) ∧ ∃ (v1 n1:Value) (t1:List IT) (s1:List ByteArray),Pk w.heap.size (.slice none 0 0) (.slice none 0 0) v1 n1 W0 w' ∧ PP w' w.heap.size (w.heap.size + 1) v1 n1 t1 s1.reverse ∧ s1.length ≤ j + 1 ∧ Hid (t1 ++ pcsF (es.drop (j + 1)) s1 = P)):=Hid.mkP fun hb v2 n2 w2 hhb k2 p2=>by
    refine (put_any w.heap.size (w.heap.size + 1) v2 n2 _ (cutS s1 (e.d - 1).toNat) e pa ca hb w2 p2 (hA.below (((Pk.of (R:=w.heap.size) (vO:=v1) (vN:=n1) hb1).trans k2).below p1)) (by omega) (by rw [List.length_append];omega) (by omega)).mono ?_
    rintro r w' ⟨rfl,v3,n3,k3,p3⟩
    refine ⟨rfl,v3,n3,_,_,k1.trans (((Pk.of hb1).trans k2).trans k3),p3,?_,Hid.mkP ?_⟩
    ·have:=putS_len e hb (cutS s1 (e.d - 1).toNat);omega
    ·rw [← hq.out,hF,hhb,List.append_assoc,List.append_assoc]
   have hx2:∀ y,es[j + 1]? = some y → ∀ W,ERow W (some ⟨g,o,none⟩) w.heap.size es → W.cell? ⟨g,o + (j + 1) * 5,none⟩ = some (.int .i64 y.d):=fun y hy W hW=>by
    obtain ⟨g9,o9,_,_,e9,_,h9,_⟩:=hW.c (j + 1) y hy
    cases e9
    exact h9
   have HE:Hid (∀ v n W,Pk w.heap.size (.slice none 0 0) (.slice none 0 0) v n W0 W → ERow W (some ⟨g,o,none⟩) w.heap.size es):=Hid.mkP fun v n W h=>(HBl.out v n W h).2
   clear hb1 hN hsl hcl hv1 hn1 hRl hF hA hge HP p1 hq hmem HBl
   have hw1:IntKind.i64.wrap ((j:Int) + 1) = j + 1:=by rw [IntKind.wrap_i64];omega
   by_cases hlast:j + 1 < es.length
   ·obtain ⟨y,hy⟩:∃ y,es[j + 1]? = some y:=⟨es[j + 1],List.getElem?_eq_getElem hlast⟩
    have hh:=holds_at (e:=e) hy
    have hlz:decide ((j:Int) + 1 < es.length) = true:=decide_eq_true (by omega)
    have hlz2:(j:Int) + 1 < es.length:=by omega
    have hxy:=hx2 y hy
    clear hx hy hx2
    obtain ⟨xd,xn,xa,xt,xp⟩:=e
    obtain ⟨yd,yn,ya,yt,yp⟩:=y
    simp only at q0 q1 q2 q3 q4 cS HB HPut hxy hh hdz hdw hd1 hd2
    go_wp2_with (go_at_call 60;refine cS.mono ?_;rintro _ w2 ⟨rfl,v2,n2,k2,p2⟩;obtain ⟨hX,k9⟩:=HB.out _ _ w2 k2;obtain ⟨m0,m1,m2,m3,m4⟩:=elB_all hX;have y0:=hxy w2 (HE.out _ _ w2 k9))
    have hcP:=fun n=>HPut.out (holdsB ⟨xd,xn,xa,xt,xp⟩ (es.drop (j + 1))) v2 n2 (w2.drewN n) rfl (k2.drewN n) (p2.drewN n)
    rw [hh] at hcP
    clear HB HPut hxy HE cS
    by_cases hgt:xd < yd
    ·have z1:decide (xd < yd) = true:=decide_eq_true hgt
     rw [z1] at hcP
     try simp only at m0 m1 m2 m3 m4
     go_quiet (fail)
     go_wp2_with (go_at_call 61;refine (hcP _).mono ?_;rintro _ w3 ⟨rfl,v3,n3,t3,s3,k3,p3,hs3,hq3⟩)
     go_roundw
     case rel=>exact ⟨j + 1,v3,n3,t3,s3,by omega,by go_num,k3,p3,hs3,hq3,trivial,trivial⟩
     case measure=>simp [RowKit.intOf];omega
    ·have z1:decide (xd < yd) = false:=decide_eq_false hgt
     rw [z1] at hcP
     try simp only at m0 m1 m2 m3 m4
     go_quiet (fail)
     go_wp2_with (go_at_call 61;refine (hcP _).mono ?_;rintro _ w3 ⟨rfl,v3,n3,t3,s3,k3,p3,hs3,hq3⟩)
     go_roundw
     case rel=>exact ⟨j + 1,v3,n3,t3,s3,by omega,by go_num,k3,p3,hs3,hq3,trivial,trivial⟩
     case measure=>simp [RowKit.intOf];omega
   ·have hh:=holds_end (e:=e) (show es.length ≤ j + 1 by omega)
    have hlz:decide ((j:Int) + 1 < es.length) = false:=decide_eq_false (by omega)
    have hlz2:¬ (j:Int) + 1 < es.length:=by omega
    clear hx hx2
    obtain ⟨xd,xn,xa,xt,xp⟩:=e
    simp only at q0 q1 q2 q3 q4 cS HB HPut hh hdz hdw hd1 hd2
    go_wp2_with (go_at_call 60;refine cS.mono ?_;rintro _ w2 ⟨rfl,v2,n2,k2,p2⟩;obtain ⟨hX,k9⟩:=HB.out _ _ w2 k2;obtain ⟨m0,m1,m2,m3,m4⟩:=elB_all hX)
    have hcP:=fun n=>HPut.out (holdsB ⟨xd,xn,xa,xt,xp⟩ (es.drop (j + 1))) v2 n2 (w2.drewN n) rfl (k2.drewN n) (p2.drewN n)
    rw [hh] at hcP
    clear HB HPut HE cS
    try simp only at m0 m1 m2 m3 m4
    go_quiet (fail)
    go_wp2_with (go_at_call 61;refine (hcP _).mono ?_;rintro _ w3 ⟨rfl,v3,n3,t3,s3,k3,p3,hs3,hq3⟩)
    go_roundw
    case rel=>exact ⟨j + 1,v3,n3,t3,s3,by omega,by go_num,k3,p3,hs3,hq3,trivial,trivial⟩
    case measure=>simp [RowKit.intOf];omega
  ·obtain rfl:j = es.length:=by omega
   have hq2:=hq.out
   rw [List.drop_length,pcsF] at hq2
   have cS:=shutTo_any w.heap.size (w.heap.size + 1) 0 v1 n1 t1 s1 _ p1 (by omega)
   rw [hq2] at cS
   have HK:Hid (∀ v n W,Pk w.heap.size v1 n1 v n wr W → Below w.heap.size w W):=Hid.mkP fun v n W h=>(HBl.out v n W (k1.trans h)).1
   clear HP hq hq2 HBl hmem p1 k1
   go_wp2_with (go_at_call 60;refine cS.mono ?_;rintro _ w2 ⟨rfl,v2,n2,k2,p2⟩;have e0:=p2.c0)
   go_ret
   exact ⟨v2,rfl,p2.own0,HK.out _ _ _ k2⟩
theorem isChars_any (s:ByteArray) (w:World) (hs:s.size ≤ 9223372036854775807):Calls Tryz.prog 56 #[.string s] w fun e w'=>e = .returned (.bool (chrB s)) ∧ Below w.heap.size w w':=by
 have c:=Chars_all s w hs
 unfold chrB
 generalize faultN xmlB s = p at c ⊢
 obtain ⟨a,b⟩:=p
 simp only at c ⊢
 by_cases h:a = 0
 ·subst h
  go_enter Tryz.func56,Tryz.ntmps56
  go_wp2_with (go_at_call 39;refine c.mono ?_;rintro _ w1 ⟨rfl,hb⟩)
  go_ret
  exact ⟨rfl,hb⟩
 ·have z:((a:Int) == 0) = false:=beq_eq_false_iff_ne.2 (by omega)
  have z2:decide (a = 0) = false:=decide_eq_false h
  rw [z2]
  go_enter Tryz.func56,Tryz.ntmps56
  go_wp2_with (go_at_call 39;refine c.mono ?_;rintro _ w1 ⟨rfl,hb⟩)
  go_ret
  exact ⟨by first | rfl | simp [z],hb⟩
theorem ARow.front {w:World} {pa:Option Addr} {H:Nat} {l:List Att} (h:ARow w pa H l) (n:Nat):ARow w pa H (l.take n) :=
 ⟨fun i t ht=>h.c i t (by
  have hi:i < (l.take n).length:=(List.getElem?_eq_some_iff.1 ht).1
  rw [List.length_take] at hi
  rw [List.getElem?_take_of_lt (by omega)] at ht
  exact ht)⟩
theorem atE_at {l:List Att} {j:Nat} {a:Att} (h:l[j]? = some a):atE (l.take j) (l.drop j) = (if xmlNameB a.nm = true ∧ chrB a.vl = true then (if hasA (l.take j) a.nm = true then 52 else atE (l.take (j + 1)) (l.drop (j + 1))) else 55):=by
 obtain ⟨hl,e⟩:=List.getElem?_eq_some_iff.1 h
 rw [List.drop_eq_getElem_cons hl,e,atE,List.take_add_one,h]
 rfl
theorem ent_hasAttrC:∀ ag w,(callFunc 71 ag).run Tryz.prog w = .ok (.enter 71 ag) w:=enters_of Tryz.func71 (by kernel_rfl) rfl
theorem checkAttrs_any (l:List Att) (pa:Option Addr) (ca:Nat) (w:World) (ha:ARow w pa w.heap.size l) (hl:l.length ≤ 1000000) (hca:l.length ≤ ca) (hz:∀ a ∈ l,a.nm.size ≤ 16777216 ∧ a.vl.size ≤ 16777216) :
  Calls Tryz.prog 55 #[.slice pa l.length ca] w fun e w'=>e = .returned (.int .i64 (atE [] l:Int)) ∧ Below w.heap.size w w':=by
 go_enter Tryz.func55,Tryz.ntmps55
 go_wp2_with fail
 go_loopw [7] (fun n wr=>∃ j:Nat,j ≤ l.length ∧ n = .int .i64 j ∧ Below w.heap.size w wr ∧ atE [] l = atE (l.take j) (l.drop j)) (fun n _=>l.length - (RowKit.intOf n).toNat)
 case atStart=>exact ⟨0,Nat.zero_le _,by go_num,Below.refl _ _,rfl⟩
 case round =>
  obtain ⟨j,hj,rfl,hb,hq⟩:=hrel
  by_cases hlt:j < l.length
  ·obtain ⟨a,hx⟩:∃ a,l[j]? = some a:=⟨l[j],List.getElem?_eq_getElem hlt⟩
   obtain ⟨g,o,rfl,hg,q0,q1,q2⟩:=ha.c j a hx
   have r0:=(hb.cell (p:=⟨g,_,none⟩) hg).trans q0
   have r1:=(hb.cell (p:=⟨g,_,none⟩) hg).trans q1
   have r2:=(hb.cell (p:=⟨g,_,none⟩) hg).trans q2
   have hlti:(j:Int) < l.length:=by omega
   rw [atE_at hx] at hq
   obtain ⟨z1,z2⟩:=hz a (List.mem_of_getElem? hx)
   have hb1:Below wr.heap.size wr (wr.alloc (.cells #[.string a.nm,.string a.vl,.int .i64 a.p] 54)):=bel1 wr _
   have hN:=aheap_new wr (.cells #[.string a.nm,.string a.vl,.int .i64 a.p] 54)
   have n0:(wr.alloc (.cells #[.string a.nm,.string a.vl,.int .i64 a.p] 54)).cell? ⟨wr.heap.size,0,none⟩ = some (.string a.nm):=by simp only [World.cell?,hN];rfl
   have n1:(wr.alloc (.cells #[.string a.nm,.string a.vl,.int .i64 a.p] 54)).cell? ⟨wr.heap.size,1,none⟩ = some (.string a.vl):=by simp only [World.cell?,hN];rfl
   have cX:=fun W=>XMLName_any a.nm (by omega) W
   have cC:=fun W=>isChars_any a.vl W (by omega)
   have HA:Hid (∀ W,Below wr.heap.size wr W → ARow W (some ⟨g,o,none⟩) W.heap.size (l.take j) ∧ Below w.heap.size w W):=Hid.mkA fun W hW=>⟨((ha.below (hb.trans (hW.mono hb.size))).mono (Nat.le_trans hb.size hW.size)).front j,hb.trans (hW.mono hb.size)⟩
   clear q0 q1 q2 hx hz ha
   obtain ⟨an,av,ap⟩:=a
   simp only at r0 r1 r2 n0 n1 cX cC hq hN hb1 z1 z2 ⊢
   cases hX:xmlNameB an
   ·rw [hX] at cX hq
    have HX:Hid (atE [] l = 55):=Hid.mkA (by rw [hq];simp)
    have HB:=Hid.mkA hb1
    clear hq hb1 hN
    go_wp2_with (go_at_call 54;refine (cX _).mono ?_;rintro _ w1 ⟨rfl,rfl⟩)
    go_ret
    exact ⟨by rw [HX.out];rfl,(HA.out _ HB.out).2⟩
   ·rw [hX] at cX hq
    cases hC:chrB av
    ·rw [hC] at cC hq
     have HX:Hid (atE [] l = 55):=Hid.mkA (by rw [hq];simp)
     have HB:=Hid.mkA hb1
     clear hq hb1 hN
     go_wp2_with (first | (go_at_call 54;refine (cX _).mono ?_;rintro _ w1 ⟨rfl,rfl⟩) | (go_at_call 56;refine (cC _).mono ?_;rintro _ w2 ⟨rfl,hb2⟩))
     go_ret
     exact ⟨by rw [HX.out];rfl,(HA.out _ (HB.out.trans (hb2.mono HB.out.size))).2⟩
    ·rw [hC] at cC hq
     have HB:=Hid.mkA hb1
     have hjca:(j:Int) ≤ ca:=by omega
     have hjca2:j ≤ ca:=by omega
     have hlen:(l.take j).length = j:=by rw [List.length_take];omega
     have HN:Hid (∀ W,Below (wr.alloc (.cells #[.string an,.string av,.int .i64 ap] 54)).heap.size (wr.alloc (.cells #[.string an,.string av,.int .i64 ap] 54)) W → W.cell? ⟨wr.heap.size,0,none⟩ = some (.string an)):=Hid.mkA fun W hW=>(hW.cell (p:=⟨wr.heap.size,0,none⟩) (by rw [World.size_alloc];show wr.heap.size < _;omega)).trans n0
     have HH:Hid (∀ W,Below wr.heap.size wr W → Calls Tryz.prog 71 #[.slice (some ⟨g,o,none⟩) j ca,.string an] W.drew fun r w'=>∃ u,r = .returned u ∧ (u = .bool (hasA (l.take j) an) ∧ Below W.heap.size W w')):=Hid.mkA fun W hW=>by
      have:=hasAttr_any (l.take j) (some ⟨g,o,none⟩) ca an W.drew (((HA.out W hW).1).below (w':=W.drew) ⟨rfl,rfl,rfl,Nat.le_refl _,fun _ _=>rfl⟩) (by omega)
      rw [hlen] at this
      exact this.mono fun r w' q=>⟨_,q.1,rfl,⟨q.2.os,q.2.tape,q.2.output,q.2.size,q.2.block⟩⟩
     simp only [if_true,and_self] at hq
     cases hh:hasA (l.take j) an
     ·rw [hh] at HH hq
      have HX:Hid (atE [] l = atE (l.take (j + 1)) (l.drop (j + 1))):=Hid.mkA (by rw [hq];simp)
      clear hq hb1 hN
      go_wp2_with (first | (go_at_call 54;refine (cX _).mono ?_;rintro _ w1 ⟨rfl,rfl⟩) | (go_at_call 56;refine (cC _).mono ?_;rintro _ w2 ⟨rfl,hb2⟩))
      have m0:=HN.out w2 hb2
      have hb3:=HB.out.trans (hb2.mono HB.out.size)
      have cH:=HH.out w2 hb3
      go_region_law (refine xstep2 ?_ _ (.tmp 24) (.tmp 26) #[30,9] ?_ ent_hasAttrC _ _ ?_ ?_ _ cH ?_;rfl;rfl;rfl;rfl;rintro _ w3 ⟨rfl,hB3⟩)
      all_goals
       go_wp2_with fail
       go_roundw
       case rel=>exact ⟨j + 1,by omega,by go_num,(HA.out _ (hb3.trans (hB3.mono hb3.size))).2,HX.out⟩
       case measure=>simp [RowKit.intOf];omega
     ·rw [hh] at HH hq
      have HX:Hid (atE [] l = 52):=Hid.mkA (by rw [hq];simp)
      clear hq hb1 hN
      go_wp2_with (first | (go_at_call 54;refine (cX _).mono ?_;rintro _ w1 ⟨rfl,rfl⟩) | (go_at_call 56;refine (cC _).mono ?_;rintro _ w2 ⟨rfl,hb2⟩))
      have m0:=HN.out w2 hb2
      have hb3:=HB.out.trans (hb2.mono HB.out.size)
      have cH:=HH.out w2 hb3
      go_region_law (refine xstep2 ?_ _ (.tmp 24) (.tmp 26) #[30,9] ?_ ent_hasAttrC _ _ ?_ ?_ _ cH ?_;rfl;rfl;rfl;rfl;rintro _ w3 ⟨rfl,hB3⟩)
      all_goals
       go_wp2_with fail
       go_ret
       exact ⟨by rw [HX.out];rfl,(HA.out _ (hb3.trans (hB3.mono hb3.size))).2⟩
  ·obtain rfl:j = l.length:=by omega
   have HX:Hid (atE [] l = 0):=Hid.mkA (by rw [hq];simp [atE])
   clear hq
   go_wp2_with fail
   go_ret
   exact ⟨by rw [HX.out];rfl,hb⟩
theorem checkElem_any (n:Nat) (e:El) (ahead:Int) (pa:Option Addr) (ca:Nat) (w:World) (ha:ARow w pa w.heap.size e.ats) (hca:e.ats.length ≤ ca) (hz:e.nm.size ≤ 16777216 ∧ e.tx.size ≤ 16777216 ∧ e.ats.length ≤ 1048576 ∧ ∀ a ∈ e.ats,a.nm.size ≤ 16777216 ∧ a.vl.size ≤ 16777216) (hd:-9223372036854775808 ≤ e.d ∧ e.d ≤ 9223372036854775807) (hah:0 ≤ ahead ∧ ahead ≤ 16) (hn:n ≤ 1048576) :
  Calls Tryz.prog 34 #[.int .i64 (n:Int),.agg #[.int .i64 e.d,.string e.nm,.slice pa e.ats.length ca,.string e.tx,.int .i64 e.p],.int .i64 ahead] w fun r w'=>r = .returned (.int .i64 (elE n ahead e:Int)) ∧ Below w.heap.size w w':=by
 obtain ⟨z1,z2,z3,z4⟩:=hz
 have hb0:=bel1 w (.cells #[.int .i64 e.d,.string e.nm,.slice pa e.ats.length ca,.string e.tx,.int .i64 e.p] 32)
 have hN:=aheap_new w (.cells #[.int .i64 e.d,.string e.nm,.slice pa e.ats.length ca,.string e.tx,.int .i64 e.p] 32)
 have hsz:w.heap.size < (w.alloc (.cells #[.int .i64 e.d,.string e.nm,.slice pa e.ats.length ca,.string e.tx,.int .i64 e.p] 32)).heap.size:=by rw [World.size_alloc];omega
 generalize hW:w.alloc (.cells #[.int .i64 e.d,.string e.nm,.slice pa e.ats.length ca,.string e.tx,.int .i64 e.p] 32) = W at hb0 hN hsz
 have HC:Hid (∀ W',Below W.heap.size W W' → W'.cell? ⟨w.heap.size,2,none⟩ = some (.slice pa e.ats.length ca) ∧ W'.cell? ⟨w.heap.size,3,none⟩ = some (.string e.tx)):=Hid.mkA fun W' h=>by
  have hh:=(h.block w.heap.size hsz).trans hN
  exact ⟨by simp only [World.cell?,hh];rfl,by simp only [World.cell?,hh];rfl⟩
 have c0:W.cell? ⟨w.heap.size,0,none⟩ = some (.int .i64 e.d):=by simp only [World.cell?,hN];rfl
 have c1:W.cell? ⟨w.heap.size,1,none⟩ = some (.string e.nm):=by simp only [World.cell?,hN];rfl
 obtain ⟨c2,c3⟩:=HC.out W (Below.refl _ _)
 have hww:IntKind.i64.wrap (ahead + 1) = ahead + 1:=by rw [IntKind.wrap_i64];omega
 have cX:=fun W=>XMLName_any e.nm (by omega) W
 have cC:=fun W=>isChars_any e.tx W (by omega)
 have HB:=Hid.mkA hb0
 have cA:=checkAttrs_any e.ats pa ca W ((ha.below hb0).mono hb0.size)
 clear hN hsz ha hb0
 obtain ⟨xd,xn,xa,xt,xp⟩:=e
 simp only at c0 c1 c2 c3 cX cC cA hW HC hd hca z1 z2 z3 z4 ⊢
 unfold elE
 simp only
 by_cases g1:xd < 1
 ·rw [if_pos (.inl g1)]
  clear cA cX cC HC
  go_enter Tryz.func34,Tryz.ntmps34
  go_wp2_with fail
  go_ret
  exact ⟨rfl,HB.out⟩
 by_cases g2:ahead + 1 < xd
 ·rw [if_pos (.inr g2)]
  clear cA cX cC HC
  go_enter Tryz.func34,Tryz.ntmps34
  go_wp2_with fail
  go_ret
  exact ⟨rfl,HB.out⟩
 rw [if_neg (by omega)]
 by_cases g3:xd = 1 ∧ 0 < n
 ·rw [if_pos g3]
  obtain ⟨rfl,g3⟩:=g3
  have g3':(0:Int) < n:=by omega
  clear cA cX cC HC
  go_enter Tryz.func34,Tryz.ntmps34
  go_wp2_with fail
  go_ret
  exact ⟨rfl,HB.out⟩
 rw [if_neg g3]
 have hg3:(xd == 1) = false ∨ (¬ (0:Int) < n ∧ xd = 1):=by
  by_cases h:xd = 1
  ·exact .inr ⟨by omega,h⟩
  ·exact .inl (beq_eq_false_iff_ne.2 h)
 by_cases g4:16 < xd
 ·rw [if_pos g4]
  have g6:(xd == 1) = false:=beq_eq_false_iff_ne.2 (by omega)
  clear cA cX cC HC hg3 g3
  go_enter Tryz.func34,Tryz.ntmps34
  go_wp2_with fail
  go_ret
  exact ⟨rfl,HB.out⟩
 rw [if_neg g4]
 by_cases g5:20000 ≤ n
 ·rw [if_pos g5]
  have g5':(20000:Int) ≤ n:=by omega
  have g6:(xd == 1) = false:=by
   rcases hg3 with h | ⟨h,_⟩
   ·exact h
   ·omega
  clear cA cX cC HC hg3 g3
  go_enter Tryz.func34,Tryz.ntmps34
  go_wp2_with fail
  go_ret
  exact ⟨rfl,HB.out⟩
 rw [if_neg g5]
 have g5':¬ (20000:Int) ≤ n:=by omega
 clear g3 g5
 cases hX:xmlNameB xn
 ·rw [hX] at cX
  rw [if_pos rfl]
  clear cA cC HC
  rcases hg3 with h3 | ⟨h3,rfl⟩
  all_goals
   go_enter Tryz.func34,Tryz.ntmps34
   go_wp2_with (go_at_call 54;refine (cX _).mono ?_;rintro _ _ ⟨rfl,rfl⟩)
   go_ret
   exact ⟨rfl,HB.out⟩
 rw [hX] at cX
 rw [if_neg (by decide)]
 by_cases g7:24 < xa.length
 ·rw [if_pos g7]
  have g7':(24:Int) < xa.length:=by omega
  clear cA cC HC
  rcases hg3 with h3 | ⟨h3,rfl⟩
  all_goals
   go_enter Tryz.func34,Tryz.ntmps34
   go_wp2_with (go_at_call 54;refine (cX _).mono ?_;rintro _ _ ⟨rfl,rfl⟩)
   go_ret
   exact ⟨rfl,HB.out⟩
 rw [if_neg g7]
 have g7':decide ((24:Int) < xa.length) = false:=decide_eq_false (by omega)
 replace cA:=cA (by omega) hca z4
 generalize atE [] xa = er at cA ⊢
 clear g7 z4 hca hd z1 z2 z3 hah hn hX
 by_cases g8:er = 0
 ·subst g8
  simp only [ne_eq,not_true,if_false]
  generalize chrB xt = cb at cC ⊢
  cases cb
  all_goals
   rcases hg3 with h3 | ⟨h3,rfl⟩
   all_goals
    go_enter Tryz.func34,Tryz.ntmps34
    go_wp2_with (go_at_call 54;refine (cX _).mono ?_;rintro _ _ ⟨rfl,rfl⟩)
    refine cA.mono ?_
    rintro _ w1 ⟨rfl,hb1⟩
    obtain ⟨d2,d3⟩:=HC.out w1 hb1
    clear cA cX c0 c1 c2 c3
    go_wp2_with fail
    refine (cC _).mono ?_
    rintro _ w2 ⟨rfl,hb2⟩
    go_wp2_with fail
    go_ret
    exact ⟨rfl,HB.out.trans ((hb1.trans (hb2.mono hb1.size)).mono HB.out.size)⟩
 ·rw [if_pos g8]
  have g8':((er:Int) != 0) = true:=by rw [bne,beq_eq_false_iff_ne.2 (by omega)];rfl
  have g8'':((er:Int) == 0) = false:=beq_eq_false_iff_ne.2 (by omega)
  clear cC
  rcases hg3 with h3 | ⟨h3,rfl⟩
  all_goals
   go_enter Tryz.func34,Tryz.ntmps34
   go_wp2_with (go_at_call 54;refine (cX _).mono ?_;rintro _ _ ⟨rfl,rfl⟩)
   refine cA.mono ?_
   rintro _ w1 ⟨rfl,hb1⟩
   go_wp2_with fail
   go_ret
   exact ⟨rfl,HB.out.trans (hb1.mono HB.out.size)⟩
theorem CRow.ec {w:World} {base g cap:Nat} {es:List El} (h:CRow w base g cap es):EC w (some ⟨g,0,none⟩) w.heap.size es :=
 ⟨fun i t ht=>by
  obtain ⟨g1,o1,pa,ca,e,hg,h0,h1,h2,h3,h4,h5⟩:=h.er.c i t ht
  cases e
  obtain ⟨ga,ca2,k1,k2,-,-⟩:=h.at_ i t ht
  rw [Nat.zero_add] at h2
  rw [h2] at k1
  cases k1
  exact ⟨g,0,_,ca,rfl,hg,h0,h1,by rw [Nat.zero_add];exact h2,h3,h4,h5,by omega⟩⟩
structure PSz (es:List El):Prop where
 n:es.length ≤ 1048576
 d:∀ e ∈ es,-9223372036854775808 ≤ e.d ∧ e.d ≤ 9223372036854775807
 s:∀ e ∈ es,e.nm.size ≤ 16777216 ∧ e.tx.size ≤ 16777216 ∧ e.ats.length ≤ 1048576 ∧ ∀ a ∈ e.ats,a.nm.size ≤ 16777216 ∧ a.vl.size ≤ 16777216
theorem chkF_at {es:List El} {j:Nat} {e:El} (ah:Int) (h:es[j]? = some e):chkF (es.drop j) j ah = if elE j ah e = 0 then chkF (es.drop (j + 1)) (j + 1) e.d else (elE j ah e,j):=by
 obtain ⟨hl,e1⟩:=List.getElem?_eq_some_iff.1 h
 rw [List.drop_eq_getElem_cons hl,e1,chkF]
theorem elE_d {n:Nat} {ahead:Int} {e:El} (h:elE n ahead e = 0):1 ≤ e.d ∧ e.d ≤ 16:=by
 unfold elE at h
 split at h
 ·cases h
 ·split at h
  ·cases h
  ·split at h
   ·cases h
   ·rename_i h1 h2 h3
    omega
theorem tCheck_any (pp:Option Addr) (cp:Nat) (es:List El) (w:World) (hr:EC w pp w.heap.size es) (hz:PSz es) :
  Calls Tryz.prog 17 #[.slice pp es.length cp] w fun e w'=>e = .returned (.tuple #[.int .i64 ((chkZ es).1:Int),.int .i64 ((chkZ es).2:Int)]) ∧ Below w.heap.size w w':=by
 by_cases h0:es = []
 ·subst h0
  go_enter Tryz.func17,Tryz.ntmps17
  go_wp2_with fail
  exact bodyPost_ret (v:=.tuple #[.int .i64 53,.int .i64 0]) (by simp [results,Tryz.results17,go_sem]) rfl ⟨rfl,Below.refl _ _⟩
 ·have hlp:0 < es.length:=List.length_pos_iff.2 h0
  have hc:chkZ es = chkF es 0 0:=by unfold chkZ;rw [if_neg h0]
  rw [hc]
  have z0:((es.length:Int) == 0) = false:=beq_eq_false_iff_ne.2 (by omega)
  have hn:=hz.n
  clear h0 hc
  go_enter Tryz.func17,Tryz.ntmps17
  go_wp2_with fail
  clear z0
  go_loopw [4,5,13] (fun a i n wr=>∃ (j:Nat) (ah:Int),j ≤ es.length ∧ 0 ≤ ah ∧ ah ≤ 16 ∧ a = .int .i64 ah ∧ n = .int .i64 j ∧ Below w.heap.size w wr ∧ Hid (chkF es 0 0 = chkF (es.drop j) j ah) ∧ i = i) (fun _ _ n _=>es.length - (RowKit.intOf n).toNat)
  case atStart=>exact ⟨0,0,Nat.zero_le _,by decide,by decide,rfl,by go_num,Below.refl _ _,Hid.mkA rfl,rfl⟩
  case round =>
   obtain ⟨j,ah,hj,ha0,ha1,rfl,rfl,hb,hq,-⟩:=hrel
   by_cases hlt:j < es.length
   ·obtain ⟨e,hx⟩:∃ e,es[j]? = some e:=⟨es[j],List.getElem?_eq_getElem hlt⟩
    obtain ⟨g,o,pa,ca,rfl,hg,q0,q1,q2,q3,q4,hA,hca⟩:=(hr.below hb).c j e hx
    have hmem:=List.mem_of_getElem? hx
    have hs:=hz.s e hmem
    have hb1:=bel1 wr (elB e (.slice pa e.ats.length ca))
    have hN:=aheap_new wr (elB e (.slice pa e.ats.length ca))
    have hT:Below w.heap.size w (wr.alloc (elB e (.slice pa e.ats.length ca))):=hb.trans (hb1.mono hb.size)
    have c:=checkElem_any j e ah pa ca (wr.alloc (elB e (.slice pa e.ats.length ca))) (((hA.mono hb.size).below hb1).mono hb1.size) hca ⟨by omega,by omega,by omega,fun a ha=>by have:=hs.2.2.2 a ha;omega⟩ (hz.d e hmem) ⟨ha0,ha1⟩ (by omega)
    have HB:Hid (∀ W,Below (wr.alloc (elB e (.slice pa e.ats.length ca))).heap.size (wr.alloc (elB e (.slice pa e.ats.length ca))) W → Below w.heap.size w W ∧ W.cell? ⟨wr.heap.size,0,none⟩ = some (.int .i64 e.d)):=Hid.mkA fun W hW=>⟨hT.trans (hW.mono hT.size),by
     have hh:=(hW.block wr.heap.size (by rw [World.size_alloc];omega)).trans hN
     simp only [World.cell?,hh];rfl⟩
    have hlti:(j:Int) < es.length:=by omega
    have hF:=chkF_at ah hx
    clear hx hz hr hA hca hs hmem hb1 hN hT
    by_cases he:elE j ah e = 0
    ·have hd:=elE_d he
     rw [he] at c
     rw [if_pos he] at hF
     have HX:Hid (chkF es 0 0 = chkF (es.drop (j + 1)) (j + 1) e.d):=Hid.mkA (hq.out.trans hF)
     clear hF hq he
     obtain ⟨xd,xn,xa,xt,xp⟩:=e
     simp only at q0 q1 q2 q3 q4 c HB HX hd
     go_wp2_with (go_at_call 34;refine c.mono ?_;rintro _ w1 ⟨rfl,hb2⟩;obtain ⟨hT,m0⟩:=HB.out w1 hb2)
     go_roundw
     case rel=>exact ⟨j + 1,xd,by omega,by omega,hd.2,rfl,by go_num,hT,HX,trivial⟩
     case measure=>simp [RowKit.intOf];omega
    ·rw [if_neg he] at hF
     have HX:Hid (chkF es 0 0 = (elE j ah e,j)):=Hid.mkA (hq.out.trans hF)
     have z1:((elE j ah e:Int) == 0) = false:=beq_eq_false_iff_ne.2 (by omega)
     have z2:((elE j ah e:Int) != 0) = true:=by rw [bne,z1];rfl
     clear hF hq
     generalize elE j ah e = er at c z1 z2 HX he
     obtain ⟨xd,xn,xa,xt,xp⟩:=e
     simp only at q0 q1 q2 q3 q4 c HB HX
     go_wp2_with (go_at_call 34;refine c.mono ?_;rintro _ w1 ⟨rfl,hb2⟩;obtain ⟨hT,m0⟩:=HB.out w1 hb2)
     exact bodyPost_ret (v:=.tuple #[.int .i64 (er:Int),.int .i64 (j:Int)]) (by simp [results,Tryz.results17,go_sem]) rfl ⟨by rw [HX.out],hT⟩
   ·obtain rfl:j = es.length:=by omega
    have HX:Hid (chkF es 0 0 = (0,0)):=Hid.mkA (by rw [hq.out,List.drop_length];rfl)
    clear hq
    go_wp2_with fail
    exact bodyPost_ret (v:=.tuple #[.int .i64 0,.int .i64 0]) (by simp [results,Tryz.results17,go_sem]) rfl ⟨by rw [HX.out];rfl,hb⟩
theorem pcs_ok (N:Nat):∀ (r:List El) (st:List ByteArray),(∀ e ∈ r,e.nm.size ≤ N ∧ e.tx.size ≤ N ∧ ∀ a ∈ e.ats,a.nm.size ≤ N ∧ a.vl.size ≤ N) → (∀ nm ∈ st,nm.size ≤ N) → ∀ t ∈ pcsF r st,t.nm.size ≤ N ∧ t.vl.size ≤ N
 | [],st,_,hst,t,ht=>by
  unfold pcsF shutL at ht
  obtain ⟨nm,hm,rfl⟩:=List.mem_map.1 ht
  exact ⟨hst nm (List.mem_of_mem_take hm),Nat.zero_le _⟩
 | e :: r,st,hr,hst,t,ht=>by
  obtain ⟨h1,h2,h3⟩:=hr e (by simp)
  have hcut:∀ nm ∈ cutS st (e.d - 1).toNat,nm.size ≤ N:=fun nm hm=>hst nm (List.mem_of_mem_drop hm)
  unfold pcsF at ht
  rcases List.mem_append.1 ht with ht | ht
  ·unfold shutL at ht
   obtain ⟨nm,hm,rfl⟩:=List.mem_map.1 ht
   exact ⟨hst nm (List.mem_of_mem_take hm),Nat.zero_le _⟩
  ·rcases List.mem_append.1 ht with ht | ht
   ·unfold putP at ht
    rcases List.mem_cons.1 ht with rfl | ht
    ·exact ⟨h1,Nat.zero_le _⟩
    ·rcases List.mem_append.1 ht with ht | ht
     ·obtain ⟨a,ha,rfl⟩:=List.mem_map.1 ht
      exact h3 a ha
     ·split at ht
      ·obtain rfl:t = pcM:=by simpa using ht
       exact ⟨Nat.zero_le _,Nat.zero_le _⟩
      ·rcases List.mem_cons.1 ht with rfl | ht
       ·exact ⟨Nat.zero_le _,Nat.zero_le _⟩
       ·split at ht
        ·cases ht
        ·obtain rfl:t = pcT e.tx:=by simpa using ht
         exact ⟨Nat.zero_le _,h2⟩
   ·refine pcs_ok N r _ (fun x hx=>hr x (by simp [hx])) (fun nm hm=>?_) t ht
    unfold putS at hm
    split at hm
    ·exact hcut nm hm
    ·rcases List.mem_cons.1 hm with rfl | hm
     ·exact h1
     ·exact hcut nm hm
theorem tPrint_any (pp:Option Addr) (cp:Nat) (es:List El) (w:World) (hr:EC w pp w.heap.size es) (hz:PSz es) (hE:Env w) (hS:ShpTab w) (h7:7 ≤ w.heap.size) :
  Calls Tryz.prog 19 #[.slice pp es.length cp] w fun e w'=>e = .returned (.tuple #[.string (sOf (prtZ es).1),.int .i64 ((prtZ es).2.1:Int),.int .i64 ((prtZ es).2.2:Int)]) ∧ Below w.heap.size w w':=by
 have cC:=tCheck_any pp cp es w hr hz
 by_cases h0:(chkZ es).1 = 0
 ·rw [chk_zero h0] at cC
  have hz2:prtZ es = (if (prtS 16 es).length ≤ 1048576 then (prtS 16 es,0,0) else ([],45,es.length)):=by unfold prtZ;rw [if_pos h0]
  have hlen:=(chk_len h0).1
  have cP:Hid (∀ W,Below w.heap.size w W → Calls Tryz.prog 36 #[.slice pp es.length cp] W fun e w'=>∃ g cap,e = .returned (.slice (some ⟨g,0,none⟩) (pcsF es []).length cap) ∧ IRow w' (some ⟨g,0,none⟩) w'.heap.size (pcsF es []) ∧ Below W.heap.size W w'):=Hid.mkP fun W hW=>by
   refine (pieces_any2 pp cp es W ((hr.below hW).mono hW.size).erow (chk_tr h0) hlen).mono ?_
   rintro e w' ⟨v,rfl,ho,hb⟩
   have hne:0 < (pcsF es []).length:=by
    have:=(chk_len h0).2
    cases es with
    | nil=>exact absurd rfl this
    | cons x r=>unfold pcsF putP;simp only [List.length_append,List.length_cons];omega
   obtain ⟨g,cap,rfl⟩:=own_shape ho hne
   have hg:=(ownLt ho (k:=g) rfl).2
   refine ⟨g,cap,rfl,IRow.of_own (bl:=[]) (by rw [List.append_nil];exact ho) hg,hb⟩
  have hok:∀ t ∈ pcsF es [],t.ok:=fun t ht=>by
   have:=pcs_ok 16777216 es [] (fun e he=>⟨(hz.s e he).1,(hz.s e he).2.1,(hz.s e he).2.2.2⟩) (fun nm hm=>by cases hm) t ht
   exact ⟨by omega,by omega⟩
  have hPl:(pcsF es []).length ≤ 560000:=by have:=pcsF_len es 0 [] (chk_tr h0);simp at this;omega
  have hpr:=pr_of (pcsF es []) 0 (-1) [] (chn_all h0)
  rw [pcs_all h0] at hpr
  have cX:Hid (∀ W g cap,Below w.heap.size w W → IRow W (some ⟨g,0,none⟩) W.heap.size (pcsF es []) → Calls Tryz.prog 35 #[.slice (some ⟨g,0,none⟩) (pcsF es []).length cap] W fun e w'=>e = .returned (.tuple #[.string (sOf (prZ (pcsF es []) 0 (-1) []).1),.int .i64 ((prZ (pcsF es []) 0 (-1) []).2.1:Int),.int .i64 ((prZ (pcsF es []) 0 (-1) []).2.2:Int)]) ∧ Below W.heap.size W w'):=Hid.mkP fun W g cap hW hI =>
   Print_any _ cap _ W hI (by omega) hok (hE.below hW h7) (hS.below hW h7) (Nat.le_trans h7 hW.size)
  rw [hz2]
  clear hr hz hok hE hS h7 hz2
  generalize pcsF es [] = P at *
  by_cases hl:(prtS 16 es).length ≤ 1048576
  ·rw [if_pos hl]
   rw [hpr.1 (by simpa using hl),List.nil_append] at cX
   clear hpr h0
   go_enter Tryz.func19,Tryz.ntmps19
   go_wp2_with fail
   refine cC.mono ?_
   rintro _ w1 ⟨rfl,hb1⟩
   go_wp2_with fail
   refine (cP.out w1 hb1).mono ?_
   rintro _ w2 ⟨g,cap,rfl,hI,hb2⟩
   have hb12:=hb1.trans (hb2.mono hb1.size)
   go_wp2_with fail
   refine (cX.out w2 g cap hb12 hI).mono ?_
   rintro _ w3 ⟨rfl,hb3⟩
   go_wp2_with fail
   exact bodyPost_ret (v:=.tuple #[.string (sOf (prtS 16 es)),.int .i64 0,.int .i64 0]) (by simp [results,Tryz.results19,go_sem]) rfl ⟨rfl,hb12.trans (hb3.mono hb12.size)⟩
  ·rw [if_neg hl]
   rw [hpr.2 (by simp;omega)] at cX
   clear hpr h0
   go_enter Tryz.func19,Tryz.ntmps19
   go_wp2_with fail
   refine cC.mono ?_
   rintro _ w1 ⟨rfl,hb1⟩
   go_wp2_with fail
   refine (cP.out w1 hb1).mono ?_
   rintro _ w2 ⟨g,cap,rfl,hI,hb2⟩
   have hb12:=hb1.trans (hb2.mono hb1.size)
   go_wp2_with fail
   refine (cX.out w2 g cap hb12 hI).mono ?_
   rintro _ w3 ⟨rfl,hb3⟩
   go_wp2_with fail
   exact bodyPost_ret (v:=.tuple #[.string ⟨#[]⟩,.int .i64 45,.int .i64 (es.length:Int)]) (by simp [results,Tryz.results19,go_sem]) rfl ⟨rfl,hb12.trans (hb3.mono hb12.size)⟩
 ·have hz2:prtZ es = ([],(chkZ es).1,(chkZ es).2):=by unfold prtZ;rw [if_neg h0]
  rw [hz2]
  have z1:(((chkZ es).1:Int) == 0) = false:=beq_eq_false_iff_ne.2 (by omega)
  have z2:(((chkZ es).1:Int) != 0) = true:=by rw [bne,z1];rfl
  clear hz2 hr hz hE hS h7
  generalize chkZ es = q at *
  obtain ⟨a,b⟩:=q
  simp only at z1 z2 cC ⊢
  go_enter Tryz.func19,Tryz.ntmps19
  go_wp2_with fail
  refine cC.mono ?_
  rintro _ w1 ⟨rfl,hb1⟩
  go_wp2_with fail
  exact bodyPost_ret (v:=.tuple #[.string ⟨#[]⟩,.int .i64 (a:Int),.int .i64 (b:Int)]) (by simp [results,Tryz.results19,go_sem]) rfl ⟨rfl,hb1⟩
end Go.Proofs.YtchfphakhmifmabGreatDoor
