import Derived.Test.YtjlbcdnkglaheaaGreatDoorK38
import Derived.Deep.Slices
import Derived.Lib.SlBytesConst
namespace Go.Proofs.YtjlbcdnkglaheaaGreatDoor
set_option maxRecDepth 1000000
set_option maxHeartbeats 16000000
open Go.ChangeShapes Go.WideShapes Go.ChangeAt Go.RowKit
open Go.Shelf Go.Maps
namespace C
theorem wpList_append_ex {P:Program} {w:World} {ops:Array Oper} {rest:List Oper} {o:Oper} {a:Act} {Q:Exit->Act->World->Prop} (hgd:o.guard=none) (s x:Operand) (t:TypeId)
  (ho:o.op = .call { callee:=.builtin .append,args:=#[s,x],argTypes:=#[t,t] }) (sv xv:Value) (hs:a.eval s=sv) (hx:a.eval x=xv) (Post:Value->World->Prop)
  (hrun:∃ v w',(∀ ty,(Builtin.append_ #[t,t] ty #[sv,xv]).run P w = .ok v w')/\Post v w')
  (h:∀ v w',Post v w'->wpList P ops Q rest (a.put o.dst v) w'):wpList P ops Q (o::rest) a w:=by
 obtain⟨v,w',hr,hp⟩:=hrun
 refine wpList_plain hgd fun _ hK=>?_
 unfold Oper.wp execOp
 simp only[ho,resolve,invoke,builtin,Sem.run_bind,Sem.run_pure,Result.andThen_ok,List.map_toArray,List.map_cons,List.map_nil,hs,hx,hr]
 exact hK _ _ (h v w' hp)
theorem zeros_eq (z:Value) (hz:z.cells=#[z]) (n:Nat):(Builtin.zeroCells z.cells n).toList=List.replicate n z:=by
 rw[hz]
 simp[Builtin.zeroCells]
 apply List.ext_getElem
 ·simp
 ·intro i h1 h2
  simp[Nat.mod_one]
theorem info5:(Tryz.prog.info? 5).map (fun i=>(i.zero,i.size,i.bytes))=some (some (.int .u8 0),1,1):=by kernel_rfl
theorem info5':∃ i,Tryz.prog.info? 5=some i/\i.zero=some (.int .u8 0)/\i.size=1/\i.bytes=1:=by
 obtain⟨i,hi,hz⟩:=Option.map_eq_some_iff.1 info5
 simp only[Prod.mk.injEq] at hz
 exact⟨i,hi,hz.1,hz.2.1,hz.2.2⟩
structure Arg (w:World) (a:Option Addr) (L:Nat) (bi:Nat->Int):Prop where
 nil:a=none->L=0
 cell:∀ (ad:Addr),a=some ad->∀ j,j<L->w.cell? (ad.add j)=some (.int .u8 (bi j))
theorem Arg.src {w:World} {a:Option Addr} {L C:Nat} {bi:Nat->Int} (h:Arg w a L bi):Src Tryz.prog 1 31 (.slice a L C) L ((List.range L).map fun j=>.int .u8 (bi j)) w:=by
 cases a with
 | none =>
  obtain rfl:=h.nil rfl
  exact Src.ofNil w Tryz.underlying31 C
 | some ad =>
  refine Src.ofSlice w Tryz.underlying31 ad L C _ (by simp) (fun j u hu=>?_) (fun u hu=>?_)
  ·have hj:j<L:=by
    have:=(List.getElem?_eq_some_iff.1 hu).1
    simpa using this
   simp[hj] at hu
   rw[<- hu];exact h.cell ad rfl j hj
  ·obtain⟨j,_,rfl⟩:=List.mem_map.1 hu
   rfl
theorem new_row (W:World) (news:List Value) (k:Nat):(W.alloc (.cells (news.toArray++Builtin.zeroCells (Value.int .u8 0).cells k) 5)).rowIs W.heap.size 5 (news.length+k) (fun j=>news.getD j (.int .u8 0)):=by
 have e:(news.toArray++Builtin.zeroCells (Value.int .u8 0).cells k).toList=news++List.replicate k (.int .u8 0):=by
  rw[Array.toList_append,zeros_eq _ rfl]
 have hsz:(news.toArray++Builtin.zeroCells (Value.int .u8 0).cells k).size=news.length+k:=by
  rw[<- Array.length_toList,e];simp
 have:=World.rowIs_alloc W (news.toArray++Builtin.zeroCells (Value.int .u8 0).cells k) 5 (fun j=>news.getD j (.int .u8 0)) (fun j hj=>by
  rw[<- Array.getElem?_toList,e]
  rw[hsz] at hj
  by_cases h:j<news.length
  ·rw[List.getElem?_append_left h];simp[List.getD,h]
  ·rw[List.getElem?_append_right (by omega),List.getElem?_replicate,if_pos (by omega)];simp[List.getD,h])
 rw[hsz] at this
 exact this
theorem app_copy (W:World) (g0:Nat) (a:Option Addr) (L C:Nat) (bi:Nat->Int) (h0:W.heap[g0]?=some (.cells #[] 5 (0,0))) (hb:Arg W a L bi) (hL:L<=140737488355328) :
  ∃ v w',(∀ ty,(Builtin.append_ #[31,31] ty #[.slice (some ⟨g0,0,none⟩) 0 0,.slice a L C]).run Tryz.prog W = .ok v w') /\
   ∃ g cap,v = .slice (some ⟨g,0,none⟩) L cap/\Below W.heap.size W w'/\w'.rowIs g 5 cap (fun j=>.int .u8 (if j<L then bi j else 0))/\L<=cap/\(g=g0\/g=W.heap.size)/\cap<=maxLen:=by
 obtain⟨i,hi,hz,hs,hby⟩:=info5'
 have S:Src Tryz.prog i.size 31 (.slice a L C) L ((List.range L).map fun j=>.int .u8 (bi j)) W:=by rw[hs];exact hb.src
 have R0:W.rowIs g0 5 0 (fun j=>.int .u8 (if j<L then bi j else 0)):=⟨#[],h0,rfl,fun i hi=>by omega⟩
 rcases Nat.eq_zero_or_pos L with rfl|hpos
 ·refine⟨_,_,fun ty=>run_append_room_src W 31 31 ty 5 i Tryz.underlying31 hi g0 0 0 0 _ 0 _ S (Nat.le_refl _) (fun j hj=>by simp at hj) (fun j hj=>by simp at hj),g0,0,rfl,?_,?_,Nat.le_refl _,Or.inl rfl,Nat.zero_le _⟩
  ·exact Below.refl _ _
  ·exact R0
 ·have hold:(Builtin.firstCells i.size 0 (.slice (some ⟨g0,0,none⟩) 0 0)).run Tryz.prog W.drew = .ok ([]:List Value).toArray W.drew :=
   run_firstCells_some W.drew i.size 0 ⟨g0,0,none⟩ 0 0 [] (by simp) (fun j u hu=>by simp at hu)
  have hfit:Builtin.nextslicecap (0+L) 0*i.bytes<=281474976710656:=by
   rw[Nat.zero_add,nextslicecap_zero hpos,hby];omega
  have ge:=grownCap_ge W (0+L) 0 5
  have le:=grownCap_le_maxLen W (0+L) 0 5 (by unfold maxLen;omega)
  refine⟨_,_,fun ty=>run_append_grow_src W 31 31 ty 5 i (.int .u8 0) Tryz.underlying31 hi hz (some ⟨g0,0,none⟩) 0 0 [] hold _ L _ S (by omega) (by omega) hfit,W.heap.size,grownCap W (0+L) 0 5,by simp,?_,?_,by omega,Or.inr rfl,le⟩
  ·exact(Below.refl _ _).drew.alloc (Nat.le_refl _) _
  ·have:=new_row W.drew (([]:List Value)++((List.range L).map fun j=>Value.int .u8 (bi j))) (grownCap W (0+L) 0 5-(0+L))
   simp only[List.nil_append,List.length_map,List.length_range] at this
   rw[show L+(grownCap W (0+L) 0 5-(0+L))=grownCap W (0+L) 0 5 by omega] at this
   refine World.rowIs.congr this fun j hj=>?_
   by_cases hj2:j<L
   ·rw[if_pos hj2];simp[hj2]
   ·rw[if_neg hj2];simp[hj2]
theorem app_three (W:World) (g cap L:Nat) (fi:Nat->Int) (gs c:Nat) (R:W.rowIs g 5 cap (fun j=>.int .u8 (fi j))) (hLc:L<=cap) (hs:W.heap[gs]?=some (.cells #[.int .u8 77,.int .u8 78,.int .u8 79] 5 (0,0)))
  (hL:L+3<=140737488355328) (hcap:cap<=maxLen) :
  ∃ v w',(∀ ty,(Builtin.append_ #[31,31] ty #[.slice (some ⟨g,0,none⟩) L cap,.slice (some ⟨gs,0,none⟩) 3 c]).run Tryz.prog W = .ok v w') /\
   ∃ g' cap',v = .slice (some ⟨g',0,none⟩) (L+3) cap'/\(∀ B,B<=g->B<=W.heap.size->Below B W w')/\w'.rowIs g' 5 cap' (fun j=>.int .u8 (if j<L then fi j else if j<L+3 then 77+((j-L:Nat):Int) else if g'=g then fi j else 0))/\L+3<=cap'/\(g'=g\/g'=W.heap.size)/\cap'<=maxLen:=by
 obtain⟨i,hi,hz,hsz,hby⟩:=info5'
 have S:Src Tryz.prog i.size 31 (.slice (some ⟨gs,0,none⟩) 3 c) 3 [.int .u8 77,.int .u8 78,.int .u8 79] W:=by
  rw[hsz]
  exact Src.ofSlice W Tryz.underlying31 ⟨gs,0,none⟩ 3 c _ rfl (World.news_of_block hs) (fun u hu=>by simp at hu;rcases hu with rfl|rfl|rfl<;>rfl)
 have gsz:=R.lt
 by_cases hroom:L+3<=cap
 ·refine⟨_,_,fun ty=>run_append_room_src W 31 31 ty 5 i Tryz.underlying31 hi g 0 L cap _ 3 _ S hroom (fun j hj=>by rw[hsz,Nat.mul_one,Nat.zero_add,R.cell (i:=L+j) (by simp at hj;omega)];rfl) (fun j _=>R.frozen _),g,cap,rfl,?_,?_,hroom,Or.inl rfl,hcap⟩
  ·intro B hB hB2
   exact below_setCells hB _ _ _ (Below.refl _ _)
  ·rw[hsz,Nat.mul_one,Nat.zero_add]
   refine(rowIs_setCells _ L _ W R).congr fun j hj=>?_
   by_cases h1:j<L
   ·rw[if_neg (by simp;omega),if_pos h1]
   ·rw[if_neg h1]
    by_cases h2:j<L+3
    ·rw[if_pos ⟨by omega,h2⟩,if_pos h2]
     have:j-L=0\/j-L=1\/j-L=2:=by omega
     rcases this with e|e|e<;>rw[e]<;>rfl
    ·rw[if_neg (by simp;omega),if_neg h2,if_pos rfl]
 ·have hold:(Builtin.firstCells i.size L (.slice (some ⟨g,0,none⟩) L cap)).run Tryz.prog W.drew = .ok ((List.range L).map fun j=>Value.int .u8 (fi j)).toArray W.drew :=
   run_firstCells_some W.drew i.size L ⟨g,0,none⟩ L cap _ (by simp[hsz]) (fun j u hu=>by
    have hj:j<L:=by
     have:=(List.getElem?_eq_some_iff.1 hu).1
     simpa using this
    simp[hj] at hu
    have hadd:(⟨g,0,none⟩:Addr).add j=⟨g,j,none⟩:=by unfold Addr.add;split<;>simp_all
    rw[hadd,<- hu];exact R.cell (i:=j) (by omega))
  have hfit:Builtin.nextslicecap (L+3) cap*i.bytes<=281474976710656:=by
   have:=growslice_fits (bytes:=1) (show cap<L+3 by omega) (by omega)
   rw[hby];exact this
  have ge:=grownCap_ge W (L+3) cap 5
  have le:=grownCap_le_maxLen W (L+3) cap 5 (by unfold maxLen;omega)
  have gne:¬ W.heap.size=g:=by omega
  refine⟨_,_,fun ty=>run_append_grow_src W 31 31 ty 5 i (.int .u8 0) Tryz.underlying31 hi hz (some ⟨g,0,none⟩) L cap _ hold _ 3 _ S (by omega) (by omega) hfit,W.heap.size,grownCap W (L+3) cap 5,rfl,?_,?_,ge,Or.inr rfl,le⟩
  ·intro B hB hB2
   exact(Below.refl _ _).drew.alloc hB2 _
  ·have:=new_row W.drew (((List.range L).map fun j=>Value.int .u8 (fi j))++[.int .u8 77,.int .u8 78,.int .u8 79]) (grownCap W (L+3) cap 5-(L+3))
   simp only[List.length_append,List.length_map,List.length_range,List.length_cons,List.length_nil] at this
   rw[show L+(0+1+1+1)+(grownCap W (L+3) cap 5-(L+3))=grownCap W (L+3) cap 5 by omega] at this
   refine World.rowIs.congr this fun j hj=>?_
   by_cases h1:j<L
   ·rw[if_pos h1];simp[List.getD,List.getElem?_append,h1]
   ·rw[if_neg h1]
    by_cases h2:j<L+3
    ·rw[if_pos h2]
     have:j-L=0\/j-L=1\/j-L=2:=by omega
     rcases this with e|e|e<;>simp[List.getD,List.getElem?_append,h1,e]
    ·rw[if_neg h2,if_neg gne]
     have:3<=j-L:=by omega
     simp[List.getD,List.getElem?_append,h1,this]
theorem Arg.below {w w':World} {a:Option Addr} {L:Nat} {bi:Nat->Int} (h:Arg w a L bi) (hb:Below w.heap.size w w'):Arg w' a L bi :=
 ⟨h.nil,fun ad e j hj=>(hb.cell (p:=ad.add j) (World.block_lt_of_cell? w _ (h.cell ad e j hj))).trans (h.cell ad e j hj)⟩
theorem conv_arg {w:World} {a:Option Addr} {L C:Nat} {bi:Nat->Int} (h:Arg w a L bi) (hbi:∀ j,0<=bi j/\bi j<=255):(convert 31 9 (.slice a L C)).run Tryz.prog w = .ok (.string (textF bi 0 L)) w:=by
 cases a with
 | none =>
  obtain rfl:=h.nil rfl
  exact run_convert_bytes_nil w 31 5 Tryz.underlying31 Tryz.underlying5 0 C 9 Tryz.underlying9
 | some ad =>
  have:=run_convert_bytes_back w 31 9 5 ad C ((List.range L).map fun j=>UInt8.ofNat (bi j).toNat) Tryz.underlying31 Tryz.underlying5 Tryz.underlying9 (fun j hj=>by
   have hj2:j<L:=by simpa using hj
   rw[h.cell ad rfl j hj2]
   have:=hbi j
   simp
   omega)
  simp only[List.length_map,List.length_range] at this
  rw[this]
  unfold textF strOfNums
  simp
def fM (L:Nat) (bi:Nat->Int) (j:Nat):Int:=if j<L then bi j else if j<L+3 then 77+((j-L:Nat):Int) else 0
theorem fM_of (L:Nat) (bi:Nat->Int) (j:Nat) (c:Prop) [Decidable c]:(if j<L then (if j<L then bi j else 0) else if j<L+3 then 77+((j-L:Nat):Int) else if c then (if j<L then bi j else 0) else 0)=fM L bi j:=by
 unfold fM
 by_cases h1:j<L<;>simp[h1]
theorem blk_of_cell {w:World} {g o:Nat} {v:Value} (h:w.cell? ⟨g,o,none⟩=some v):g<w.heap.size:=by
 rcases Nat.lt_or_ge g w.heap.size with h1|h1
 ·exact h1
 ·simp[World.cell?,Array.getElem?_eq_none h1] at h
theorem textF_data (f:Nat->Int) (a n:Nat):(textF f a n).data.toList=(List.range n).map fun i=>UInt8.ofNat (f (a+i)).toNat:=by
 unfold textF strOfNums
 simp
theorem textF_add (f:Nat->Int) (a n m:Nat):textF f a (n+m)=textF f a n++textF f (a+n) m:=by
 apply ByteArray.ext
 apply Array.toList_inj.1
 rw[ByteArray.data_append,Array.toList_append,textF_data,textF_data,textF_data,List.range_add,List.map_append,List.map_map]
 congr 1
 exact List.map_congr_left fun i _=>by show UInt8.ofNat (f (a+(n+i))).toNat=_;rw[Nat.add_assoc]
theorem text_tail (L:Nat) (bi:Nat->Int):textF (fM L bi) 0 (L+3)=textF bi 0 L++{ data:=#[77,78,79] }:=by
 rw[textF_add,textF_congr (f:=fM L bi) (g:=bi) (a:=0) (n:=L) fun j _ hj=>by unfold fM;rw[if_pos (by omega)]]
 congr 1
 unfold textF
 have e0:fM L bi (0+L+0)=77:=by unfold fM;rw[if_neg (by omega),if_pos (by omega)];simp
 have e1:fM L bi (0+L+1)=78:=by unfold fM;rw[if_neg (by omega),if_pos (by omega)];simp
 have e2:fM L bi (0+L+2)=79:=by unfold fM;rw[if_neg (by omega),if_pos (by omega)];simp
 show strOfNums [fM L bi (0+L+0),fM L bi (0+L+1),fM L bi (0+L+2)]=_
 rw[e0,e1,e2]
 rfl
theorem text_cut (f:Nat->Int) (n a b:Nat) (h1:a<=b) (h2:b<=n):(textF f 0 n).extract a b=textF f a (b-a):=by
 apply ByteArray.ext
 apply Array.toList_inj.1
 rw[ByteArray.data_extract,Array.toList_extract,textF_data,textF_data]
 apply List.ext_getElem
 ·simp;omega
 ·intro i q1 q2
  simp
theorem fM_bd {L:Nat} {bi:Nat->Int} (h:∀ j,0<=bi j/\bi j<=255) (j:Nat):0<=fM L bi j/\fM L bi j<=255:=by
 unfold fM
 split
 ·exact h j
 ·split<;>omega
end C
section
variable {P:Program} {ops:Array Oper} {C:World->Prop} {Q:Exit->Act->World->Prop} {d:Option Tmp} {ty:TypeId} {ps:String} {af:Array Edge} {gd:Option (Nat×Bool)} {r:List Oper} {a:Act} {w:World}
theorem ly_sl {t:TypeId} {x:Operand} {lo hi mx:Option Operand} {p v:Value} {l h m:Option Value} (hl:∀ W,C W->(Instr.sliceAt t p l h m).run P W = .ok v W) (hx:a.eval x=p) (h1:lo.map a.eval=l) (h2:hi.map a.eval=h) (h3:mx.map a.eval=m) (hw:Region.wanted ⟨d,.slice t x lo hi mx,ty,ps,af,gd⟩ (yielded ops a.tmps)=true) (hk:Ly P ops Q C r (a.put d v) w):Ly P ops Q C (⟨d,.slice t x lo hi mx,ty,ps,af,gd⟩::r) a w :=
 ly_read hw rfl fun K hK=>⟨v,fun W hW=>by
  unfold Oper.quietAt execOp
  simp only[hx,h1,h2,h3,hl W hW,Sem.run_bind,Result.andThen_ok,Sem.run_pure]
  exact⟨rfl,rfl⟩,hK _ hk⟩
theorem ly_cv {s t:TypeId} {x:Operand} {p v:Value} (hl:∀ W,C W->(convert s t p).run P W = .ok v W) (hx:a.eval x=p) (hw:Region.wanted ⟨d,.convert s t x,ty,ps,af,gd⟩ (yielded ops a.tmps)=true) (hk:Ly P ops Q C r (a.put d v) w):Ly P ops Q C (⟨d,.convert s t x,ty,ps,af,gd⟩::r) a w :=
 ly_read hw rfl fun K hK=>⟨v,fun W hW=>by
  unfold Oper.quietAt execOp
  simp only[hx,hl W hW,Sem.run_bind,Result.andThen_ok,Sem.run_pure]
  exact⟨rfl,rfl⟩,hK _ hk⟩
end
theorem sl_hi (a:Option Addr) (L C n:Nat) (h:n<=C) (W:World):(Instr.sliceAt 31 (.slice a L C) none (some (.int .i64 (n:Int))) none).run Tryz.prog W = .ok (.slice (if C=0 then a else a.map (·.add 0)) n C) W:=by
 simp[Instr.sliceAt,Instr.slice,Instr.sliceBounds,Instr.sliceBound,run_underlying Tryz.underlying31,h,asIntOf]
theorem sl_lo (a:Option Addr) (L C n:Nat) (h:n<=L) (W:World):(Instr.sliceAt 31 (.slice a L C) (some (.int .i64 (n:Int))) none none).run Tryz.prog W = .ok (.slice (if C=n then a else a.map (·.add n)) (L-n) (C-n)) W:=by
 simp[Instr.sliceAt,Instr.slice,Instr.sliceBounds,Instr.sliceBound,run_underlying Tryz.underlying31,h,asIntOf]
theorem ad0 (a:Addr):a.add 0=a:=by unfold Addr.add;split<;>simp_all
theorem Arg_hi {w:World} {a:Option Addr} {L:Nat} {bi:Nat->Int} (h:C.Arg w a L bi) (n:Nat) (hn:n<=L) (CC:Nat):C.Arg w (if CC=0 then a else a.map (·.add 0)) n bi:=by
 have e:(if CC=0 then a else a.map (·.add 0))=a:=by
  split
  ·rfl
  ·cases a with
   | none=>rfl
   | some ad=>simp[ad0]
 rw[e]
 exact⟨fun ha=>by have:=h.nil ha;omega,fun ad ha j hj=>h.cell ad ha j (by omega)⟩
theorem Arg_lo {w:World} {a:Option Addr} {L CC:Nat} {bi:Nat->Int} (h:C.Arg w a L bi) (hc:L<=CC) (n:Nat) (hn:n<=L):C.Arg w (if CC=n then a else a.map (·.add n)) (L-n) (fun j=>bi (n+j)):=by
 split
 ·exact⟨fun _=>by omega,fun ad ha j hj=>by omega⟩
 ·cases a with
  | none=>exact⟨fun _=>by have:=h.nil rfl;omega,fun ad ha=>by cases ha⟩
  | some ad =>
   refine⟨fun ha=>(by cases ha),fun ad' ha j hj=>?_⟩
   cases ha
   rw[Go.Deep.add_add]
   exact h.cell ad rfl (n+j) (by omega)
theorem textF_sh (f:Nat->Int) (a n m:Nat):C.textF (fun j=>f (a+j)) n m=C.textF f (a+n) m:=by
 unfold C.textF
 congr 1
 exact List.map_congr_left fun i _=>by show f (a+(n+i))=_;rw[Nat.add_assoc]
theorem text_tl (L n:Nat) (bi:Nat->Int) (hn:n<=L):C.textF (C.fM L bi) n (L+3-n)=C.textF bi n (L-n)++{ data:=#[77,78,79] }:=by
 have h1:=C.text_cut (C.fM L bi) (L+3) n (L+3) (by omega) (Nat.le_refl _)
 have h2:=C.text_cut bi L n L hn (Nat.le_refl _)
 rw[C.text_tail] at h1
 rw[<- h1,<- h2]
 apply ByteArray.ext
 apply Array.toList_inj.1
 have hz:(C.textF bi 0 L).size=L:=C.textF_size _ _ _
 have hz2:(C.textF bi 0 L).data.size=L:=hz
 rw[ByteArray.data_append,ByteArray.data_extract,ByteArray.data_append,ByteArray.data_extract]
 simp only[Array.toList_extract,Array.toList_append,List.extract_eq_take_drop]
 rw[List.drop_append_of_le_length (by simp[hz2];omega)]
 rw[List.take_of_length_le (by simp[hz2];omega),List.take_of_length_le (by simp[hz2])]
theorem eD_f {x:Es} {nm tx:ByteArray} {ws:List Int} (t u:Tk) (ls:List Lf):doZ eF false 13 1 x 0 0 nm tx ws t u ls=eD x 0 nm tx ws u ls:=by
 have e:∀ y t',kndZ false 13 1 y 0 0 tx ws t' u ls=kndZ false 13 1 y 0 0 tx ws u u ls:=fun _ _=>by unfold kndZ;rw[if_pos rfl,if_pos rfl]
 unfold eD doZ
 simp only[e _ t]
theorem eD_d {x:Es} {nm tx:ByteArray} {ws:List Int} (t u:Tk) (ls:List Lf):doZ eF false 13 1 x 3 0 nm tx ws t u ls=eD x 3 nm tx ws u []:=by
 unfold eD doZ kndZ
 simp only[if_neg (show ¬ (3:Int)=0 by decide),if_neg (show ¬ (3:Int)=1 by decide),if_neg (show ¬ (3:Int)=2 by decide)]
theorem eD_no {x:Es} {k:Int} {nm tx:ByteArray} {ws:List Int} (h:(stepZ eL x.s k 0 nm).1≠0) (t u v:Tk) (ls ms:List Lf):doZ eF false 13 1 x k 0 nm tx ws t u ls=eD x k nm tx ws v ms:=by
 have h':(stepZ eF.toks x.s k 0 nm).1≠0:=h
 unfold eD doZ
 rw[if_neg h',if_neg h']
theorem i64_0:i64ok 0:=⟨by decide,by decide⟩
theorem kids0:kidsZ eL 0=[1,4]:=by decide +kernel
theorem pick_a {k:Nat} {u:Tk} (h:eF.toks[k]?=some u/\k∈kidsZ eF.toks 0/\u.name=⟨#[97]⟩):k=1/\u=eT1:=by
 obtain⟨h1,h2,h3⟩:=h
 have h4:k∈[1,4]:=kids0▸h2
 simp only[List.mem_cons,List.not_mem_nil,or_false] at h4
 rcases h4 with rfl|rfl
 ·exact⟨rfl,(Option.some.inj h1).symm⟩
 ·obtain rfl:eT4=u:=Option.some.inj h1
  exact absurd h3 (by decide)
theorem pick_d {k:Nat} {u:Tk} (h:eF.toks[k]?=some u/\k∈kidsZ eF.toks 0/\u.name=⟨#[100]⟩):k=4/\u=eT4:=by
 obtain⟨h1,h2,h3⟩:=h
 have h4:k∈[1,4]:=kids0▸h2
 simp only[List.mem_cons,List.not_mem_nil,or_false] at h4
 rcases h4 with rfl|rfl
 ·obtain rfl:eT1=u:=Option.some.inj h1
  exact absurd h3 (by decide)
 ·exact⟨rfl,(Option.some.inj h1).symm⟩
theorem blw_frm {V:Nat->Prop} {B:Nat} {W w':World} (h:Frm V W w') (hv:∀ k,V k->B<=k) (hB:B<=W.heap.size):Below B W w' :=
 ⟨h.os,h.tape,h.output,h.size,fun k hk=>h.block k (by omega) fun hk'=>by have:=hv k hk';omega⟩
theorem eStepF {B e g:Nat} {x:Es} {V:Nat->Prop} {W:World} (h:EwI eF B e g 13 13 1 false x V W) (n:Int) (hn:0<=n/\n<18446744073709551616) (gw:Nat) (hg:W.cell? ⟨gw,0,none⟩=some (.int .u64 n)) (hV:¬ V gw)
  (h0:(stepZ eL x.s 0 0 ⟨#[97]⟩).1=0/\insZ (stepZ eL x.s 0 0 ⟨#[97]⟩).2=0) :
  Calls Tryz.prog 12 #[pV e,.string ⟨#[97]⟩,.slice (some ⟨gw,0,none⟩) 1 1] W fun r w'=>∃ v,r = .returned (.int .i64 v)/\v=(eD x 0 ⟨#[97]⟩ ⟨#[]⟩ [n] eT1 (ptL eL 1 eT1)).1/\∃ V',EwI eF B e g 13 13 1 false (eD x 0 ⟨#[97]⟩ ⟨#[]⟩ [n] eT1 (ptL eL 1 eT1)).2 V' w'/\Below B W w':=by
 obtain⟨t,k,u,hc,D⟩:=h.do_ eF_chk (by decide) (cFld ⟨#[97]⟩ (.slice (some ⟨gw,0,none⟩) 1 1)) i64_0 (show (⟨#[97]⟩:ByteArray).size<=maxLen by decide) (show ByteArray.empty.size<=281474976710656 by decide) (some ⟨gw,0,none⟩) 1 [n] rfl
  ⟨Nat.le_refl 1,by decide,fun y hy=>by simp only[List.mem_cons,List.not_mem_nil,or_false] at hy;subst hy;exact hn,fun j y hy=>by
   cases j with
   | zero=>cases hy;exact⟨gw,0,rfl,hV,hg⟩
   | succ j=>cases hy⟩
 have h1:=(hc h0.1).2 (show (0:Int)≠2 by decide)
 have h2:insZ (stepZ eF.toks x.s 0 0 ⟨#[97]⟩).2=0:=h0.2
 simp only at h1
 rw[h2] at h1
 obtain⟨rfl,rfl⟩:=pick_a h1
 have hB:=h.v e h.rng.2.2.2.2
 refine Field_of (D.mono ?_)
 rintro r w' ⟨rfl,V',k1,k2,k3⟩
 simp only[eD_f] at k1 ⊢
 exact⟨_,rfl,rfl,V',k1,blw_frm k3 (fun k hk=>(h.v k hk).1) (by omega)⟩
theorem eStepD {B e g:Nat} {x:Es} {V:Nat->Prop} {W:World} (h:EwI eF B e g 13 13 1 false x V W) (nm tx:ByteArray) (hnm:nm.size<=maxLen) (htx:tx.size<=281474976710656)
  (h0:(stepZ eL x.s 3 0 nm).1=0->insZ (stepZ eL x.s 3 0 nm).2=0/\nm=⟨#[100]⟩) :
  Calls Tryz.prog 13 #[pV e,.string nm,.string tx] W fun r w'=>∃ v,r = .returned (.int .i64 v)/\v=(eD x 3 nm tx [] eT4 []).1/\∃ V',EwI eF B e g 13 13 1 false (eD x 3 nm tx [] eT4 []).2 V' w'/\Below B W w':=by
 obtain⟨t,k,u,hc,D⟩:=h.do_ eF_chk (by decide) (cDat nm tx) i64_0 hnm htx none 0 [] rfl
  ⟨Nat.le_refl 0,by decide,fun y hy=>(by cases hy),fun j y hy=>(by cases hy)⟩
 have hB:=h.v e h.rng.2.2.2.2
 have hd:doZ eF false 13 1 x 3 0 nm tx [] t u (ptL eF.toks k u)=eD x 3 nm tx [] eT4 []:=by
  by_cases hs:(stepZ eL x.s 3 0 nm).1=0
  ·have h1:=(hc hs).2 (show (3:Int)≠2 by decide)
   have h2:insZ (stepZ eF.toks x.s 3 0 nm).2=0:=(h0 hs).1
   simp only at h1
   rw[h2,(h0 hs).2] at h1
   obtain⟨rfl,rfl⟩:=pick_d h1
   exact eD_d _ _ _
  ·exact eD_no hs _ _ _ _ _
 refine Data_of (D.mono ?_)
 rintro r w' ⟨rfl,V',k1,k2,k3⟩
 simp only[hd] at k1 ⊢
 exact⟨_,rfl,rfl,V',k1,blw_frm k3 (fun k hk=>(h.v k hk).1) (by omega)⟩
theorem est_1:(stepZ eL ex0.s 3 0 ⟨#[101]⟩).1≠0:=by decide +kernel
theorem est_2:(stepZ eL ex1.s 0 0 ⟨#[97]⟩).1=0/\insZ (stepZ eL ex1.s 0 0 ⟨#[97]⟩).2=0:=by decide +kernel
theorem est_3:(stepZ eL ex2.s 0 0 ⟨#[97]⟩).1=0/\insZ (stepZ eL ex2.s 0 0 ⟨#[97]⟩).2=0:=by decide +kernel
theorem est_4:insZ (stepZ eL ex3.s 3 0 ⟨#[100]⟩).2=0:=by decide +kernel
theorem est_5:insZ (stepZ eL ex4.s 3 0 ⟨#[100]⟩).2=0:=by decide +kernel
theorem xB_bd (j:Nat):0<=xB j/\xB j<=255:=⟨by unfold xB;decide,by unfold xB;decide⟩
theorem eWrap {B e T g:Nat} {W:World} (h:E0I eF B e T W) (row:C.RowM W g 5 13 (fun j=>.int .u8 (xB j))) (hg:T<=g) :
  Calls Tryz.prog 6 #[pV e,.slice (some ⟨g,0,none⟩) 13 13,.int .i64 1] W fun r w'=>r = .returned (.int .i64 0)/\∃ V,EwI eF B e g 13 13 1 false ex0 V w'/\Below B W w':=by
 obtain⟨t,ht,cW⟩:=h.wrap eF_chk (by decide) (hi:=false) rfl 13 row xB_bd (Nat.le_refl _) (by decide) hg 1 (by decide)
 obtain rfl:eT0=t:=Option.some.inj ht
 have hb:=h.b
 refine Calls.mono (cW:Calls Tryz.prog 6 #[pV e,.slice (some ⟨g,0,none⟩) 13 13,.int .i64 1] W _) ?_
 have hz:(wrpZ eF (numZ eF eT0) eT0 false 13 xB ((1:Nat):Int)).1=0:=ew_0.1
 rintro r w' ⟨rfl,hP|⟨_,V,k1,k2⟩⟩
 ·exact absurd hz hP.1
 ·rw[hz]
  exact⟨rfl,V,k1,blw_frm k2 (fun k hk=>by rcases hk with rfl|rfl<;>omega) (by omega)⟩
structure EwS (B e g:Nat) (x:Es) (W0 W:World):Prop where
 h:∃ V,EwI eF B e g 13 13 1 false x V W
 b:Below B W0 W
theorem EwS.end_ {B e g:Nat} {x:Es} {W0 W:World} (h:EwS B e g x W0 W) {n:Int} (hn:(x.en:Int)=n):Calls Tryz.prog 7 #[pV e] W fun r w'=>r = .returned (.int .i64 n)/\w'=W:=by
 obtain⟨V,h1⟩:=h.h
 subst hn
 exact h1.end_
theorem EwS.done {B e g:Nat} {x:Es} {W0 W:World} (h:EwS B e g x W0 W) {b:Bool} (hb:doneB eL x.s=b):Calls Tryz.prog 8 #[pV e] W fun r w'=>r = .returned (.bool b)/\EwS B e g x W0 w':=by
 obtain⟨V,h1⟩:=h.h
 subst hb
 have hB:=h1.v e h1.rng.2.2.2.2
 exact h1.done.mono fun r w' hP=>⟨hP.1,⟨V,hP.2.1⟩,h.b.trans (hP.2.2.mono (by omega))⟩
theorem EwS.fld {B e g:Nat} {x:Es} {W0 W:World} (h:EwS B e g x W0 W) (n:Int) (hn:0<=n/\n<18446744073709551616) (h0:(stepZ eL x.s 0 0 ⟨#[97]⟩).1=0/\insZ (stepZ eL x.s 0 0 ⟨#[97]⟩).2=0) {y:Es} (hy:(eD x 0 ⟨#[97]⟩ ⟨#[]⟩ [n] eT1 (ptL eL 1 eT1)).2=y) {v:Int} (hv:(eD x 0 ⟨#[97]⟩ ⟨#[]⟩ [n] eT1 (ptL eL 1 eT1)).1=v) :
  Calls Tryz.prog 12 #[pV e,.string ⟨#[97]⟩,.slice (some ⟨W.heap.size,0,none⟩) 1 1] (W.alloc (.cells #[.int .u64 n] 49)) fun r w'=>r = .returned (.int .i64 v)/\EwS B e g y W0 w':=by
 obtain⟨V,h1⟩:=h.h
 subst hy hv
 have hB:=h1.v e h1.rng.2.2.2.2
 have hb1:=bel1 W (.cells #[.int .u64 n] 49)
 refine(eStepF (h1.below hb1) n hn W.heap.size (cell_at (heap_al W (.cells #[.int .u64 n] 49)) 0) (fun hk=>by have:=h1.v _ hk;omega) h0).mono ?_
 rintro r w' ⟨_,rfl,rfl,V',k1,k2⟩
 exact⟨rfl,⟨V',k1⟩,(h.b.trans (hb1.mono (by omega))).trans k2⟩
theorem EwS.dat {B e g:Nat} {x:Es} {W0 W:World} (h:EwS B e g x W0 W) (nm tx:ByteArray) (hnm:nm.size<=maxLen) (htx:tx.size<=281474976710656) (h0:(stepZ eL x.s 3 0 nm).1=0->insZ (stepZ eL x.s 3 0 nm).2=0/\nm=⟨#[100]⟩) {y:Es} (hy:(eD x 3 nm tx [] eT4 []).2=y) {v:Int} (hv:(eD x 3 nm tx [] eT4 []).1=v) :
  Calls Tryz.prog 13 #[pV e,.string nm,.string tx] W fun r w'=>r = .returned (.int .i64 v)/\EwS B e g y W0 w':=by
 obtain⟨V,h1⟩:=h.h
 subst hy hv
 refine(eStepD h1 nm tx hnm htx h0).mono ?_
 rintro r w' ⟨_,rfl,rfl,V',k1,k2⟩
 exact⟨rfl,⟨V',k1⟩,h.b.trans k2⟩
theorem ew_text:C.textF ex5.fb 0 13=⟨#[120,1,0,3,0,7,0,1,0,9,1,104,120]⟩:=by
 unfold C.textF
 have h:=ew_6
 have e:(List.range 13).map (fun i=>ex5.fb (0+i))=(List.range 13).map ex5.fb:=List.map_congr_left fun i _=>by rw[Nat.zero_add]
 rw[e,h]
 rfl
theorem EwS.cv {B e g:Nat} {W0 W:World} (h:EwS B e g ex5 W0 W) (c:Nat):(convert 31 9 (.slice (some ⟨g,0,none⟩) 13 c)).run Tryz.prog W = .ok (.string ⟨#[120,1,0,3,0,7,0,1,0,9,1,104,120]⟩) W:=by
 obtain⟨V,h1⟩:=h.h
 rw[C.text_conv W g 13 ex5.fb h1.row 0 13 c (by decide),ew_text]
abbrev eBo:Obj:=.cells #[.int .u8 120,.int .u8 120,.int .u8 120,.int .u8 120,.int .u8 120,.int .u8 120,.int .u8 120,.int .u8 120,.int .u8 120,.int .u8 120,.int .u8 120,.int .u8 120,.int .u8 120] 5 (13,14)
theorem eB_row (W:World):C.RowM (W.alloc eBo) W.heap.size 5 13 (fun j=>.int .u8 (xB j)):=by
 refine⟨_,(13,14),heap_al _ _,fun i hi=>?_,rfl,fun i hi=>?_⟩
 ·have:¬ 13<=i:=by omega
  simp[this]
 ·have e:(#[.int .u8 120,.int .u8 120,.int .u8 120,.int .u8 120,.int .u8 120,.int .u8 120,.int .u8 120,.int .u8 120,.int .u8 120,.int .u8 120,.int .u8 120,.int .u8 120,.int .u8 120]:Array Value)=Array.replicate 13 (.int .u8 120):=rfl
  rw[e,Array.getElem?_replicate,if_pos hi]
  rfl
theorem E0I.fld {f:Fm} {B e T:Nat} {W:World} (h:E0I f B e T W) (nm:ByteArray) (q:Option Addr) (l cp:Nat):Calls Tryz.prog 12 #[pV e,.string nm,.slice q l cp] W fun r w'=>r = .returned (.int .i64 180)/\E0I f B e T w'/\Below W.heap.size W w':=by
 refine(Field_of (h.do_ (cFld nm (.slice q l cp)))).mono ?_
 rintro r w' ⟨_,rfl,rfl,hP⟩
 exact⟨rfl,hP⟩
theorem writes_any (w:World) (kt:KT w) (mt:MT w):Calls Tryz.prog 4 #[] w fun r w'=>r = .returned (.bool true)/\Below w.heap.size w w':=by
 have cO:=eown_any w
 have cN:Hid (∀ g w1,TkL w1 (some ⟨g,0,none⟩) w1.heap.size eL->Below w.heap.size w w1->Calls Tryz.prog 5 #[fmV eF (some ⟨g,0,none⟩) 7] w1 fun r w'=>∃ e,r = .returned (.tuple #[pV e,.int .i64 0])/\E0I eF w1.heap.size e w'.heap.size w'/\Below w1.heap.size w1 w'):=⟨fun g w1 tl hb=>E0I.new eF_chk (by decide) tl (kt.up hb) (mt.below mt.pos hb)⟩
 have kc:=fun (w:World) (C:Array Value) (n c:Nat)=>Go.Lib.run_convert_bytes_const (P:=Tryz.prog) w 31 5 C n c Tryz.underlying31 Tryz.underlying5
 clear kt mt
 go_enter Tryz.func4,Tryz.ntmps4
 go_upto_region 2 with (first
  | (go_at_call 11;refine cO.mono ?_;clear cO;rintro _ w1 ⟨g,rfl,tl,b1⟩;have cN1:=cN.out g w1 tl b1;replace b1:=Hid.mk b1;clear tl)
  | (go_at_call 5;refine cN1.mono ?_;clear cN1;rintro _ w2 ⟨e,rfl,hE,b2⟩;replace hE:=Hid.mk hE;replace b2:=Hid.mk b2))
 clear cN
 go_upto_region 3 with fail
 clear kc
 obtain⟨gB,hgB⟩:∃ gB,gB=w2.heap.size:=⟨_,rfl⟩
 have R3:C.RowM (w2.alloc eBo) gB 5 13 (fun j=>.int .u8 (xB j)):=hgB▸eB_row w2
 have E3:E0I eF w1.heap.size e gB (w2.alloc eBo):=hgB▸hE.out.below (bel1 w2 eBo)
 have b3:Below w1.heap.size w1 (w2.alloc eBo):=b2.out.trans ((bel1 w2 eBo).mono b2.out.size)
 clear hE b2
 dsimp only [eBo] at R3 E3 b3
 rw[<- hgB]
 clear hgB
 generalize w2.alloc (Obj.cells #[.int .u8 120,.int .u8 120,.int .u8 120,.int .u8 120,.int .u8 120,.int .u8 120,.int .u8 120,.int .u8 120,.int .u8 120,.int .u8 120,.int .u8 120,.int .u8 120,.int .u8 120] 5 (13,14))=W3 at R3 E3 b3 ⊢
 have F4:=(E3.below (bel1 W3 (.cells #[.int .u64 1] 49))).fld ⟨#[97]⟩ (some ⟨W3.heap.size,0,none⟩) 1 1
 have R4:=C.rowM_below R3 (bel1 W3 (.cells #[.int .u64 1] 49)) R3.lt
 have b4:=b3.trans ((bel1 W3 (.cells #[.int .u64 1] 49)).mono b3.size)
 replace b4:=Hid.mk b4
 replace R4:=Hid.mk R4
 clear R3 E3 b3
 go_upto_region 5 with (first
  | (go_at_call 12;refine F4.mono ?_;clear F4;rintro _ w5 ⟨rfl,E5,b5⟩;have cW:=eWrap E5 (C.rowM_below R4.out b5 R4.out.lt) (Nat.le_refl _);replace b4:Hid (Below w1.heap.size w1 w5):=⟨b4.out.trans (b5.mono b4.out.size)⟩;clear E5 b5 R4)
  | (go_at_call 6;refine cW.mono ?_;clear cW;rintro _ w6 ⟨rfl,V,k1,k2⟩;have S6:EwS w1.heap.size e gB ex0 w1 w6:=⟨⟨V,k1⟩,b4.out.trans k2⟩;have cD:=S6.done ew_0.2.2;clear k1 k2 S6 b4)
  | (go_at_call 8;refine cD.mono ?_;clear cD;rintro _ w7 ⟨rfl,S7⟩;have cE:=S7.end_ (n:=10) (by rw[ew_0.2.1];rfl);have c1:=S7.dat ⟨#[101]⟩ ⟨#[]⟩ (by decide) (by decide) (fun h=>absurd h est_1) (y:=ex1) rfl (v:=140) ew_1.1;clear S7)
  | (go_at_call 7;refine cE.mono ?_;clear cE;rintro _ w8 ⟨rfl,h8⟩;replace h8:=h8.symm;subst h8))
 go_upto_region 7 with (first
  | (go_at_call 13;refine c1.mono ?_;clear c1;rintro _ w9 ⟨rfl,S9⟩;have c2:=S9.fld 9 ⟨by decide,by decide⟩ est_2 (y:=ex2) rfl ew_2;clear S9)
  | (go_at_call 12;refine c2.mono ?_;clear c2;rintro _ w10 ⟨rfl,S10⟩;have c3:=S10.fld 256 ⟨by decide,by decide⟩ est_3 (y:=ex3) rfl ew_3;clear S10)
  | (go_at_call 12;refine c3.mono ?_;clear c3;rintro _ w11 ⟨rfl,S11⟩;have c4:=S11.dat ⟨#[100]⟩ ⟨#[104,101,121]⟩ (by decide) (by decide) (fun _=>⟨est_4,rfl⟩) (y:=ex4) rfl ew_4;clear S11)
  | (go_at_call 13;refine c4.mono ?_;clear c4;rintro _ w12 ⟨rfl,S12⟩;have c5:=S12.dat ⟨#[100]⟩ ⟨#[104]⟩ (by decide) (by decide) (fun _=>⟨est_5,rfl⟩) (y:=ex5) rfl ew_5.1;clear S12)
  | (go_at_call 13;refine c5.mono ?_;clear c5;rintro _ w13 ⟨rfl,S13⟩;have c6:=S13.done ew_5.2.2;clear S13))
 go_wp2_with (first
  | (go_at_call 8;refine c6.mono ?_;clear c6;rintro _ w14 ⟨rfl,S14⟩;have c7:=S14.end_ (n:=12) (by rw[ew_5.2.1];rfl);have hcv:=S14.cv;replace S14:=Hid.mk S14)
  | (go_at_call 7;refine c7.mono ?_;clear c7;rintro _ w15 ⟨rfl,h15⟩;replace h15:=h15.symm;subst h15))
 go_ret
 exact⟨rfl,b1.out.trans (S14.out.b.mono b1.out.size)⟩
def K2 (f:Fm) (b lo hi:Nat) (w:World) (a:Nat) (s:Ms) (a':Nat) (s':Ms):Prop:=∃ U V,Mc f w a s U/\Mc f w a' s' V/\(∀ k,U k->¬ V k)/\∀ k,U k\/V k->b<=k/\¬ (lo<=k/\k<hi)
structure CRow (w:World) (pq:Option Addr) (H:Nat) (cs:List Cl):Prop where
 c:∀ (i:Nat) (c:Cl),cs[i]?=some c->∃ g o,pq=some ⟨g,o,none⟩/\g<H/\w.cell? ⟨g,o+i*5,none⟩=some (.int .i64 c.k)/\w.cell? ⟨g,o+i*5+1,none⟩=some (.string c.nm)/\w.cell? ⟨g,o+i*5+2,none⟩=some c.ws/\w.cell? ⟨g,o+i*5+3,none⟩=some (.int .i64 c.cnt)/\w.cell? ⟨g,o+i*5+4,none⟩=some (.string c.tx)
 ok:∀ c∈cs,i64ok c.cnt/\c.nm.size<=maxLen/\∃ p n m,c.ws = .slice p n m
theorem CRow.below {w w':World} {pq:Option Addr} {H:Nat} {cs:List Cl} (h:CRow w pq H cs) (hb:Below H w w'):CRow w' pq H cs :=
 ⟨fun i c hi=>by
  obtain⟨g,o,e,hg,h0,h1,h2,h3,h4⟩:=h.c i c hi
  exact⟨g,o,e,hg,(hb.cell (p:=⟨g,_,none⟩) hg).trans h0,(hb.cell (p:=⟨g,_,none⟩) hg).trans h1,(hb.cell (p:=⟨g,_,none⟩) hg).trans h2,(hb.cell (p:=⟨g,_,none⟩) hg).trans h3,(hb.cell (p:=⟨g,_,none⟩) hg).trans h4⟩,h.ok⟩
namespace J
theorem beq_ba {a b:ByteArray} (h:a≠b):(a.toList==b.toList)=false :=
 beq_eq_false_iff_ne.2 fun e=>h (by
  rw[ByteArray.toList_eq,ByteArray.toList_eq] at e
  exact ByteArray.ext (Array.toList_inj.1 e))
end J
end Go.Proofs.YtjlbcdnkglaheaaGreatDoor
