import Derived.Test.YtchfphakhmifmabGreatDoorXCan
namespace Go.Proofs.YtchfphakhmifmabGreatDoor
set_option maxRecDepth 1000000
set_option maxHeartbeats 16000000
open Go.ChangeShapes Go.WideShapes Go.ChangeAt Go.RowKit
theorem setCells_other {b k:Nat} (h:k = b → False):∀ (vs:List Value) (o:Nat) (w:World),(w.setCells b o vs).heap[k]? = w.heap[k]?
 | [],_,_=>rfl
 | _ :: r,o,w=>(setCells_other h r (o + 1) _).trans (Below.heap_setCell w _ _ _ (fun e=>h e))
theorem bufAppendK {w:World} {B:Nat} {v:Value} {L:List Nat} (h:Buf w B v L) {tx:TypeId} {x:Value} {M:List Nat} (S:Src Tryz.prog 1 tx x M.length (M.map cU) w) (hl:L.length + M.length ≤ 140737488355328) (hB:B ≤ w.heap.size) :
  ∃ v' w',(∀ ty,(Builtin.append_ #[59,tx] ty #[v,x]).run Tryz.prog w = .ok v' w') ∧ (Buf w' B v' (L ++ M) ∧ Below B w w' ∧ ∀ k,k < w.heap.size → v.ownBlock ≠ some k → w'.heap[k]? = w.heap[k]?):=by
 obtain ⟨i,hi,hz,hsz,hby⟩:=info5
 have S':Src Tryz.prog i.size tx x M.length (M.map cU) w:=by rw [hsz];exact S
 have hlen:(L ++ M).map cU = L.map cU ++ M.map cU:=List.map_append
 have grow:∀ (base:Option Addr) (sCap:Nat),v = .slice base L.length sCap → sCap < L.length + M.length →
   (Builtin.firstCells i.size L.length (.slice base L.length sCap)).run Tryz.prog w.drew = .ok (L.map cU).toArray w.drew →
   ∃ v' w',(∀ ty,(Builtin.append_ #[59,tx] ty #[v,x]).run Tryz.prog w = .ok v' w') ∧ (Buf w' B v' (L ++ M) ∧ Below B w w' ∧ ∀ k,k < w.heap.size → v.ownBlock ≠ some k → w'.heap[k]? = w.heap[k]?):=by
  rintro base sCap rfl hlt hold
  have hfit:Builtin.nextslicecap (L.length + M.length) sCap * i.bytes ≤ 281474976710656:=by
   have:=growslice_fits (bytes:=1) hlt (by omega)
   rw [hby];exact this
  have ge:=grownCap_ge w (L.length + M.length) sCap 5
  have le:=grownCap_le_maxLen w (L.length + M.length) sCap 5 (by unfold maxLen;omega)
  refine ⟨_,_,fun ty=>run_append_grow_src w 59 tx ty 5 i (.int .u8 0) Tryz.underlying59 hi hz base L.length sCap _ hold x M.length _ S' hlt (by omega) hfit,⟨?_,?_⟩,(Below.refl _ _).drew.alloc hB _,fun k hk _=>Below.heap_alloc w.drew _ k hk⟩
  ·rw [List.length_map,List.length_append,Nat.mul_one]
  ·refine .inr ⟨w.heap.size,_,_,by rw [List.length_append],hB,heap_alloc_new w.drew _,by rw [List.length_append];exact ge,le,?_,?_⟩
   ·simp only [Array.size_append,List.size_toArray,size_zeroCells]
    rw [List.length_append,List.length_map,List.length_map,show (Value.int .u8 0).cells.size = 1 from rfl]
    omega
   ·rw [Nat.mul_one,Array.toList_append,List.take_append_of_le_length (by simp),hlen,List.take_of_length_le (by simp)]
 rcases h.2 with ⟨rfl,h0⟩ | ⟨g,cap,cur,rfl,hb,hg,hn,hm,hs,ht⟩
 ·obtain rfl:L = []:=List.length_eq_zero_iff.1 h0
  by_cases hM:M.length = 0
  ·obtain rfl:M = []:=List.length_eq_zero_iff.1 hM
   refine ⟨.slice none 0 0,w,fun ty=>?_,h,Below.refl _ _,fun _ _ _=>rfl⟩
   have hln:∀ w':World,(Builtin.lenOf x).run Tryz.prog w' = .ok 0 w':=S'.len
   have hcl:(Builtin.firstCells i.size 0 x).run Tryz.prog w = .ok #[] w:=S'.cells
   rcases S'.kind with ⟨e',hk⟩ | hk <;>
    simp [Builtin.append_,run_underlying Tryz.underlying59,run_underlying hk,sizeOf,typeInfo,hi,hln,hcl]
  ·exact grow none 0 rfl (by simp;omega) (by simpa using run_firstCells_none w.drew i.size 0 0 0)
 ·by_cases hroom:L.length + M.length ≤ cap
  ·have hcs:cur.size = cap:=by rw [hs,Nat.mul_one]
   refine ⟨_,_,fun ty=>run_append_room_src w 59 tx ty 5 i Tryz.underlying59 hi g 0 L.length cap x M.length _ S' hroom (fun j hj=>?_) (fun j hj=>?_),⟨?_,?_⟩,?_,fun k hk hne=>setCells_other (fun e=>hne (by rw [e];rfl)) _ _ _⟩
   ·rw [hsz,Nat.zero_add,Nat.mul_one,cell_of_row w g _ cur _ (0,0) hg]
    rw [List.length_map] at hj
    have:L.length + j < cur.size:=by omega
    simp [this]
   ·unfold World.frozen?
    simp [hg]
   ·rw [List.length_map,List.length_append,Nat.mul_one]
   ·rw [hsz,Nat.zero_add,Nat.mul_one]
    have R:w.rowIs g 5 cap (fun j=>cur.toList.getD j (.int .u8 0)):=⟨cur,hg,hcs,fun j hj=>by
     have:j < cur.size:=by omega
     simp [List.getD,this]⟩
    obtain ⟨cur',h1,h2,h3⟩:=rowIs_setCells (M.map cU) L.length _ _ R
    refine .inr ⟨g,cap,cur',by rw [List.length_append],hb,h1,by rw [List.length_append];exact hroom,hm,by rw [h2,Nat.mul_one],?_⟩
    rw [List.length_append,Nat.mul_one,hlen]
    rw [Nat.mul_one] at ht
    apply List.ext_getElem?
    intro j
    by_cases hj:j < L.length + M.length
    ·have hj2:j < cap:=by omega
     have hj3:=h3 j hj2
     rw [List.getElem?_take_of_lt hj,Array.getElem?_toList,hj3]
     dsimp only
     by_cases hjl:j < L.length
     ·rw [if_neg (by omega),List.getElem?_append_left (by simpa using hjl),← ht,List.getElem?_take_of_lt hjl]
      have:j < cur.size:=by omega
      simp [List.getD,this]
     ·rw [if_pos ⟨by omega,by simpa using hj⟩,List.getElem?_append_right (by simpa using hjl),List.length_map]
      have:j - L.length < (M.map cU).length:=by simp;omega
      simp [List.getD,show j - L.length < M.length by omega]
    ·rw [List.getElem?_eq_none (by simp;omega),List.getElem?_eq_none (by simp;omega)]
   ·exact below_setCells hb _ _ _ (Below.refl _ _)
  ·refine grow (some ⟨g,0,none⟩) cap rfl (by omega) ?_
   refine run_firstCells_some w.drew i.size L.length ⟨g,0,none⟩ L.length cap _ (by rw [List.length_map,hsz,Nat.mul_one]) (fun j u hu=>?_)
   have:=World.ownsRow.cells h (g:=g) rfl j u hu
   simpa using this
theorem bufStrK {w:World} {B:Nat} {v:Value} {L:List Nat} (h:Buf w B v L) (t:ByteArray) (hl:L.length + t.size ≤ 140737488355328) (hB:B ≤ w.heap.size) :
  ∃ v' w',(∀ ty,(Builtin.append_ #[59,9] ty #[v,.string t]).run Tryz.prog w = .ok v' w') ∧ (Buf w' B v' (L ++ lOf t) ∧ Below B w w' ∧ ∀ k,k < w.heap.size → v.ownBlock ≠ some k → w'.heap[k]? = w.heap[k]?):=by
 have S:=Src.ofString (P:=Tryz.prog) (tx:=9) w Tryz.underlying9 t
 rw [byteCells_lOf,← lOf_length] at S
 exact bufAppendK h S (by rw [lOf_length];exact hl) hB
open Go.Shelf Go.Lib
structure PS (w:World) (B:Nat) (v:Value) (L:List Nat) (last:Int):Prop where
 c0:w.cell? ⟨B,0,none⟩ = some v
 c1:w.cell? ⟨B,1,none⟩ = some (.int .i64 last)
 fz:∀ o,w.frozen? ⟨B,o,none⟩ = false
 buf:Buf w (B + 1) v L
 lt:B < w.heap.size
theorem PS.below {w w':World} {B:Nat} {v:Value} {L:List Nat} {last:Int} (h:PS w B v L last) (hb:Below w.heap.size w w'):PS w' B v L last :=
 ⟨(hb.cell (p:=⟨B,0,none⟩) h.lt).trans h.c0,(hb.cell (p:=⟨B,1,none⟩) h.lt).trans h.c1,fun o=>(hb.frozen (p:=⟨B,o,none⟩) h.lt).trans (h.fz o),h.buf.below hb,Nat.lt_of_lt_of_le h.lt hb.size⟩
theorem newPrinter_any (w:World):Calls Tryz.prog 57 #[] w fun e w'=>e = .returned (.pointer (some ⟨w.heap.size,0,none⟩)) ∧ Below w.heap.size w w' ∧ PS w' w.heap.size (.slice none 0 0) [] (-1):=by
 have e:=heap_new w (.cells #[.slice none 0 0,.int .i64 (-1)] 109)
 have HP:Hid (PS (w.alloc (.cells #[.slice none 0 0,.int .i64 (-1)] 109)) w.heap.size (.slice none 0 0) [] (-1)) :=
  ⟨by simp only [World.cell?,e];rfl,by simp only [World.cell?,e];rfl,fun o=>by simp only [World.frozen?,e];simp,Buf.nil _ _,by simp⟩
 go_enter Tryz.func57,Tryz.ntmps57
 go_wp2_with fail
 go_ret
 exact ⟨rfl,bel1 w _,HP.out⟩
theorem put_no (B:Nat) (v:Value) (L:List Nat) (last:Int) (k:Nat) (nm vl:ByteArray) (p:Int) (w:World) (h:PS w B v L last) (hk:k < 8) (hn:nm.size ≤ 16777216) (hv:vl.size ≤ 16777216) (hE:Env w) (hS:ShpTab w) (h7:7 ≤ w.heap.size) (er:Nat)
  (he:(if canF last k nm vl = true then chkE k nm vl else 40) = er) (h0:¬ er = 0) :
  Calls Tryz.prog 58 #[.pointer (some ⟨B,0,none⟩),.agg #[.int .i64 (k:Int),.string nm,.string vl,.int .i64 p]] w fun e w'=>e = .returned (.int .i64 (er:Int)) ∧ Below w.heap.size w w':=by
 have hb:=bel1 w (.cells #[.int .i64 (k:Int),.string nm,.string vl,.int .i64 p] 67)
 have HB:Hid (Below w.heap.size w _):=hb
 have hTK:=TK.of (heap_new w (.cells #[.int .i64 (k:Int),.string nm,.string vl,.int .i64 p] 67))
 have hTl:=hTK.lt
 have HT:Hid (TK (w.alloc (.cells #[.int .i64 (k:Int),.string nm,.string vl,.int .i64 p] 67)) w.heap.size (.int .i64 (k:Int)) (.string nm) (.string vl) (.int .i64 p)):=hTK
 have h1:=h.below hb
 have cF:=canFollow_k B last k nm vl p _ hk (hS.below hb h7) (by rw [World.size_alloc];omega) h1.c1 h1.lt
 have cC:=fun (w:World) (hE:Env w) (hS:ShpTab w) (h7:7 ≤ w.heap.size)=>check_any k nm vl p w hk hn hv hE hS h7
 have hE1:=hE.below hb h7
 have hS1:=hS.below hb h7
 generalize canF last k nm vl = cf at *
 generalize chkE k nm vl = ck at *
 clear hTK
 cases cf
 ·rw [if_neg (by decide)] at he
  subst he
  go_enter Tryz.func58,Tryz.ntmps58
  go_wp2_with (go_at_call 80;refine cF.mono ?_;rintro e w1 ⟨rfl,hb1⟩)
  go_ret
  exact ⟨rfl,HB.out.trans (hb1.mono HB.out.size)⟩
 ·rw [if_pos rfl] at he
  subst he
  have k1:((ck:Int) == 0) = false:=beq_eq_false_iff_ne.2 (by omega)
  have k2:¬ (ck:Int) = 0:=by omega
  go_enter Tryz.func58,Tryz.ntmps58
  go_wp2_with (first
   | (go_at_call 80;refine cF.mono ?_;rintro e w1 ⟨rfl,hb1⟩;have t0:=(hb1.cell (p:=⟨w.heap.size,0,none⟩) hTl).trans HT.out.c0;have t1:=(hb1.cell (p:=⟨w.heap.size,1,none⟩) hTl).trans HT.out.c1;have t2:=(hb1.cell (p:=⟨w.heap.size,2,none⟩) hTl).trans HT.out.c2;have t3:=(hb1.cell (p:=⟨w.heap.size,3,none⟩) hTl).trans HT.out.c3)
   | (go_at_call 81;refine (cC _ (hE1.below hb1 (by rw [World.size_alloc];omega)) (hS1.below hb1 (by rw [World.size_alloc];omega)) (by have:=hb1.size;rw [World.size_alloc] at this;omega)).mono ?_;rintro e w2 ⟨rfl,hb2⟩))
  go_ret
  exact ⟨rfl,(HB.out.trans (hb1.mono HB.out.size)).trans (hb2.mono (Nat.le_trans HB.out.size hb1.size))⟩
theorem ent_written:∀ ag w,(callFunc 82 ag).run Tryz.prog w = .ok (.enter 82 ag) w:=enters_of Tryz.func82 (by kernel_rfl) rfl
theorem wrB_size (k:Nat) (nm vl:ByteArray):(wrB k nm vl).size ≤ 8 + nm.size + 6 * vl.size:=by
 have h1:=escB_size true vl
 have h2:=escB_size false vl
 unfold wrB
 have e1:(ByteArray.mk #[60]).size = 1:=rfl
 have e2:(ByteArray.mk #[32]).size = 1:=rfl
 have e3:(ByteArray.mk #[61,34]).size = 2:=rfl
 have e4:(ByteArray.mk #[34]).size = 1:=rfl
 have e5:(ByteArray.mk #[62]).size = 1:=rfl
 have e6:(ByteArray.mk #[47,62]).size = 2:=rfl
 have e7:(ByteArray.mk #[60,47]).size = 2:=rfl
 have e8:(ByteArray.mk #[60,33,45,45]).size = 4:=rfl
 have e9:(ByteArray.mk #[45,45,62]).size = 3:=rfl
 have e10:bXML.size = 5:=rfl
 have e11:bSHUT.size = 2:=rfl
 (repeat' split) <;> (try simp only [ByteArray.size_append,e1,e2,e3,e4,e5,e6,e7,e8,e9,e10,e11]) <;> omega
theorem put_yes (B:Nat) (v:Value) (L:List Nat) (last:Int) (k:Nat) (nm vl:ByteArray) (p:Int) (w:World) (h:PS w B v L last) (hk:k < 8) (hn:nm.size ≤ 16777216) (hv:vl.size ≤ 16777216) (hE:Env w) (hS:ShpTab w) (h7:7 ≤ w.heap.size)
  (hc:canF last k nm vl = true) (h0:chkE k nm vl = 0) (hL:L.length ≤ 1048576) :
  Calls Tryz.prog 58 #[.pointer (some ⟨B,0,none⟩),.agg #[.int .i64 (k:Int),.string nm,.string vl,.int .i64 p]] w fun e w'=>e = .returned (.int .i64 0) ∧ Below B w w' ∧ ∃ v',PS w' B v' (L ++ lOf (wrB k nm vl)) (k:Int):=by
 have hb:=bel1 w (.cells #[.int .i64 (k:Int),.string nm,.string vl,.int .i64 p] 67)
 have HB:Hid (Below w.heap.size w _):=hb
 have hTK:=TK.of (heap_new w (.cells #[.int .i64 (k:Int),.string nm,.string vl,.int .i64 p] 67))
 have hTl:=hTK.lt
 have HT:Hid (TK (w.alloc (.cells #[.int .i64 (k:Int),.string nm,.string vl,.int .i64 p] 67)) w.heap.size (.int .i64 (k:Int)) (.string nm) (.string vl) (.int .i64 p)):=hTK
 obtain ⟨pp,cp,rfl⟩:=h.buf.shape
 have h1:=h.below hb
 have cF:=canFollow_k B last k nm vl p _ hk (hS.below hb h7) (by rw [World.size_alloc];omega) h1.c1 h1.lt
 have cC:=fun (w:World) (hE:Env w) (hS:ShpTab w) (h7:7 ≤ w.heap.size)=>check_any k nm vl p w hk hn hv hE hS h7
 have cW:∀ w,Calls Tryz.prog 82 #[.agg #[.int .i64 (k:Int),.string nm,.string vl,.int .i64 p]] w fun e w'=>∃ v,e = .returned v ∧ (v = .string (wrB k nm vl) ∧ Below w.heap.size w w'):=fun w=>(written_any k nm vl p w hk hn hv).mono fun e w' ⟨h1,h2⟩=>⟨_,h1,rfl,h2⟩
 have hWz:=wrB_size k nm vl
 have hE1:=hE.below hb h7
 have hS1:=hS.below hb h7
 rw [hc] at cF
 rw [h0] at cC
 generalize wrB k nm vl = WR at *
 clear hTK h0 hc
 have hL2:(L.length:Int) ≤ 1048576:=by omega
 have H1:Hid (PS (w.alloc (.cells #[.int .i64 (k:Int),.string nm,.string vl,.int .i64 p] 67)) B (.slice pp L.length cp) L last):=h1
 go_enter Tryz.func58,Tryz.ntmps58
 go_wp2_with (first
  | (go_at_call 80;refine cF.mono ?_;rintro e w1 ⟨rfl,hb1⟩;have t0:=(hb1.cell (p:=⟨w.heap.size,0,none⟩) hTl).trans HT.out.c0;have t1:=(hb1.cell (p:=⟨w.heap.size,1,none⟩) hTl).trans HT.out.c1;have t2:=(hb1.cell (p:=⟨w.heap.size,2,none⟩) hTl).trans HT.out.c2;have t3:=(hb1.cell (p:=⟨w.heap.size,3,none⟩) hTl).trans HT.out.c3)
  | (go_at_call 81;refine (cC _ (hE1.below hb1 (by rw [World.size_alloc];omega)) (hS1.below hb1 (by rw [World.size_alloc];omega)) (by have:=hb1.size;rw [World.size_alloc] at this;omega)).mono ?_;rintro e w2 ⟨rfl,hb2⟩;have hB2:=hb1.trans (hb2.mono hb1.size);have P2:=H1.out.below hB2;have d0:=P2.c0;have s0:=(hB2.cell (p:=⟨w.heap.size,0,none⟩) hTl).trans HT.out.c0;have s1:=(hB2.cell (p:=⟨w.heap.size,1,none⟩) hTl).trans HT.out.c1;have s2:=(hB2.cell (p:=⟨w.heap.size,2,none⟩) hTl).trans HT.out.c2;have s3:=(hB2.cell (p:=⟨w.heap.size,3,none⟩) hTl).trans HT.out.c3))
 have hob:∀ k,(Value.slice pp L.length cp).ownBlock = Option.some k → B < k ∧ k < w.heap.size:=by
  intro k hk
  rcases h.buf.2 with ⟨e,_⟩ | ⟨g,cap,cur,e,hbg,hg,_⟩
  ·rw [e] at hk;cases hk
  ·rw [e] at hk
   have hkg:g = k:=Option.some.inj hk
   subst hkg
   exact ⟨hbg,(Array.getElem?_eq_some_iff.1 hg).1⟩
 go_region_law (first
  | (refine xstep1 ?_ _ (.tmp 26) #[67] ?_ ent_written _ ?_ _ (cW _) ?_;rfl;rfl;rfl;rintro _ w3 ⟨rfl,hb3⟩;have hB3:=bel_drew hb3;have P3:=P2.below hB3;have d03:=P3.c0;obtain ⟨v4,w4,hrun4,hbuf4,hbel4,hkeep4⟩:=bufStrK P3.buf WR (by omega) (by have:=P3.lt;omega);obtain ⟨p4,c4,hv4⟩:=hbuf4.shape;rw [List.length_append] at hv4;subst hv4;have c04:=(hbel4.cell (p:=⟨B,0,none⟩) (show B < B + 1 by omega)).trans P3.c0;have f04:=(hbel4.frozen (p:=⟨B,0,none⟩) (show B < B + 1 by omega)).trans (P3.fz 0))
  | (refine step_append_ex ?_ (.tmp 25) (.tmp 27) _ _ ?_ _ _ ?_ ?_ (fun a b=>a = .slice p4 (L.length + (lOf WR).length) c4 ∧ b = w4) ⟨_,w4,hrun4,rfl,rfl⟩ ?_;rfl;rfl;rfl;rfl;rintro _ w4 ⟨rfl,rfl⟩))
 all_goals
  have hltB:B < w.heap.size:=h.lt
  have hs3:w.heap.size < w3.heap.size:=by have h1:=hB2.size;have h2:=hB3.size;rw [World.size_alloc] at h1;omega
  have y0:w4.cell? ⟨w.heap.size,0,none⟩ = some (.int .i64 (k:Int)):=by
   have e3:=(hB3.cell (p:=⟨w.heap.size,0,none⟩) (by have h1:=hB2.size;rw [World.size_alloc] at h1;show w.heap.size < w2.heap.size;omega)).trans s0
   have e4:w4.heap[w.heap.size]? = w3.heap[w.heap.size]?:=hkeep4 _ hs3 (fun e=>by have:=(hob _ e).2;omega)
   simp only [World.cell?,e4] at e3 ⊢
   exact e3
  have z0:(w4.setCell ⟨B,0,none⟩ (.slice p4 (L.length + (lOf WR).length) c4)).cell? ⟨w.heap.size,0,none⟩ = some (.int .i64 (k:Int)):=(World.cell?_setCell_other w4 _ _ _ (fun e=>by injection e with e1;omega)).trans y0
  have x1:w4.cell? ⟨B,1,none⟩ = some (.int .i64 last):=(hbel4.cell (p:=⟨B,1,none⟩) (show B < B + 1 by omega)).trans P3.c1
  have z1:(w4.setCell ⟨B,0,none⟩ (.slice p4 (L.length + (lOf WR).length) c4)).cell? ⟨B,1,none⟩ = some (.int .i64 last):=(set_cell_ne w4 B 0 1 _ (by decide)).trans x1
  have zf:(w4.setCell ⟨B,0,none⟩ (.slice p4 (L.length + (lOf WR).length) c4)).frozen? ⟨B,1,none⟩ = false:=by rw [World.frozen?_setCell];exact (hbel4.frozen (p:=⟨B,1,none⟩) (show B < B + 1 by omega)).trans (P3.fz 1)
  have HPS:Hid (PS ((w4.setCell ⟨B,0,none⟩ (.slice p4 (L.length + (lOf WR).length) c4)).setCell ⟨B,1,none⟩ (.int .i64 (k:Int))) B (.slice p4 (L.length + (lOf WR).length) c4) (L ++ lOf WR) (k:Int)) :=
   ⟨(set_cell_ne _ B 1 0 _ (by decide)).trans (World.cell?_setCell_same w4 ⟨B,0,none⟩ _ c04),World.cell?_setCell_same _ ⟨B,1,none⟩ _ z1,
    fun o=>by rw [World.frozen?_setCell,World.frozen?_setCell];exact (hbel4.frozen (p:=⟨B,o,none⟩) (show B < B + 1 by omega)).trans (P3.fz o),
    (hbuf4.setCell _).setCell _,by have:=hbel4.size;simp [World.setCell];omega⟩
  have HBl:Hid (Below B w ((w4.setCell ⟨B,0,none⟩ (.slice p4 (L.length + (lOf WR).length) c4)).setCell ⟨B,1,none⟩ (.int .i64 (k:Int)))) :=
   ((((HB.out.trans (hB2.mono HB.out.size)).mono (by omega)).trans (hB3.mono (by have h1:=hB2.size;rw [World.size_alloc] at h1;omega))).trans (hbel4.mono (by omega))).trans ((below_set (Nat.le_refl B) w4 _).trans (below_set (Nat.le_refl B) _ _))
  clear hkeep4 hrun4 hbuf4 hbel4 P3 P2 x1 y0
  go_wp2_with fail
  go_ret
  exact ⟨rfl,HBl.out,_,HPS.out⟩
theorem put_full (B:Nat) (v:Value) (L:List Nat) (last:Int) (k:Nat) (nm vl:ByteArray) (p:Int) (w:World) (h:PS w B v L last) (hk:k < 8) (hn:nm.size ≤ 16777216) (hv:vl.size ≤ 16777216) (hE:Env w) (hS:ShpTab w) (h7:7 ≤ w.heap.size)
  (hc:canF last k nm vl = true) (h0:chkE k nm vl = 0) (hL:1048576 < L.length) :
  Calls Tryz.prog 58 #[.pointer (some ⟨B,0,none⟩),.agg #[.int .i64 (k:Int),.string nm,.string vl,.int .i64 p]] w fun e w'=>e = .returned (.int .i64 0) ∧ Below B w w' ∧ PS w' B v L (k:Int):=by
 have hb:=bel1 w (.cells #[.int .i64 (k:Int),.string nm,.string vl,.int .i64 p] 67)
 have HB:Hid (Below w.heap.size w _):=hb
 have hTK:=TK.of (heap_new w (.cells #[.int .i64 (k:Int),.string nm,.string vl,.int .i64 p] 67))
 have hTl:=hTK.lt
 have HT:Hid (TK (w.alloc (.cells #[.int .i64 (k:Int),.string nm,.string vl,.int .i64 p] 67)) w.heap.size (.int .i64 (k:Int)) (.string nm) (.string vl) (.int .i64 p)):=hTK
 obtain ⟨pp,cp,rfl⟩:=h.buf.shape
 have h1:=h.below hb
 have cF:=canFollow_k B last k nm vl p _ hk (hS.below hb h7) (by rw [World.size_alloc];omega) h1.c1 h1.lt
 have cC:=fun (w:World) (hE:Env w) (hS:ShpTab w) (h7:7 ≤ w.heap.size)=>check_any k nm vl p w hk hn hv hE hS h7
 have hE1:=hE.below hb h7
 have hS1:=hS.below hb h7
 rw [hc] at cF
 rw [h0] at cC
 clear hTK h0 hc
 have hL2:¬ (L.length:Int) ≤ 1048576:=by omega
 have H1:Hid (PS (w.alloc (.cells #[.int .i64 (k:Int),.string nm,.string vl,.int .i64 p] 67)) B (.slice pp L.length cp) L last):=h1
 have hltB:=h.lt
 go_enter Tryz.func58,Tryz.ntmps58
 go_wp2_with (first
  | (go_at_call 80;refine cF.mono ?_;rintro e w1 ⟨rfl,hb1⟩;have t0:=(hb1.cell (p:=⟨w.heap.size,0,none⟩) hTl).trans HT.out.c0;have t1:=(hb1.cell (p:=⟨w.heap.size,1,none⟩) hTl).trans HT.out.c1;have t2:=(hb1.cell (p:=⟨w.heap.size,2,none⟩) hTl).trans HT.out.c2;have t3:=(hb1.cell (p:=⟨w.heap.size,3,none⟩) hTl).trans HT.out.c3)
  | (go_at_call 81;refine (cC _ (hE1.below hb1 (by rw [World.size_alloc];omega)) (hS1.below hb1 (by rw [World.size_alloc];omega)) (by have:=hb1.size;rw [World.size_alloc] at this;omega)).mono ?_;rintro e w2 ⟨rfl,hb2⟩;have hB2:=hb1.trans (hb2.mono hb1.size);have P2:=H1.out.below hB2;have d0:=P2.c0;have d1:=P2.c1;have df:=P2.fz 1;have s0:=(hB2.cell (p:=⟨w.heap.size,0,none⟩) hTl).trans HT.out.c0))
 go_ret
 refine ⟨rfl,((HB.out.trans (hB2.mono HB.out.size)).mono (by omega)).trans (below_set (Nat.le_refl B) w2 _),(set_cell_ne w2 B 1 0 _ (by decide)).trans P2.c0,World.cell?_setCell_same w2 ⟨B,1,none⟩ _ d1,fun o=>by rw [World.frozen?_setCell];exact P2.fz o,P2.buf.setCell _,by simpa [World.setCell] using P2.lt⟩
theorem canFollow_out (B:Nat) (kd:Int) (nm vl:ByteArray) (p:Int) (w:World) (hk:kd < 0 ∨ 8 ≤ kd) :
  Calls Tryz.prog 80 #[.pointer (some ⟨B,0,none⟩),.agg #[.int .i64 kd,.string nm,.string vl,.int .i64 p]] w fun e w'=>e = .returned (.bool false) ∧ Below w.heap.size w w':=by
 have HB:Hid (Below w.heap.size w (w.alloc (.cells #[.int .i64 kd,.string nm,.string vl,.int .i64 p] 67))):=bel1 w _
 by_cases h0:kd < 0
 ·go_enter Tryz.func80,Tryz.ntmps80
  go_wp2_with fail
  go_ret
  exact ⟨rfl,HB.out⟩
 ·have h8:8 ≤ kd:=by omega
  go_enter Tryz.func80,Tryz.ntmps80
  go_wp2_with fail
  go_ret
  exact ⟨rfl,HB.out⟩
theorem put_out (B:Nat) (kd:Int) (nm vl:ByteArray) (p:Int) (w:World) (hk:kd < 0 ∨ 8 ≤ kd) :
  Calls Tryz.prog 58 #[.pointer (some ⟨B,0,none⟩),.agg #[.int .i64 kd,.string nm,.string vl,.int .i64 p]] w fun e w'=>e = .returned (.int .i64 40) ∧ Below w.heap.size w w':=by
 have HB:Hid (Below w.heap.size w (w.alloc (.cells #[.int .i64 kd,.string nm,.string vl,.int .i64 p] 67))):=bel1 w _
 have cF:=canFollow_out B kd nm vl p (w.alloc (.cells #[.int .i64 kd,.string nm,.string vl,.int .i64 p] 67)) hk
 go_enter Tryz.func58,Tryz.ntmps58
 go_wp2_with (go_at_call 80;refine cF.mono ?_;rintro e w1 ⟨rfl,hb1⟩)
 go_ret
 exact ⟨rfl,HB.out.trans (hb1.mono HB.out.size)⟩
structure IT where
 k:Int
 nm:ByteArray
 vl:ByteArray
 p:Int
def IT.ok (t:IT):Prop:=t.nm.size ≤ 16777216 ∧ t.vl.size ≤ 16777216
def putE (last:Int) (t:IT):Nat:=if t.k < 0 ∨ 8 ≤ t.k then 40 else if canF last t.k.toNat t.nm t.vl = true then chkE t.k.toNat t.nm t.vl else 40
def putL (L:List Nat) (t:IT):List Nat:=if L.length ≤ 1048576 then L ++ lOf (wrB t.k.toNat t.nm t.vl) else L
def prZ:List IT → Nat → Int → List Nat → List Nat × Nat × Nat
 | [],n,last,L=>if inT last = true then ([],41,n) else if 1048576 < L.length then ([],45,n) else (L,0,0)
 | t :: ts,n,last,L=>if putE last t = 0 then prZ ts (n + 1) t.k (putL L t) else ([],putE last t,n)
theorem put_it (B:Nat) (v:Value) (L:List Nat) (last:Int) (t:IT) (w:World) (h:PS w B v L last) (ht:t.ok) (hE:Env w) (hS:ShpTab w) (h7:7 ≤ w.heap.size) :
  Calls Tryz.prog 58 #[.pointer (some ⟨B,0,none⟩),.agg #[.int .i64 t.k,.string t.nm,.string t.vl,.int .i64 t.p]] w fun e w'=>e = .returned (.int .i64 (putE last t:Int)) ∧ Below B w w' ∧ (putE last t = 0 → ∃ v',PS w' B v' (putL L t) t.k):=by
 obtain ⟨k,nm,vl,p⟩:=t
 obtain ⟨hn,hv⟩:=ht
 simp only at hn hv ⊢
 by_cases hk:k < 0 ∨ 8 ≤ k
 ·have e:putE last ⟨k,nm,vl,p⟩ = 40:=if_pos hk
  rw [e]
  exact (put_out B k nm vl p w hk).mono fun _ _ ⟨h1,h2⟩=>⟨h1,h2.mono (Nat.le_of_lt h.lt),fun h=>absurd h (by decide)⟩
 ·obtain ⟨m,rfl⟩:∃ m:Nat,k = (m:Int):=⟨k.toNat,by omega⟩
  have hm:m < 8:=by omega
  have e:putE last ⟨(m:Int),nm,vl,p⟩ = (if canF last m nm vl = true then chkE m nm vl else 40):=if_neg hk
  by_cases h0:putE last ⟨(m:Int),nm,vl,p⟩ = 0
  ·rw [h0]
   rw [e] at h0
   by_cases hc:canF last m nm vl = true
   ·rw [if_pos hc] at h0
    by_cases hL:L.length ≤ 1048576
    ·have e2:putL L ⟨(m:Int),nm,vl,p⟩ = L ++ lOf (wrB m nm vl):=if_pos hL
     rw [e2]
     exact (put_yes B v L last m nm vl p w h hm hn hv hE hS h7 hc h0 hL).mono fun _ _ ⟨h1,h2,h3⟩=>⟨h1,h2,fun _=>h3⟩
    ·have e2:putL L ⟨(m:Int),nm,vl,p⟩ = L:=if_neg hL
     rw [e2]
     exact (put_full B v L last m nm vl p w h hm hn hv hE hS h7 hc h0 (by omega)).mono fun _ _ ⟨h1,h2,h3⟩=>⟨h1,h2,fun _=>⟨v,h3⟩⟩
   ·rw [if_neg hc] at h0
    exact absurd h0 (by decide)
  ·exact (put_no B v L last m nm vl p w h hm hn hv hE hS h7 _ e.symm h0).mono fun _ _ ⟨h1,h2⟩=>⟨h1,h2.mono (Nat.le_of_lt h.lt),fun h=>absurd h h0⟩
structure IRow (w:World) (pp:Option Addr) (H:Nat) (ts:List IT):Prop where
 c:∀ (i:Nat) (t:IT),ts[i]? = some t → ∃ g o,pp = some ⟨g,o,none⟩ ∧ g < H ∧ w.cell? ⟨g,o + i * 4,none⟩ = some (.int .i64 t.k) ∧ w.cell? ⟨g,o + i * 4 + 1,none⟩ = some (.string t.nm) ∧ w.cell? ⟨g,o + i * 4 + 2,none⟩ = some (.string t.vl) ∧ w.cell? ⟨g,o + i * 4 + 3,none⟩ = some (.int .i64 t.p)
theorem IRow.below {w w':World} {pp:Option Addr} {H:Nat} {ts:List IT} (h:IRow w pp H ts) (hb:Below H w w'):IRow w' pp H ts :=
 ⟨fun i t ht=>by
  obtain ⟨g,o,e,hg,h0,h1,h2,h3⟩:=h.c i t ht
  exact ⟨g,o,e,hg,(hb.cell (p:=⟨g,_,none⟩) hg).trans h0,(hb.cell (p:=⟨g,_,none⟩) hg).trans h1,(hb.cell (p:=⟨g,_,none⟩) hg).trans h2,(hb.cell (p:=⟨g,_,none⟩) hg).trans h3⟩⟩
theorem Print_any (pp:Option Addr) (cp:Nat) (ts:List IT) (w:World) (hr:IRow w pp w.heap.size ts) (hl:ts.length ≤ 281474976710656) (hok:∀ t ∈ ts,t.ok) (hE:Env w) (hS:ShpTab w) (h7:7 ≤ w.heap.size) :
  Calls Tryz.prog 35 #[.slice pp ts.length cp] w fun e w'=>e = .returned (.tuple #[.string (sOf (prZ ts 0 (-1) []).1),.int .i64 ((prZ ts 0 (-1) []).2.1:Int),.int .i64 ((prZ ts 0 (-1) []).2.2:Int)]) ∧ Below w.heap.size w w':=by
 have hN:=newPrinter_any w
 go_enter Tryz.func35,Tryz.ntmps35
 go_wp2_with (go_at_call 57;refine hN.mono ?_;rintro e w1 ⟨rfl,hb1,hp1⟩)
 go_loopw [12] (fun i wr=>∃ (k:Nat) (v:Value) (L:List Nat) (last:Int),k ≤ ts.length ∧ i = .int .i64 k ∧ PS wr w.heap.size v L last ∧ Below w.heap.size w wr ∧ prZ (ts.drop k) k last L = prZ ts 0 (-1) []) (fun i _=>ts.length - (RowKit.intOf i).toNat)
 case atStart=>exact ⟨0,_,_,_,Nat.zero_le _,rfl,hp1,hb1,rfl⟩
 case round =>
  obtain ⟨k,v,L,last,hk,rfl,hP,hB,hZ⟩:=hrel
  by_cases hlt:k < ts.length
  ·obtain ⟨t,htg⟩:∃ t,ts[k]? = some t:=⟨ts[k],List.getElem?_eq_getElem hlt⟩
   obtain ⟨g,o,rfl,hg,q0,q1,q2,q3⟩:=(hr.below hB).c k t htg
   have hto:=hok t (List.mem_of_getElem? htg)
   have hb2:=bel1 wr (.cells #[.int .i64 t.k,.string t.nm,.string t.vl,.int .i64 t.p] 67)
   have hs2:=hB.size
   have cP:=put_it w.heap.size v L last t _ (hP.below hb2) hto ((hE.below hB h7).below hb2 (by omega)) ((hS.below hB h7).below hb2 (by omega)) (by rw [World.size_alloc];omega)
   have hB2:Below w.heap.size w (wr.alloc (.cells #[.int .i64 t.k,.string t.nm,.string t.vl,.int .i64 t.p] 67)):=hB.trans (hb2.mono hs2)
   have hdr:ts.drop k = t :: ts.drop (k + 1):=by
    rw [List.drop_eq_getElem_cons hlt]
    congr 1
    rw [List.getElem?_eq_getElem hlt] at htg
    exact Option.some.inj htg
   rw [hdr] at hZ
   simp only [prZ] at hZ
   clear hr hE hS hdr hb2
   by_cases h0:putE last t = 0
   ·rw [h0] at cP
    rw [if_pos h0] at hZ
    go_wp2_with (go_at_call 58;refine cP.mono ?_;rintro e w2 ⟨rfl,hb3,hps⟩)
    obtain ⟨v',hP'⟩:=hps trivial
    go_roundw
    case rel=>exact ⟨k + 1,v',_,_,by omega,by go_num,hP',hB2.trans hb3,hZ⟩
    case measure=>simp [RowKit.intOf];omega
   ·rw [if_neg h0] at hZ
    have k1:((putE last t:Int) == 0) = false:=beq_eq_false_iff_ne.2 (by omega)
    have k2:¬ (putE last t:Int) = 0:=by omega
    generalize putE last t = er at *
    go_wp2_with (go_at_call 58;refine cP.mono ?_;rintro e w2 ⟨rfl,hb3,hps⟩)
    exact bodyPost_ret (v:=.tuple #[.string ⟨#[]⟩,.int .i64 (er:Int),.int .i64 (k:Int)]) (by simp [results,Tryz.results35,go_sem]) rfl ⟨by rw [← hZ];rfl,hB2.trans hb3⟩
  ·obtain rfl:k = ts.length:=by omega
   rw [List.drop_length] at hZ
   have hcv:=hP.buf.conv
   have d0:=hP.c0
   obtain ⟨pp2,cp2,rfl⟩:=hP.buf.shape
   rw [show prZ [] ts.length last L = if inT last = true then ([],41,ts.length) else if 1048576 < L.length then ([],45,ts.length) else (L,0,0) from rfl] at hZ
   have cI:=inTag_p w.heap.size last wr hP.c1
   have hZl:¬ ((ts.length:Int) < ts.length):=by omega
   cases hI:inT last
   ·rw [hI] at cI
    rw [hI,if_neg (by decide)] at hZ
    by_cases hL:1048576 < L.length
    ·rw [if_pos hL] at hZ
     have hL2:(1048576:Int) < L.length:=by omega
     go_wp2_with (go_at_call 59;refine cI.mono ?_;rintro e w2 ⟨rfl,rfl⟩)
     exact bodyPost_ret (v:=.tuple #[.string ⟨#[]⟩,.int .i64 45,.int .i64 (ts.length:Int)]) (by simp [results,Tryz.results35,go_sem]) rfl ⟨by rw [← hZ];rfl,hB⟩
    ·rw [if_neg hL] at hZ
     have hL2:¬ (1048576:Int) < L.length:=by omega
     go_wp2_with (go_at_call 59;refine cI.mono ?_;rintro e w2 ⟨rfl,rfl⟩)
     exact bodyPost_ret (v:=.tuple #[.string (sOf L),.int .i64 0,.int .i64 0]) (by simp [results,Tryz.results35,go_sem]) rfl ⟨by rw [← hZ];rfl,hB⟩
   ·rw [hI] at cI
    rw [hI,if_pos rfl] at hZ
    go_wp2_with (go_at_call 59;refine cI.mono ?_;rintro e w2 ⟨rfl,rfl⟩)
    exact bodyPost_ret (v:=.tuple #[.string ⟨#[]⟩,.int .i64 41,.int .i64 (ts.length:Int)]) (by simp [results,Tryz.results35,go_sem]) rfl ⟨by rw [← hZ];rfl,hB⟩
def Tok.it (t:Tok):IT:=⟨t.k,t.nm,t.vl,t.p⟩
theorem tokCells_get:∀ (ts:List Tok) (i:Nat) (t:Tok),ts[i]? = some t → ∀ j,j < 4 → (tokCells ts)[i * 4 + j]? = (tokC t)[j]?
 | [],_,_,h,_,_=>by cases h
 | a :: r,0,t,h,j,hj=>by
  cases h
  unfold tokCells
  rw [List.flatMap_cons,List.getElem?_append_left (by simp [tokC];omega),Nat.zero_mul,Nat.zero_add]
 | a :: r,i + 1,t,h,j,hj=>by
  have ih:=tokCells_get r i t h j hj
  unfold tokCells at ih ⊢
  have hl:(tokC a).length = 4:=rfl
  rw [List.flatMap_cons,List.getElem?_append_right (by omega),hl,← ih]
  congr 1
  omega
theorem TRow.irow {W:World} {base H:Nat} {v:Value} {ts:List Tok} (h:TRow W base v ts) (hH:W.heap.size ≤ H):∃ pp cp,v = .slice pp ts.length cp ∧ IRow W pp H (ts.map Tok.it):=by
 rcases h.2 with ⟨rfl,h0⟩ | ⟨g,cap,cur,rfl,hb,hg,hn,hm,hs,hx⟩
 ·refine ⟨none,0,by rw [h0],⟨fun i t ht=>?_⟩⟩
  have:ts = []:=List.eq_nil_of_length_eq_zero h0
  subst this
  cases ht
 ·refine ⟨_,_,rfl,⟨fun i t ht=>?_⟩⟩
  rw [List.getElem?_map] at ht
  cases hi:ts[i]? with
  | none=>rw [hi] at ht;cases ht
  | some u =>
   rw [hi] at ht
   cases ht
   have hlt:i < ts.length:=(List.getElem?_eq_some_iff.1 hi).1
   have hc:∀ j,j < 4 → W.cell? ⟨g,0 + i * 4 + j,none⟩ = (tokC u)[j]?:=by
    intro j hj
    have e:=tokCells_get ts i u hi j hj
    rw [← hx,List.getElem?_take_of_lt (by omega),Array.getElem?_toList] at e
    simp only [World.cell?,hg,Nat.zero_add]
    exact e
   exact ⟨g,0,rfl,Nat.lt_of_lt_of_le (Array.getElem?_eq_some_iff.1 hg).1 hH,hc 0 (by decide),hc 1 (by decide),hc 2 (by decide),hc 3 (by decide)⟩
end Go.Proofs.YtchfphakhmifmabGreatDoor
