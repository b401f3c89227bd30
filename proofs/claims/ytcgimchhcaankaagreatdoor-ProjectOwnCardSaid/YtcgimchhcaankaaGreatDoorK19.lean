import Derived.Test.YtcgimchhcaankaaGreatDoorK18
namespace Go.Proofs.YtcgimchhcaankaaGreatDoor
set_option maxRecDepth 1000000
set_option maxHeartbeats 16000000
open Go.ChangeShapes Go.WideShapes Go.ChangeAt Go.RowKit Go.Shelf
def mayN (op:Int):Nat:=if op=0 then 12297 else if op=2 then 1103 else if op=4 then 61453 else if op=6 then 16413 else if op=8 then 6 else if op=10\/op=12 then 70 else if op=14 then 2038 else if op=15 then 2056 else 0
structure MT (w:World):Prop where
 pos:0<w.heap.size
 c:∀ p:Nat,p<16->w.cell? ⟨0,p,none⟩=some (.int .i64 (mayN p:Int))
theorem MT.below {w w':World} (h:MT w) {B:Nat} (hB:0<B) (hb:Below B w w'):MT w':=⟨Nat.lt_of_lt_of_le h.pos hb.size,fun p hp=>(hb.cell (p:=⟨0,p,none⟩) hB).trans (h.c p hp)⟩
theorem i64_andNot_nat (a b:Nat) (ha:a<65536):∃ r:Nat,bits .andNot .i64 (a:Int) (b:Int)=(r:Int)/\∀ k,r.testBit k=(a.testBit k && !b.testBit k):=by
 refine⟨(BitVec.ofNat 64 a &&& ~~~(BitVec.ofNat 64 b)).toNat,?_,fun k=>?_⟩
 ·have hx:(BitVec.ofNat 64 a &&& ~~~(BitVec.ofNat 64 b)).toNat<2 ^ 16:=by
   rw[BitVec.toNat_and,BitVec.toNat_ofNat,Nat.mod_eq_of_lt (by omega)]
   rw[Nat.and_comm]
   exact Nat.and_lt_two_pow _ (by omega)
  show IntKind.i64.wrap ((BitVec.ofInt 64 (a:Int) &&& ~~~(BitVec.ofInt 64 (b:Int))).toNat:Int)=_
  rw[BitVec.ofInt_natCast,BitVec.ofInt_natCast,IntKind.wrap_i64]
  omega
 ·rw[BitVec.testBit_toNat,BitVec.getLsbD_and,BitVec.getLsbD_not,BitVec.getLsbD_ofNat,BitVec.getLsbD_ofNat]
  by_cases h:k<64
  ·simp[h]
  ·have:a.testBit k=false:=Nat.testBit_lt_two_pow (Nat.lt_of_lt_of_le ha (by
    calc 65536=2 ^ 16:=rfl
     _<=2 ^ k:=Nat.pow_le_pow_right (by omega) (by omega)))
   simp[h,this]
theorem subB_iff:∀ (l m:List Bool),l.length=m.length->(subB l m=true↔∀ k,l.getD k false=true->m.getD k false=true)
 | [],[],_=>by simp[subB]
 | [],_::_,h=>by simp at h
 | _::_,[],h=>by simp at h
 | a::r,b::s,h=>by
  unfold subB
  rw[Bool.and_eq_true,subB_iff r s (by simpa using h)]
  constructor
  ·rintro⟨h1,h2⟩ k hk
   rcases k with _|k
   ·simp at hk h1 ⊢;simpa[hk] using h1
   ·simpa using h2 k (by simpa using hk)
  ·intro h
   refine⟨?_,fun k hk=>by simpa using h (k+1) (by simpa using hk)⟩
   have:=h 0
   cases a<;>simp_all
theorem mays_len (op:Int):(mays op).length=16:=by
 unfold mays
 repeat' split
 all_goals rfl
theorem nzs_len (t:Tk):(nzs t).length=16:=rfl
theorem bitsTo_of {l:List Bool} {N:Nat} (h:N<65536) (hd:(List.range 16).all (fun k=>N.testBit k==l.getD k false)=true):BitsTo l 16 N:=⟨h,fun k=>by
 by_cases hk:k<16
 ·have:=List.all_eq_true.1 hd k (List.mem_range.2 hk)
  rw[beq_iff_eq] at this
  rw[this,decide_eq_true hk,Bool.true_and]
 ·have:N.testBit k=false:=Nat.testBit_lt_two_pow (Nat.lt_of_lt_of_le h (by
   calc 65536=2 ^ 16:=rfl
    _<=2 ^ k:=Nat.pow_le_pow_right (by omega) (by omega)))
  rw[this,decide_eq_false hk,Bool.false_and]⟩
theorem may_bits (op:Nat) (h:op<16):BitsTo (mays (op:Int)) 16 (mayN (op:Int)):=by
 rcases(show op=0\/op=1\/op=2\/op=3\/op=4\/op=5\/op=6\/op=7\/op=8\/op=9\/op=10\/op=11\/op=12\/op=13\/op=14\/op=15 by omega) with rfl|rfl|rfl|rfl|rfl|rfl|rfl|rfl|rfl|rfl|rfl|rfl|rfl|rfl|rfl|rfl
 all_goals exact bitsTo_of (by decide) (by decide)
theorem plain_iff (t:Tk) (N r:Nat) (op:Nat) (ho:t.op=op) (h:op<16) (hN:BitsTo (nzs t) 16 N) (hr:∀ k,r.testBit k=(N.testBit k && !(mayN (op:Int)).testBit k)):r=0↔plainB t=true:=by
 have hm:=may_bits op h
 unfold plainB
 rw[ho,subB_iff _ _ (by rw[nzs_len,mays_len])]
 constructor
 ·intro e k hk
  have h1:=hr k
  rw[e,Nat.zero_testBit,hN.2 k,hm.2 k,hk] at h1
  by_cases hlt:k<16
  ·rw[decide_eq_true hlt] at h1
   simpa using h1
  ·exfalso
   have hnn:(nzs t)[k]?=none:=List.getElem?_eq_none (by rw[nzs_len];omega)
   rw[List.getD_eq_getElem?_getD,hnn] at hk
   cases hk
 ·intro hs
  apply Nat.eq_of_testBit_eq
  intro k
  rw[hr k,Nat.zero_testBit,hN.2 k,hm.2 k]
  by_cases hlt:k<16
  ·rw[decide_eq_true hlt,Bool.true_and,Bool.true_and]
   cases hq:(nzs t).getD k false with
   | false=>rfl
   | true=>rw[hs k hq];rfl
  ·rw[decide_eq_false hlt];rfl
def bitN (l:List Bool):Nat->Nat
 | 0=>0
 | j+1=>if l.getD j false=true then bitN l j ||| 2 ^ j else bitN l j
theorem bitN_ok (l:List Bool):∀ j,j<=16->BitsTo l j (bitN l j)
 | 0,_=>bits_zero l
 | j+1,h=>by
  have ih:=bitN_ok l j (by omega)
  unfold bitN
  split
  ·rename_i e;exact bits_yes ih (by omega) e
  ·rename_i e;exact bits_no ih (by simpa using e)
theorem bits_one {l:List Bool} {j N M:Nat} (h:BitsTo l j N) (h':BitsTo l j M):N=M:=Nat.eq_of_testBit_eq fun k=>by rw[h.2 k,h'.2 k]
theorem marksOf_one (t:Tk) (g o:Nat) (pc:Option Addr) (cc:Nat) (w:World) (hT:TkC w g o t pc cc) :
  Calls Tryz.prog 129 #[.pointer (some ⟨g,o,none⟩)] w fun r w'=>r = .returned (.int .i64 ((bitN (nzs t) 16:Nat):Int))/\Below w.heap.size w w' :=
 (marksOf_any t g o pc cc w hT).mono fun r w' ⟨N,hr,hN,hb⟩=>⟨by rw[hr,bits_one hN (bitN_ok _ 16 (Nat.le_refl _))],hb⟩
theorem ent_marksOf:∀ ag w,(callFunc 129 ag).run Tryz.prog w = .ok (.enter 129 ag) w:=enters_of Tryz.func129 (by kernel_rfl) rfl
theorem ent_hasMore:∀ ag w,(callFunc 96 ag).run Tryz.prog w = .ok (.enter 96 ag) w:=enters_of Tryz.func96 (by kernel_rfl) rfl
theorem hasMore_any (t:Tk) (g o:Nat) (pc:Option Addr) (cc:Nat) (w:World) (hT:TkC w g o t pc cc) (hg:g<w.heap.size) (hM:MT w) (ho:0<=t.op/\t.op<=15) :
  Calls Tryz.prog 96 #[.pointer (some ⟨g,o,none⟩)] w fun r w'=>r = .returned (.bool (!plainB t))/\Below w.heap.size w w':=by
 obtain⟨q,hq⟩:∃ q:Nat,t.op=q:=⟨t.op.toNat,by omega⟩
 have hN:=bitN_ok (nzs t) 16 (Nat.le_refl _)
 have hm:=may_bits q (by omega)
 obtain⟨r,hr1,hr2⟩:=i64_andNot_nat (bitN (nzs t) 16) (mayN (q:Int)) hN.1
 have hres:=plain_iff t _ r q hq (by omega) hN hr2
 have t0v:w.cell? ⟨g,o,none⟩=some (.int .i64 (q:Int)):=by rw[hT.c0,hq]
 have mv:=hM.c q (by omega)
 have hq1:(q:Int)<16:=by omega
 have hq0:(0:Int)<=(q:Int):=by omega
 have hpos:=hM.pos
 obtain⟨N,hNN⟩:∃ N:Nat,bitN (nzs t) 16=N:=⟨_,rfl⟩
 have cM0:=fun W (hW:TkC W g o t pc cc)=>marksOf_one t g o pc cc W hW
 rw[hNN] at hr1 cM0
 obtain⟨p,pB,pK,hN0,t0,m0,cM⟩:∃ p:World->Prop,(∀ W,p W->Below w.heap.size w W)/\(∀ W,Below w.heap.size w W->p W)/\Nonempty (CW p)/\(∀ θ:CW p,θ.w.cell? ⟨g,o,none⟩=some (.int .i64 (q:Int)))/\(∀ θ:CW p,θ.w.cell? ⟨0,q,none⟩=some (.int .i64 (mayN (q:Int):Int)))/\(∀ W,p W->Calls Tryz.prog 129 #[.pointer (some ⟨g,o,none⟩)] W fun e w'=>e = .returned (.int .i64 (N:Int))/\p w') :=
  ⟨Below w.heap.size w,fun _ h=>h,fun _ h=>h,⟨⟨w,Below.refl _ _⟩⟩,fun θ=>(θ.h.cell (p:=⟨g,o,none⟩) hg).trans t0v,fun θ=>(θ.h.cell (p:=⟨0,q,none⟩) hpos).trans mv,callB (Nat.le_refl _) (fun W hW=>cM0 W (hT.below hg hW))⟩
 have hfin:(!plainB t)=((r:Int) != 0):=by
  rw[Bool.eq_iff_iff]
  cases hp:plainB t with
  | true=>have:=hres.2 hp;simp[this]
  | false =>
   have:¬ r=0:=fun e=>by rw[hres.1 e] at hp;cases hp
   simp[this]
 rw[hfin]
 clear hfin hres hT hg hM ho hq hN hm hr2 t0v mv hNN cM0
 go_enter Tryz.func96,Tryz.ntmps96
 go_wp2_with fail
 refine wp_region_pp p [0,2,3,4,5,6,7,1,8,9,10] (by kernel_rfl) (by kernel_rfl) (fun _ _ d _ _ h=>by cases d<;>exact h) (pK _ (drw (Below.refl _ _))) ?_
 simp only[List.filterMap_cons,List.filterMap_nil,List.getElem?_cons_zero,List.getElem?_cons_succ]
 have hp:p w.drew:=pK _ (drw (Below.refl _ _))
 generalize w.drew=W at hp ⊢
 repeat (first|(refine lx_one rfl ?_;(first|go_big_quiet_skip|(go_big_quiet_want;go_big_quiet_op;go_big_quiet_on));refine wpQuiet_nil ?_)|(refine lx_p1 ent_marksOf cM hp rfl (by rfl) ?_;intro W hp;simp only[pts])|(refine lx_skip (by rfl) ?_;simp only[pts]))
 refine lx_done ?_
 go_wp2_with fail
 go_ret
 exact⟨rfl,pB _ hp⟩
theorem nempty (s : ByteArray) : (s.toList==[])=decide (s.size=0) := by
  have h : s.toList.length=s.size := by rw[ByteArray.toList_eq]; exact Array.length_toList
  cases hs : s.toList with
  | nil => rw[hs] at h; have : s.size=0 := h.symm; simp[this]
  | cons a l => rw [hs] at h; have : ¬ s.size = 0 := by simp at h; omega
                simp[this]
theorem Symbol_any (s:ByteArray) (hs:s.size<=9223372036854775806) (w:World):Calls Tryz.prog 97 #[.string s] w fun e w'=>e = .returned (.bool (symbolB s))/\w'=w:=by
 by_cases h0:s.size=0
 ·have e0:(s.toList==[])=true:=by rw[nempty];simp[h0]
  have g:symbolB s=false:=by unfold symbolB;simp[h0]
  rw[g]
  go_enter Tryz.func97,Tryz.ntmps97
  go_wp2_with fail
  go_ret
  exact⟨rfl,rfl⟩
 have e0:(s.toList==[])=false:=by rw[nempty];simp[h0]
 by_cases h64:64<s.size
 ·have d1:decide (64<(s.size:Int))=true:=by simp;omega
  have g:symbolB s=false:=by unfold symbolB;simp;omega
  rw[g]
  go_enter Tryz.func97,Tryz.ntmps97
  go_wp2_with fail
  go_ret
  exact⟨rfl,rfl⟩
 have d1:decide (64<(s.size:Int))=false:=by simp;omega
 have ix0:∀ w:World,(Instr.index 9 (.string s) (.int .i64 0)).run Tryz.prog w = .ok (.int .u8 (ch s 0:Int)) w:=fun w=>nidx (w:=w) s 0 (by omega) .i64
 cases hd0:ndig (ch s 0)
 case true =>
  have g:symbolB s=false:=by unfold symbolB;simp[hd0]
  rw[g]
  go_enter Tryz.func97,Tryz.ntmps97
  go_wp2_with (go_at_call 130;refine(nisDigit _ _).mono ?_;rintro e w1 ⟨rfl,rfl⟩)
  go_ret
  exact⟨rfl,rfl⟩
 case false =>
 go_enter Tryz.func97,Tryz.ntmps97
 go_wp2_with (go_at_call 130;refine(nisDigit _ _).mono ?_;rintro e w1 ⟨rfl,rfl⟩)
 go_loop [19] (fun i=>∃ k:Nat,k<=s.size/\i = .int .i64 (k:Int)/\∀ j,j<k->nsym (ch s j)=true) (fun i=>s.size-(intOf i).toNat)
 case atStart=>exact⟨0,Nat.zero_le _,rfl,fun j hj=>absurd hj (Nat.not_lt_zero j)⟩
 case round =>
  obtain⟨k,hk,rfl,hall⟩:=hrel
  by_cases hlt:k<s.size
  ·have d1:decide ((k:Int)<(s.size:Int))=true:=by simp;omega
   have ix:∀ w:World,(Instr.index 9 (.string s) (.int .i64 (k:Int))).run Tryz.prog w = .ok (.int .u8 (ch s k:Int)) w:=fun w=>nidx (w:=w) s k hlt .i64
   have hgo:nsym (ch s k)=true\/(nlet (ch s k)=false/\ndig (ch s k)=false/\((ch s k:Int) != 95)=true/\symbolB s=false):=by
    cases hx:nsym (ch s k)
    ·right
     have hx':=hx
     unfold nsym at hx'
     simp only[Bool.or_eq_false_iff,decide_eq_false_iff_not] at hx'
     refine⟨hx'.1.1,hx'.1.2,by simp;omega,?_⟩
     unfold symbolB
     simp only[decide_eq_false_iff_not]
     rintro⟨-,-,-,h⟩
     rw[h k hlt] at hx
     cases hx
    ·exact Or.inl rfl
   rcases hgo with hx|⟨a1,a2,a3,g⟩
   ·have hall2:∀ j,j<k+1->nsym (ch s j)=true:=fun j hj=>by
     by_cases h:j=k
     ·rw[h];exact hx
     ·exact hall j (by omega)
    have a3:((ch s k:Int) != 95) = !(decide (ch s k=95)):=by by_cases h:ch s k=95<;>simp[h];omega
    unfold nsym at hx
    clear hall
    cases hl:nlet (ch s k)<;>cases hd:ndig (ch s k)<;>cases h95:decide (ch s k=95)<;>rw[hl,hd,h95] at hx<;>first|(cases hx;done)|skip
    all_goals
     clear hx
     rw[h95] at a3
     simp only[Bool.not_true,Bool.not_false] at a3
     clear h95
     go_wp2_with (first|(go_at_call 131;refine(nisLetter _ _).mono ?_;rintro e w1 ⟨rfl,rfl⟩)|(go_at_call 130;refine(nisDigit _ _).mono ?_;rintro e w1 ⟨rfl,rfl⟩))
     go_round
     case rel=>exact⟨k+1,by omega,by go_num,hall2⟩
     case measure=>simp[intOf];omega
   ·skip
    go_wp2_with (first|(go_at_call 131;refine(nisLetter _ _).mono ?_;rintro e w1 ⟨rfl,rfl⟩)|(go_at_call 130;refine(nisDigit _ _).mono ?_;rintro e w1 ⟨rfl,rfl⟩))
    go_ret
    first|exact⟨rfl,rfl⟩|exact⟨nret g.symm,rfl⟩
  ·obtain rfl:k=s.size:=by omega
   have g:symbolB s=true:=by
    unfold symbolB
    simp only[decide_eq_true_eq]
    exact⟨by omega,by omega,hd0,hall⟩
   clear hall
   go_wp2_with fail
   go_ret
   first|exact⟨rfl,rfl⟩|exact⟨nret g.symm,rfl⟩
open Go.Maps
section
variable {P:Program} {ops:Array Oper} {C:World->Prop} {Q:Exit->Act->World->Prop} {d:Option Tmp} {ty:TypeId} {ps:String} {af:Array Edge} {gd:Option (Nat×Bool)} {r:List Oper} {a:Act} {w:World}
theorem lx_callv {f:FuncId} {v0 x1:Operand} {y0 y1:Value} {tx:Array TypeId} {v:Value} {R:World->Prop} (hen:∀ ag w,(callFunc f ag).run P w = .ok (.enter f ag) w) (hc:Calls P f #[y0,y1] w fun e w'=>e = .returned v/\R w') (h0:a.eval v0 = .func (.func f) #[y0] #[]) (h1:a.eval x1=y1) (hw:Region.wanted ⟨d,.call { callee:=.value v0,args:=#[x1],argTypes:=tx },ty,ps,af,gd⟩ (yielded ops a.tmps)=true)
  (h:∀ w',R w'->C w'/\Lx P ops C Q r (a.put d v) w'):Lx P ops C Q (⟨d,.call { callee:=.value v0,args:=#[x1],argTypes:=tx },ty,ps,af,gd⟩::r) a w :=
 lx_act hw rfl fun K hK=>by
  unfold Oper.wp execOp
  simp only[resolve,invoke,Sem.run_bind,h0]
  simp[Deferred.ofValue,hen,Oper.upon_enter,h1]
  refine hc.mono ?_
  rintro e w' ⟨rfl,hp⟩
  exact hK _ _ (h w' hp).1 (h w' hp).2
end
theorem ent_mayStand:∀ ag w,(callFunc 95 ag).run Tryz.prog w = .ok (.enter 95 ag) w:=enters_of Tryz.func95 (by kernel_rfl) rfl
theorem ent_symbol:∀ ag w,(callFunc 97 ag).run Tryz.prog w = .ok (.enter 97 ag) w:=enters_of Tryz.func97 (by kernel_rfl) rfl
theorem ent_ends:∀ ag w,(callFunc 99 ag).run Tryz.prog w = .ok (.enter 99 ag) w:=enters_of Tryz.func99 (by kernel_rfl) rfl
theorem takes_rule (E:List Nat) (B g ot:Nat) (t:Tk) (pc:Option Addr) (cc:Nat) (w:World) (hT:TkC w g ot t pc cc) (hlg:g<w.heap.size) (kn:t.name.size<=281474976710656) (hB:B<w.heap.size) (ng:g∉E) (nB:B∉E) (q gr fr:Nat) (bm br:Bool) (bp:Bool) (RR:World->World->Prop) (hq:t.op=q) (hq2:q<16) (hne:edO t.op=false) (k3v:w.cell? ⟨B,3,none⟩=some (.slice (some ⟨gr,0,none⟩) 16 16)) (hgr:gr<w.heap.size) (hgn:gr∉E) (hrc:w.cell? ⟨gr,q,none⟩=some (.func (.func fr) #[.pointer (some ⟨B,0,none⟩)] #[])) (hen:∀ ag w,(callFunc fr ag).run Tryz.prog w = .ok (.enter fr ag) w) (hMT:MT w)
  (cMay:∀ W,Below w.heap.size w W->Calls Tryz.prog 95 #[.pointer (some ⟨B,0,none⟩),.int .i64 (q:Int)] W fun r w'=>r = .returned (.bool bm)/\Below W.heap.size W w')
  (cPair:∀ W,Below w.heap.size w W->Calls Tryz.prog 98 #[.pointer (some ⟨B,0,none⟩),.pointer (some ⟨g,ot,none⟩)] W fun r w'=>r = .returned (.bool bp)/\Below W.heap.size W w')
  (cRule:bm=true->plainB t=true->symbolB t.name=true->bp=true->∀ W,Below w.heap.size w W->Calls Tryz.prog fr #[.pointer (some ⟨B,0,none⟩),.pointer (some ⟨g,ot,none⟩)] W fun r w'=>r = .returned (.bool br)/\RR W w') (hRR:∀ W w',RR W w'->Kb E W w') :
  Calls Tryz.prog 71 #[.pointer (some ⟨B,0,none⟩),.pointer (some ⟨g,ot,none⟩)] w fun r w'=>r = .returned (.bool (bm&&plainB t&&symbolB t.name&&bp&&br))/\Lft E w w' (bm&&plainB t&&symbolB t.name&&bp&&br) (∃ W,Below w.heap.size w W/\RR W w'):=by
 have t0v:w.cell? ⟨g,ot,none⟩=some (.int .i64 (q:Int)):=by rw[hT.c0,hq]
 have cMore:∀ W,Below w.heap.size w W->Calls Tryz.prog 96 #[.pointer (some ⟨g,ot,none⟩)] W fun r w'=>r = .returned (.bool (!plainB t))/\Below W.heap.size W w':=fun W hW=>hasMore_any t _ _ pc cc W (hT.below hlg hW) (Nat.lt_of_lt_of_le hlg hW.size) (hMT.below hMT.pos hW) (by omega)
 have cSym:=Symbol_any t.name (by omega)
 have cEnd:=fun W=>ends_any t.op W (by omega)
 rw[hne,hq] at cEnd
 have hq0:(0:Int)<=(q:Int):=by omega
 have hq1:(q:Int)<16:=by omega
 obtain⟨p,pB,pK,hN,t0,t1,k3,r0⟩:∃ p:World->Prop,(∀ W,p W->Kb E w W) /\
   (∀ W,Kb E w W->p W) /\
   Nonempty (CW p) /\
   (∀ θ:CW p,θ.w.cell? ⟨g,ot,none⟩=some (.int .i64 (q:Int))) /\
   (∀ θ:CW p,θ.w.cell? ⟨g,ot+1,none⟩=some (.string t.name)) /\
   (∀ θ:CW p,θ.w.cell? ⟨B,3,none⟩=some (.slice (some ⟨gr,0,none⟩) 16 16)) /\
   (∀ θ:CW p,θ.w.cell? ⟨gr,q,none⟩=some (.func (.func fr) #[.pointer (some ⟨B,0,none⟩)] #[])) :=
  ⟨Kb E w,
   fun _ h=>h,
   fun _ h=>h,
   ⟨⟨_,Kb.refl _ _⟩⟩,
   fun θ=>(θ.h.cell hlg ng).trans t0v,
   fun θ=>(θ.h.cell hlg ng).trans hT.c1,
   fun θ=>(θ.h.cell hB nB).trans k3v,
   fun θ=>(θ.h.cell hgr hgn).trans hrc⟩
 clear hT hlg ng nB t0v k3v hrc hgr hgn hMT hq hq2 hne kn hB
 obtain⟨q2,hq2⟩:∃ q,plainB t=q:=⟨_,rfl⟩
 obtain⟨q3,hq3⟩:∃ q,symbolB t.name=q:=⟨_,rfl⟩
 rw[hq2] at cMore cRule ⊢
 rw[hq3] at cSym cRule ⊢
 clear hq2 hq3
 rcases ch4 bm q2 q3 bp with e1|⟨e1,e2⟩|⟨e1,e2,e3⟩|⟨e1,e2,e3,e4⟩|⟨e1,e2,e3,e4⟩
 ·subst e1
  clear cRule
  go_enter Tryz.func71,Tryz.ntmps71
  go_wp2_with fail
  refine wp_region_lx p (by kernel_rfl) (by kernel_rfl) (fun _ _ d _ _ h=>by cases d<;>exact h) (pK _ (Kb.refl _ _).drew) ?_
  repeat (first|(refine lx_one rfl ?_;(first|go_big_quiet_skip|(go_big_quiet_want;go_big_quiet_op;go_big_quiet_on));refine wpQuiet_nil ?_)|(refine lx_call2 ent_mayStand (cMay w.drew (tdr1 (Below.refl _ _))) rfl rfl (by rfl) ?_;intro W1 hb1;have j1:Below w.heap.size w W1:=(tdr1 (Below.refl _ _)).trans hb1;refine⟨⟨⟨_,pK _ (Kb.of_below j1)⟩,rfl⟩,?_⟩;simp only[pts])|(refine lx_skip (by rfl) ?_;simp only[pts]))
  refine lx_done ?_
  go_wp2_with fail
  all_goals
   go_ret
   exact⟨rfl,Kb.of_below j1,fun e=>by simp at e⟩
 ·subst e1 e2
  clear cRule
  go_enter Tryz.func71,Tryz.ntmps71
  go_wp2_with fail
  refine wp_region_lx p (by kernel_rfl) (by kernel_rfl) (fun _ _ d _ _ h=>by cases d<;>exact h) (pK _ (Kb.refl _ _).drew) ?_
  repeat (first|(refine lx_one rfl ?_;(first|go_big_quiet_skip|(go_big_quiet_want;go_big_quiet_op;go_big_quiet_on));refine wpQuiet_nil ?_)|(refine lx_call2 ent_mayStand (cMay w.drew (tdr1 (Below.refl _ _))) rfl rfl (by rfl) ?_;intro W1 hb1;have j1:Below w.heap.size w W1:=(tdr1 (Below.refl _ _)).trans hb1;refine⟨⟨⟨_,pK _ (Kb.of_below j1)⟩,rfl⟩,?_⟩;simp only[pts])|(refine lx_call1 ent_hasMore (cMore W1 j1) rfl (by rfl) ?_;intro W2 hb2;have j2:Below w.heap.size w W2:=j1.trans (hb2.mono j1.size);refine⟨⟨⟨_,pK _ (Kb.of_below j2)⟩,rfl⟩,?_⟩;simp only[pts])|(refine lx_skip (by rfl) ?_;simp only[pts]))
  refine lx_done ?_
  go_wp2_with fail
  all_goals
   go_ret
   exact⟨rfl,Kb.of_below j2,fun e=>by simp at e⟩
 ·subst e1 e2 e3
  clear cRule
  go_enter Tryz.func71,Tryz.ntmps71
  go_wp2_with fail
  refine wp_region_lx p (by kernel_rfl) (by kernel_rfl) (fun _ _ d _ _ h=>by cases d<;>exact h) (pK _ (Kb.refl _ _).drew) ?_
  repeat (first|(refine lx_one rfl ?_;(first|go_big_quiet_skip|(go_big_quiet_want;go_big_quiet_op;go_big_quiet_on));refine wpQuiet_nil ?_)|(refine lx_call2 ent_mayStand (cMay w.drew (tdr1 (Below.refl _ _))) rfl rfl (by rfl) ?_;intro W1 hb1;have j1:Below w.heap.size w W1:=(tdr1 (Below.refl _ _)).trans hb1;refine⟨⟨⟨_,pK _ (Kb.of_below j1)⟩,rfl⟩,?_⟩;simp only[pts])|(refine lx_call1 ent_hasMore (cMore W1 j1) rfl (by rfl) ?_;intro W2 hb2;have j2:Below w.heap.size w W2:=j1.trans (hb2.mono j1.size);refine⟨⟨⟨_,pK _ (Kb.of_below j2)⟩,rfl⟩,?_⟩;simp only[pts])|(refine lx_call1 ent_symbol (cSym W2) rfl (by rfl) ?_;intro w' hw';obtain rfl:W2=w':=hw'.symm;refine⟨⟨⟨_,pK _ (Kb.of_below j2)⟩,rfl⟩,?_⟩;simp only[pts])|(refine lx_skip (by rfl) ?_;simp only[pts]))
  refine lx_done ?_
  go_wp2_with fail
  all_goals
   go_ret
   exact⟨rfl,Kb.of_below j2,fun e=>by simp at e⟩
 ·subst e1 e2 e3 e4
  clear cRule
  go_enter Tryz.func71,Tryz.ntmps71
  go_wp2_with fail
  refine wp_region_lx p (by kernel_rfl) (by kernel_rfl) (fun _ _ d _ _ h=>by cases d<;>exact h) (pK _ (Kb.refl _ _).drew) ?_
  repeat (first|(refine lx_one rfl ?_;(first|go_big_quiet_skip|(go_big_quiet_want;go_big_quiet_op;go_big_quiet_on));refine wpQuiet_nil ?_)|(refine lx_call2 ent_mayStand (cMay w.drew (tdr1 (Below.refl _ _))) rfl rfl (by rfl) ?_;intro W1 hb1;have j1:Below w.heap.size w W1:=(tdr1 (Below.refl _ _)).trans hb1;refine⟨⟨⟨_,pK _ (Kb.of_below j1)⟩,rfl⟩,?_⟩;simp only[pts])|(refine lx_call1 ent_hasMore (cMore W1 j1) rfl (by rfl) ?_;intro W2 hb2;have j2:Below w.heap.size w W2:=j1.trans (hb2.mono j1.size);refine⟨⟨⟨_,pK _ (Kb.of_below j2)⟩,rfl⟩,?_⟩;simp only[pts])|(refine lx_call1 ent_symbol (cSym W2) rfl (by rfl) ?_;intro w' hw';obtain rfl:W2=w':=hw'.symm;refine⟨⟨⟨_,pK _ (Kb.of_below j2)⟩,rfl⟩,?_⟩;simp only[pts])|(refine lx_call2 ent_isPaired (cPair W2 j2) rfl rfl (by rfl) ?_;intro W3 hb3;have j3:Below w.heap.size w W3:=j2.trans (hb3.mono j2.size);refine⟨⟨⟨_,pK _ (Kb.of_below j3)⟩,rfl⟩,?_⟩;simp only[pts])|(refine lx_skip (by rfl) ?_;simp only[pts]))
  refine lx_done ?_
  go_wp2_with fail
  all_goals
   go_ret
   exact⟨rfl,Kb.of_below j3,fun e=>by simp at e⟩
 ·subst e1 e2 e3 e4
  replace cRule:=cRule rfl rfl rfl rfl
  go_enter Tryz.func71,Tryz.ntmps71
  go_wp2_with fail
  refine wp_region_lx p (by kernel_rfl) (by kernel_rfl) (fun _ _ d _ _ h=>by cases d<;>exact h) (pK _ (Kb.refl _ _).drew) ?_
  repeat (first|(refine lx_one rfl ?_;(first|go_big_quiet_skip|(go_big_quiet_want;go_big_quiet_op;go_big_quiet_on));refine wpQuiet_nil ?_)|(refine lx_call2 ent_mayStand (cMay w.drew (tdr1 (Below.refl _ _))) rfl rfl (by rfl) ?_;intro W1 hb1;have j1:Below w.heap.size w W1:=(tdr1 (Below.refl _ _)).trans hb1;refine⟨⟨⟨_,pK _ (Kb.of_below j1)⟩,rfl⟩,?_⟩;simp only[pts])|(refine lx_call1 ent_hasMore (cMore W1 j1) rfl (by rfl) ?_;intro W2 hb2;have j2:Below w.heap.size w W2:=j1.trans (hb2.mono j1.size);refine⟨⟨⟨_,pK _ (Kb.of_below j2)⟩,rfl⟩,?_⟩;simp only[pts])|(refine lx_call1 ent_symbol (cSym W2) rfl (by rfl) ?_;intro w' hw';obtain rfl:W2=w':=hw'.symm;refine⟨⟨⟨_,pK _ (Kb.of_below j2)⟩,rfl⟩,?_⟩;simp only[pts])|(refine lx_call2 ent_isPaired (cPair W2 j2) rfl rfl (by rfl) ?_;intro W3 hb3;have j3:Below w.heap.size w W3:=j2.trans (hb3.mono j2.size);refine⟨⟨⟨_,pK _ (Kb.of_below j3)⟩,rfl⟩,?_⟩;simp only[pts])|(refine lx_call1 ent_ends (cEnd W3) rfl (by rfl) ?_;intro w' hw';obtain rfl:W3=w':=hw'.symm;refine⟨⟨⟨_,pK _ (Kb.of_below j3)⟩,rfl⟩,?_⟩;simp only[pts])|(refine lx_callv hen (cRule W3 j3) rfl rfl (by rfl) ?_;intro W4 hR;refine⟨⟨⟨_,pK _ ((Kb.of_below j3).trans (hRR _ _ hR))⟩,rfl⟩,?_⟩;simp only[pts])|(refine lx_skip (by rfl) ?_;simp only[pts]))
  refine lx_done ?_
  go_wp2_with fail
  all_goals
   go_ret
   exact⟨rb (by simp),(Kb.of_below j3).trans (hRR _ _ hR),fun _=>⟨W3,j3,hR⟩⟩
theorem takes_end (B g ot:Nat) (t:Tk) (pc:Option Addr) (cc:Nat) (w:World) (hT:TkC w g ot t pc cc) (hlg:g<w.heap.size) (kn:t.name.size<=281474976710656) (q:Nat) (bm bp:Bool) (hq:t.op=q) (hq2:q<16) (hne:edO t.op=true) (hMT:MT w)
  (cMay:∀ W,Below w.heap.size w W->Calls Tryz.prog 95 #[.pointer (some ⟨B,0,none⟩),.int .i64 (q:Int)] W fun r w'=>r = .returned (.bool bm)/\Below W.heap.size W w')
  (cPair:∀ W,Below w.heap.size w W->Calls Tryz.prog 98 #[.pointer (some ⟨B,0,none⟩),.pointer (some ⟨g,ot,none⟩)] W fun r w'=>r = .returned (.bool bp)/\Below W.heap.size W w') :
  Calls Tryz.prog 71 #[.pointer (some ⟨B,0,none⟩),.pointer (some ⟨g,ot,none⟩)] w fun r w'=>r = .returned (.bool (bm&&plainB t&&symbolB t.name&&bp))/\Below w.heap.size w w':=by
 have t0v:w.cell? ⟨g,ot,none⟩=some (.int .i64 (q:Int)):=by rw[hT.c0,hq]
 have cMore:∀ W,Below w.heap.size w W->Calls Tryz.prog 96 #[.pointer (some ⟨g,ot,none⟩)] W fun r w'=>r = .returned (.bool (!plainB t))/\Below W.heap.size W w':=fun W hW=>hasMore_any t _ _ pc cc W (hT.below hlg hW) (Nat.lt_of_lt_of_le hlg hW.size) (hMT.below hMT.pos hW) (by omega)
 have cSym:=Symbol_any t.name (by omega)
 have cEnd:=fun W=>ends_any t.op W (by omega)
 rw[hne,hq] at cEnd
 obtain⟨p,pB,pK,hN,t0,t1⟩:∃ p:World->Prop,(∀ W,p W->Kb [] w W) /\
   (∀ W,Kb [] w W->p W) /\
   Nonempty (CW p) /\
   (∀ θ:CW p,θ.w.cell? ⟨g,ot,none⟩=some (.int .i64 (q:Int))) /\
   (∀ θ:CW p,θ.w.cell? ⟨g,ot+1,none⟩=some (.string t.name)) :=
  ⟨Kb [] w,
   fun _ h=>h,
   fun _ h=>h,
   ⟨⟨_,Kb.refl _ _⟩⟩,
   fun θ=>(θ.h.cell hlg List.not_mem_nil).trans t0v,
   fun θ=>(θ.h.cell hlg List.not_mem_nil).trans hT.c1⟩
 clear hT hlg t0v hMT hq hq2 hne kn
 obtain⟨q2,hq2⟩:∃ q,plainB t=q:=⟨_,rfl⟩
 obtain⟨q3,hq3⟩:∃ q,symbolB t.name=q:=⟨_,rfl⟩
 rw[hq2] at cMore ⊢
 rw[hq3] at cSym ⊢
 clear hq2 hq3
 rcases ch4 bm q2 q3 bp with e1|⟨e1,e2⟩|⟨e1,e2,e3⟩|⟨e1,e2,e3,e4⟩|⟨e1,e2,e3,e4⟩
 ·subst e1
  go_enter Tryz.func71,Tryz.ntmps71
  go_wp2_with fail
  refine wp_region_lx p (by kernel_rfl) (by kernel_rfl) (fun _ _ d _ _ h=>by cases d<;>exact h) (pK _ (Kb.refl _ _).drew) ?_
  repeat (first|(refine lx_one rfl ?_;(first|go_big_quiet_skip|(go_big_quiet_want;go_big_quiet_op;go_big_quiet_on));refine wpQuiet_nil ?_)|(refine lx_call2 ent_mayStand (cMay w.drew (tdr1 (Below.refl _ _))) rfl rfl (by rfl) ?_;intro W1 hb1;have j1:Below w.heap.size w W1:=(tdr1 (Below.refl _ _)).trans hb1;refine⟨⟨⟨_,pK _ (Kb.of_below j1)⟩,rfl⟩,?_⟩;simp only[pts])|(refine lx_skip (by rfl) ?_;simp only[pts]))
  refine lx_done ?_
  go_wp2_with fail
  all_goals
   go_ret
   exact⟨rfl,j1⟩
 ·subst e1 e2
  go_enter Tryz.func71,Tryz.ntmps71
  go_wp2_with fail
  refine wp_region_lx p (by kernel_rfl) (by kernel_rfl) (fun _ _ d _ _ h=>by cases d<;>exact h) (pK _ (Kb.refl _ _).drew) ?_
  repeat (first|(refine lx_one rfl ?_;(first|go_big_quiet_skip|(go_big_quiet_want;go_big_quiet_op;go_big_quiet_on));refine wpQuiet_nil ?_)|(refine lx_call2 ent_mayStand (cMay w.drew (tdr1 (Below.refl _ _))) rfl rfl (by rfl) ?_;intro W1 hb1;have j1:Below w.heap.size w W1:=(tdr1 (Below.refl _ _)).trans hb1;refine⟨⟨⟨_,pK _ (Kb.of_below j1)⟩,rfl⟩,?_⟩;simp only[pts])|(refine lx_call1 ent_hasMore (cMore W1 j1) rfl (by rfl) ?_;intro W2 hb2;have j2:Below w.heap.size w W2:=j1.trans (hb2.mono j1.size);refine⟨⟨⟨_,pK _ (Kb.of_below j2)⟩,rfl⟩,?_⟩;simp only[pts])|(refine lx_skip (by rfl) ?_;simp only[pts]))
  refine lx_done ?_
  go_wp2_with fail
  all_goals
   go_ret
   exact⟨rfl,j2⟩
 ·subst e1 e2 e3
  go_enter Tryz.func71,Tryz.ntmps71
  go_wp2_with fail
  refine wp_region_lx p (by kernel_rfl) (by kernel_rfl) (fun _ _ d _ _ h=>by cases d<;>exact h) (pK _ (Kb.refl _ _).drew) ?_
  repeat (first|(refine lx_one rfl ?_;(first|go_big_quiet_skip|(go_big_quiet_want;go_big_quiet_op;go_big_quiet_on));refine wpQuiet_nil ?_)|(refine lx_call2 ent_mayStand (cMay w.drew (tdr1 (Below.refl _ _))) rfl rfl (by rfl) ?_;intro W1 hb1;have j1:Below w.heap.size w W1:=(tdr1 (Below.refl _ _)).trans hb1;refine⟨⟨⟨_,pK _ (Kb.of_below j1)⟩,rfl⟩,?_⟩;simp only[pts])|(refine lx_call1 ent_hasMore (cMore W1 j1) rfl (by rfl) ?_;intro W2 hb2;have j2:Below w.heap.size w W2:=j1.trans (hb2.mono j1.size);refine⟨⟨⟨_,pK _ (Kb.of_below j2)⟩,rfl⟩,?_⟩;simp only[pts])|(refine lx_call1 ent_symbol (cSym W2) rfl (by rfl) ?_;intro w' hw';obtain rfl:W2=w':=hw'.symm;refine⟨⟨⟨_,pK _ (Kb.of_below j2)⟩,rfl⟩,?_⟩;simp only[pts])|(refine lx_skip (by rfl) ?_;simp only[pts]))
  refine lx_done ?_
  go_wp2_with fail
  all_goals
   go_ret
   exact⟨rfl,j2⟩
 ·subst e1 e2 e3 e4
  go_enter Tryz.func71,Tryz.ntmps71
  go_wp2_with fail
  refine wp_region_lx p (by kernel_rfl) (by kernel_rfl) (fun _ _ d _ _ h=>by cases d<;>exact h) (pK _ (Kb.refl _ _).drew) ?_
  repeat (first|(refine lx_one rfl ?_;(first|go_big_quiet_skip|(go_big_quiet_want;go_big_quiet_op;go_big_quiet_on));refine wpQuiet_nil ?_)|(refine lx_call2 ent_mayStand (cMay w.drew (tdr1 (Below.refl _ _))) rfl rfl (by rfl) ?_;intro W1 hb1;have j1:Below w.heap.size w W1:=(tdr1 (Below.refl _ _)).trans hb1;refine⟨⟨⟨_,pK _ (Kb.of_below j1)⟩,rfl⟩,?_⟩;simp only[pts])|(refine lx_call1 ent_hasMore (cMore W1 j1) rfl (by rfl) ?_;intro W2 hb2;have j2:Below w.heap.size w W2:=j1.trans (hb2.mono j1.size);refine⟨⟨⟨_,pK _ (Kb.of_below j2)⟩,rfl⟩,?_⟩;simp only[pts])|(refine lx_call1 ent_symbol (cSym W2) rfl (by rfl) ?_;intro w' hw';obtain rfl:W2=w':=hw'.symm;refine⟨⟨⟨_,pK _ (Kb.of_below j2)⟩,rfl⟩,?_⟩;simp only[pts])|(refine lx_call2 ent_isPaired (cPair W2 j2) rfl rfl (by rfl) ?_;intro W3 hb3;have j3:Below w.heap.size w W3:=j2.trans (hb3.mono j2.size);refine⟨⟨⟨_,pK _ (Kb.of_below j3)⟩,rfl⟩,?_⟩;simp only[pts])|(refine lx_skip (by rfl) ?_;simp only[pts]))
  refine lx_done ?_
  go_wp2_with fail
  all_goals
   go_ret
   exact⟨rfl,j3⟩
 ·subst e1 e2 e3 e4
  go_enter Tryz.func71,Tryz.ntmps71
  go_wp2_with fail
  refine wp_region_lx p (by kernel_rfl) (by kernel_rfl) (fun _ _ d _ _ h=>by cases d<;>exact h) (pK _ (Kb.refl _ _).drew) ?_
  repeat (first|(refine lx_one rfl ?_;(first|go_big_quiet_skip|(go_big_quiet_want;go_big_quiet_op;go_big_quiet_on));refine wpQuiet_nil ?_)|(refine lx_call2 ent_mayStand (cMay w.drew (tdr1 (Below.refl _ _))) rfl rfl (by rfl) ?_;intro W1 hb1;have j1:Below w.heap.size w W1:=(tdr1 (Below.refl _ _)).trans hb1;refine⟨⟨⟨_,pK _ (Kb.of_below j1)⟩,rfl⟩,?_⟩;simp only[pts])|(refine lx_call1 ent_hasMore (cMore W1 j1) rfl (by rfl) ?_;intro W2 hb2;have j2:Below w.heap.size w W2:=j1.trans (hb2.mono j1.size);refine⟨⟨⟨_,pK _ (Kb.of_below j2)⟩,rfl⟩,?_⟩;simp only[pts])|(refine lx_call1 ent_symbol (cSym W2) rfl (by rfl) ?_;intro w' hw';obtain rfl:W2=w':=hw'.symm;refine⟨⟨⟨_,pK _ (Kb.of_below j2)⟩,rfl⟩,?_⟩;simp only[pts])|(refine lx_call2 ent_isPaired (cPair W2 j2) rfl rfl (by rfl) ?_;intro W3 hb3;have j3:Below w.heap.size w W3:=j2.trans (hb3.mono j2.size);refine⟨⟨⟨_,pK _ (Kb.of_below j3)⟩,rfl⟩,?_⟩;simp only[pts])|(refine lx_call1 ent_ends (cEnd W3) rfl (by rfl) ?_;intro w' hw';obtain rfl:W3=w':=hw'.symm;refine⟨⟨⟨_,pK _ (Kb.of_below j3)⟩,rfl⟩,?_⟩;simp only[pts])|(refine lx_skip (by rfl) ?_;simp only[pts]))
  refine lx_done ?_
  go_wp2_with fail
  all_goals
   go_ret
   exact⟨rfl,j3⟩
end Go.Proofs.YtcgimchhcaankaaGreatDoor
