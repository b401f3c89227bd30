import Derived.Test.YtjnafpefolgcoaaGreatDoorK04
import Derived.Deep.AppendLies
import Derived.Deep.AppendSrc
namespace Go.Proofs.YtjnafpefolgcoaaGreatDoor
set_option maxRecDepth 1000000
set_option maxHeartbeats 16000000
open Go.ChangeShapes Go.WideShapes Go.ChangeAt Go.RowKit Go.Shelf
abbrev spV (s:Sp):Value:=.agg #[.int .i64 s.p,.int .i64 s.o]
theorem rb {a b:Bool} (h:a=b):Ending.returned (.bool a) = .returned (.bool b):=by rw[h]
theorem isBetween_any (n a b:Int) (w:World):Calls Tryz.prog 61 #[.int .i64 n,.int .i64 a,.int .i64 b] w fun r w'=>r = .returned (.bool (bet n a b))/\w'=w:=by
 unfold bet
 by_cases h:a<=n
 ·have d:decide (a<=n)=true:=decide_eq_true h
  go_enter Tryz.func61,Tryz.ntmps61
  go_wp2_with fail
  go_ret
  exact⟨rb (by simp[h]),rfl⟩
 ·have d:decide (a<=n)=false:=decide_eq_false h
  go_enter Tryz.func61,Tryz.ntmps61
  go_wp2_with fail
  go_ret
  exact⟨rb (by simp),rfl⟩
theorem isNumber_any (p:Int) (w:World):Calls Tryz.prog 104 #[.int .i64 p] w fun r w'=>r = .returned (.bool (numB p))/\w'=w:=by
 unfold numB
 by_cases h5:p=5
 ·subst h5
  go_enter Tryz.func104,Tryz.ntmps104
  go_wp2_with fail
  go_ret
  exact⟨rfl,rfl⟩
 have d5:(p==5)=false:=beq_eq_false_iff_ne.2 h5
 by_cases h6:p=6
 ·subst h6
  go_enter Tryz.func104,Tryz.ntmps104
  go_wp2_with fail
  go_ret
  exact⟨rfl,rfl⟩
 have d6:(p==6)=false:=beq_eq_false_iff_ne.2 h6
 go_enter Tryz.func104,Tryz.ntmps104
 go_wp2_with fail
 go_ret
 exact⟨rb (by rw[Bool.eq_iff_iff];simp[h5,h6]),rfl⟩
theorem size_any (p:Int) (w:World) (h:KT w):Calls Tryz.prog 105 #[.int .i64 p] w fun e w'=>e = .returned (.int .i64 (sz p))/\Below w.heap.size w w':=by
 have hf:=field0
 go_enter Tryz.func105,Tryz.ntmps105
 go_wp2_with (go_at_call 127;refine(kindOf_any _ _ h).mono ?_;rintro e w' ⟨rfl,hbl⟩)
 go_ret
 exact⟨rfl,hbl⟩
theorem max_any (p:Int) (w:World) (h:KT w):Calls Tryz.prog 99 #[.int .i64 p] w fun e w'=>e = .returned (.int .u64 (mx p))/\Below w.heap.size w w':=by
 have hf:=field4
 go_enter Tryz.func99,Tryz.ntmps99
 go_wp2_with (go_at_call 127;refine(kindOf_any _ _ h).mono ?_;rintro e w' ⟨rfl,hbl⟩)
 go_ret
 exact⟨rfl,hbl⟩
theorem KT.up {w w':World} (h:KT w) (hb:Below w.heap.size w w'):KT w':=h.below h.pos hb
theorem KT.al {w:World} (h:KT w) (o:Obj):KT (w.alloc o):=h.up (bel1 _ _)
theorem sz_b (p:Int):0<=sz p/\sz p<=8:=by
 rcases prim_cases p with h|rfl|rfl|rfl|rfl|rfl|rfl|rfl|rfl|rfl|rfl|rfl
 ·unfold sz;rw[kRow_out p h];decide
 all_goals decide
def i64ok (x:Int):Prop:=-9223372036854775808<=x/\x<=9223372036854775807
def u64ok (x:Int):Prop:=0<=x/\x<=18446744073709551615
theorem al_le (w:World) (o:Obj):w.heap.size<=(w.alloc o).heap.size:=by rw[World.size_alloc];omega
theorem heap_al (w:World) (o:Obj):(w.alloc o).heap[w.heap.size]?=some o:=by show (w.heap.push o)[w.heap.size]?=_;rw[Array.getElem?_push,if_pos rfl]
theorem cell_at {w:World} {g:Nat} {cs:Array Value} {ty:TypeId} (h:w.heap[g]?=some (.cells cs ty)) (o:Nat):w.cell? ⟨g,o,none⟩=cs[o]?:=by simp only[World.cell?,h];rfl
theorem drw {B:Nat} {a w:World} (h:Below B a w):Below B a w.drew:=⟨h.os,h.tape,h.output,h.size,h.block⟩
theorem own_cell {w W:World} {o:Obj} {cs:Array Value} {ty:TypeId} (e:o = .cells cs ty) (h:Below (w.heap.size+1) (w.alloc o) W) (k:Nat):W.cell? ⟨w.heap.size,k,none⟩=cs[k]?:=by
 subst e
 rw[h.cell (p:=⟨w.heap.size,k,none⟩) (Nat.lt_succ_self _)]
 exact cell_at (heap_al _ _) k
theorem bel2 {w W:World} {o:Obj} (h:Below (w.heap.size+1) (w.alloc o) W):Below w.heap.size w W:=(bel1 w o).trans (h.mono (Nat.le_succ _))
theorem bel0 (w:World) (o:Obj):Below (w.heap.size+1) (w.alloc o) (w.alloc o):=Below.refl _ _
theorem bel_call {B:Nat} {a W w':World} (h:Below B a W) (hB:B<=a.heap.size) (hb:Below W.heap.size W w'):Below B a w':=h.trans (hb.mono (Nat.le_trans hB h.size))
theorem callB {B:Nat} {a:World} {f:FuncId} {ag:Array Value} {v:Value} (hB:B<=a.heap.size) (h:∀ W,Below B a W->Calls Tryz.prog f ag W fun e w'=>e = .returned v/\Below W.heap.size W w'):∀ W,Below B a W->Calls Tryz.prog f ag W fun e w'=>e = .returned v/\Below B a w' :=
 fun W hW=>(h W hW).mono fun _ _ ⟨h1,h2⟩=>⟨h1,bel_call hW hB h2⟩
theorem callS {p:World->Prop} {f:FuncId} {ag:Array Value} {v:Value} (h:∀ W,Calls Tryz.prog f ag W fun e w'=>e = .returned v/\w'=W):∀ W,p W->Calls Tryz.prog f ag W fun e w'=>e = .returned v/\p w' :=
 fun W hW=>(h W).mono fun _ _ ⟨h1,h2⟩=>⟨h1,h2▸hW⟩
theorem ent_isNumber:∀ ag w,(callFunc 104 ag).run Tryz.prog w = .ok (.enter 104 ag) w:=enters_of Tryz.func104 (by kernel_rfl) rfl
theorem ent_size:∀ ag w,(callFunc 105 ag).run Tryz.prog w = .ok (.enter 105 ag) w:=enters_of Tryz.func105 (by kernel_rfl) rfl
theorem ent_isBetween:∀ ag w,(callFunc 61 ag).run Tryz.prog w = .ok (.enter 61 ag) w:=enters_of Tryz.func61 (by kernel_rfl) rfl
theorem ktb {w W:World} {o:Obj} (h:KT w) (hb:Below (w.heap.size+1) (w.alloc o) W):KT W:=h.up (bel2 hb)
theorem szal (w:World) (o:Obj):w.heap.size+1<=(w.alloc o).heap.size:=by rw[World.size_alloc];omega
theorem liesIn_any (s:Sp) (n:Int) (w:World) (h:KT w) (hn:0<=n/\n<=9223372036854775807):Calls Tryz.prog 97 #[spV s,.int .i64 n] w fun r w'=>r = .returned (.bool (lieB s n))/\Below w.heap.size w w':=by
 obtain⟨p,p0,pB,hN,f0,f1,cN,cS⟩:∃ p:World->Prop,p (w.alloc (.cells #[.int .i64 s.p,.int .i64 s.o] 25)).drew/\(∀ W,p W->Below w.heap.size w W)/\Nonempty (CW p)/\(∀ θ:CW p,θ.w.cell? ⟨w.heap.size,0,none⟩=some (.int .i64 s.p))/\(∀ θ:CW p,θ.w.cell? ⟨w.heap.size,1,none⟩=some (.int .i64 s.o)) /\
   (∀ W,p W->Calls Tryz.prog 104 #[.int .i64 s.p] W fun e w'=>e = .returned (.bool (numB s.p))/\p w')/\(∀ W,p W->Calls Tryz.prog 105 #[.int .i64 s.p] W fun e w'=>e = .returned (.int .i64 (sz s.p))/\p w') :=
  ⟨Below (w.heap.size+1) (w.alloc (.cells #[.int .i64 s.p,.int .i64 s.o] 25)),drw (bel0 _ _),fun _ h=>bel2 h,⟨⟨_,bel0 _ _⟩⟩,fun θ=>own_cell rfl θ.h 0,fun θ=>own_cell rfl θ.h 1,callS (isNumber_any s.p),callB (szal _ _) (fun W hW=>size_any s.p W (ktb h hW))⟩
 have hz:=sz_b s.p
 have hw:IntKind.i64.wrap (n-sz s.p)=n-sz s.p:=by rw[IntKind.wrap_i64];omega
 unfold lieB
 rcases ch2 (numB s.p) (decide (0<=s.o)) with k1|⟨k1,k2⟩|⟨k1,k2⟩
 all_goals
  rw[k1] at cN ⊢
  go_enter Tryz.func97,Tryz.ntmps97
  go_wp2_with fail
  refine wp_region_lp p (by kernel_rfl) (by kernel_rfl) (fun _ _ d _ _ h=>by cases d<;>exact h) p0 fun W hp=>?_
  repeat (first|(refine lx_one rfl ?_;(first|go_big_quiet_skip|(go_big_quiet_want;go_big_quiet_op;go_big_quiet_on));refine wpQuiet_nil ?_)|(refine lx_p1 ent_isNumber cN hp rfl (by rfl) ?_;intro W hp;simp only[pts])|(refine lx_p1 ent_size cS hp rfl (by rfl) ?_;intro W hp;simp only[pts])|(refine lx_skip (by rfl) ?_;simp only[pts]))
  refine lx_done ?_
  go_wp2_with fail
  go_ret
  exact⟨rb (by simp_all<;>omega),pB _ hp⟩
theorem meet_any (s t:Sp) (w:World) (h:KT w) (hs:0<=s.o/\s.o<=9223372036854775700) (ht:0<=t.o/\t.o<=9223372036854775700):Calls Tryz.prog 98 #[spV s,spV t] w fun r w'=>r = .returned (.bool (!aptB s t))/\Below w.heap.size w w':=by
 have hz:=sz_b s.p
 have hy:=sz_b t.p
 obtain⟨p,p0,pB,hN,f0,f1,f2,f3,cS,cT⟩:∃ p:World->Prop,p ((w.alloc (.cells #[.int .i64 s.p,.int .i64 s.o] 25)).alloc (.cells #[.int .i64 t.p,.int .i64 t.o] 25)).drew/\(∀ W,p W->Below w.heap.size w W)/\Nonempty (CW p)/\(∀ θ:CW p,θ.w.cell? ⟨w.heap.size,0,none⟩=some (.int .i64 s.p))/\(∀ θ:CW p,θ.w.cell? ⟨w.heap.size,1,none⟩=some (.int .i64 s.o))/\(∀ θ:CW p,θ.w.cell? ⟨w.heap.size+1,0,none⟩=some (.int .i64 t.p))/\(∀ θ:CW p,θ.w.cell? ⟨w.heap.size+1,1,none⟩=some (.int .i64 t.o)) /\
   (∀ W,p W->Calls Tryz.prog 105 #[.int .i64 s.p] W fun e w'=>e = .returned (.int .i64 (sz s.p))/\p w')/\(∀ W,p W->Calls Tryz.prog 105 #[.int .i64 t.p] W fun e w'=>e = .returned (.int .i64 (sz t.p))/\p w'):=by
  have q1:∀ W,Below (w.heap.size+2) ((w.alloc (.cells #[.int .i64 s.p,.int .i64 s.o] 25)).alloc (.cells #[.int .i64 t.p,.int .i64 t.o] 25)) W->Below (w.heap.size+1) (w.alloc (.cells #[.int .i64 s.p,.int .i64 s.o] 25)) W:=fun W h=>by
   have:=(bel1 (w.alloc (.cells #[.int .i64 s.p,.int .i64 s.o] 25)) (.cells #[.int .i64 t.p,.int .i64 t.o] 25)).trans (h.mono (by rw[World.size_alloc];omega))
   rwa [World.size_alloc] at this
  have q2:∀ W,Below (w.heap.size+2) ((w.alloc (.cells #[.int .i64 s.p,.int .i64 s.o] 25)).alloc (.cells #[.int .i64 t.p,.int .i64 t.o] 25)) W->∀ k,W.cell? ⟨w.heap.size+1,k,none⟩=(#[.int .i64 t.p,.int .i64 t.o]:Array Value)[k]?:=fun W h k=>by
   have:=own_cell (w:=w.alloc (.cells #[.int .i64 s.p,.int .i64 s.o] 25)) (o:=(.cells #[.int .i64 t.p,.int .i64 t.o] 25)) rfl (W:=W) (by rw[World.size_alloc];exact h) k
   rwa [World.size_alloc] at this
  exact⟨Below (w.heap.size+2) ((w.alloc (.cells #[.int .i64 s.p,.int .i64 s.o] 25)).alloc (.cells #[.int .i64 t.p,.int .i64 t.o] 25)),drw (Below.refl _ _),fun _ h=>bel2 (q1 _ h),⟨⟨_,Below.refl _ _⟩⟩,fun θ=>own_cell rfl (q1 _ θ.h) 0,fun θ=>own_cell rfl (q1 _ θ.h) 1,fun θ=>q2 _ θ.h 0,fun θ=>q2 _ θ.h 1,
   callB (by rw[World.size_alloc,World.size_alloc];omega) (fun W hW=>size_any s.p W (ktb h (q1 _ hW))),callB (by rw[World.size_alloc,World.size_alloc];omega) (fun W hW=>size_any t.p W (ktb h (q1 _ hW)))⟩
 have hw1:IntKind.i64.wrap (t.o+sz t.p)=t.o+sz t.p:=by rw[IntKind.wrap_i64];omega
 have hw2:IntKind.i64.wrap (s.o+sz s.p)=s.o+sz s.p:=by rw[IntKind.wrap_i64];omega
 unfold aptB
 rcases Bool.eq_false_or_eq_true (decide (s.o<t.o+sz t.p)) with k1|k1
 all_goals
  go_enter Tryz.func98,Tryz.ntmps98
  go_wp2_with fail
  refine wp_region_lp p (by kernel_rfl) (by kernel_rfl) (fun _ _ d _ _ h=>by cases d<;>exact h) p0 fun W hp=>?_
  repeat (first|(refine lx_one rfl ?_;(first|go_big_quiet_skip|(go_big_quiet_want;go_big_quiet_op;go_big_quiet_on));refine wpQuiet_nil ?_)|(refine lx_p1 ent_size cS hp rfl (by rfl) ?_;intro W hp;simp only[pts])|(refine lx_p1 ent_size cT hp rfl (by rfl) ?_;intro W hp;simp only[pts])|(refine lx_skip (by rfl) ?_;simp only[pts]))
  refine lx_done ?_
  go_wp2_with fail
  go_ret
  exact⟨rb (by
   simp only[decide_eq_true_eq,decide_eq_false_iff_not] at k1
   rw[Bool.eq_iff_iff]
   simp
   omega),pB _ hp⟩
theorem canTell_any (s:Sp) (n:Int) (w:World) (h:KT w) (hn:0<=n/\n<=9223372036854775807):Calls Tryz.prog 63 #[spV s,.int .i64 n] w fun r w'=>r = .returned (.bool (telB s n))/\Below w.heap.size w w':=by
 have hw:IntKind.u64.wrap n=n:=by rw[IntKind.wrap_u64];omega
 unfold telB
 go_enter Tryz.func63,Tryz.ntmps63
 go_wp2_with (go_at_call 99;refine(max_any _ _ (h.al _)).mono ?_;rintro _ w1 ⟨rfl,hb⟩)
 go_ret
 exact⟨rb (by simp[hn.1]),(bel1 _ _).trans (hb.mono (al_le _ _))⟩
theorem op_cases (op:Int):(op<0\/15<op)\/op=0\/op=1\/op=2\/op=3\/op=4\/op=5\/op=6\/op=7\/op=8\/op=9\/op=10\/op=11\/op=12\/op=13\/op=14\/op=15:=by omega
theorem endOf_any (op:Int) (w:World) (h:-100<=op/\op<=100):Calls Tryz.prog 112 #[.int .i64 op] w fun r w'=>r = .returned (.int .i64 (op+1))/\w'=w:=by
 have hw:IntKind.i64.wrap (op+1)=op+1:=by rw[IntKind.wrap_i64];omega
 go_enter Tryz.func112,Tryz.ntmps112
 go_wp2_with fail
 go_ret
 exact⟨rfl,rfl⟩
theorem begins_any (op:Int) (w:World) (h:0<=op/\op<=15):Calls Tryz.prog 52 #[.int .i64 op] w fun r w'=>r = .returned (.bool (bgO op))/\w'=w:=by
 rcases op_cases op with h' | rfl|rfl|rfl|rfl|rfl|rfl|rfl|rfl|rfl|rfl|rfl|rfl|rfl|rfl|rfl|rfl
 ·omega
 all_goals
  go_enter Tryz.func52,Tryz.ntmps52
  go_wp2_with fail
  go_ret
  exact⟨rfl,rfl⟩
theorem ends_any (op:Int) (w:World) (h:0<=op/\op<=15):Calls Tryz.prog 48 #[.int .i64 op] w fun r w'=>r = .returned (.bool (edO op))/\w'=w:=by
 rcases op_cases op with h' | rfl|rfl|rfl|rfl|rfl|rfl|rfl|rfl|rfl|rfl|rfl|rfl|rfl|rfl|rfl|rfl
 ·omega
 all_goals
  go_enter Tryz.func48,Tryz.ntmps48
  go_wp2_with fail
  go_ret
  exact⟨rfl,rfl⟩
theorem beqN {a b:Int} (h:a≠b):(a==b)=false:=beq_eq_false_iff_ne.2 h
theorem beqD (a b:Int):(a==b)=decide (a=b):=by rw[Bool.eq_iff_iff];simp
theorem isPart_any (op:Int) (w:World):Calls Tryz.prog 113 #[.int .i64 op] w fun r w'=>r = .returned (.bool (ptO op))/\w'=w:=by
 unfold ptO
 by_cases h2:op=2
 ·subst h2
  go_enter Tryz.func113,Tryz.ntmps113
  go_wp2_with fail
  go_ret
  exact⟨rfl,rfl⟩
 have d2:=beqN h2
 by_cases h4:op=4
 ·subst h4
  go_enter Tryz.func113,Tryz.ntmps113
  go_wp2_with fail
  go_ret
  exact⟨rfl,rfl⟩
 have d4:=beqN h4
 go_enter Tryz.func113,Tryz.ntmps113
 go_wp2_with fail
 go_ret
 exact⟨rb (by rw[Bool.eq_iff_iff];simp[h2,h4]),rfl⟩
theorem isType_any (op:Int) (w:World):Calls Tryz.prog 114 #[.int .i64 op] w fun r w'=>r = .returned (.bool (tyO op))/\w'=w:=by
 unfold tyO
 by_cases h14:op=14
 ·subst h14
  go_enter Tryz.func114,Tryz.ntmps114
  go_wp2_with fail
  go_ret
  exact⟨rfl,rfl⟩
 have d14:=beqN h14
 by_cases h10:op=10
 ·subst h10
  go_enter Tryz.func114,Tryz.ntmps114
  go_wp2_with fail
  go_ret
  exact⟨rfl,rfl⟩
 have d10:=beqN h10
 by_cases h12:op=12
 ·subst h12
  go_enter Tryz.func114,Tryz.ntmps114
  go_wp2_with fail
  go_ret
  exact⟨rfl,rfl⟩
 have d12:=beqN h12
 go_enter Tryz.func114,Tryz.ntmps114
 go_wp2_with fail
 go_ret
 exact⟨rb (by rw[Bool.eq_iff_iff];simp[h14,h10,h12]),rfl⟩
theorem pick_map (l:List Oper):∀ sc:List Nat,sc.all (fun i=>decide (i<l.length))=true->sc.map (fun i=>l.toArray[i]?)=(sc.filterMap fun i=>l[i]?).map some
 | [],_=>rfl
 | i::r,h=>by
  rw[List.all_cons,Bool.and_eq_true,decide_eq_true_eq] at h
  rw[List.map_cons,List.filterMap_cons,List.getElem?_eq_getElem h.1,pick_map l r h.2]
  simp[h.1]
theorem wp_region_pp {P:Program} {Q:Exit->Act->World->Prop} {id:Nat} {a:Act} {w:World} {l:List Oper} (p:World->Prop) (sc:List Nat) (hm:P.follows .mixedOrders=true) (hv:(Region.noSelect l.toArray&&schB .any l.toArray sc (Array.replicate l.length false)&&(sc.length==l.length)&&sc.all (fun i=>decide (i<l.length)))=true)
  (hQ:∀ c (a:Act) d v w,Q (.panic c) (a.put d v) w->Q (.panic c) a w) (hp:p w.drew) (h:Lx P l.toArray (fun W=>∃ θ:CW p,W=θ.w) Q (sc.filterMap fun i=>l[i]?) a w.drew):(Code.region id l.toArray true).wp P Q a w:=by
 rw[Bool.and_eq_true] at hv
 exact wp_region_px p sc _ (pick_map l sc hv.2) hm hv.1 hQ hp h
section
variable {P:Program} {md:Region.Mode} {ops:Array Oper} {Q:Exit->Act->World->Prop}
variable {d:Option Tmp} {op:Op} {ty:TypeId} {ps:String} {af:Array Edge} {gd:Option (Nat×Bool)} {r:List Oper} {a:Act} {w:World} {C:World->Prop}
end
theorem drop_at {α:Type} {l:List α} {j:Nat} {a:α} (h:l[j]?=some a):l.drop j=a::l.drop (j+1):=by
 obtain⟨h1,h2⟩:=List.getElem?_eq_some_iff.1 h
 rw[List.drop_eq_getElem_cons h1,h2]
theorem take_at {α:Type} {l:List α} {j:Nat} {a:α} (h:l[j]?=some a):l.take (j+1)=l.take j++[a]:=by
 rw[List.take_add_one,h];rfl
def spOk (n:Int):List Sp->List Sp->Bool
 | _,[]=>true
 | pre,s::r=>lieB s n&&pre.all (aptB s)&&spOk n (pre++[s]) r
structure SpRow (w:World) (g o:Nat) (l:List Sp):Prop where
 c:∀ (i:Nat) (s:Sp),l[i]?=some s->w.cell? ⟨g,o+i*2,none⟩=some (.int .i64 s.p)/\w.cell? ⟨g,o+i*2+1,none⟩=some (.int .i64 s.o)
theorem SpRow.below {w w':World} {g o B:Nat} {l:List Sp} (h:SpRow w g o l) (hg:g<B) (hb:Below B w w'):SpRow w' g o l :=
 ⟨fun i s hs=>⟨(hb.cell (p:=⟨g,o+i*2,none⟩) hg).trans (h.c i s hs).1,(hb.cell (p:=⟨g,o+i*2+1,none⟩) hg).trans (h.c i s hs).2⟩⟩
theorem areSpots_any (l:List Sp) (n:Int) (g o cp:Nat) (w:World) (h:KT w) (hg:g<w.heap.size) (hr:SpRow w g o l) (hl:l.length<=4) (hcp:l.length<=cp) (hn:0<=n/\n<=9223372036854775000) :
  Calls Tryz.prog 62 #[.int .i64 n,.slice (some ⟨g,o,none⟩) l.length cp] w fun r w'=>r = .returned (.bool (spOk n [] l))/\Below w.heap.size w w':=by
 obtain⟨Z,hZ⟩:∃ Z,spOk n [] l=Z:=⟨_,rfl⟩
 rw[hZ]
 go_enter Tryz.func62,Tryz.ntmps62
 go_wp2_with fail
 go_loopw [11] (fun q wr=>∃ j:Nat,j<=l.length/\q = .int .i64 j/\Below w.heap.size w wr/\(∀ t∈l.take j,lieB t n=true)/\spOk n (l.take j) (l.drop j)=Z) (fun q _=>l.length-(RowKit.intOf q).toNat)
 case atStart=>exact⟨0,Nat.zero_le _,rfl,Below.refl _ _,fun t ht=>absurd ht List.not_mem_nil,hZ⟩
 case round =>
  obtain⟨wo,hwo⟩:∃ wo,wo=wr:=⟨_,rfl⟩
  subst hwo
  obtain⟨j,hj,rfl,hB,hL,hR⟩:=hrel
  by_cases hlt:j<l.length
  ·obtain⟨s,hs⟩:∃ s,l[j]?=some s:=⟨l[j],List.getElem?_eq_getElem hlt⟩
   obtain⟨c0,c1⟩:=(hr.below hg hB).c j s hs
   have hlti:(j:Int)<l.length:=by omega
   have hji:(j:Int)<=cp:=by omega
   rw[drop_at hs,spOk] at hR
   have cL:=fun W hW=>liesIn_any s n W hW (by omega)
   cases k1:lieB s n with
   | false =>
    rw[k1] at hR cL
    simp only[Bool.false_and] at hR
    subst hR
    go_wp2_with (go_at_call 97;refine(cL _ (h.up (hB.alloc hB.size _))).mono ?_;rintro _ w1 ⟨rfl,hb⟩)
    go_ret
    exact⟨rfl,(hB.alloc hB.size _).trans (hb.mono (hB.alloc hB.size _).size)⟩
   | true =>
    rw[k1] at hR cL
    simp only[Bool.true_and] at hR
    have hin:(l.take j).length=j:=by rw[List.length_take];omega
    have ls:=k1
    unfold lieB at ls
    rw[Bool.and_eq_true] at ls
    have ls:=decT ls.2
    have hz:=sz_b s.p
    cases k2:(l.take j).all (aptB s) with
    | false =>
     rw[k2] at hR
     simp only[Bool.false_and] at hR
     subst hR
     go_wp2_with (go_at_call 97;refine(cL _ (h.up (hB.alloc hB.size _))).mono ?_;rintro _ w1 ⟨rfl,hb⟩)
     have hA:=hB.alloc hB.size (.cells #[.int .i64 s.p,.int .i64 s.o] 25)
     have hC:Below (wo.heap.size+1) (wo.alloc (.cells #[.int .i64 s.p,.int .i64 s.o] 25)) w1:=(Below.refl _ _).trans (hb.mono (szal _ _))
     go_loopw [24] (fun q wq=>∃ k:Nat,k<=j/\q = .int .i64 k/\Below (wo.heap.size+1) (wo.alloc (.cells #[.int .i64 s.p,.int .i64 s.o] 25)) wq/\((l.take j).drop k).all (aptB s)=false) (fun q _=>j-(RowKit.intOf q).toNat)
     case atStart=>exact⟨0,Nat.zero_le _,rfl,hC,k2⟩
     case round =>
      obtain⟨k,hk,rfl,hD,hQ⟩:=hrel
      have hE:Below w.heap.size w wr:=hA.trans (hD.mono (Nat.le_succ_of_le hB.size))
      by_cases hkj:k<j
      ·obtain⟨t,ht⟩:∃ t,l[k]?=some t:=⟨l[k],List.getElem?_eq_getElem (by omega)⟩
       have ht2:(l.take j)[k]?=some t:=by rw[List.getElem?_take,if_pos hkj];exact ht
       obtain⟨d0,d1⟩:=(hr.below hg hE).c k t ht
       have hlo:wo.heap.size<wr.heap.size:=Nat.lt_of_lt_of_le (szal _ _) hD.size
       have e0:(wr.alloc (.cells #[.int .i64 t.p,.int .i64 t.o] 25)).cell? ⟨wo.heap.size,0,none⟩=some (.int .i64 s.p):=((bel1 wr _).cell (p:=⟨wo.heap.size,0,none⟩) hlo).trans (own_cell rfl hD 0)
       have e1:(wr.alloc (.cells #[.int .i64 t.p,.int .i64 t.o] 25)).cell? ⟨wo.heap.size,1,none⟩=some (.int .i64 s.o):=((bel1 wr _).cell (p:=⟨wo.heap.size,1,none⟩) hlo).trans (own_cell rfl hD 1)
       have lt:=hL t (List.mem_of_getElem? ht2)
       unfold lieB at lt
       rw[Bool.and_eq_true] at lt
       have lt:=decT lt.2
       have hy:=sz_b t.p
       have hkji:(k:Int)<j:=by omega
       rw[drop_at ht2,List.all_cons] at hQ
       have cM:=fun W hW=>meet_any s t W hW (by omega) (by omega)
       cases k3:aptB s t with
       | false =>
        rw[k3] at cM
        go_wp2_with (go_at_call 98;refine(cM _ (h.up (hE.alloc hE.size _))).mono ?_;rintro _ w2 ⟨rfl,hb2⟩)
        go_ret
        exact⟨rfl,(hE.alloc hE.size _).trans (hb2.mono (hE.alloc hE.size _).size)⟩
       | true =>
        rw[k3] at cM hQ
        simp only[Bool.true_and] at hQ
        go_wp2_with (go_at_call 98;refine(cM _ (h.up (hE.alloc hE.size _))).mono ?_;rintro _ w2 ⟨rfl,hb2⟩)
        go_roundw
        case rel=>exact⟨k+1,by omega,by go_num,(hD.alloc (Nat.le_trans (szal _ _) hD.size) _).trans (hb2.mono (Nat.le_trans (Nat.le_trans (szal _ _) hD.size) (al_le _ _))),hQ⟩
        case measure=>simp[RowKit.intOf];omega
      ·obtain rfl:k=j:=by omega
       rw[List.drop_eq_nil_of_le (by omega)] at hQ
       cases hQ
    | true =>
     rw[k2] at hR
     simp only[Bool.true_and] at hR
     go_wp2_with (go_at_call 97;refine(cL _ (h.up (hB.alloc hB.size _))).mono ?_;rintro _ w1 ⟨rfl,hb⟩)
     have hA:=hB.alloc hB.size (.cells #[.int .i64 s.p,.int .i64 s.o] 25)
     have hC:Below (wo.heap.size+1) (wo.alloc (.cells #[.int .i64 s.p,.int .i64 s.o] 25)) w1:=(Below.refl _ _).trans (hb.mono (szal _ _))
     go_loopw [24] (fun q wq=>∃ k:Nat,k<=j/\q = .int .i64 k/\Below (wo.heap.size+1) (wo.alloc (.cells #[.int .i64 s.p,.int .i64 s.o] 25)) wq/\((l.take j).drop k).all (aptB s)=true) (fun q _=>j-(RowKit.intOf q).toNat)
     case atStart=>exact⟨0,Nat.zero_le _,rfl,hC,k2⟩
     case round =>
      obtain⟨k,hk,rfl,hD,hQ⟩:=hrel
      have hE:Below w.heap.size w wr:=hA.trans (hD.mono (Nat.le_succ_of_le hB.size))
      by_cases hkj:k<j
      ·obtain⟨t,ht⟩:∃ t,l[k]?=some t:=⟨l[k],List.getElem?_eq_getElem (by omega)⟩
       have ht2:(l.take j)[k]?=some t:=by rw[List.getElem?_take,if_pos hkj];exact ht
       obtain⟨d0,d1⟩:=(hr.below hg hE).c k t ht
       have hlo:wo.heap.size<wr.heap.size:=Nat.lt_of_lt_of_le (szal _ _) hD.size
       have e0:(wr.alloc (.cells #[.int .i64 t.p,.int .i64 t.o] 25)).cell? ⟨wo.heap.size,0,none⟩=some (.int .i64 s.p):=((bel1 wr _).cell (p:=⟨wo.heap.size,0,none⟩) hlo).trans (own_cell rfl hD 0)
       have e1:(wr.alloc (.cells #[.int .i64 t.p,.int .i64 t.o] 25)).cell? ⟨wo.heap.size,1,none⟩=some (.int .i64 s.o):=((bel1 wr _).cell (p:=⟨wo.heap.size,1,none⟩) hlo).trans (own_cell rfl hD 1)
       have lt:=hL t (List.mem_of_getElem? ht2)
       unfold lieB at lt
       rw[Bool.and_eq_true] at lt
       have lt:=decT lt.2
       have hy:=sz_b t.p
       have hkji:(k:Int)<j:=by omega
       rw[drop_at ht2,List.all_cons] at hQ
       have cM:=fun W hW=>meet_any s t W hW (by omega) (by omega)
       rw[Bool.and_eq_true] at hQ
       rw[hQ.1] at cM
       go_wp2_with (go_at_call 98;refine(cM _ (h.up (hE.alloc hE.size _))).mono ?_;rintro _ w2 ⟨rfl,hb2⟩)
       go_roundw
       case rel=>exact⟨k+1,by omega,by go_num,(hD.alloc (Nat.le_trans (szal _ _) hD.size) _).trans (hb2.mono (Nat.le_trans (Nat.le_trans (szal _ _) hD.size) (al_le _ _))),hQ.2⟩
       case measure=>simp[RowKit.intOf];omega
      ·obtain rfl:k=j:=by omega
       rw[List.drop_eq_nil_of_le (by omega)] at hQ
       go_wp2_with fail
       go_roundw
       case rel =>
        refine⟨k+1,by omega,by go_num,hE,?_,?_⟩
        ·intro t ht
         rw[take_at hs] at ht
         rcases List.mem_append.1 ht with ht|ht
         ·exact hL t ht
         ·rw[List.mem_singleton.1 ht];exact k1
        ·rw[take_at hs];exact hR
       case measure=>simp[RowKit.intOf];omega
  ·obtain rfl:j=l.length:=by omega
   rw[List.drop_length,spOk] at hR
   subst hR
   go_wp2_with fail
   go_ret
   exact⟨rfl,hB⟩
structure Hid0 (p:Prop):Prop where
 out:p
def Ans (r:Ending) (P:Prop):Prop:=∃ b,r = .returned (.bool b)/\(b=true↔P)
theorem Ans.yes {P:Prop} (h:P):Ans (.returned (.bool true)) P:=⟨true,rfl,by simp[h]⟩
theorem Ans.no {P:Prop} (h:¬ P):Ans (.returned (.bool false)) P:=⟨false,rfl,by simp[h]⟩
theorem Ans.said {r:Ending} {P:Prop} (h:Ans r P) {b:Bool} (hb:P↔b=true):r = .returned (.bool b):=by
 obtain⟨c,rfl,hc⟩:=h
 rw[hb] at hc
 congr 2
 cases c<;>cases b<;>simp_all
theorem Ans.same {r:Ending} {b:Bool} (h:Ans r (b=true)):r = .returned (.bool b):=h.said Iff.rfl
theorem refBegins_any (op:Int) (w:World) (h:i64ok op):Calls Tryz.prog 17 #[.int .i64 op] w fun r w'=>r = .returned (.bool (bgO op))/\w'=w:=by
 have hb:bgO op=true↔0<=op/\op<14/\op % 2=0:=by
  unfold bgO
  rw[decide_eq_true_eq]
  omega
 replace hb:Hid0 _:=⟨hb⟩
 unfold i64ok at h
 suffices hh:Calls Tryz.prog 17 #[.int .i64 op] w fun r w'=>Ans r (bgO op=true)/\w'=w from hh.mono fun r w' h=>⟨h.1.same,h.2⟩
 go_enter Tryz.func17,Tryz.ntmps17
 go_wp2_with fail
 all_goals
  go_ret
  refine⟨⟨_,rfl,?_⟩,rfl⟩
  rw[hb.out]
  simp[*]
  try omega
theorem typeOp_any (op:Int) (w:World):Calls Tryz.prog 58 #[.int .i64 op] w fun r w'=>r = .returned (.bool (tyO op))/\w'=w:=by
 have hb:tyO op=true↔op=8\/op=10\/op=12\/op=14:=by
  unfold tyO
  rw[decide_eq_true_eq]
 replace hb:Hid0 _:=⟨hb⟩
 suffices hh:Calls Tryz.prog 58 #[.int .i64 op] w fun r w'=>Ans r (tyO op=true)/\w'=w from hh.mono fun r w' h=>⟨h.1.same,h.2⟩
 go_enter Tryz.func58,Tryz.ntmps58
 go_wp2_with fail
 all_goals
  go_ret
  refine⟨⟨_,rfl,?_⟩,rfl⟩
  rw[hb.out]
  simp[*]
structure Hid (p:Prop):Prop where
 out:p
abbrev tkV (t:Tk) (pc:Option Addr) (cc:Nat):Value:=.agg #[.int .i64 t.op,.string t.name,.int .i64 t.id,.int .i64 t.off,.int .i64 t.siz,.int .i64 t.since,.int .i64 t.prim,.int .i64 t.len,.int .i64 t.pres,.int .u64 t.nul,.int .u64 t.lo,.int .u64 t.hi,.slice pc t.cst.length cc,.int .u64 t.val,.int .i64 t.blk,.int .i64 t.full,.int .i64 t.a.p,.int .i64 t.a.o,.int .i64 t.b.p,.int .i64 t.b.o,.int .i64 t.pair]
def tkC (t:Tk) (pc:Option Addr) (cc:Nat):List Value:=[.int .i64 t.op,.string t.name,.int .i64 t.id,.int .i64 t.off,.int .i64 t.siz,.int .i64 t.since,.int .i64 t.prim,.int .i64 t.len,.int .i64 t.pres,.int .u64 t.nul,.int .u64 t.lo,.int .u64 t.hi,.slice pc t.cst.length cc,.int .u64 t.val,.int .i64 t.blk,.int .i64 t.full,.int .i64 t.a.p,.int .i64 t.a.o,.int .i64 t.b.p,.int .i64 t.b.o,.int .i64 t.pair]
structure URow (w:World) (p:Option Addr) (H:Nat) (l:List Int):Prop where
 c:∀ (i:Nat) (t:Int),l[i]?=some t->∃ g o,p=some ⟨g,o,none⟩/\g<H/\w.cell? ⟨g,o+i,none⟩=some (.int .u64 t)
theorem cell_blk {w w':World} {g o:Nat} (hb:w'.heap[g]?=w.heap[g]?):w'.cell? ⟨g,o,none⟩=w.cell? ⟨g,o,none⟩:=by simp only[World.cell?,hb]
theorem URow.same {w w':World} {p:Option Addr} {H:Nat} {l:List Int} (h:URow w p H l) (hb:∀ k,k<H->w'.heap[k]?=w.heap[k]?):URow w' p H l :=
 ⟨fun i t ht=>by
  obtain⟨g,o,e,hg,h0⟩:=h.c i t ht
  exact⟨g,o,e,hg,(cell_blk (hb g hg)).trans h0⟩⟩
theorem URow.mono {w:World} {p:Option Addr} {H H':Nat} {l:List Int} (h:URow w p H l) (hH:H<=H'):URow w p H' l :=
 ⟨fun i t ht=>by obtain⟨g,o,e,hg,r⟩:=h.c i t ht;exact⟨g,o,e,by omega,r⟩⟩
theorem URow.below {w w':World} {p:Option Addr} {H:Nat} {l:List Int} (h:URow w p H l) (hb:Below H w w'):URow w' p H l:=h.same fun k hk=>hb.block k hk
theorem URow.nil (w:World) (p:Option Addr) (H:Nat):URow w p H []:=⟨fun i t ht=>by cases ht⟩
structure TkC (w:World) (g o:Nat) (t:Tk) (pc:Option Addr) (cc:Nat):Prop where
 c0:w.cell? ⟨g,o,none⟩=some (.int .i64 t.op)
 c1:w.cell? ⟨g,o+1,none⟩=some (.string t.name)
 c2:w.cell? ⟨g,o+2,none⟩=some (.int .i64 t.id)
 c3:w.cell? ⟨g,o+3,none⟩=some (.int .i64 t.off)
 c4:w.cell? ⟨g,o+4,none⟩=some (.int .i64 t.siz)
 c5:w.cell? ⟨g,o+5,none⟩=some (.int .i64 t.since)
 c6:w.cell? ⟨g,o+6,none⟩=some (.int .i64 t.prim)
 c7:w.cell? ⟨g,o+7,none⟩=some (.int .i64 t.len)
 c8:w.cell? ⟨g,o+8,none⟩=some (.int .i64 t.pres)
 c9:w.cell? ⟨g,o+9,none⟩=some (.int .u64 t.nul)
 c10:w.cell? ⟨g,o+10,none⟩=some (.int .u64 t.lo)
 c11:w.cell? ⟨g,o+11,none⟩=some (.int .u64 t.hi)
 c12:w.cell? ⟨g,o+12,none⟩=some (.slice pc t.cst.length cc)
 c13:w.cell? ⟨g,o+13,none⟩=some (.int .u64 t.val)
 c14:w.cell? ⟨g,o+14,none⟩=some (.int .i64 t.blk)
 c15:w.cell? ⟨g,o+15,none⟩=some (.int .i64 t.full)
 c16:w.cell? ⟨g,o+16,none⟩=some (.int .i64 t.a.p)
 c17:w.cell? ⟨g,o+17,none⟩=some (.int .i64 t.a.o)
 c18:w.cell? ⟨g,o+18,none⟩=some (.int .i64 t.b.p)
 c19:w.cell? ⟨g,o+19,none⟩=some (.int .i64 t.b.o)
 c20:w.cell? ⟨g,o+20,none⟩=some (.int .i64 t.pair)
theorem TkC.same {w w':World} {g o:Nat} {t:Tk} {pc:Option Addr} {cc:Nat} (h:TkC w g o t pc cc) (hb:w'.heap[g]?=w.heap[g]?):TkC w' g o t pc cc :=
 ⟨(cell_blk hb).trans h.c0,(cell_blk hb).trans h.c1,(cell_blk hb).trans h.c2,(cell_blk hb).trans h.c3,(cell_blk hb).trans h.c4,(cell_blk hb).trans h.c5,(cell_blk hb).trans h.c6,(cell_blk hb).trans h.c7,(cell_blk hb).trans h.c8,(cell_blk hb).trans h.c9,(cell_blk hb).trans h.c10,(cell_blk hb).trans h.c11,(cell_blk hb).trans h.c12,(cell_blk hb).trans h.c13,(cell_blk hb).trans h.c14,(cell_blk hb).trans h.c15,(cell_blk hb).trans h.c16,(cell_blk hb).trans h.c17,(cell_blk hb).trans h.c18,(cell_blk hb).trans h.c19,(cell_blk hb).trans h.c20⟩
theorem tkC_of {w:World} {g o:Nat} {t:Tk} {pc:Option Addr} {cc:Nat} (h:∀ (j:Nat) (u:Value),(tkC t pc cc)[j]?=some u->w.cell? ⟨g,o+j,none⟩=some u):TkC w g o t pc cc :=
 ⟨h 0 _ rfl,h 1 _ rfl,h 2 _ rfl,h 3 _ rfl,h 4 _ rfl,h 5 _ rfl,h 6 _ rfl,h 7 _ rfl,h 8 _ rfl,h 9 _ rfl,h 10 _ rfl,h 11 _ rfl,h 12 _ rfl,h 13 _ rfl,h 14 _ rfl,h 15 _ rfl,h 16 _ rfl,h 17 _ rfl,h 18 _ rfl,h 19 _ rfl,h 20 _ rfl⟩
structure TkRow (w:World) (pp:Option Addr) (H:Nat) (l:List Tk):Prop where
 c:∀ (i:Nat) (t:Tk),l[i]?=some t->∃ g o pc cc,pp=some ⟨g,o,none⟩/\g<H/\TkC w g (o+i*21) t pc cc/\URow w pc H t.cst/\t.cst.length<=cc
theorem TkRow.same {w w':World} {pp:Option Addr} {H:Nat} {l:List Tk} (h:TkRow w pp H l) (hb:∀ k,k<H->w'.heap[k]?=w.heap[k]?):TkRow w' pp H l :=
 ⟨fun i t ht=>by
  obtain⟨g,o,pc,cc,e,hg,h0,h1,h2⟩:=h.c i t ht
  exact⟨g,o,pc,cc,e,hg,h0.same (hb g hg),h1.same hb,h2⟩⟩
theorem TkRow.below {w w':World} {pp:Option Addr} {H:Nat} {l:List Tk} (h:TkRow w pp H l) (hb:Below H w w'):TkRow w' pp H l:=h.same fun k hk=>hb.block k hk
theorem TkRow.mono {w:World} {pp:Option Addr} {H H':Nat} {l:List Tk} (h:TkRow w pp H l) (hH:H<=H'):TkRow w pp H' l :=
 ⟨fun i t ht=>by obtain⟨g,o,pc,cc,e,hg,h0,h1,h2⟩:=h.c i t ht;exact⟨g,o,pc,cc,e,by omega,h0,h1.mono hH,h2⟩⟩
structure TkOk (t:Tk):Prop where
 op:i64ok t.op
 name:t.name.size<=281474976710656
 id:i64ok t.id
 off:i64ok t.off
 siz:i64ok t.siz
 since:i64ok t.since
 prim:i64ok t.prim
 len:i64ok t.len
 pres:i64ok t.pres
 nul:u64ok t.nul
 lo:u64ok t.lo
 hi:u64ok t.hi
 cst:t.cst.length*8<=140737488355328
 cs:∀ x∈t.cst,u64ok x
 val:u64ok t.val
 blk:i64ok t.blk
 full:i64ok t.full
 ap:i64ok t.a.p
 ao:i64ok t.a.o
 bp:i64ok t.b.p
 bo:i64ok t.b.o
 pair:i64ok t.pair
structure TkL (w:World) (pp:Option Addr) (H:Nat) (l:List Tk):Prop where
 row:TkRow w pp H l
 len:l.length*192<=140737488355328
 ok:∀ t∈l,TkOk t
theorem TkL.below {w w':World} {pp:Option Addr} {H:Nat} {l:List Tk} (h:TkL w pp H l) (hb:Below H w w'):TkL w' pp H l:=⟨h.row.below hb,h.len,h.ok⟩
theorem TkL.mono {w:World} {pp:Option Addr} {H H':Nat} {l:List Tk} (h:TkL w pp H l) (hH:H<=H'):TkL w pp H' l:=⟨h.row.mono hH,h.len,h.ok⟩
theorem TkL.at {w:World} {pp:Option Addr} {H:Nat} {l:List Tk} (h:TkL w pp H l) {i:Nat} {t:Tk} (hi:l[i]?=some t):∃ g o pc cc,pp=some ⟨g,o,none⟩/\g<H/\TkC w g (o+i*21) t pc cc/\URow w pc H t.cst/\t.cst.length<=cc/\TkOk t:=by
 obtain⟨g,o,pc,cc,e,hg,h0,h1,h2⟩:=h.row.c i t hi
 exact⟨g,o,pc,cc,e,hg,h0,h1,h2,h.ok t (List.mem_of_getElem? hi)⟩
abbrev fmV (f:Fm) (pp:Option Addr) (cp:Nat):Value:=.agg #[.int .i64 f.ord,.int .i64 f.sch,.int .i64 f.ver,.int .i64 f.hsz,.int .i64 f.hb.p,.int .i64 f.hb.o,.int .i64 f.ht.p,.int .i64 f.ht.o,.int .i64 f.hs.p,.int .i64 f.hs.o,.int .i64 f.hv.p,.int .i64 f.hv.o,.slice pp f.toks.length cp]
abbrev fmO (f:Fm) (pp:Option Addr) (cp:Nat):Obj:=.cells #[.int .i64 f.ord,.int .i64 f.sch,.int .i64 f.ver,.int .i64 f.hsz,.int .i64 f.hb.p,.int .i64 f.hb.o,.int .i64 f.ht.p,.int .i64 f.ht.o,.int .i64 f.hs.p,.int .i64 f.hs.o,.int .i64 f.hv.p,.int .i64 f.hv.o,.slice pp f.toks.length cp] 30
structure FmC (w:World) (g o:Nat) (f:Fm) (pp:Option Addr) (cp:Nat):Prop where
 c0:w.cell? ⟨g,o,none⟩=some (.int .i64 f.ord)
 c1:w.cell? ⟨g,o+1,none⟩=some (.int .i64 f.sch)
 c2:w.cell? ⟨g,o+2,none⟩=some (.int .i64 f.ver)
 c3:w.cell? ⟨g,o+3,none⟩=some (.int .i64 f.hsz)
 c4:w.cell? ⟨g,o+4,none⟩=some (.int .i64 f.hb.p)
 c5:w.cell? ⟨g,o+5,none⟩=some (.int .i64 f.hb.o)
 c6:w.cell? ⟨g,o+6,none⟩=some (.int .i64 f.ht.p)
 c7:w.cell? ⟨g,o+7,none⟩=some (.int .i64 f.ht.o)
 c8:w.cell? ⟨g,o+8,none⟩=some (.int .i64 f.hs.p)
 c9:w.cell? ⟨g,o+9,none⟩=some (.int .i64 f.hs.o)
 c10:w.cell? ⟨g,o+10,none⟩=some (.int .i64 f.hv.p)
 c11:w.cell? ⟨g,o+11,none⟩=some (.int .i64 f.hv.o)
 c12:w.cell? ⟨g,o+12,none⟩=some (.slice pp f.toks.length cp)
theorem FmC.same {w w':World} {g o:Nat} {f:Fm} {pp:Option Addr} {cp:Nat} (h:FmC w g o f pp cp) (hb:w'.heap[g]?=w.heap[g]?):FmC w' g o f pp cp :=
 ⟨(cell_blk hb).trans h.c0,(cell_blk hb).trans h.c1,(cell_blk hb).trans h.c2,(cell_blk hb).trans h.c3,(cell_blk hb).trans h.c4,(cell_blk hb).trans h.c5,(cell_blk hb).trans h.c6,(cell_blk hb).trans h.c7,(cell_blk hb).trans h.c8,(cell_blk hb).trans h.c9,(cell_blk hb).trans h.c10,(cell_blk hb).trans h.c11,(cell_blk hb).trans h.c12⟩
theorem FmC.below {w w':World} {g o B:Nat} {f:Fm} {pp:Option Addr} {cp:Nat} (h:FmC w g o f pp cp) (hg:g<B) (hb:Below B w w'):FmC w' g o f pp cp:=h.same (hb.block g hg)
theorem TkC.below {w w':World} {g o B:Nat} {t:Tk} {pc:Option Addr} {cc:Nat} (h:TkC w g o t pc cc) (hg:g<B) (hb:Below B w w'):TkC w' g o t pc cc:=h.same (hb.block g hg)
structure SpOk (s:Sp):Prop where
 p:i64ok s.p
 o:i64ok s.o
structure FmOk (f:Fm):Prop where
 ord:i64ok f.ord
 sch:i64ok f.sch
 ver:i64ok f.ver
 hsz:i64ok f.hsz
 hb:SpOk f.hb
 ht:SpOk f.ht
 hs:SpOk f.hs
 hv:SpOk f.hv
theorem fm_new (w:World) (f:Fm) (pp:Option Addr) (cp:Nat):FmC (w.alloc (fmO f pp cp)) w.heap.size 0 f pp cp :=
 ⟨cell_at (heap_al _ _) 0,cell_at (heap_al _ _) 1,cell_at (heap_al _ _) 2,cell_at (heap_al _ _) 3,cell_at (heap_al _ _) 4,cell_at (heap_al _ _) 5,cell_at (heap_al _ _) 6,cell_at (heap_al _ _) 7,cell_at (heap_al _ _) 8,cell_at (heap_al _ _) 9,cell_at (heap_al _ _) 10,cell_at (heap_al _ _) 11,cell_at (heap_al _ _) 12⟩
end Go.Proofs.YtjnafpefolgcoaaGreatDoor
