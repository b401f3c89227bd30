import Derived.Test.YtjlbcdnkglaheaaGreatDoorK16
import Derived.Test.YtjlbcdnkglaheaaGreatDoorK17
import Derived.Test.YtjlbcdnkglaheaaGreatDoorK18
namespace Go.Proofs.YtjlbcdnkglaheaaGreatDoor
set_option maxRecDepth 1000000
set_option maxHeartbeats 16000000
open Go.ChangeShapes Go.WideShapes Go.ChangeAt Go.RowKit Go.Shelf
def mayP (xo last cnt op:Int):Bool :=
 if xo=0\/xo=4 then decide (op=xo+1)||(ptO op&&decide (last<=op))
 else if xo=2 then (decide (cnt=0)&&tyO op)||(decide (cnt=1)&&decide (op=xo+1))
 else if xo=10\/xo=12 then (decide (cnt=0)&&decide (op=14))||(decide (0<cnt)&&(decide (op=15)||decide (op=xo+1)))
 else if xo=8 then tyO op||decide (op=xo+1)
 else decide (op=xo+1)
theorem mayStand_none (B gf cap m1 m2 m3:Nat) (p:Option Addr) (i op:Int) (rl:Value) (dep:Nat->Int) (wh:Bool) (w:World) (hC:CkC w B gf (.slice p 0 cap) i rl m1 m2 m3 dep wh) :
  Calls Tryz.prog 85 #[.pointer (some ⟨B,0,none⟩),.int .i64 op] w fun r w'=>r = .returned (.bool (decide (op=0) && !wh))/\Below w.heap.size w w':=by
 have cE:=isEmpty_any B 0 cap p w hC.c0
 have c23:=hC.c23
 rw[show decide ((0:Nat)=0)=true from rfl] at cE
 by_cases h0:op=0
 ·subst h0
  go_enter Tryz.func85,Tryz.ntmps85
  go_wp2_with (go_at_call 91;refine cE.mono ?_;rintro _ _ ⟨rfl,rfl⟩)
  go_ret
  exact⟨rfl,Below.refl _ _⟩
 ·have d0:(op==0)=false:=beqN h0
  rw[decide_eq_false h0]
  go_enter Tryz.func85,Tryz.ntmps85
  go_wp2_with (go_at_call 91;refine cE.mono ?_;rintro _ _ ⟨rfl,rfl⟩)
  go_ret
  exact⟨rfl,Below.refl _ _⟩
theorem mayStand_0 (B gf go n cap g o m1 m2 m3:Nat) (i op:Int) (rl:Value) (dep:Nat->Int) (wh:Bool) (x:Sv) (w:World) (hC:CkC w B gf (.slice (some ⟨go,0,none⟩) (n+1) cap) i rl m1 m2 m3 dep wh) (hX:ScC w g o go (n*8) x) (hgo:go<w.heap.size) (hg:g<w.heap.size) (hT:w.cell? ⟨g,o+x.at_*21,none⟩=some (.int .i64 0)) (hn:n<1000000000000) :
  Calls Tryz.prog 85 #[.pointer (some ⟨B,0,none⟩),.int .i64 op] w fun r w'=>r = .returned (.bool (mayP 0 x.last x.cnt op))/\Below w.heap.size w w':=by
 have cE:=isEmpty_any B (n+1) cap _ w hC.c0
 rw[show decide (n+1=0)=false from decide_eq_false (by omega)] at cE
 have cT:=top_any B go n cap w hC.c0 hn
 have f0:∀ W,Below w.heap.size w W->W.cell? ⟨go,n*8,none⟩=some (.pointer (some ⟨g,o+x.at_*21,none⟩)):=fun W h=>(h.cell (p:=⟨go,n*8,none⟩) hgo).trans hX.c0
 have f2:∀ W,Below w.heap.size w W->W.cell? ⟨go,n*8+2,none⟩=some (.int .i64 x.cnt):=fun W h=>(h.cell (p:=⟨go,n*8+2,none⟩) hgo).trans hX.c2
 have f3:∀ W,Below w.heap.size w W->W.cell? ⟨go,n*8+3,none⟩=some (.int .i64 x.last):=fun W h=>(h.cell (p:=⟨go,n*8+3,none⟩) hgo).trans hX.c3
 have f4:∀ W,Below w.heap.size w W->W.cell? ⟨g,o+x.at_*21,none⟩=some (.int .i64 0):=fun W h=>(h.cell (p:=⟨g,o+x.at_*21,none⟩) hg).trans hT
 have cP:=isPart_any op
 have cY:=isType_any op
 have cO:=fun W=>endOf_any 0 W (by omega)
 clear hC hX hT
 unfold mayP
 rw[if_pos (by omega)]
 by_cases q1:op=1
 ·subst q1
  go_enter Tryz.func85,Tryz.ntmps85
  go_wp2_with (first|(go_at_call 91;refine cE.mono ?_;rintro _ _ ⟨rfl,rfl⟩)|(go_at_call 92;refine cT.mono ?_;rintro _ w1 ⟨rfl,hb⟩;have y0:=f0 _ hb;have y2:=f2 _ hb;have y3:=f3 _ hb;have y4:=f4 _ hb;clear f0 f2 f3 f4)|(go_at_call 118;refine(cO _).mono ?_;rintro _ _ ⟨rfl,rfl⟩)|(go_at_call 119;refine(cP _).mono ?_;rintro _ _ ⟨rfl,rfl⟩)|(go_at_call 120;refine(cY _).mono ?_;rintro _ _ ⟨rfl,rfl⟩))
  go_ret
  exact⟨rb (by simp),hb⟩
 ·have d1:(op==1)=false:=beqN q1
  rcases Bool.eq_false_or_eq_true (ptO op) with q2|q2
  all_goals
   rw[q2] at cP ⊢
   go_enter Tryz.func85,Tryz.ntmps85
   go_wp2_with (first|(go_at_call 91;refine cE.mono ?_;rintro _ _ ⟨rfl,rfl⟩)|(go_at_call 92;refine cT.mono ?_;rintro _ w1 ⟨rfl,hb⟩;have y0:=f0 _ hb;have y2:=f2 _ hb;have y3:=f3 _ hb;have y4:=f4 _ hb;clear f0 f2 f3 f4)|(go_at_call 118;refine(cO _).mono ?_;rintro _ _ ⟨rfl,rfl⟩)|(go_at_call 119;refine(cP _).mono ?_;rintro _ _ ⟨rfl,rfl⟩)|(go_at_call 120;refine(cY _).mono ?_;rintro _ _ ⟨rfl,rfl⟩))
   go_ret
   exact⟨rb (by simp[q1]),hb⟩
theorem mayStand_2 (B gf go n cap g o m1 m2 m3:Nat) (i op:Int) (rl:Value) (dep:Nat->Int) (wh:Bool) (x:Sv) (w:World) (hC:CkC w B gf (.slice (some ⟨go,0,none⟩) (n+1) cap) i rl m1 m2 m3 dep wh) (hX:ScC w g o go (n*8) x) (hgo:go<w.heap.size) (hg:g<w.heap.size) (hT:w.cell? ⟨g,o+x.at_*21,none⟩=some (.int .i64 2)) (hn:n<1000000000000) :
  Calls Tryz.prog 85 #[.pointer (some ⟨B,0,none⟩),.int .i64 op] w fun r w'=>r = .returned (.bool (mayP 2 x.last x.cnt op))/\Below w.heap.size w w':=by
 have cE:=isEmpty_any B (n+1) cap _ w hC.c0
 rw[show decide (n+1=0)=false from decide_eq_false (by omega)] at cE
 have cT:=top_any B go n cap w hC.c0 hn
 have f0:∀ W,Below w.heap.size w W->W.cell? ⟨go,n*8,none⟩=some (.pointer (some ⟨g,o+x.at_*21,none⟩)):=fun W h=>(h.cell (p:=⟨go,n*8,none⟩) hgo).trans hX.c0
 have f2:∀ W,Below w.heap.size w W->W.cell? ⟨go,n*8+2,none⟩=some (.int .i64 x.cnt):=fun W h=>(h.cell (p:=⟨go,n*8+2,none⟩) hgo).trans hX.c2
 have f3:∀ W,Below w.heap.size w W->W.cell? ⟨go,n*8+3,none⟩=some (.int .i64 x.last):=fun W h=>(h.cell (p:=⟨go,n*8+3,none⟩) hgo).trans hX.c3
 have f4:∀ W,Below w.heap.size w W->W.cell? ⟨g,o+x.at_*21,none⟩=some (.int .i64 2):=fun W h=>(h.cell (p:=⟨g,o+x.at_*21,none⟩) hg).trans hT
 have cP:=isPart_any op
 have cY:=isType_any op
 have cO:=fun W=>endOf_any 2 W (by omega)
 clear hC hX hT
 unfold mayP
 rw[if_neg (by omega),if_pos rfl]
 by_cases q0:x.cnt=0
 ·have d0:(x.cnt==0)=true:=beq_iff_eq.2 q0
  have d1:(x.cnt==1)=false:=beqN (by omega)
  rcases Bool.eq_false_or_eq_true (tyO op) with q2|q2
  all_goals
   rw[q2] at cY ⊢
   go_enter Tryz.func85,Tryz.ntmps85
   go_wp2_with (first|(go_at_call 91;refine cE.mono ?_;rintro _ _ ⟨rfl,rfl⟩)|(go_at_call 92;refine cT.mono ?_;rintro _ w1 ⟨rfl,hb⟩;have y0:=f0 _ hb;have y2:=f2 _ hb;have y3:=f3 _ hb;have y4:=f4 _ hb;clear f0 f2 f3 f4)|(go_at_call 118;refine(cO _).mono ?_;rintro _ _ ⟨rfl,rfl⟩)|(go_at_call 119;refine(cP _).mono ?_;rintro _ _ ⟨rfl,rfl⟩)|(go_at_call 120;refine(cY _).mono ?_;rintro _ _ ⟨rfl,rfl⟩))
   go_ret
   exact⟨rb (by simp[q0]),hb⟩
 ·have d0:(x.cnt==0)=false:=beqN q0
  by_cases q1:x.cnt=1
  ·have d1:(x.cnt==1)=true:=beq_iff_eq.2 q1
   go_enter Tryz.func85,Tryz.ntmps85
   go_wp2_with (first|(go_at_call 91;refine cE.mono ?_;rintro _ _ ⟨rfl,rfl⟩)|(go_at_call 92;refine cT.mono ?_;rintro _ w1 ⟨rfl,hb⟩;have y0:=f0 _ hb;have y2:=f2 _ hb;have y3:=f3 _ hb;have y4:=f4 _ hb;clear f0 f2 f3 f4)|(go_at_call 118;refine(cO _).mono ?_;rintro _ _ ⟨rfl,rfl⟩)|(go_at_call 119;refine(cP _).mono ?_;rintro _ _ ⟨rfl,rfl⟩)|(go_at_call 120;refine(cY _).mono ?_;rintro _ _ ⟨rfl,rfl⟩))
   go_ret
   exact⟨rb (by rw[beqD];simp[q1]),hb⟩
  ·have d1:(x.cnt==1)=false:=beqN q1
   go_enter Tryz.func85,Tryz.ntmps85
   go_wp2_with (first|(go_at_call 91;refine cE.mono ?_;rintro _ _ ⟨rfl,rfl⟩)|(go_at_call 92;refine cT.mono ?_;rintro _ w1 ⟨rfl,hb⟩;have y0:=f0 _ hb;have y2:=f2 _ hb;have y3:=f3 _ hb;have y4:=f4 _ hb;clear f0 f2 f3 f4)|(go_at_call 118;refine(cO _).mono ?_;rintro _ _ ⟨rfl,rfl⟩)|(go_at_call 119;refine(cP _).mono ?_;rintro _ _ ⟨rfl,rfl⟩)|(go_at_call 120;refine(cY _).mono ?_;rintro _ _ ⟨rfl,rfl⟩))
   go_ret
   exact⟨rb (by simp[q0,q1]),hb⟩
theorem mayStand_4 (B gf go n cap g o m1 m2 m3:Nat) (i op:Int) (rl:Value) (dep:Nat->Int) (wh:Bool) (x:Sv) (w:World) (hC:CkC w B gf (.slice (some ⟨go,0,none⟩) (n+1) cap) i rl m1 m2 m3 dep wh) (hX:ScC w g o go (n*8) x) (hgo:go<w.heap.size) (hg:g<w.heap.size) (hT:w.cell? ⟨g,o+x.at_*21,none⟩=some (.int .i64 4)) (hn:n<1000000000000) :
  Calls Tryz.prog 85 #[.pointer (some ⟨B,0,none⟩),.int .i64 op] w fun r w'=>r = .returned (.bool (mayP 4 x.last x.cnt op))/\Below w.heap.size w w':=by
 have cE:=isEmpty_any B (n+1) cap _ w hC.c0
 rw[show decide (n+1=0)=false from decide_eq_false (by omega)] at cE
 have cT:=top_any B go n cap w hC.c0 hn
 have f0:∀ W,Below w.heap.size w W->W.cell? ⟨go,n*8,none⟩=some (.pointer (some ⟨g,o+x.at_*21,none⟩)):=fun W h=>(h.cell (p:=⟨go,n*8,none⟩) hgo).trans hX.c0
 have f2:∀ W,Below w.heap.size w W->W.cell? ⟨go,n*8+2,none⟩=some (.int .i64 x.cnt):=fun W h=>(h.cell (p:=⟨go,n*8+2,none⟩) hgo).trans hX.c2
 have f3:∀ W,Below w.heap.size w W->W.cell? ⟨go,n*8+3,none⟩=some (.int .i64 x.last):=fun W h=>(h.cell (p:=⟨go,n*8+3,none⟩) hgo).trans hX.c3
 have f4:∀ W,Below w.heap.size w W->W.cell? ⟨g,o+x.at_*21,none⟩=some (.int .i64 4):=fun W h=>(h.cell (p:=⟨g,o+x.at_*21,none⟩) hg).trans hT
 have cP:=isPart_any op
 have cY:=isType_any op
 have cO:=fun W=>endOf_any 4 W (by omega)
 clear hC hX hT
 unfold mayP
 rw[if_pos (by omega)]
 by_cases q1:op=5
 ·subst q1
  go_enter Tryz.func85,Tryz.ntmps85
  go_wp2_with (first|(go_at_call 91;refine cE.mono ?_;rintro _ _ ⟨rfl,rfl⟩)|(go_at_call 92;refine cT.mono ?_;rintro _ w1 ⟨rfl,hb⟩;have y0:=f0 _ hb;have y2:=f2 _ hb;have y3:=f3 _ hb;have y4:=f4 _ hb;clear f0 f2 f3 f4)|(go_at_call 118;refine(cO _).mono ?_;rintro _ _ ⟨rfl,rfl⟩)|(go_at_call 119;refine(cP _).mono ?_;rintro _ _ ⟨rfl,rfl⟩)|(go_at_call 120;refine(cY _).mono ?_;rintro _ _ ⟨rfl,rfl⟩))
  go_ret
  exact⟨rb (by simp),hb⟩
 ·have d1:(op==5)=false:=beqN q1
  rcases Bool.eq_false_or_eq_true (ptO op) with q2|q2
  all_goals
   rw[q2] at cP ⊢
   go_enter Tryz.func85,Tryz.ntmps85
   go_wp2_with (first|(go_at_call 91;refine cE.mono ?_;rintro _ _ ⟨rfl,rfl⟩)|(go_at_call 92;refine cT.mono ?_;rintro _ w1 ⟨rfl,hb⟩;have y0:=f0 _ hb;have y2:=f2 _ hb;have y3:=f3 _ hb;have y4:=f4 _ hb;clear f0 f2 f3 f4)|(go_at_call 118;refine(cO _).mono ?_;rintro _ _ ⟨rfl,rfl⟩)|(go_at_call 119;refine(cP _).mono ?_;rintro _ _ ⟨rfl,rfl⟩)|(go_at_call 120;refine(cY _).mono ?_;rintro _ _ ⟨rfl,rfl⟩))
   go_ret
   exact⟨rb (by simp[q1]),hb⟩
theorem mayStand_6 (B gf go n cap g o m1 m2 m3:Nat) (i op:Int) (rl:Value) (dep:Nat->Int) (wh:Bool) (x:Sv) (w:World) (hC:CkC w B gf (.slice (some ⟨go,0,none⟩) (n+1) cap) i rl m1 m2 m3 dep wh) (hX:ScC w g o go (n*8) x) (hgo:go<w.heap.size) (hg:g<w.heap.size) (hT:w.cell? ⟨g,o+x.at_*21,none⟩=some (.int .i64 6)) (hn:n<1000000000000) :
  Calls Tryz.prog 85 #[.pointer (some ⟨B,0,none⟩),.int .i64 op] w fun r w'=>r = .returned (.bool (mayP 6 x.last x.cnt op))/\Below w.heap.size w w':=by
 have cE:=isEmpty_any B (n+1) cap _ w hC.c0
 rw[show decide (n+1=0)=false from decide_eq_false (by omega)] at cE
 have cT:=top_any B go n cap w hC.c0 hn
 have f0:∀ W,Below w.heap.size w W->W.cell? ⟨go,n*8,none⟩=some (.pointer (some ⟨g,o+x.at_*21,none⟩)):=fun W h=>(h.cell (p:=⟨go,n*8,none⟩) hgo).trans hX.c0
 have f2:∀ W,Below w.heap.size w W->W.cell? ⟨go,n*8+2,none⟩=some (.int .i64 x.cnt):=fun W h=>(h.cell (p:=⟨go,n*8+2,none⟩) hgo).trans hX.c2
 have f3:∀ W,Below w.heap.size w W->W.cell? ⟨go,n*8+3,none⟩=some (.int .i64 x.last):=fun W h=>(h.cell (p:=⟨go,n*8+3,none⟩) hgo).trans hX.c3
 have f4:∀ W,Below w.heap.size w W->W.cell? ⟨g,o+x.at_*21,none⟩=some (.int .i64 6):=fun W h=>(h.cell (p:=⟨g,o+x.at_*21,none⟩) hg).trans hT
 have cP:=isPart_any op
 have cY:=isType_any op
 have cO:=fun W=>endOf_any 6 W (by omega)
 clear hC hX hT
 unfold mayP
 rw[if_neg (by omega),if_neg (by omega),if_neg (by omega),if_neg (by omega)]
 go_enter Tryz.func85,Tryz.ntmps85
 go_wp2_with (first|(go_at_call 91;refine cE.mono ?_;rintro _ _ ⟨rfl,rfl⟩)|(go_at_call 92;refine cT.mono ?_;rintro _ w1 ⟨rfl,hb⟩;have y0:=f0 _ hb;have y2:=f2 _ hb;have y3:=f3 _ hb;have y4:=f4 _ hb;clear f0 f2 f3 f4)|(go_at_call 118;refine(cO _).mono ?_;rintro _ _ ⟨rfl,rfl⟩)|(go_at_call 119;refine(cP _).mono ?_;rintro _ _ ⟨rfl,rfl⟩)|(go_at_call 120;refine(cY _).mono ?_;rintro _ _ ⟨rfl,rfl⟩))
 go_ret
 exact⟨rb (by rw[beqD];simp),hb⟩
theorem mayStand_8 (B gf go n cap g o m1 m2 m3:Nat) (i op:Int) (rl:Value) (dep:Nat->Int) (wh:Bool) (x:Sv) (w:World) (hC:CkC w B gf (.slice (some ⟨go,0,none⟩) (n+1) cap) i rl m1 m2 m3 dep wh) (hX:ScC w g o go (n*8) x) (hgo:go<w.heap.size) (hg:g<w.heap.size) (hT:w.cell? ⟨g,o+x.at_*21,none⟩=some (.int .i64 8)) (hn:n<1000000000000) :
  Calls Tryz.prog 85 #[.pointer (some ⟨B,0,none⟩),.int .i64 op] w fun r w'=>r = .returned (.bool (mayP 8 x.last x.cnt op))/\Below w.heap.size w w':=by
 have cE:=isEmpty_any B (n+1) cap _ w hC.c0
 rw[show decide (n+1=0)=false from decide_eq_false (by omega)] at cE
 have cT:=top_any B go n cap w hC.c0 hn
 have f0:∀ W,Below w.heap.size w W->W.cell? ⟨go,n*8,none⟩=some (.pointer (some ⟨g,o+x.at_*21,none⟩)):=fun W h=>(h.cell (p:=⟨go,n*8,none⟩) hgo).trans hX.c0
 have f2:∀ W,Below w.heap.size w W->W.cell? ⟨go,n*8+2,none⟩=some (.int .i64 x.cnt):=fun W h=>(h.cell (p:=⟨go,n*8+2,none⟩) hgo).trans hX.c2
 have f3:∀ W,Below w.heap.size w W->W.cell? ⟨go,n*8+3,none⟩=some (.int .i64 x.last):=fun W h=>(h.cell (p:=⟨go,n*8+3,none⟩) hgo).trans hX.c3
 have f4:∀ W,Below w.heap.size w W->W.cell? ⟨g,o+x.at_*21,none⟩=some (.int .i64 8):=fun W h=>(h.cell (p:=⟨g,o+x.at_*21,none⟩) hg).trans hT
 have cP:=isPart_any op
 have cY:=isType_any op
 have cO:=fun W=>endOf_any 8 W (by omega)
 clear hC hX hT
 unfold mayP
 rw[if_neg (by omega),if_neg (by omega),if_neg (by omega),if_pos rfl]
 rcases Bool.eq_false_or_eq_true (tyO op) with q2|q2
 all_goals
  rw[q2] at cY ⊢
  go_enter Tryz.func85,Tryz.ntmps85
  go_wp2_with (first|(go_at_call 91;refine cE.mono ?_;rintro _ _ ⟨rfl,rfl⟩)|(go_at_call 92;refine cT.mono ?_;rintro _ w1 ⟨rfl,hb⟩;have y0:=f0 _ hb;have y2:=f2 _ hb;have y3:=f3 _ hb;have y4:=f4 _ hb;clear f0 f2 f3 f4)|(go_at_call 118;refine(cO _).mono ?_;rintro _ _ ⟨rfl,rfl⟩)|(go_at_call 119;refine(cP _).mono ?_;rintro _ _ ⟨rfl,rfl⟩)|(go_at_call 120;refine(cY _).mono ?_;rintro _ _ ⟨rfl,rfl⟩))
  go_ret
  exact⟨rb (by rw[Bool.eq_iff_iff];simp),hb⟩
theorem mayStand_10 (B gf go n cap g o m1 m2 m3:Nat) (i op:Int) (rl:Value) (dep:Nat->Int) (wh:Bool) (x:Sv) (w:World) (hC:CkC w B gf (.slice (some ⟨go,0,none⟩) (n+1) cap) i rl m1 m2 m3 dep wh) (hX:ScC w g o go (n*8) x) (hgo:go<w.heap.size) (hg:g<w.heap.size) (hT:w.cell? ⟨g,o+x.at_*21,none⟩=some (.int .i64 10)) (hn:n<1000000000000) :
  Calls Tryz.prog 85 #[.pointer (some ⟨B,0,none⟩),.int .i64 op] w fun r w'=>r = .returned (.bool (mayP 10 x.last x.cnt op))/\Below w.heap.size w w':=by
 have cE:=isEmpty_any B (n+1) cap _ w hC.c0
 rw[show decide (n+1=0)=false from decide_eq_false (by omega)] at cE
 have cT:=top_any B go n cap w hC.c0 hn
 have f0:∀ W,Below w.heap.size w W->W.cell? ⟨go,n*8,none⟩=some (.pointer (some ⟨g,o+x.at_*21,none⟩)):=fun W h=>(h.cell (p:=⟨go,n*8,none⟩) hgo).trans hX.c0
 have f2:∀ W,Below w.heap.size w W->W.cell? ⟨go,n*8+2,none⟩=some (.int .i64 x.cnt):=fun W h=>(h.cell (p:=⟨go,n*8+2,none⟩) hgo).trans hX.c2
 have f3:∀ W,Below w.heap.size w W->W.cell? ⟨go,n*8+3,none⟩=some (.int .i64 x.last):=fun W h=>(h.cell (p:=⟨go,n*8+3,none⟩) hgo).trans hX.c3
 have f4:∀ W,Below w.heap.size w W->W.cell? ⟨g,o+x.at_*21,none⟩=some (.int .i64 10):=fun W h=>(h.cell (p:=⟨g,o+x.at_*21,none⟩) hg).trans hT
 have cP:=isPart_any op
 have cY:=isType_any op
 have cO:=fun W=>endOf_any 10 W (by omega)
 clear hC hX hT
 unfold mayP
 rw[if_neg (by omega),if_neg (by omega),if_pos (by omega)]
 by_cases q0:x.cnt=0
 ·have d0:(x.cnt==0)=true:=beq_iff_eq.2 q0
  have d1:decide (0<x.cnt)=false:=decide_eq_false (by omega)
  by_cases q1:op=14
  ·subst q1
   go_enter Tryz.func85,Tryz.ntmps85
   go_wp2_with (first|(go_at_call 91;refine cE.mono ?_;rintro _ _ ⟨rfl,rfl⟩)|(go_at_call 92;refine cT.mono ?_;rintro _ w1 ⟨rfl,hb⟩;have y0:=f0 _ hb;have y2:=f2 _ hb;have y3:=f3 _ hb;have y4:=f4 _ hb;clear f0 f2 f3 f4)|(go_at_call 118;refine(cO _).mono ?_;rintro _ _ ⟨rfl,rfl⟩)|(go_at_call 119;refine(cP _).mono ?_;rintro _ _ ⟨rfl,rfl⟩)|(go_at_call 120;refine(cY _).mono ?_;rintro _ _ ⟨rfl,rfl⟩))
   go_ret
   exact⟨rb (by simp[q0]),hb⟩
  ·have d2:(op==14)=false:=beqN q1
   go_enter Tryz.func85,Tryz.ntmps85
   go_wp2_with (first|(go_at_call 91;refine cE.mono ?_;rintro _ _ ⟨rfl,rfl⟩)|(go_at_call 92;refine cT.mono ?_;rintro _ w1 ⟨rfl,hb⟩;have y0:=f0 _ hb;have y2:=f2 _ hb;have y3:=f3 _ hb;have y4:=f4 _ hb;clear f0 f2 f3 f4)|(go_at_call 118;refine(cO _).mono ?_;rintro _ _ ⟨rfl,rfl⟩)|(go_at_call 119;refine(cP _).mono ?_;rintro _ _ ⟨rfl,rfl⟩)|(go_at_call 120;refine(cY _).mono ?_;rintro _ _ ⟨rfl,rfl⟩))
   go_ret
   exact⟨rb (by simp[q0,q1]),hb⟩
 ·have d0:(x.cnt==0)=false:=beqN q0
  by_cases q1:0<x.cnt
  ·have d1:decide (0<x.cnt)=true:=decide_eq_true q1
   by_cases q2:op=15
   ·subst q2
    go_enter Tryz.func85,Tryz.ntmps85
    go_wp2_with (first|(go_at_call 91;refine cE.mono ?_;rintro _ _ ⟨rfl,rfl⟩)|(go_at_call 92;refine cT.mono ?_;rintro _ w1 ⟨rfl,hb⟩;have y0:=f0 _ hb;have y2:=f2 _ hb;have y3:=f3 _ hb;have y4:=f4 _ hb;clear f0 f2 f3 f4)|(go_at_call 118;refine(cO _).mono ?_;rintro _ _ ⟨rfl,rfl⟩)|(go_at_call 119;refine(cP _).mono ?_;rintro _ _ ⟨rfl,rfl⟩)|(go_at_call 120;refine(cY _).mono ?_;rintro _ _ ⟨rfl,rfl⟩))
    go_ret
    exact⟨rb (by simp[q1]),hb⟩
   ·have d2:(op==15)=false:=beqN q2
    go_enter Tryz.func85,Tryz.ntmps85
    go_wp2_with (first|(go_at_call 91;refine cE.mono ?_;rintro _ _ ⟨rfl,rfl⟩)|(go_at_call 92;refine cT.mono ?_;rintro _ w1 ⟨rfl,hb⟩;have y0:=f0 _ hb;have y2:=f2 _ hb;have y3:=f3 _ hb;have y4:=f4 _ hb;clear f0 f2 f3 f4)|(go_at_call 118;refine(cO _).mono ?_;rintro _ _ ⟨rfl,rfl⟩)|(go_at_call 119;refine(cP _).mono ?_;rintro _ _ ⟨rfl,rfl⟩)|(go_at_call 120;refine(cY _).mono ?_;rintro _ _ ⟨rfl,rfl⟩))
    go_ret
    exact⟨rb (by rw[beqD];simp[q0,q1,q2]),hb⟩
  ·have d1:decide (0<x.cnt)=false:=decide_eq_false q1
   go_enter Tryz.func85,Tryz.ntmps85
   go_wp2_with (first|(go_at_call 91;refine cE.mono ?_;rintro _ _ ⟨rfl,rfl⟩)|(go_at_call 92;refine cT.mono ?_;rintro _ w1 ⟨rfl,hb⟩;have y0:=f0 _ hb;have y2:=f2 _ hb;have y3:=f3 _ hb;have y4:=f4 _ hb;clear f0 f2 f3 f4)|(go_at_call 118;refine(cO _).mono ?_;rintro _ _ ⟨rfl,rfl⟩)|(go_at_call 119;refine(cP _).mono ?_;rintro _ _ ⟨rfl,rfl⟩)|(go_at_call 120;refine(cY _).mono ?_;rintro _ _ ⟨rfl,rfl⟩))
   go_ret
   exact⟨rb (by rw[decide_eq_false q0,decide_eq_false (show ¬ 0<x.cnt by omega)];rfl),hb⟩
theorem mayStand_12 (B gf go n cap g o m1 m2 m3:Nat) (i op:Int) (rl:Value) (dep:Nat->Int) (wh:Bool) (x:Sv) (w:World) (hC:CkC w B gf (.slice (some ⟨go,0,none⟩) (n+1) cap) i rl m1 m2 m3 dep wh) (hX:ScC w g o go (n*8) x) (hgo:go<w.heap.size) (hg:g<w.heap.size) (hT:w.cell? ⟨g,o+x.at_*21,none⟩=some (.int .i64 12)) (hn:n<1000000000000) :
  Calls Tryz.prog 85 #[.pointer (some ⟨B,0,none⟩),.int .i64 op] w fun r w'=>r = .returned (.bool (mayP 12 x.last x.cnt op))/\Below w.heap.size w w':=by
 have cE:=isEmpty_any B (n+1) cap _ w hC.c0
 rw[show decide (n+1=0)=false from decide_eq_false (by omega)] at cE
 have cT:=top_any B go n cap w hC.c0 hn
 have f0:∀ W,Below w.heap.size w W->W.cell? ⟨go,n*8,none⟩=some (.pointer (some ⟨g,o+x.at_*21,none⟩)):=fun W h=>(h.cell (p:=⟨go,n*8,none⟩) hgo).trans hX.c0
 have f2:∀ W,Below w.heap.size w W->W.cell? ⟨go,n*8+2,none⟩=some (.int .i64 x.cnt):=fun W h=>(h.cell (p:=⟨go,n*8+2,none⟩) hgo).trans hX.c2
 have f3:∀ W,Below w.heap.size w W->W.cell? ⟨go,n*8+3,none⟩=some (.int .i64 x.last):=fun W h=>(h.cell (p:=⟨go,n*8+3,none⟩) hgo).trans hX.c3
 have f4:∀ W,Below w.heap.size w W->W.cell? ⟨g,o+x.at_*21,none⟩=some (.int .i64 12):=fun W h=>(h.cell (p:=⟨g,o+x.at_*21,none⟩) hg).trans hT
 have cP:=isPart_any op
 have cY:=isType_any op
 have cO:=fun W=>endOf_any 12 W (by omega)
 clear hC hX hT
 unfold mayP
 rw[if_neg (by omega),if_neg (by omega),if_pos (by omega)]
 by_cases q0:x.cnt=0
 ·have d0:(x.cnt==0)=true:=beq_iff_eq.2 q0
  have d1:decide (0<x.cnt)=false:=decide_eq_false (by omega)
  by_cases q1:op=14
  ·subst q1
   go_enter Tryz.func85,Tryz.ntmps85
   go_wp2_with (first|(go_at_call 91;refine cE.mono ?_;rintro _ _ ⟨rfl,rfl⟩)|(go_at_call 92;refine cT.mono ?_;rintro _ w1 ⟨rfl,hb⟩;have y0:=f0 _ hb;have y2:=f2 _ hb;have y3:=f3 _ hb;have y4:=f4 _ hb;clear f0 f2 f3 f4)|(go_at_call 118;refine(cO _).mono ?_;rintro _ _ ⟨rfl,rfl⟩)|(go_at_call 119;refine(cP _).mono ?_;rintro _ _ ⟨rfl,rfl⟩)|(go_at_call 120;refine(cY _).mono ?_;rintro _ _ ⟨rfl,rfl⟩))
   go_ret
   exact⟨rb (by simp[q0]),hb⟩
  ·have d2:(op==14)=false:=beqN q1
   go_enter Tryz.func85,Tryz.ntmps85
   go_wp2_with (first|(go_at_call 91;refine cE.mono ?_;rintro _ _ ⟨rfl,rfl⟩)|(go_at_call 92;refine cT.mono ?_;rintro _ w1 ⟨rfl,hb⟩;have y0:=f0 _ hb;have y2:=f2 _ hb;have y3:=f3 _ hb;have y4:=f4 _ hb;clear f0 f2 f3 f4)|(go_at_call 118;refine(cO _).mono ?_;rintro _ _ ⟨rfl,rfl⟩)|(go_at_call 119;refine(cP _).mono ?_;rintro _ _ ⟨rfl,rfl⟩)|(go_at_call 120;refine(cY _).mono ?_;rintro _ _ ⟨rfl,rfl⟩))
   go_ret
   exact⟨rb (by simp[q0,q1]),hb⟩
 ·have d0:(x.cnt==0)=false:=beqN q0
  by_cases q1:0<x.cnt
  ·have d1:decide (0<x.cnt)=true:=decide_eq_true q1
   by_cases q2:op=15
   ·subst q2
    go_enter Tryz.func85,Tryz.ntmps85
    go_wp2_with (first|(go_at_call 91;refine cE.mono ?_;rintro _ _ ⟨rfl,rfl⟩)|(go_at_call 92;refine cT.mono ?_;rintro _ w1 ⟨rfl,hb⟩;have y0:=f0 _ hb;have y2:=f2 _ hb;have y3:=f3 _ hb;have y4:=f4 _ hb;clear f0 f2 f3 f4)|(go_at_call 118;refine(cO _).mono ?_;rintro _ _ ⟨rfl,rfl⟩)|(go_at_call 119;refine(cP _).mono ?_;rintro _ _ ⟨rfl,rfl⟩)|(go_at_call 120;refine(cY _).mono ?_;rintro _ _ ⟨rfl,rfl⟩))
    go_ret
    exact⟨rb (by simp[q1]),hb⟩
   ·have d2:(op==15)=false:=beqN q2
    go_enter Tryz.func85,Tryz.ntmps85
    go_wp2_with (first|(go_at_call 91;refine cE.mono ?_;rintro _ _ ⟨rfl,rfl⟩)|(go_at_call 92;refine cT.mono ?_;rintro _ w1 ⟨rfl,hb⟩;have y0:=f0 _ hb;have y2:=f2 _ hb;have y3:=f3 _ hb;have y4:=f4 _ hb;clear f0 f2 f3 f4)|(go_at_call 118;refine(cO _).mono ?_;rintro _ _ ⟨rfl,rfl⟩)|(go_at_call 119;refine(cP _).mono ?_;rintro _ _ ⟨rfl,rfl⟩)|(go_at_call 120;refine(cY _).mono ?_;rintro _ _ ⟨rfl,rfl⟩))
    go_ret
    exact⟨rb (by rw[beqD];simp[q0,q1,q2]),hb⟩
  ·have d1:decide (0<x.cnt)=false:=decide_eq_false q1
   go_enter Tryz.func85,Tryz.ntmps85
   go_wp2_with (first|(go_at_call 91;refine cE.mono ?_;rintro _ _ ⟨rfl,rfl⟩)|(go_at_call 92;refine cT.mono ?_;rintro _ w1 ⟨rfl,hb⟩;have y0:=f0 _ hb;have y2:=f2 _ hb;have y3:=f3 _ hb;have y4:=f4 _ hb;clear f0 f2 f3 f4)|(go_at_call 118;refine(cO _).mono ?_;rintro _ _ ⟨rfl,rfl⟩)|(go_at_call 119;refine(cP _).mono ?_;rintro _ _ ⟨rfl,rfl⟩)|(go_at_call 120;refine(cY _).mono ?_;rintro _ _ ⟨rfl,rfl⟩))
   go_ret
   exact⟨rb (by rw[decide_eq_false q0,decide_eq_false (show ¬ 0<x.cnt by omega)];rfl),hb⟩
theorem mayStand_any (B gf go n cap g o m1 m2 m3:Nat) (i op xo:Int) (rl:Value) (dep:Nat->Int) (wh:Bool) (x:Sv) (w:World) (hC:CkC w B gf (.slice (some ⟨go,0,none⟩) (n+1) cap) i rl m1 m2 m3 dep wh) (hX:ScC w g o go (n*8) x) (hgo:go<w.heap.size) (hg:g<w.heap.size) (hT:w.cell? ⟨g,o+x.at_*21,none⟩=some (.int .i64 xo)) (hn:n<1000000000000) (hxo:bgO xo=true) :
  Calls Tryz.prog 85 #[.pointer (some ⟨B,0,none⟩),.int .i64 op] w fun r w'=>r = .returned (.bool (mayP xo x.last x.cnt op))/\Below w.heap.size w w':=by
 unfold bgO at hxo
 rcases decT hxo with rfl|rfl|rfl|rfl|rfl|rfl|rfl
 ·exact mayStand_0 B gf go n cap g o m1 m2 m3 i op rl dep wh x w hC hX hgo hg hT hn
 ·exact mayStand_2 B gf go n cap g o m1 m2 m3 i op rl dep wh x w hC hX hgo hg hT hn
 ·exact mayStand_4 B gf go n cap g o m1 m2 m3 i op rl dep wh x w hC hX hgo hg hT hn
 ·exact mayStand_6 B gf go n cap g o m1 m2 m3 i op rl dep wh x w hC hX hgo hg hT hn
 ·exact mayStand_8 B gf go n cap g o m1 m2 m3 i op rl dep wh x w hC hX hgo hg hT hn
 ·exact mayStand_10 B gf go n cap g o m1 m2 m3 i op rl dep wh x w hC hX hgo hg hT hn
 ·exact mayStand_12 B gf go n cap g o m1 m2 m3 i op rl dep wh x w hC hX hgo hg hT hn
def svOf (l:List Tk) (s:Sc):Sv:=⟨s.at_,s.kids.length,lastOp l s,s.fld,s.row,max s.e0 s.tk.off,codP l s⟩
def stp (x:Sv) (op:Int):Sv:={ x with cnt:=x.cnt+1,last:=op }
theorem beqd (a b:Int):(a==b)=decide (a=b):=by
 by_cases h:a=b<;>simp[h]
theorem may_eq (l:List Tk) (s:Sc) (op:Int):mayP s.tk.op (lastOp l s) (s.kids.length:Int) op=mayB l s op:=by
 unfold mayP mayB
 have h0:decide ((s.kids.length:Int)=0)=decide (s.kids.length=0):=by simp
 have h1:decide ((s.kids.length:Int)=1)=decide (s.kids.length=1):=decide_eq_decide.2 (by omega)
 have h2:decide (0<(s.kids.length:Int))=decide (s.kids.length≠0):=decide_eq_decide.2 (by omega)
 rw[h0,h1,h2]
theorem cod_eq (s:Sc) (t:Tk):codT s.tk t=codB s t:=by
 unfold codT codB
 simp[Bool.and_assoc]
theorem mem_eq (l:List Tk) (s:Sc) (t:Tk):memT (svOf l s) s.tk t=memB s t:=by
 have e:(svOf l s).en=max s.e0 s.tk.off:=rfl
 rw[Bool.eq_iff_iff]
 unfold memT memB bet
 simp only[Bool.and_eq_true,Bool.or_eq_true,decide_eq_true_eq]
 rw[e]
 omega
theorem plc_eq (l:List Tk) (s:Sc) (t:Tk):plcT (svOf l s) s.tk t=plcB s t:=by
 unfold plcT plcB
 rw[cod_eq,mem_eq]
 by_cases h2:s.tk.op=2
 ·simp[h2]
 by_cases h10:s.tk.op=10
 ·simp[h10,Bool.and_assoc]
 ·simp[h2,h10]
theorem row_eq (f:Fm) (s:Sc) (t:Tk):rowT f (svOf f.toks s) s.tk t=rowB f s t:=rfl
theorem new_eq (l:List Tk) (ids:List Int) (s:Sc) (t:Tk):nwT t (!(ids.contains t.id)) (!(nameIn l s.kids t.name))=newB l ids s t:=rfl
theorem dat_eq (f:Fm) (ids:List Int) (s:Sc) (t:Tk):datT f (svOf f.toks s) s.tk t (!(ids.contains t.id)) (!(nameIn f.toks s.kids t.name))=datB f ids s t:=by
 unfold datT datB
 rw[row_eq,new_eq]
 simp[Bool.decide_or,beqd]
theorem grp_eq (f:Fm) (o:List Sc) (ids:List Int) (s:Sc) (t:Tk):grpT f (svOf f.toks s) s.tk t (!(ids.contains t.id)) (!(nameIn f.toks s.kids t.name)) (depB 4 o:Int)=grpB f o ids s t:=by
 unfold grpT grpB
 rw[row_eq,new_eq]
 have h:decide ((depB 4 o:Int)<8)=decide (depB 4 o<8):=decide_eq_decide.2 (by omega)
 rw[h]
 simp[spOk]
theorem cmp_eq (l:List Tk) (o:List Sc) (s:Sc) (t:Tk):cmpT (svOf l s) s.tk t (depB 8 o:Int)=cmpB o s t:=by
 unfold cmpT cmpB
 rw[plc_eq]
 have h:decide ((depB 8 o:Int)<16)=decide (depB 8 o<16):=decide_eq_decide.2 (by omega)
 rw[h]
theorem enc_eq (l:List Tk) (s:Sc) (t:Tk):encT (svOf l s) s.tk t=encB s t:=by
 unfold encT encB
 rw[plc_eq]
 by_cases h:t.pres=2
 ·simp[h,Bool.and_assoc,beqd]
 ·simp[h,Bool.and_assoc,beqd]
theorem cho_eq (l:List Tk) (s:Sc) (t:Tk):choT (svOf l s) s.tk t (!(nameIn l s.kids.tail t.name)) (!(valIn l s.kids.tail t.val))=choB l s t:=rfl
theorem in_eq (l:List Tk) (i:Nat) (s:Sc) (t u:Tk) (hu:l[i+1]?=some u) (h0:s.tk.off=0) (he:0<=s.e0):inT (svOf l s) s.tk t u=inB l i s t:=by
 unfold inT inB
 rw[hu]
 by_cases h:t.siz=0
 ·simp[h]
 ·simp only[h,if_false]
  have e:(svOf l s).en=max s.e0 s.tk.off:=rfl
  congr 1
  rw[Bool.eq_iff_iff]
  unfold bet
  simp only[Bool.and_eq_true,decide_eq_true_eq]
  rw[e]
  omega
theorem fld_eq (f:Fm) (ids:List Int) (i:Nat) (s:Sc) (t u:Tk) (hu:f.toks[i+1]?=some u) (h0:s.tk.off=0) (he:0<=s.e0):fldT f (svOf f.toks s) s.tk t u (!(ids.contains t.id)) (!(nameIn f.toks s.kids t.name))=fldB f ids i s t:=by
 unfold fldT fldB
 rw[new_eq,in_eq f.toks i s t u hu h0 he]
 by_cases e0:t.pres=0
 ·simp[e0,beqd,svOf]
 by_cases e1:t.pres=1
 ·simp[e1,svOf]
 by_cases e2:t.pres=2
 ·simp only[e2,beqd,svOf]
  have h:decide (0<t.cst.length)=decide (t.cst.length≠0):=decide_eq_decide.2 (by omega)
  simp[h,Bool.decide_and,Bool.and_assoc]
 ·simp[e0,e1,e2]
theorem last_met (l:List Tk) (s:Sc) (i:Nat) (t:Tk) (ht:l[i]?=some t):lastOp l (metX s i t)=t.op:=by
 unfold lastOp metX
 simp[ht]
theorem len_met (s:Sc) (i:Nat) (t:Tk):((metX s i t).kids.length:Int)=(s.kids.length:Int)+1:=by
 unfold metX
 simp
theorem cod_met {l:List Tk} {s:Sc} (i:Nat) (t:Tk) (ht:l[i]?=some t) (hk:(s.tk.op=10\/s.tk.op=12)->s.kids=[]->i=s.at_+1) :
  codP l (metX s i t)=if (s.tk.op=10\/s.tk.op=12)/\s.kids=[] then t.prim else codP l s:=by
 have e1:(metX s i t).tk=s.tk:=rfl
 have e2:(metX s i t).at_=s.at_:=rfl
 have e3:(metX s i t).kids=s.kids++[i]:=rfl
 unfold codP
 rw[e1,e2,e3]
 by_cases h:s.tk.op=10\/s.tk.op=12
 ·rw[if_pos (⟨h,by simp⟩:(s.tk.op=10\/s.tk.op=12)/\(s.kids++[i]).length≠0)]
  by_cases hn:s.kids=[]
  ·rw[if_pos ⟨h,hn⟩,<- hk h hn,ht]
  ·rw[if_neg (fun e=>hn e.2),if_pos ⟨h,fun e=>hn (List.length_eq_zero_iff.1 e)⟩]
 ·rw[if_neg (fun e=>h e.1),if_neg (fun e=>h e.1),if_neg (fun e=>h e.1)]
theorem sv_ext {a b:Sv} (h1:a.at_=b.at_) (h2:a.cnt=b.cnt) (h3:a.last=b.last) (h4:a.fld=b.fld) (h5:a.row=b.row) (h6:a.en=b.en) (h7:a.cod=b.cod):a=b:=by
 cases a;cases b
 simp only at h1 h2 h3 h4 h5 h6 h7
 subst h1 h2 h3 h4 h5 h6 h7
 rfl
theorem mem_at (x:Sv) (t:Tk):(memX x t).at_=x.at_/\(memX x t).cnt=x.cnt/\(memX x t).last=x.last/\(memX x t).fld=x.fld/\(memX x t).row=x.row/\(memX x t).cod=x.cod/\(memX x t).en=if t.siz=0 then x.en else t.off+t.siz:=by
 unfold memX
 split<;>simp
theorem met_sv {l:List Tk} {s:Sc} {i:Nat} {t:Tk} (ht:l[i]?=some t) (y:Sv) (a:y.at_=s.at_) (c:y.cnt=s.kids.length) (fl:y.fld=if t.op=2 then t.since else s.fld) (rw_:y.row=if (t.op=4\/t.op=6)/\s.tk.op≠4 then t.since else s.row)
  (en:y.en=max (if 0<t.siz/\((t.op=2/\t.pres≠2)\/s.tk.op=8) then t.off+t.siz else s.e0) s.tk.off) (cd:y.cod=codP l (metX s i t)):stp y t.op=svOf l (metX s i t) :=
 sv_ext a (by show y.cnt+1=((metX s i t).kids.length:Int);rw[len_met,c]) (last_met l s i t ht).symm fl rw_ en cd
theorem left_fld {f:Fm} {ids:List Int} {s:Sc} {i:Nat} {t:Tk} (ht:f.toks[i]?=some t) (h2:t.op=2) (hx:s.tk.op=0\/s.tk.op=4) (h0:s.tk.off=0) (he:0<=s.e0) (hb:s.tk.blk<=65535) (hr:fldB f ids i s t=true) :
  stp (fldX (svOf f.toks s) t) t.op=svOf f.toks (metX s i t):=by
 have hB:=fld_b hr he hb
 have hc:=cod_met (s:=s) i t ht (by omega)
 rw[if_neg (by omega)] at hc
 have hm:=mem_at { svOf f.toks s with fld:=t.since } t
 have hen:(svOf f.toks s).en=max s.e0 s.tk.off:=rfl
 unfold fldX
 by_cases hp:t.pres=2
 ·rw[if_pos hp]
  refine met_sv ht _ rfl rfl (by rw[if_pos h2]) (by rw[if_neg (by omega)];rfl) ?_ (by rw[hc];rfl)
  rw[if_neg (by omega)]
  exact hen
 ·rw[if_neg hp]
  refine met_sv ht _ (hm.1.trans rfl) (hm.2.1.trans rfl) (by rw[if_pos h2];exact hm.2.2.2.1) (by rw[if_neg (by omega)];exact hm.2.2.2.2.1) ?_ (by rw[hc];exact hm.2.2.2.2.2.1)
  rw[hm.2.2.2.2.2.2]
  show (if t.siz=0 then (svOf f.toks s).en else t.off+t.siz)=_
  rw[hen]
  by_cases hz:t.siz=0
  ·rw[if_pos hz,if_neg (by omega)]
  ·rw[if_neg hz,if_pos (by omega)]
   omega
theorem left_row {f:Fm} {s:Sc} {i:Nat} {t:Tk} (ht:f.toks[i]?=some t) (h2:t.op=4\/t.op=6) (hx:s.tk.op=0\/s.tk.op=4) :
  stp (rowX (svOf f.toks s) s.tk t) t.op=svOf f.toks (metX s i t):=by
 have hc:=cod_met (s:=s) i t ht (by omega)
 rw[if_neg (by omega)] at hc
 unfold rowX
 by_cases hp:s.tk.op=4
 ·rw[if_pos hp]
  refine met_sv ht _ rfl rfl (by rw[if_neg (by omega)];rfl) (by rw[if_neg (by omega)];rfl) ?_ (by rw[hc];rfl)
  rw[if_neg (by omega)]
  rfl
 ·rw[if_neg hp]
  refine met_sv ht _ rfl rfl (by rw[if_neg (by omega)];rfl) (by rw[if_pos (by omega)]) ?_ (by rw[hc];rfl)
  rw[if_neg (by omega)]
  rfl
theorem left_typ {l:List Tk} {s:Sc} {i:Nat} {t:Tk} (ht:l[i]?=some t) (h2:tyO t.op=true) (hx:s.tk.op=2\/s.tk.op=8\/((s.tk.op=10\/s.tk.op=12)/\s.kids=[]/\i=s.at_+1)) (hr:plcB s t=true) :
  stp (plcX (svOf l s) s.tk t) t.op=svOf l (metX s i t):=by
 have h2:=decT h2
 have hen:(svOf l s).en=max s.e0 s.tk.off:=rfl
 have hm:=mem_at (svOf l s) t
 unfold plcX
 rcases hx with hx|hx|⟨hx,hk,hi⟩
 ·have hc:=cod_met (s:=s) i t ht (by omega)
  rw[if_neg (by omega)] at hc
  rw[if_pos hx]
  refine met_sv ht _ rfl rfl (by rw[if_neg (by omega)];rfl) (by rw[if_neg (by omega)];rfl) ?_ (by rw[hc];rfl)
  rw[if_neg (by omega)]
  exact hen
 ·have hc:=cod_met (s:=s) i t ht (by omega)
  rw[if_neg (by omega)] at hc
  rw[if_neg (by omega),if_neg (by omega)]
  have hM:memB s t=true:=by
   unfold plcB at hr
   simp only[Bool.and_eq_true] at hr
   have h3:=hr.2
   rwa [if_neg (by omega),if_neg (by omega),if_neg (by omega)] at h3
  have hS:0<=t.siz:=by
   unfold plcB at hr
   simp only[Bool.and_eq_true] at hr
   exact(betT hr.1.1).1
  have hM:=decT hM
  refine met_sv ht _ hm.1 hm.2.1 (by rw[if_neg (by omega)];exact hm.2.2.2.1) (by rw[if_neg (by omega)];exact hm.2.2.2.2.1) ?_ (by rw[hc];exact hm.2.2.2.2.2.1)
  rw[hm.2.2.2.2.2.2,hen]
  by_cases hz:t.siz=0
  ·rw[if_pos hz,if_neg (by omega)]
  ·rw[if_neg hz,if_pos (by omega)]
   omega
 ·have hc:=cod_met (s:=s) i t ht (fun _ _=>hi)
  rw[if_pos ⟨hx,hk⟩] at hc
  rw[if_neg (by omega),if_pos hx]
  refine met_sv ht _ rfl rfl (by rw[if_neg (by omega)];rfl) (by rw[if_neg (by omega)];rfl) ?_ (by rw[hc])
  rw[if_neg (by omega)]
  exact hen
theorem left_cho {l:List Tk} {s:Sc} {i:Nat} {t:Tk} (ht:l[i]?=some t) (h2:t.op=15) (hx:s.tk.op=10\/s.tk.op=12) (hk:s.kids≠[]) :
  stp (svOf l s) t.op=svOf l (metX s i t):=by
 have hc:=cod_met (s:=s) i t ht (fun _ e=>absurd e hk)
 rw[if_neg (fun e=>hk e.2)] at hc
 refine met_sv ht _ rfl rfl (by rw[if_neg (by omega)];rfl) (by rw[if_neg (by omega)];rfl) ?_ (by rw[hc];rfl)
 rw[if_neg (by omega)]
 rfl
theorem left_new (l:List Tk) (i:Nat) (t:Tk) (ho:0<=t.off):svOf l (scNew i t)=⟨i,0,0,t.since,t.since,t.off,0⟩:=by
 refine sv_ext rfl rfl rfl rfl rfl ?_ ?_
 ·show max 0 t.off=t.off
  omega
 ·show codP l (scNew i t)=0
  unfold codP
  rw[if_neg (fun e=>e.2 rfl)]
end Go.Proofs.YtjlbcdnkglaheaaGreatDoor
