import Derived.Test.YtcgimchhcaankaaGreatDoorK08
namespace Go.Proofs.YtcgimchhcaankaaGreatDoor
set_option maxRecDepth 1000000
set_option maxHeartbeats 16000000
open Go.ChangeShapes Go.WideShapes Go.ChangeAt Go.RowKit Go.Shelf
def mayP (xo last cnt op:Int):Bool :=
 if xo=0\/xo=4 then decide (op=xo+1)||(ptO op&&decide (last<=op))
 else if xo=2 then (decide (cnt=0)&&tyO op)||(decide (cnt=1)&&decide (op=xo+1))
 else if xo=10\/xo=12 then (decide (cnt=0)&&decide (op=14))||(decide (0<cnt)&&(decide (op=15)||decide (op=xo+1)))
 else if xo=8 then tyO op||decide (op=xo+1)
 else decide (op=xo+1)
theorem mayStand_none (B gf cap m1 m2 m3:Nat) (p:Option Addr) (i op:Int) (rl:Value) (dep:Nat->Int) (wh:Bool) (w:World) (hC:CkC w B gf (.slice p 0 cap) i rl m1 m2 m3 dep wh) :
  Calls Tryz.prog 95 #[.pointer (some ⟨B,0,none⟩),.int .i64 op] w fun r w'=>r = .returned (.bool (decide (op=0) && !wh))/\Below w.heap.size w w':=by
 have cE:=isEmpty_any B 0 cap p w hC.c0
 have c23:=hC.c23
 rw[show decide ((0:Nat)=0)=true from rfl] at cE
 by_cases h0:op=0
 ·subst h0
  go_enter Tryz.func95,Tryz.ntmps95
  go_wp2_with (go_at_call 101;refine cE.mono ?_;rintro _ _ ⟨rfl,rfl⟩)
  go_ret
  exact⟨rfl,Below.refl _ _⟩
 ·have d0:(op==0)=false:=beqN h0
  rw[decide_eq_false h0]
  go_enter Tryz.func95,Tryz.ntmps95
  go_wp2_with (go_at_call 101;refine cE.mono ?_;rintro _ _ ⟨rfl,rfl⟩)
  go_ret
  exact⟨rfl,Below.refl _ _⟩
theorem mayStand_0 (B gf go n cap g o m1 m2 m3:Nat) (i op:Int) (rl:Value) (dep:Nat->Int) (wh:Bool) (x:Sv) (w:World) (hC:CkC w B gf (.slice (some ⟨go,0,none⟩) (n+1) cap) i rl m1 m2 m3 dep wh) (hX:ScC w g o go (n*8) x) (hgo:go<w.heap.size) (hg:g<w.heap.size) (hT:w.cell? ⟨g,o+x.at_*21,none⟩=some (.int .i64 0)) (hn:n<1000000000000) :
  Calls Tryz.prog 95 #[.pointer (some ⟨B,0,none⟩),.int .i64 op] w fun r w'=>r = .returned (.bool (mayP 0 x.last x.cnt op))/\Below w.heap.size w w':=by
 have cE:=isEmpty_any B (n+1) cap _ w hC.c0
 rw[show decide (n+1=0)=false from decide_eq_false (by omega)] at cE
 have cT:=top_any B go n cap w hC.c0 hn
 have f0:∀ W,Below w.heap.size w W->W.cell? ⟨go,n*8,none⟩=some (.pointer (some ⟨g,o+x.at_*21,none⟩)):=fun W h=>(h.cell (p:=⟨go,n*8,none⟩) hgo).trans hX.c0
 have f2:∀ W,Below w.heap.size w W->W.cell? ⟨go,n*8+2,none⟩=some (.int .i64 x.cnt):=fun W h=>(h.cell (p:=⟨go,n*8+2,none⟩) hgo).trans hX.c2
 have f3:∀ W,Below w.heap.size w W->W.cell? ⟨go,n*8+3,none⟩=some (.int .i64 x.last):=fun W h=>(h.cell (p:=⟨go,n*8+3,none⟩) hgo).trans hX.c3
 have f4:∀ W,Below w.heap.size w W->W.cell? ⟨g,o+x.at_*21,none⟩=some (.int .i64 0):=fun W h=>(h.cell (p:=⟨g,o+x.at_*21,none⟩) hg).trans hT
 have cP:=isPart_any op
 have cY:=isType_any op
 have cO:=fun W=>endOf_any 0 W (by omega)
 clear hC hX hT
 unfold mayP
 rw[if_pos (by omega)]
 by_cases q1:op=1
 ·subst q1
  go_enter Tryz.func95,Tryz.ntmps95
  go_wp2_with (first|(go_at_call 101;refine cE.mono ?_;rintro _ _ ⟨rfl,rfl⟩)|(go_at_call 102;refine cT.mono ?_;rintro _ w1 ⟨rfl,hb⟩;have y0:=f0 _ hb;have y2:=f2 _ hb;have y3:=f3 _ hb;have y4:=f4 _ hb;clear f0 f2 f3 f4)|(go_at_call 126;refine(cO _).mono ?_;rintro _ _ ⟨rfl,rfl⟩)|(go_at_call 127;refine(cP _).mono ?_;rintro _ _ ⟨rfl,rfl⟩)|(go_at_call 128;refine(cY _).mono ?_;rintro _ _ ⟨rfl,rfl⟩))
  go_ret
  exact⟨rb (by simp),hb⟩
 ·have d1:(op==1)=false:=beqN q1
  rcases Bool.eq_false_or_eq_true (ptO op) with q2|q2
  all_goals
   rw[q2] at cP ⊢
   go_enter Tryz.func95,Tryz.ntmps95
   go_wp2_with (first|(go_at_call 101;refine cE.mono ?_;rintro _ _ ⟨rfl,rfl⟩)|(go_at_call 102;refine cT.mono ?_;rintro _ w1 ⟨rfl,hb⟩;have y0:=f0 _ hb;have y2:=f2 _ hb;have y3:=f3 _ hb;have y4:=f4 _ hb;clear f0 f2 f3 f4)|(go_at_call 126;refine(cO _).mono ?_;rintro _ _ ⟨rfl,rfl⟩)|(go_at_call 127;refine(cP _).mono ?_;rintro _ _ ⟨rfl,rfl⟩)|(go_at_call 128;refine(cY _).mono ?_;rintro _ _ ⟨rfl,rfl⟩))
   go_ret
   exact⟨rb (by simp[q1]),hb⟩
theorem mayStand_2 (B gf go n cap g o m1 m2 m3:Nat) (i op:Int) (rl:Value) (dep:Nat->Int) (wh:Bool) (x:Sv) (w:World) (hC:CkC w B gf (.slice (some ⟨go,0,none⟩) (n+1) cap) i rl m1 m2 m3 dep wh) (hX:ScC w g o go (n*8) x) (hgo:go<w.heap.size) (hg:g<w.heap.size) (hT:w.cell? ⟨g,o+x.at_*21,none⟩=some (.int .i64 2)) (hn:n<1000000000000) :
  Calls Tryz.prog 95 #[.pointer (some ⟨B,0,none⟩),.int .i64 op] w fun r w'=>r = .returned (.bool (mayP 2 x.last x.cnt op))/\Below w.heap.size w w':=by
 have cE:=isEmpty_any B (n+1) cap _ w hC.c0
 rw[show decide (n+1=0)=false from decide_eq_false (by omega)] at cE
 have cT:=top_any B go n cap w hC.c0 hn
 have f0:∀ W,Below w.heap.size w W->W.cell? ⟨go,n*8,none⟩=some (.pointer (some ⟨g,o+x.at_*21,none⟩)):=fun W h=>(h.cell (p:=⟨go,n*8,none⟩) hgo).trans hX.c0
 have f2:∀ W,Below w.heap.size w W->W.cell? ⟨go,n*8+2,none⟩=some (.int .i64 x.cnt):=fun W h=>(h.cell (p:=⟨go,n*8+2,none⟩) hgo).trans hX.c2
 have f3:∀ W,Below w.heap.size w W->W.cell? ⟨go,n*8+3,none⟩=some (.int .i64 x.last):=fun W h=>(h.cell (p:=⟨go,n*8+3,none⟩) hgo).trans hX.c3
 have f4:∀ W,Below w.heap.size w W->W.cell? ⟨g,o+x.at_*21,none⟩=some (.int .i64 2):=fun W h=>(h.cell (p:=⟨g,o+x.at_*21,none⟩) hg).trans hT
 have cP:=isPart_any op
 have cY:=isType_any op
 have cO:=fun W=>endOf_any 2 W (by omega)
 clear hC hX hT
 unfold mayP
 rw[if_neg (by omega),if_pos rfl]
 by_cases q0:x.cnt=0
 ·have d0:(x.cnt==0)=true:=beq_iff_eq.2 q0
  have d1:(x.cnt==1)=false:=beqN (by omega)
  rcases Bool.eq_false_or_eq_true (tyO op) with q2|q2
  all_goals
   rw[q2] at cY ⊢
   go_enter Tryz.func95,Tryz.ntmps95
   go_wp2_with (first|(go_at_call 101;refine cE.mono ?_;rintro _ _ ⟨rfl,rfl⟩)|(go_at_call 102;refine cT.mono ?_;rintro _ w1 ⟨rfl,hb⟩;have y0:=f0 _ hb;have y2:=f2 _ hb;have y3:=f3 _ hb;have y4:=f4 _ hb;clear f0 f2 f3 f4)|(go_at_call 126;refine(cO _).mono ?_;rintro _ _ ⟨rfl,rfl⟩)|(go_at_call 127;refine(cP _).mono ?_;rintro _ _ ⟨rfl,rfl⟩)|(go_at_call 128;refine(cY _).mono ?_;rintro _ _ ⟨rfl,rfl⟩))
   go_ret
   exact⟨rb (by simp[q0]),hb⟩
 ·have d0:(x.cnt==0)=false:=beqN q0
  by_cases q1:x.cnt=1
  ·have d1:(x.cnt==1)=true:=beq_iff_eq.2 q1
   go_enter Tryz.func95,Tryz.ntmps95
   go_wp2_with (first|(go_at_call 101;refine cE.mono ?_;rintro _ _ ⟨rfl,rfl⟩)|(go_at_call 102;refine cT.mono ?_;rintro _ w1 ⟨rfl,hb⟩;have y0:=f0 _ hb;have y2:=f2 _ hb;have y3:=f3 _ hb;have y4:=f4 _ hb;clear f0 f2 f3 f4)|(go_at_call 126;refine(cO _).mono ?_;rintro _ _ ⟨rfl,rfl⟩)|(go_at_call 127;refine(cP _).mono ?_;rintro _ _ ⟨rfl,rfl⟩)|(go_at_call 128;refine(cY _).mono ?_;rintro _ _ ⟨rfl,rfl⟩))
   go_ret
   exact⟨rb (by rw[beqD];simp[q1]),hb⟩
  ·have d1:(x.cnt==1)=false:=beqN q1
   go_enter Tryz.func95,Tryz.ntmps95
   go_wp2_with (first|(go_at_call 101;refine cE.mono ?_;rintro _ _ ⟨rfl,rfl⟩)|(go_at_call 102;refine cT.mono ?_;rintro _ w1 ⟨rfl,hb⟩;have y0:=f0 _ hb;have y2:=f2 _ hb;have y3:=f3 _ hb;have y4:=f4 _ hb;clear f0 f2 f3 f4)|(go_at_call 126;refine(cO _).mono ?_;rintro _ _ ⟨rfl,rfl⟩)|(go_at_call 127;refine(cP _).mono ?_;rintro _ _ ⟨rfl,rfl⟩)|(go_at_call 128;refine(cY _).mono ?_;rintro _ _ ⟨rfl,rfl⟩))
   go_ret
   exact⟨rb (by simp[q0,q1]),hb⟩
theorem mayStand_4 (B gf go n cap g o m1 m2 m3:Nat) (i op:Int) (rl:Value) (dep:Nat->Int) (wh:Bool) (x:Sv) (w:World) (hC:CkC w B gf (.slice (some ⟨go,0,none⟩) (n+1) cap) i rl m1 m2 m3 dep wh) (hX:ScC w g o go (n*8) x) (hgo:go<w.heap.size) (hg:g<w.heap.size) (hT:w.cell? ⟨g,o+x.at_*21,none⟩=some (.int .i64 4)) (hn:n<1000000000000) :
  Calls Tryz.prog 95 #[.pointer (some ⟨B,0,none⟩),.int .i64 op] w fun r w'=>r = .returned (.bool (mayP 4 x.last x.cnt op))/\Below w.heap.size w w':=by
 have cE:=isEmpty_any B (n+1) cap _ w hC.c0
 rw[show decide (n+1=0)=false from decide_eq_false (by omega)] at cE
 have cT:=top_any B go n cap w hC.c0 hn
 have f0:∀ W,Below w.heap.size w W->W.cell? ⟨go,n*8,none⟩=some (.pointer (some ⟨g,o+x.at_*21,none⟩)):=fun W h=>(h.cell (p:=⟨go,n*8,none⟩) hgo).trans hX.c0
 have f2:∀ W,Below w.heap.size w W->W.cell? ⟨go,n*8+2,none⟩=some (.int .i64 x.cnt):=fun W h=>(h.cell (p:=⟨go,n*8+2,none⟩) hgo).trans hX.c2
 have f3:∀ W,Below w.heap.size w W->W.cell? ⟨go,n*8+3,none⟩=some (.int .i64 x.last):=fun W h=>(h.cell (p:=⟨go,n*8+3,none⟩) hgo).trans hX.c3
 have f4:∀ W,Below w.heap.size w W->W.cell? ⟨g,o+x.at_*21,none⟩=some (.int .i64 4):=fun W h=>(h.cell (p:=⟨g,o+x.at_*21,none⟩) hg).trans hT
 have cP:=isPart_any op
 have cY:=isType_any op
 have cO:=fun W=>endOf_any 4 W (by omega)
 clear hC hX hT
 unfold mayP
 rw[if_pos (by omega)]
 by_cases q1:op=5
 ·subst q1
  go_enter Tryz.func95,Tryz.ntmps95
  go_wp2_with (first|(go_at_call 101;refine cE.mono ?_;rintro _ _ ⟨rfl,rfl⟩)|(go_at_call 102;refine cT.mono ?_;rintro _ w1 ⟨rfl,hb⟩;have y0:=f0 _ hb;have y2:=f2 _ hb;have y3:=f3 _ hb;have y4:=f4 _ hb;clear f0 f2 f3 f4)|(go_at_call 126;refine(cO _).mono ?_;rintro _ _ ⟨rfl,rfl⟩)|(go_at_call 127;refine(cP _).mono ?_;rintro _ _ ⟨rfl,rfl⟩)|(go_at_call 128;refine(cY _).mono ?_;rintro _ _ ⟨rfl,rfl⟩))
  go_ret
  exact⟨rb (by simp),hb⟩
 ·have d1:(op==5)=false:=beqN q1
  rcases Bool.eq_false_or_eq_true (ptO op) with q2|q2
  all_goals
   rw[q2] at cP ⊢
   go_enter Tryz.func95,Tryz.ntmps95
   go_wp2_with (first|(go_at_call 101;refine cE.mono ?_;rintro _ _ ⟨rfl,rfl⟩)|(go_at_call 102;refine cT.mono ?_;rintro _ w1 ⟨rfl,hb⟩;have y0:=f0 _ hb;have y2:=f2 _ hb;have y3:=f3 _ hb;have y4:=f4 _ hb;clear f0 f2 f3 f4)|(go_at_call 126;refine(cO _).mono ?_;rintro _ _ ⟨rfl,rfl⟩)|(go_at_call 127;refine(cP _).mono ?_;rintro _ _ ⟨rfl,rfl⟩)|(go_at_call 128;refine(cY _).mono ?_;rintro _ _ ⟨rfl,rfl⟩))
   go_ret
   exact⟨rb (by simp[q1]),hb⟩
theorem mayStand_6 (B gf go n cap g o m1 m2 m3:Nat) (i op:Int) (rl:Value) (dep:Nat->Int) (wh:Bool) (x:Sv) (w:World) (hC:CkC w B gf (.slice (some ⟨go,0,none⟩) (n+1) cap) i rl m1 m2 m3 dep wh) (hX:ScC w g o go (n*8) x) (hgo:go<w.heap.size) (hg:g<w.heap.size) (hT:w.cell? ⟨g,o+x.at_*21,none⟩=some (.int .i64 6)) (hn:n<1000000000000) :
  Calls Tryz.prog 95 #[.pointer (some ⟨B,0,none⟩),.int .i64 op] w fun r w'=>r = .returned (.bool (mayP 6 x.last x.cnt op))/\Below w.heap.size w w':=by
 have cE:=isEmpty_any B (n+1) cap _ w hC.c0
 rw[show decide (n+1=0)=false from decide_eq_false (by omega)] at cE
 have cT:=top_any B go n cap w hC.c0 hn
 have f0:∀ W,Below w.heap.size w W->W.cell? ⟨go,n*8,none⟩=some (.pointer (some ⟨g,o+x.at_*21,none⟩)):=fun W h=>(h.cell (p:=⟨go,n*8,none⟩) hgo).trans hX.c0
 have f2:∀ W,Below w.heap.size w W->W.cell? ⟨go,n*8+2,none⟩=some (.int .i64 x.cnt):=fun W h=>(h.cell (p:=⟨go,n*8+2,none⟩) hgo).trans hX.c2
 have f3:∀ W,Below w.heap.size w W->W.cell? ⟨go,n*8+3,none⟩=some (.int .i64 x.last):=fun W h=>(h.cell (p:=⟨go,n*8+3,none⟩) hgo).trans hX.c3
 have f4:∀ W,Below w.heap.size w W->W.cell? ⟨g,o+x.at_*21,none⟩=some (.int .i64 6):=fun W h=>(h.cell (p:=⟨g,o+x.at_*21,none⟩) hg).trans hT
 have cP:=isPart_any op
 have cY:=isType_any op
 have cO:=fun W=>endOf_any 6 W (by omega)
 clear hC hX hT
 unfold mayP
 rw[if_neg (by omega),if_neg (by omega),if_neg (by omega),if_neg (by omega)]
 go_enter Tryz.func95,Tryz.ntmps95
 go_wp2_with (first|(go_at_call 101;refine cE.mono ?_;rintro _ _ ⟨rfl,rfl⟩)|(go_at_call 102;refine cT.mono ?_;rintro _ w1 ⟨rfl,hb⟩;have y0:=f0 _ hb;have y2:=f2 _ hb;have y3:=f3 _ hb;have y4:=f4 _ hb;clear f0 f2 f3 f4)|(go_at_call 126;refine(cO _).mono ?_;rintro _ _ ⟨rfl,rfl⟩)|(go_at_call 127;refine(cP _).mono ?_;rintro _ _ ⟨rfl,rfl⟩)|(go_at_call 128;refine(cY _).mono ?_;rintro _ _ ⟨rfl,rfl⟩))
 go_ret
 exact⟨rb (by rw[beqD];simp),hb⟩
theorem mayStand_8 (B gf go n cap g o m1 m2 m3:Nat) (i op:Int) (rl:Value) (dep:Nat->Int) (wh:Bool) (x:Sv) (w:World) (hC:CkC w B gf (.slice (some ⟨go,0,none⟩) (n+1) cap) i rl m1 m2 m3 dep wh) (hX:ScC w g o go (n*8) x) (hgo:go<w.heap.size) (hg:g<w.heap.size) (hT:w.cell? ⟨g,o+x.at_*21,none⟩=some (.int .i64 8)) (hn:n<1000000000000) :
  Calls Tryz.prog 95 #[.pointer (some ⟨B,0,none⟩),.int .i64 op] w fun r w'=>r = .returned (.bool (mayP 8 x.last x.cnt op))/\Below w.heap.size w w':=by
 have cE:=isEmpty_any B (n+1) cap _ w hC.c0
 rw[show decide (n+1=0)=false from decide_eq_false (by omega)] at cE
 have cT:=top_any B go n cap w hC.c0 hn
 have f0:∀ W,Below w.heap.size w W->W.cell? ⟨go,n*8,none⟩=some (.pointer (some ⟨g,o+x.at_*21,none⟩)):=fun W h=>(h.cell (p:=⟨go,n*8,none⟩) hgo).trans hX.c0
 have f2:∀ W,Below w.heap.size w W->W.cell? ⟨go,n*8+2,none⟩=some (.int .i64 x.cnt):=fun W h=>(h.cell (p:=⟨go,n*8+2,none⟩) hgo).trans hX.c2
 have f3:∀ W,Below w.heap.size w W->W.cell? ⟨go,n*8+3,none⟩=some (.int .i64 x.last):=fun W h=>(h.cell (p:=⟨go,n*8+3,none⟩) hgo).trans hX.c3
 have f4:∀ W,Below w.heap.size w W->W.cell? ⟨g,o+x.at_*21,none⟩=some (.int .i64 8):=fun W h=>(h.cell (p:=⟨g,o+x.at_*21,none⟩) hg).trans hT
 have cP:=isPart_any op
 have cY:=isType_any op
 have cO:=fun W=>endOf_any 8 W (by omega)
 clear hC hX hT
 unfold mayP
 rw[if_neg (by omega),if_neg (by omega),if_neg (by omega),if_pos rfl]
 rcases Bool.eq_false_or_eq_true (tyO op) with q2|q2
 all_goals
  rw[q2] at cY ⊢
  go_enter Tryz.func95,Tryz.ntmps95
  go_wp2_with (first|(go_at_call 101;refine cE.mono ?_;rintro _ _ ⟨rfl,rfl⟩)|(go_at_call 102;refine cT.mono ?_;rintro _ w1 ⟨rfl,hb⟩;have y0:=f0 _ hb;have y2:=f2 _ hb;have y3:=f3 _ hb;have y4:=f4 _ hb;clear f0 f2 f3 f4)|(go_at_call 126;refine(cO _).mono ?_;rintro _ _ ⟨rfl,rfl⟩)|(go_at_call 127;refine(cP _).mono ?_;rintro _ _ ⟨rfl,rfl⟩)|(go_at_call 128;refine(cY _).mono ?_;rintro _ _ ⟨rfl,rfl⟩))
  go_ret
  exact⟨rb (by rw[Bool.eq_iff_iff];simp),hb⟩
theorem mayStand_10 (B gf go n cap g o m1 m2 m3:Nat) (i op:Int) (rl:Value) (dep:Nat->Int) (wh:Bool) (x:Sv) (w:World) (hC:CkC w B gf (.slice (some ⟨go,0,none⟩) (n+1) cap) i rl m1 m2 m3 dep wh) (hX:ScC w g o go (n*8) x) (hgo:go<w.heap.size) (hg:g<w.heap.size) (hT:w.cell? ⟨g,o+x.at_*21,none⟩=some (.int .i64 10)) (hn:n<1000000000000) :
  Calls Tryz.prog 95 #[.pointer (some ⟨B,0,none⟩),.int .i64 op] w fun r w'=>r = .returned (.bool (mayP 10 x.last x.cnt op))/\Below w.heap.size w w':=by
 have cE:=isEmpty_any B (n+1) cap _ w hC.c0
 rw[show decide (n+1=0)=false from decide_eq_false (by omega)] at cE
 have cT:=top_any B go n cap w hC.c0 hn
 have f0:∀ W,Below w.heap.size w W->W.cell? ⟨go,n*8,none⟩=some (.pointer (some ⟨g,o+x.at_*21,none⟩)):=fun W h=>(h.cell (p:=⟨go,n*8,none⟩) hgo).trans hX.c0
 have f2:∀ W,Below w.heap.size w W->W.cell? ⟨go,n*8+2,none⟩=some (.int .i64 x.cnt):=fun W h=>(h.cell (p:=⟨go,n*8+2,none⟩) hgo).trans hX.c2
 have f3:∀ W,Below w.heap.size w W->W.cell? ⟨go,n*8+3,none⟩=some (.int .i64 x.last):=fun W h=>(h.cell (p:=⟨go,n*8+3,none⟩) hgo).trans hX.c3
 have f4:∀ W,Below w.heap.size w W->W.cell? ⟨g,o+x.at_*21,none⟩=some (.int .i64 10):=fun W h=>(h.cell (p:=⟨g,o+x.at_*21,none⟩) hg).trans hT
 have cP:=isPart_any op
 have cY:=isType_any op
 have cO:=fun W=>endOf_any 10 W (by omega)
 clear hC hX hT
 unfold mayP
 rw[if_neg (by omega),if_neg (by omega),if_pos (by omega)]
 by_cases q0:x.cnt=0
 ·have d0:(x.cnt==0)=true:=beq_iff_eq.2 q0
  have d1:decide (0<x.cnt)=false:=decide_eq_false (by omega)
  by_cases q1:op=14
  ·subst q1
   go_enter Tryz.func95,Tryz.ntmps95
   go_wp2_with (first|(go_at_call 101;refine cE.mono ?_;rintro _ _ ⟨rfl,rfl⟩)|(go_at_call 102;refine cT.mono ?_;rintro _ w1 ⟨rfl,hb⟩;have y0:=f0 _ hb;have y2:=f2 _ hb;have y3:=f3 _ hb;have y4:=f4 _ hb;clear f0 f2 f3 f4)|(go_at_call 126;refine(cO _).mono ?_;rintro _ _ ⟨rfl,rfl⟩)|(go_at_call 127;refine(cP _).mono ?_;rintro _ _ ⟨rfl,rfl⟩)|(go_at_call 128;refine(cY _).mono ?_;rintro _ _ ⟨rfl,rfl⟩))
   go_ret
   exact⟨rb (by simp[q0]),hb⟩
  ·have d2:(op==14)=false:=beqN q1
   go_enter Tryz.func95,Tryz.ntmps95
   go_wp2_with (first|(go_at_call 101;refine cE.mono ?_;rintro _ _ ⟨rfl,rfl⟩)|(go_at_call 102;refine cT.mono ?_;rintro _ w1 ⟨rfl,hb⟩;have y0:=f0 _ hb;have y2:=f2 _ hb;have y3:=f3 _ hb;have y4:=f4 _ hb;clear f0 f2 f3 f4)|(go_at_call 126;refine(cO _).mono ?_;rintro _ _ ⟨rfl,rfl⟩)|(go_at_call 127;refine(cP _).mono ?_;rintro _ _ ⟨rfl,rfl⟩)|(go_at_call 128;refine(cY _).mono ?_;rintro _ _ ⟨rfl,rfl⟩))
   go_ret
   exact⟨rb (by simp[q0,q1]),hb⟩
 ·have d0:(x.cnt==0)=false:=beqN q0
  by_cases q1:0<x.cnt
  ·have d1:decide (0<x.cnt)=true:=decide_eq_true q1
   by_cases q2:op=15
   ·subst q2
    go_enter Tryz.func95,Tryz.ntmps95
    go_wp2_with (first|(go_at_call 101;refine cE.mono ?_;rintro _ _ ⟨rfl,rfl⟩)|(go_at_call 102;refine cT.mono ?_;rintro _ w1 ⟨rfl,hb⟩;have y0:=f0 _ hb;have y2:=f2 _ hb;have y3:=f3 _ hb;have y4:=f4 _ hb;clear f0 f2 f3 f4)|(go_at_call 126;refine(cO _).mono ?_;rintro _ _ ⟨rfl,rfl⟩)|(go_at_call 127;refine(cP _).mono ?_;rintro _ _ ⟨rfl,rfl⟩)|(go_at_call 128;refine(cY _).mono ?_;rintro _ _ ⟨rfl,rfl⟩))
    go_ret
    exact⟨rb (by simp[q1]),hb⟩
   ·have d2:(op==15)=false:=beqN q2
    go_enter Tryz.func95,Tryz.ntmps95
    go_wp2_with (first|(go_at_call 101;refine cE.mono ?_;rintro _ _ ⟨rfl,rfl⟩)|(go_at_call 102;refine cT.mono ?_;rintro _ w1 ⟨rfl,hb⟩;have y0:=f0 _ hb;have y2:=f2 _ hb;have y3:=f3 _ hb;have y4:=f4 _ hb;clear f0 f2 f3 f4)|(go_at_call 126;refine(cO _).mono ?_;rintro _ _ ⟨rfl,rfl⟩)|(go_at_call 127;refine(cP _).mono ?_;rintro _ _ ⟨rfl,rfl⟩)|(go_at_call 128;refine(cY _).mono ?_;rintro _ _ ⟨rfl,rfl⟩))
    go_ret
    exact⟨rb (by rw[beqD];simp[q0,q1,q2]),hb⟩
  ·have d1:decide (0<x.cnt)=false:=decide_eq_false q1
   go_enter Tryz.func95,Tryz.ntmps95
   go_wp2_with (first|(go_at_call 101;refine cE.mono ?_;rintro _ _ ⟨rfl,rfl⟩)|(go_at_call 102;refine cT.mono ?_;rintro _ w1 ⟨rfl,hb⟩;have y0:=f0 _ hb;have y2:=f2 _ hb;have y3:=f3 _ hb;have y4:=f4 _ hb;clear f0 f2 f3 f4)|(go_at_call 126;refine(cO _).mono ?_;rintro _ _ ⟨rfl,rfl⟩)|(go_at_call 127;refine(cP _).mono ?_;rintro _ _ ⟨rfl,rfl⟩)|(go_at_call 128;refine(cY _).mono ?_;rintro _ _ ⟨rfl,rfl⟩))
   go_ret
   exact⟨rb (by rw[decide_eq_false q0,decide_eq_false (show ¬ 0<x.cnt by omega)];rfl),hb⟩
theorem mayStand_12 (B gf go n cap g o m1 m2 m3:Nat) (i op:Int) (rl:Value) (dep:Nat->Int) (wh:Bool) (x:Sv) (w:World) (hC:CkC w B gf (.slice (some ⟨go,0,none⟩) (n+1) cap) i rl m1 m2 m3 dep wh) (hX:ScC w g o go (n*8) x) (hgo:go<w.heap.size) (hg:g<w.heap.size) (hT:w.cell? ⟨g,o+x.at_*21,none⟩=some (.int .i64 12)) (hn:n<1000000000000) :
  Calls Tryz.prog 95 #[.pointer (some ⟨B,0,none⟩),.int .i64 op] w fun r w'=>r = .returned (.bool (mayP 12 x.last x.cnt op))/\Below w.heap.size w w':=by
 have cE:=isEmpty_any B (n+1) cap _ w hC.c0
 rw[show decide (n+1=0)=false from decide_eq_false (by omega)] at cE
 have cT:=top_any B go n cap w hC.c0 hn
 have f0:∀ W,Below w.heap.size w W->W.cell? ⟨go,n*8,none⟩=some (.pointer (some ⟨g,o+x.at_*21,none⟩)):=fun W h=>(h.cell (p:=⟨go,n*8,none⟩) hgo).trans hX.c0
 have f2:∀ W,Below w.heap.size w W->W.cell? ⟨go,n*8+2,none⟩=some (.int .i64 x.cnt):=fun W h=>(h.cell (p:=⟨go,n*8+2,none⟩) hgo).trans hX.c2
 have f3:∀ W,Below w.heap.size w W->W.cell? ⟨go,n*8+3,none⟩=some (.int .i64 x.last):=fun W h=>(h.cell (p:=⟨go,n*8+3,none⟩) hgo).trans hX.c3
 have f4:∀ W,Below w.heap.size w W->W.cell? ⟨g,o+x.at_*21,none⟩=some (.int .i64 12):=fun W h=>(h.cell (p:=⟨g,o+x.at_*21,none⟩) hg).trans hT
 have cP:=isPart_any op
 have cY:=isType_any op
 have cO:=fun W=>endOf_any 12 W (by omega)
 clear hC hX hT
 unfold mayP
 rw[if_neg (by omega),if_neg (by omega),if_pos (by omega)]
 by_cases q0:x.cnt=0
 ·have d0:(x.cnt==0)=true:=beq_iff_eq.2 q0
  have d1:decide (0<x.cnt)=false:=decide_eq_false (by omega)
  by_cases q1:op=14
  ·subst q1
   go_enter Tryz.func95,Tryz.ntmps95
   go_wp2_with (first|(go_at_call 101;refine cE.mono ?_;rintro _ _ ⟨rfl,rfl⟩)|(go_at_call 102;refine cT.mono ?_;rintro _ w1 ⟨rfl,hb⟩;have y0:=f0 _ hb;have y2:=f2 _ hb;have y3:=f3 _ hb;have y4:=f4 _ hb;clear f0 f2 f3 f4)|(go_at_call 126;refine(cO _).mono ?_;rintro _ _ ⟨rfl,rfl⟩)|(go_at_call 127;refine(cP _).mono ?_;rintro _ _ ⟨rfl,rfl⟩)|(go_at_call 128;refine(cY _).mono ?_;rintro _ _ ⟨rfl,rfl⟩))
   go_ret
   exact⟨rb (by simp[q0]),hb⟩
  ·have d2:(op==14)=false:=beqN q1
   go_enter Tryz.func95,Tryz.ntmps95
   go_wp2_with (first|(go_at_call 101;refine cE.mono ?_;rintro _ _ ⟨rfl,rfl⟩)|(go_at_call 102;refine cT.mono ?_;rintro _ w1 ⟨rfl,hb⟩;have y0:=f0 _ hb;have y2:=f2 _ hb;have y3:=f3 _ hb;have y4:=f4 _ hb;clear f0 f2 f3 f4)|(go_at_call 126;refine(cO _).mono ?_;rintro _ _ ⟨rfl,rfl⟩)|(go_at_call 127;refine(cP _).mono ?_;rintro _ _ ⟨rfl,rfl⟩)|(go_at_call 128;refine(cY _).mono ?_;rintro _ _ ⟨rfl,rfl⟩))
   go_ret
   exact⟨rb (by simp[q0,q1]),hb⟩
 ·have d0:(x.cnt==0)=false:=beqN q0
  by_cases q1:0<x.cnt
  ·have d1:decide (0<x.cnt)=true:=decide_eq_true q1
   by_cases q2:op=15
   ·subst q2
    go_enter Tryz.func95,Tryz.ntmps95
    go_wp2_with (first|(go_at_call 101;refine cE.mono ?_;rintro _ _ ⟨rfl,rfl⟩)|(go_at_call 102;refine cT.mono ?_;rintro _ w1 ⟨rfl,hb⟩;have y0:=f0 _ hb;have y2:=f2 _ hb;have y3:=f3 _ hb;have y4:=f4 _ hb;clear f0 f2 f3 f4)|(go_at_call 126;refine(cO _).mono ?_;rintro _ _ ⟨rfl,rfl⟩)|(go_at_call 127;refine(cP _).mono ?_;rintro _ _ ⟨rfl,rfl⟩)|(go_at_call 128;refine(cY _).mono ?_;rintro _ _ ⟨rfl,rfl⟩))
    go_ret
    exact⟨rb (by simp[q1]),hb⟩
   ·have d2:(op==15)=false:=beqN q2
    go_enter Tryz.func95,Tryz.ntmps95
    go_wp2_with (first|(go_at_call 101;refine cE.mono ?_;rintro _ _ ⟨rfl,rfl⟩)|(go_at_call 102;refine cT.mono ?_;rintro _ w1 ⟨rfl,hb⟩;have y0:=f0 _ hb;have y2:=f2 _ hb;have y3:=f3 _ hb;have y4:=f4 _ hb;clear f0 f2 f3 f4)|(go_at_call 126;refine(cO _).mono ?_;rintro _ _ ⟨rfl,rfl⟩)|(go_at_call 127;refine(cP _).mono ?_;rintro _ _ ⟨rfl,rfl⟩)|(go_at_call 128;refine(cY _).mono ?_;rintro _ _ ⟨rfl,rfl⟩))
    go_ret
    exact⟨rb (by rw[beqD];simp[q0,q1,q2]),hb⟩
  ·have d1:decide (0<x.cnt)=false:=decide_eq_false q1
   go_enter Tryz.func95,Tryz.ntmps95
   go_wp2_with (first|(go_at_call 101;refine cE.mono ?_;rintro _ _ ⟨rfl,rfl⟩)|(go_at_call 102;refine cT.mono ?_;rintro _ w1 ⟨rfl,hb⟩;have y0:=f0 _ hb;have y2:=f2 _ hb;have y3:=f3 _ hb;have y4:=f4 _ hb;clear f0 f2 f3 f4)|(go_at_call 126;refine(cO _).mono ?_;rintro _ _ ⟨rfl,rfl⟩)|(go_at_call 127;refine(cP _).mono ?_;rintro _ _ ⟨rfl,rfl⟩)|(go_at_call 128;refine(cY _).mono ?_;rintro _ _ ⟨rfl,rfl⟩))
   go_ret
   exact⟨rb (by rw[decide_eq_false q0,decide_eq_false (show ¬ 0<x.cnt by omega)];rfl),hb⟩
theorem mayStand_any (B gf go n cap g o m1 m2 m3:Nat) (i op xo:Int) (rl:Value) (dep:Nat->Int) (wh:Bool) (x:Sv) (w:World) (hC:CkC w B gf (.slice (some ⟨go,0,none⟩) (n+1) cap) i rl m1 m2 m3 dep wh) (hX:ScC w g o go (n*8) x) (hgo:go<w.heap.size) (hg:g<w.heap.size) (hT:w.cell? ⟨g,o+x.at_*21,none⟩=some (.int .i64 xo)) (hn:n<1000000000000) (hxo:bgO xo=true) :
  Calls Tryz.prog 95 #[.pointer (some ⟨B,0,none⟩),.int .i64 op] w fun r w'=>r = .returned (.bool (mayP xo x.last x.cnt op))/\Below w.heap.size w w':=by
 unfold bgO at hxo
 rcases decT hxo with rfl|rfl|rfl|rfl|rfl|rfl|rfl
 ·exact mayStand_0 B gf go n cap g o m1 m2 m3 i op rl dep wh x w hC hX hgo hg hT hn
 ·exact mayStand_2 B gf go n cap g o m1 m2 m3 i op rl dep wh x w hC hX hgo hg hT hn
 ·exact mayStand_4 B gf go n cap g o m1 m2 m3 i op rl dep wh x w hC hX hgo hg hT hn
 ·exact mayStand_6 B gf go n cap g o m1 m2 m3 i op rl dep wh x w hC hX hgo hg hT hn
 ·exact mayStand_8 B gf go n cap g o m1 m2 m3 i op rl dep wh x w hC hX hgo hg hT hn
 ·exact mayStand_10 B gf go n cap g o m1 m2 m3 i op rl dep wh x w hC hX hgo hg hT hn
 ·exact mayStand_12 B gf go n cap g o m1 m2 m3 i op rl dep wh x w hC hX hgo hg hT hn
end Go.Proofs.YtcgimchhcaankaaGreatDoor
