import Derived.Test.YtjlbcdnkglaheaaGreatDoorK05
namespace Go.Proofs.YtjlbcdnkglaheaaGreatDoor
set_option maxRecDepth 1000000
set_option maxHeartbeats 16000000
open Go.ChangeShapes Go.WideShapes Go.ChangeAt Go.RowKit Go.Shelf
theorem tdrN {B n:Nat} {a w:World} (h:Below B a w):Below B a (w.drewN n):=⟨h.os,h.tape,h.output,h.size,h.block⟩
theorem i64_or_nat (a b:Nat) (ha:a<65536) (hb:b<65536):bits .or .i64 (a:Int) (b:Int)=((a ||| b:Nat):Int):=by
 have hx:a ||| b<2 ^ 16:=Nat.or_lt_two_pow (by omega) (by omega)
 show IntKind.i64.wrap ((BitVec.ofInt 64 (a:Int) ||| BitVec.ofInt 64 (b:Int)).toNat:Int)=_
 rw[BitVec.toNat_or,BitVec.ofInt_natCast,BitVec.ofInt_natCast,BitVec.toNat_ofNat,BitVec.toNat_ofNat,Nat.mod_eq_of_lt (by omega),Nat.mod_eq_of_lt (by omega),IntKind.wrap_i64]
 omega
theorem bneD (a:Int):(a != 0)=decide (a≠0):=by rw[Bool.eq_iff_iff];simp
theorem bneL (n:Nat):((n:Int) != 0)=decide (n≠0):=by rw[Bool.eq_iff_iff];simp
def BitsTo (l:List Bool) (j N:Nat):Prop:=N<65536/\∀ k,N.testBit k=(decide (k<j)&&l.getD k false)
theorem bits_zero (l:List Bool):BitsTo l 0 0:=⟨by omega,fun k=>by simp⟩
theorem bits_no {l:List Bool} {j N:Nat} (h:BitsTo l j N) (hb:l.getD j false=false):BitsTo l (j+1) N:=⟨h.1,fun k=>by
 rw[h.2 k]
 by_cases e:k=j
 ·subst e;rw[hb];simp
 ·congr 1
  exact decide_eq_decide.2 (by omega)⟩
theorem bits_yes {l:List Bool} {j N:Nat} (h:BitsTo l j N) (hj:j<16) (hb:l.getD j false=true):BitsTo l (j+1) (N ||| 2 ^ j):=⟨Nat.or_lt_two_pow (n:=16) (by have:=h.1;omega) (Nat.pow_lt_pow_right (by omega) hj),fun k=>by
 rw[Nat.testBit_or,h.2 k,Nat.testBit_two_pow]
 by_cases e:k=j
 ·subst e;rw[hb];simp
 ·rw[decide_eq_false (show ¬ j=k from fun x=>e x.symm),Bool.or_false]
  congr 1
  exact decide_eq_decide.2 (by omega)⟩
theorem marksOf_any (t:Tk) (g o:Nat) (pc:Option Addr) (cc:Nat) (w:World) (hT:TkC w g o t pc cc) :
  Calls Tryz.prog 121 #[.pointer (some ⟨g,o,none⟩)] w fun r w'=>∃ N:Nat,r = .returned (.int .i64 (N:Int))/\BitsTo (nzs t) 16 N/\Below w.heap.size w w':=by
 have t2:=hT.c2
 have t3:=hT.c3
 have t4:=hT.c4
 have t5:=hT.c5
 have t6:=hT.c6
 have t7:=hT.c7
 have t8:=hT.c8
 have t9:=hT.c9
 have t10:=hT.c10
 have t11:=hT.c11
 have t12:=hT.c12
 have t13:=hT.c13
 have t14:=hT.c14
 have t15:=hT.c15
 have t16:=hT.c16
 have t17:=hT.c17
 have t18:=hT.c18
 have t19:=hT.c19
 clear hT
 obtain⟨b0,hb0⟩:∃ b,(t.id != 0)=b:=⟨_,rfl⟩
 obtain⟨b1,hb1⟩:∃ b,(t.off != 0)=b:=⟨_,rfl⟩
 obtain⟨b2,hb2⟩:∃ b,(t.siz != 0)=b:=⟨_,rfl⟩
 obtain⟨b3,hb3⟩:∃ b,(t.since != 0)=b:=⟨_,rfl⟩
 obtain⟨b4,hb4⟩:∃ b,(t.prim != 0)=b:=⟨_,rfl⟩
 obtain⟨b5,hb5⟩:∃ b,(t.len != 0)=b:=⟨_,rfl⟩
 obtain⟨b6,hb6⟩:∃ b,(t.pres != 0)=b:=⟨_,rfl⟩
 obtain⟨b7,hb7⟩:∃ b,(t.nul != 0)=b:=⟨_,rfl⟩
 obtain⟨b8,hb8⟩:∃ b,(t.lo != 0)=b:=⟨_,rfl⟩
 obtain⟨b9,hb9⟩:∃ b,(t.hi != 0)=b:=⟨_,rfl⟩
 obtain⟨b10,hb10⟩:∃ b,((t.cst.length:Int) != 0)=b:=⟨_,rfl⟩
 obtain⟨b11,hb11⟩:∃ b,(t.val != 0)=b:=⟨_,rfl⟩
 obtain⟨b12,hb12⟩:∃ b,(t.blk != 0)=b:=⟨_,rfl⟩
 obtain⟨b13,hb13⟩:∃ b,(t.full != 0)=b:=⟨_,rfl⟩
 obtain⟨b14,hb14⟩:∃ b,(!decide (t.a.p=0/\t.a.o=0))=b:=⟨_,rfl⟩
 obtain⟨b15,hb15⟩:∃ b,(!decide (t.b.p=0/\t.b.o=0))=b:=⟨_,rfl⟩
 have hl:nzs t=[b0,b1,b2,b3,b4,b5,b6,b7,b8,b9,b10,b11,b12,b13,b14,b15]:=by
  unfold nzs
  rw[<- hb0,<- hb1,<- hb2,<- hb3,<- hb4,<- hb5,<- hb6,<- hb7,<- hb8,<- hb9,<- hb10,<- hb11,<- hb12,<- hb13,<- hb14,<- hb15]
  simp only[bneL]
  simp only[bneD,decide_not]
 rw[hl]
 clear hl
 go_enter Tryz.func121,Tryz.ntmps121
 go_wp2_with fail
 simp only[List.append_eq,List.cons_append,List.nil_append]
 refine wp_region_quiet_lit (by kernel_rfl) (by kernel_rfl) ?_
 repeat (go_big_quiet_step (fail))
 go_big_quiet_want
 go_big_quiet_op
 refine⟨.bool b14,fun _=>?_,?_⟩
 ·rw[<- hb14];by_cases q1:t.a.p=0<;>by_cases q2:t.a.o=0<;>simp[q1,q2]
 go_big_quiet_on
 repeat (go_big_quiet_step (fail))
 go_big_quiet_want
 go_big_quiet_op
 refine⟨.bool b15,fun _=>?_,?_⟩
 ·rw[<- hb15];by_cases q1:t.b.p=0<;>by_cases q2:t.b.o=0<;>simp[q1,q2]
 go_big_quiet_on
 repeat (go_big_quiet_step (fail))
 refine wpQuiet_nil ?_
 intro _ hw'
 obtain⟨nq,hw''⟩:=hw'
 subst hw''
 clear t2 t3 t4 t5 t6 t7 t8 t9 t10 t11 t12 t13 t14 t15 t16 t17 t18 t19 hb0 hb1 hb2 hb3 hb4 hb5 hb6 hb7 hb8 hb9 hb10 hb11 hb12 hb13 hb14 hb15
 go_wp2_with fail
 go_loopw [90,3] (fun n h wr=>∃ j N:Nat,j<=16/\n = .int .i64 j/\h = .int .i64 (N:Int)/\BitsTo [b0,b1,b2,b3,b4,b5,b6,b7,b8,b9,b10,b11,b12,b13,b14,b15] j N/\wr=w.drewN nq) (fun n _ _=>16-(RowKit.intOf n).toNat)
 case atStart=>exact⟨0,0,by omega,rfl,rfl,bits_zero _,rfl⟩
 case round =>
  obtain⟨j,N,hj,rfl,rfl,hN,rfl⟩:=hrel
  have hN1:=hN.1
  by_cases hlt:j<16
  ·rcases(show j=0\/j=1\/j=2\/j=3\/j=4\/j=5\/j=6\/j=7\/j=8\/j=9\/j=10\/j=11\/j=12\/j=13\/j=14\/j=15 by omega) with rfl|rfl|rfl|rfl|rfl|rfl|rfl|rfl|rfl|rfl|rfl|rfl|rfl|rfl|rfl|rfl
   ·have ho:=i64_or_nat N 1 hN1 (by omega)
    rw[show ((0:Nat):Int)=0 from rfl]
    have hix:∀ W,(Instr.index 207 (.agg #[.bool b0,.bool b1,.bool b2,.bool b3,.bool b4,.bool b5,.bool b6,.bool b7,.bool b8,.bool b9,.bool b10,.bool b11,.bool b12,.bool b13,.bool b14,.bool b15]) (.int .i64 0)).run Tryz.prog W = .ok (.bool b0) W:=fun W=>by kernel_rfl
    cases b0 with
    | false =>
     go_wp2_with fail
     go_roundw
     case rel=>exact⟨1,N,by omega,rfl,rfl,bits_no hN rfl,trivial⟩
     case measure=>simp[RowKit.intOf]
    | true =>
     go_wp2_with fail
     go_roundw
     case rel=>exact⟨1,N ||| 1,by omega,rfl,by first|rfl|exact congrArg _ ho,bits_yes hN (by omega) rfl,trivial⟩
     case measure=>simp[RowKit.intOf]
   ·have ho:=i64_or_nat N 2 hN1 (by omega)
    rw[show ((1:Nat):Int)=1 from rfl]
    have hix:∀ W,(Instr.index 207 (.agg #[.bool b0,.bool b1,.bool b2,.bool b3,.bool b4,.bool b5,.bool b6,.bool b7,.bool b8,.bool b9,.bool b10,.bool b11,.bool b12,.bool b13,.bool b14,.bool b15]) (.int .i64 1)).run Tryz.prog W = .ok (.bool b1) W:=fun W=>by kernel_rfl
    cases b1 with
    | false =>
     go_wp2_with fail
     go_roundw
     case rel=>exact⟨2,N,by omega,rfl,rfl,bits_no hN rfl,trivial⟩
     case measure=>simp[RowKit.intOf]
    | true =>
     go_wp2_with fail
     go_roundw
     case rel=>exact⟨2,N ||| 2,by omega,rfl,by first|rfl|exact congrArg _ ho,bits_yes hN (by omega) rfl,trivial⟩
     case measure=>simp[RowKit.intOf]
   ·have ho:=i64_or_nat N 4 hN1 (by omega)
    rw[show ((2:Nat):Int)=2 from rfl]
    have hix:∀ W,(Instr.index 207 (.agg #[.bool b0,.bool b1,.bool b2,.bool b3,.bool b4,.bool b5,.bool b6,.bool b7,.bool b8,.bool b9,.bool b10,.bool b11,.bool b12,.bool b13,.bool b14,.bool b15]) (.int .i64 2)).run Tryz.prog W = .ok (.bool b2) W:=fun W=>by kernel_rfl
    cases b2 with
    | false =>
     go_wp2_with fail
     go_roundw
     case rel=>exact⟨3,N,by omega,rfl,rfl,bits_no hN rfl,trivial⟩
     case measure=>simp[RowKit.intOf]
    | true =>
     go_wp2_with fail
     go_roundw
     case rel=>exact⟨3,N ||| 4,by omega,rfl,by first|rfl|exact congrArg _ ho,bits_yes hN (by omega) rfl,trivial⟩
     case measure=>simp[RowKit.intOf]
   ·have ho:=i64_or_nat N 8 hN1 (by omega)
    rw[show ((3:Nat):Int)=3 from rfl]
    have hix:∀ W,(Instr.index 207 (.agg #[.bool b0,.bool b1,.bool b2,.bool b3,.bool b4,.bool b5,.bool b6,.bool b7,.bool b8,.bool b9,.bool b10,.bool b11,.bool b12,.bool b13,.bool b14,.bool b15]) (.int .i64 3)).run Tryz.prog W = .ok (.bool b3) W:=fun W=>by kernel_rfl
    cases b3 with
    | false =>
     go_wp2_with fail
     go_roundw
     case rel=>exact⟨4,N,by omega,rfl,rfl,bits_no hN rfl,trivial⟩
     case measure=>simp[RowKit.intOf]
    | true =>
     go_wp2_with fail
     go_roundw
     case rel=>exact⟨4,N ||| 8,by omega,rfl,by first|rfl|exact congrArg _ ho,bits_yes hN (by omega) rfl,trivial⟩
     case measure=>simp[RowKit.intOf]
   ·have ho:=i64_or_nat N 16 hN1 (by omega)
    rw[show ((4:Nat):Int)=4 from rfl]
    have hix:∀ W,(Instr.index 207 (.agg #[.bool b0,.bool b1,.bool b2,.bool b3,.bool b4,.bool b5,.bool b6,.bool b7,.bool b8,.bool b9,.bool b10,.bool b11,.bool b12,.bool b13,.bool b14,.bool b15]) (.int .i64 4)).run Tryz.prog W = .ok (.bool b4) W:=fun W=>by kernel_rfl
    cases b4 with
    | false =>
     go_wp2_with fail
     go_roundw
     case rel=>exact⟨5,N,by omega,rfl,rfl,bits_no hN rfl,trivial⟩
     case measure=>simp[RowKit.intOf]
    | true =>
     go_wp2_with fail
     go_roundw
     case rel=>exact⟨5,N ||| 16,by omega,rfl,by first|rfl|exact congrArg _ ho,bits_yes hN (by omega) rfl,trivial⟩
     case measure=>simp[RowKit.intOf]
   ·have ho:=i64_or_nat N 32 hN1 (by omega)
    rw[show ((5:Nat):Int)=5 from rfl]
    have hix:∀ W,(Instr.index 207 (.agg #[.bool b0,.bool b1,.bool b2,.bool b3,.bool b4,.bool b5,.bool b6,.bool b7,.bool b8,.bool b9,.bool b10,.bool b11,.bool b12,.bool b13,.bool b14,.bool b15]) (.int .i64 5)).run Tryz.prog W = .ok (.bool b5) W:=fun W=>by kernel_rfl
    cases b5 with
    | false =>
     go_wp2_with fail
     go_roundw
     case rel=>exact⟨6,N,by omega,rfl,rfl,bits_no hN rfl,trivial⟩
     case measure=>simp[RowKit.intOf]
    | true =>
     go_wp2_with fail
     go_roundw
     case rel=>exact⟨6,N ||| 32,by omega,rfl,by first|rfl|exact congrArg _ ho,bits_yes hN (by omega) rfl,trivial⟩
     case measure=>simp[RowKit.intOf]
   ·have ho:=i64_or_nat N 64 hN1 (by omega)
    rw[show ((6:Nat):Int)=6 from rfl]
    have hix:∀ W,(Instr.index 207 (.agg #[.bool b0,.bool b1,.bool b2,.bool b3,.bool b4,.bool b5,.bool b6,.bool b7,.bool b8,.bool b9,.bool b10,.bool b11,.bool b12,.bool b13,.bool b14,.bool b15]) (.int .i64 6)).run Tryz.prog W = .ok (.bool b6) W:=fun W=>by kernel_rfl
    cases b6 with
    | false =>
     go_wp2_with fail
     go_roundw
     case rel=>exact⟨7,N,by omega,rfl,rfl,bits_no hN rfl,trivial⟩
     case measure=>simp[RowKit.intOf]
    | true =>
     go_wp2_with fail
     go_roundw
     case rel=>exact⟨7,N ||| 64,by omega,rfl,by first|rfl|exact congrArg _ ho,bits_yes hN (by omega) rfl,trivial⟩
     case measure=>simp[RowKit.intOf]
   ·have ho:=i64_or_nat N 128 hN1 (by omega)
    rw[show ((7:Nat):Int)=7 from rfl]
    have hix:∀ W,(Instr.index 207 (.agg #[.bool b0,.bool b1,.bool b2,.bool b3,.bool b4,.bool b5,.bool b6,.bool b7,.bool b8,.bool b9,.bool b10,.bool b11,.bool b12,.bool b13,.bool b14,.bool b15]) (.int .i64 7)).run Tryz.prog W = .ok (.bool b7) W:=fun W=>by kernel_rfl
    cases b7 with
    | false =>
     go_wp2_with fail
     go_roundw
     case rel=>exact⟨8,N,by omega,rfl,rfl,bits_no hN rfl,trivial⟩
     case measure=>simp[RowKit.intOf]
    | true =>
     go_wp2_with fail
     go_roundw
     case rel=>exact⟨8,N ||| 128,by omega,rfl,by first|rfl|exact congrArg _ ho,bits_yes hN (by omega) rfl,trivial⟩
     case measure=>simp[RowKit.intOf]
   ·have ho:=i64_or_nat N 256 hN1 (by omega)
    rw[show ((8:Nat):Int)=8 from rfl]
    have hix:∀ W,(Instr.index 207 (.agg #[.bool b0,.bool b1,.bool b2,.bool b3,.bool b4,.bool b5,.bool b6,.bool b7,.bool b8,.bool b9,.bool b10,.bool b11,.bool b12,.bool b13,.bool b14,.bool b15]) (.int .i64 8)).run Tryz.prog W = .ok (.bool b8) W:=fun W=>by kernel_rfl
    cases b8 with
    | false =>
     go_wp2_with fail
     go_roundw
     case rel=>exact⟨9,N,by omega,rfl,rfl,bits_no hN rfl,trivial⟩
     case measure=>simp[RowKit.intOf]
    | true =>
     go_wp2_with fail
     go_roundw
     case rel=>exact⟨9,N ||| 256,by omega,rfl,by first|rfl|exact congrArg _ ho,bits_yes hN (by omega) rfl,trivial⟩
     case measure=>simp[RowKit.intOf]
   ·have ho:=i64_or_nat N 512 hN1 (by omega)
    rw[show ((9:Nat):Int)=9 from rfl]
    have hix:∀ W,(Instr.index 207 (.agg #[.bool b0,.bool b1,.bool b2,.bool b3,.bool b4,.bool b5,.bool b6,.bool b7,.bool b8,.bool b9,.bool b10,.bool b11,.bool b12,.bool b13,.bool b14,.bool b15]) (.int .i64 9)).run Tryz.prog W = .ok (.bool b9) W:=fun W=>by kernel_rfl
    cases b9 with
    | false =>
     go_wp2_with fail
     go_roundw
     case rel=>exact⟨10,N,by omega,rfl,rfl,bits_no hN rfl,trivial⟩
     case measure=>simp[RowKit.intOf]
    | true =>
     go_wp2_with fail
     go_roundw
     case rel=>exact⟨10,N ||| 512,by omega,rfl,by first|rfl|exact congrArg _ ho,bits_yes hN (by omega) rfl,trivial⟩
     case measure=>simp[RowKit.intOf]
   ·have ho:=i64_or_nat N 1024 hN1 (by omega)
    rw[show ((10:Nat):Int)=10 from rfl]
    have hix:∀ W,(Instr.index 207 (.agg #[.bool b0,.bool b1,.bool b2,.bool b3,.bool b4,.bool b5,.bool b6,.bool b7,.bool b8,.bool b9,.bool b10,.bool b11,.bool b12,.bool b13,.bool b14,.bool b15]) (.int .i64 10)).run Tryz.prog W = .ok (.bool b10) W:=fun W=>by kernel_rfl
    cases b10 with
    | false =>
     go_wp2_with fail
     go_roundw
     case rel=>exact⟨11,N,by omega,rfl,rfl,bits_no hN rfl,trivial⟩
     case measure=>simp[RowKit.intOf]
    | true =>
     go_wp2_with fail
     go_roundw
     case rel=>exact⟨11,N ||| 1024,by omega,rfl,by first|rfl|exact congrArg _ ho,bits_yes hN (by omega) rfl,trivial⟩
     case measure=>simp[RowKit.intOf]
   ·have ho:=i64_or_nat N 2048 hN1 (by omega)
    rw[show ((11:Nat):Int)=11 from rfl]
    have hix:∀ W,(Instr.index 207 (.agg #[.bool b0,.bool b1,.bool b2,.bool b3,.bool b4,.bool b5,.bool b6,.bool b7,.bool b8,.bool b9,.bool b10,.bool b11,.bool b12,.bool b13,.bool b14,.bool b15]) (.int .i64 11)).run Tryz.prog W = .ok (.bool b11) W:=fun W=>by kernel_rfl
    cases b11 with
    | false =>
     go_wp2_with fail
     go_roundw
     case rel=>exact⟨12,N,by omega,rfl,rfl,bits_no hN rfl,trivial⟩
     case measure=>simp[RowKit.intOf]
    | true =>
     go_wp2_with fail
     go_roundw
     case rel=>exact⟨12,N ||| 2048,by omega,rfl,by first|rfl|exact congrArg _ ho,bits_yes hN (by omega) rfl,trivial⟩
     case measure=>simp[RowKit.intOf]
   ·have ho:=i64_or_nat N 4096 hN1 (by omega)
    rw[show ((12:Nat):Int)=12 from rfl]
    have hix:∀ W,(Instr.index 207 (.agg #[.bool b0,.bool b1,.bool b2,.bool b3,.bool b4,.bool b5,.bool b6,.bool b7,.bool b8,.bool b9,.bool b10,.bool b11,.bool b12,.bool b13,.bool b14,.bool b15]) (.int .i64 12)).run Tryz.prog W = .ok (.bool b12) W:=fun W=>by kernel_rfl
    cases b12 with
    | false =>
     go_wp2_with fail
     go_roundw
     case rel=>exact⟨13,N,by omega,rfl,rfl,bits_no hN rfl,trivial⟩
     case measure=>simp[RowKit.intOf]
    | true =>
     go_wp2_with fail
     go_roundw
     case rel=>exact⟨13,N ||| 4096,by omega,rfl,by first|rfl|exact congrArg _ ho,bits_yes hN (by omega) rfl,trivial⟩
     case measure=>simp[RowKit.intOf]
   ·have ho:=i64_or_nat N 8192 hN1 (by omega)
    rw[show ((13:Nat):Int)=13 from rfl]
    have hix:∀ W,(Instr.index 207 (.agg #[.bool b0,.bool b1,.bool b2,.bool b3,.bool b4,.bool b5,.bool b6,.bool b7,.bool b8,.bool b9,.bool b10,.bool b11,.bool b12,.bool b13,.bool b14,.bool b15]) (.int .i64 13)).run Tryz.prog W = .ok (.bool b13) W:=fun W=>by kernel_rfl
    cases b13 with
    | false =>
     go_wp2_with fail
     go_roundw
     case rel=>exact⟨14,N,by omega,rfl,rfl,bits_no hN rfl,trivial⟩
     case measure=>simp[RowKit.intOf]
    | true =>
     go_wp2_with fail
     go_roundw
     case rel=>exact⟨14,N ||| 8192,by omega,rfl,by first|rfl|exact congrArg _ ho,bits_yes hN (by omega) rfl,trivial⟩
     case measure=>simp[RowKit.intOf]
   ·have ho:=i64_or_nat N 16384 hN1 (by omega)
    rw[show ((14:Nat):Int)=14 from rfl]
    have hix:∀ W,(Instr.index 207 (.agg #[.bool b0,.bool b1,.bool b2,.bool b3,.bool b4,.bool b5,.bool b6,.bool b7,.bool b8,.bool b9,.bool b10,.bool b11,.bool b12,.bool b13,.bool b14,.bool b15]) (.int .i64 14)).run Tryz.prog W = .ok (.bool b14) W:=fun W=>by kernel_rfl
    cases b14 with
    | false =>
     go_wp2_with fail
     go_roundw
     case rel=>exact⟨15,N,by omega,rfl,rfl,bits_no hN rfl,trivial⟩
     case measure=>simp[RowKit.intOf]
    | true =>
     go_wp2_with fail
     go_roundw
     case rel=>exact⟨15,N ||| 16384,by omega,rfl,by first|rfl|exact congrArg _ ho,bits_yes hN (by omega) rfl,trivial⟩
     case measure=>simp[RowKit.intOf]
   ·have ho:=i64_or_nat N 32768 hN1 (by omega)
    rw[show ((15:Nat):Int)=15 from rfl]
    have hix:∀ W,(Instr.index 207 (.agg #[.bool b0,.bool b1,.bool b2,.bool b3,.bool b4,.bool b5,.bool b6,.bool b7,.bool b8,.bool b9,.bool b10,.bool b11,.bool b12,.bool b13,.bool b14,.bool b15]) (.int .i64 15)).run Tryz.prog W = .ok (.bool b15) W:=fun W=>by kernel_rfl
    cases b15 with
    | false =>
     go_wp2_with fail
     go_roundw
     case rel=>exact⟨16,N,by omega,rfl,rfl,bits_no hN rfl,trivial⟩
     case measure=>simp[RowKit.intOf]
    | true =>
     go_wp2_with fail
     go_roundw
     case rel=>exact⟨16,N ||| 32768,by omega,rfl,by first|rfl|exact congrArg _ ho,bits_yes hN (by omega) rfl,trivial⟩
     case measure=>simp[RowKit.intOf]
  ·obtain rfl:j=16:=by omega
   go_wp2_with fail
   go_ret
   exact⟨N,rfl,hN,tdrN (Below.refl _ _)⟩
def mayN (op:Int):Nat:=if op=0 then 12297 else if op=2 then 1103 else if op=4 then 61453 else if op=6 then 16413 else if op=8 then 6 else if op=10\/op=12 then 70 else if op=14 then 2038 else if op=15 then 2056 else 0
structure MT (w:World):Prop where
 pos:1<w.heap.size
 c:∀ p:Nat,p<16->w.cell? ⟨1,p,none⟩=some (.int .i64 (mayN p:Int))
theorem MT.below {w w':World} (h:MT w) {B:Nat} (hB:1<B) (hb:Below B w w'):MT w':=⟨Nat.lt_of_lt_of_le h.pos hb.size,fun p hp=>(hb.cell (p:=⟨1,p,none⟩) hB).trans (h.c p hp)⟩
theorem i64_andNot_nat (a b:Nat) (ha:a<65536):∃ r:Nat,bits .andNot .i64 (a:Int) (b:Int)=(r:Int)/\∀ k,r.testBit k=(a.testBit k && !b.testBit k):=by
 refine⟨(BitVec.ofNat 64 a &&& ~~~(BitVec.ofNat 64 b)).toNat,?_,fun k=>?_⟩
 ·have hx:(BitVec.ofNat 64 a &&& ~~~(BitVec.ofNat 64 b)).toNat<2 ^ 16:=by
   rw[BitVec.toNat_and,BitVec.toNat_ofNat,Nat.mod_eq_of_lt (by omega)]
   rw[Nat.and_comm]
   exact Nat.and_lt_two_pow _ (by omega)
  show IntKind.i64.wrap ((BitVec.ofInt 64 (a:Int) &&& ~~~(BitVec.ofInt 64 (b:Int))).toNat:Int)=_
  rw[BitVec.ofInt_natCast,BitVec.ofInt_natCast,IntKind.wrap_i64]
  omega
 ·rw[BitVec.testBit_toNat,BitVec.getLsbD_and,BitVec.getLsbD_not,BitVec.getLsbD_ofNat,BitVec.getLsbD_ofNat]
  by_cases h:k<64
  ·simp[h]
  ·have:a.testBit k=false:=Nat.testBit_lt_two_pow (Nat.lt_of_lt_of_le ha (by
    calc 65536=2 ^ 16:=rfl
     _<=2 ^ k:=Nat.pow_le_pow_right (by omega) (by omega)))
   simp[h,this]
theorem subB_iff:∀ (l m:List Bool),l.length=m.length->(subB l m=true↔∀ k,l.getD k false=true->m.getD k false=true)
 | [],[],_=>by simp[subB]
 | [],_::_,h=>by simp at h
 | _::_,[],h=>by simp at h
 | a::r,b::s,h=>by
  unfold subB
  rw[Bool.and_eq_true,subB_iff r s (by simpa using h)]
  constructor
  ·rintro⟨h1,h2⟩ k hk
   rcases k with _|k
   ·simp at hk h1 ⊢;simpa[hk] using h1
   ·simpa using h2 k (by simpa using hk)
  ·intro h
   refine⟨?_,fun k hk=>by simpa using h (k+1) (by simpa using hk)⟩
   have:=h 0
   cases a<;>simp_all
theorem mays_len (op:Int):(mays op).length=16:=by
 unfold mays
 repeat' split
 all_goals rfl
theorem nzs_len (t:Tk):(nzs t).length=16:=rfl
theorem bitsTo_of {l:List Bool} {N:Nat} (h:N<65536) (hd:(List.range 16).all (fun k=>N.testBit k==l.getD k false)=true):BitsTo l 16 N:=⟨h,fun k=>by
 by_cases hk:k<16
 ·have:=List.all_eq_true.1 hd k (List.mem_range.2 hk)
  rw[beq_iff_eq] at this
  rw[this,decide_eq_true hk,Bool.true_and]
 ·have:N.testBit k=false:=Nat.testBit_lt_two_pow (Nat.lt_of_lt_of_le h (by
   calc 65536=2 ^ 16:=rfl
    _<=2 ^ k:=Nat.pow_le_pow_right (by omega) (by omega)))
  rw[this,decide_eq_false hk,Bool.false_and]⟩
theorem may_bits (op:Nat) (h:op<16):BitsTo (mays (op:Int)) 16 (mayN (op:Int)):=by
 rcases(show op=0\/op=1\/op=2\/op=3\/op=4\/op=5\/op=6\/op=7\/op=8\/op=9\/op=10\/op=11\/op=12\/op=13\/op=14\/op=15 by omega) with rfl|rfl|rfl|rfl|rfl|rfl|rfl|rfl|rfl|rfl|rfl|rfl|rfl|rfl|rfl|rfl
 all_goals exact bitsTo_of (by decide) (by decide)
theorem plain_iff (t:Tk) (N r:Nat) (op:Nat) (ho:t.op=op) (h:op<16) (hN:BitsTo (nzs t) 16 N) (hr:∀ k,r.testBit k=(N.testBit k && !(mayN (op:Int)).testBit k)):r=0↔plainB t=true:=by
 have hm:=may_bits op h
 unfold plainB
 rw[ho,subB_iff _ _ (by rw[nzs_len,mays_len])]
 constructor
 ·intro e k hk
  have h1:=hr k
  rw[e,Nat.zero_testBit,hN.2 k,hm.2 k,hk] at h1
  by_cases hlt:k<16
  ·rw[decide_eq_true hlt] at h1
   simpa using h1
  ·exfalso
   have hnn:(nzs t)[k]?=none:=List.getElem?_eq_none (by rw[nzs_len];omega)
   rw[List.getD_eq_getElem?_getD,hnn] at hk
   cases hk
 ·intro hs
  apply Nat.eq_of_testBit_eq
  intro k
  rw[hr k,Nat.zero_testBit,hN.2 k,hm.2 k]
  by_cases hlt:k<16
  ·rw[decide_eq_true hlt,Bool.true_and,Bool.true_and]
   cases hq:(nzs t).getD k false with
   | false=>rfl
   | true=>rw[hs k hq];rfl
  ·rw[decide_eq_false hlt];rfl
def bitN (l:List Bool):Nat->Nat
 | 0=>0
 | j+1=>if l.getD j false=true then bitN l j ||| 2 ^ j else bitN l j
theorem bitN_ok (l:List Bool):∀ j,j<=16->BitsTo l j (bitN l j)
 | 0,_=>bits_zero l
 | j+1,h=>by
  have ih:=bitN_ok l j (by omega)
  unfold bitN
  split
  ·rename_i e;exact bits_yes ih (by omega) e
  ·rename_i e;exact bits_no ih (by simpa using e)
theorem bits_one {l:List Bool} {j N M:Nat} (h:BitsTo l j N) (h':BitsTo l j M):N=M:=Nat.eq_of_testBit_eq fun k=>by rw[h.2 k,h'.2 k]
theorem marksOf_one (t:Tk) (g o:Nat) (pc:Option Addr) (cc:Nat) (w:World) (hT:TkC w g o t pc cc) :
  Calls Tryz.prog 121 #[.pointer (some ⟨g,o,none⟩)] w fun r w'=>r = .returned (.int .i64 ((bitN (nzs t) 16:Nat):Int))/\Below w.heap.size w w' :=
 (marksOf_any t g o pc cc w hT).mono fun r w' ⟨N,hr,hN,hb⟩=>⟨by rw[hr,bits_one hN (bitN_ok _ 16 (Nat.le_refl _))],hb⟩
theorem ent_marksOf:∀ ag w,(callFunc 121 ag).run Tryz.prog w = .ok (.enter 121 ag) w:=enters_of Tryz.func121 (by kernel_rfl) rfl
theorem ent_hasMore:∀ ag w,(callFunc 86 ag).run Tryz.prog w = .ok (.enter 86 ag) w:=enters_of Tryz.func86 (by kernel_rfl) rfl
theorem hasMore_any (t:Tk) (g o:Nat) (pc:Option Addr) (cc:Nat) (w:World) (hT:TkC w g o t pc cc) (hg:g<w.heap.size) (hM:MT w) (ho:0<=t.op/\t.op<=15) :
  Calls Tryz.prog 86 #[.pointer (some ⟨g,o,none⟩)] w fun r w'=>r = .returned (.bool (!plainB t))/\Below w.heap.size w w':=by
 obtain⟨q,hq⟩:∃ q:Nat,t.op=q:=⟨t.op.toNat,by omega⟩
 have hN:=bitN_ok (nzs t) 16 (Nat.le_refl _)
 have hm:=may_bits q (by omega)
 obtain⟨r,hr1,hr2⟩:=i64_andNot_nat (bitN (nzs t) 16) (mayN (q:Int)) hN.1
 have hres:=plain_iff t _ r q hq (by omega) hN hr2
 have t0v:w.cell? ⟨g,o,none⟩=some (.int .i64 (q:Int)):=by rw[hT.c0,hq]
 have mv:=hM.c q (by omega)
 have hq1:(q:Int)<16:=by omega
 have hq0:(0:Int)<=(q:Int):=by omega
 have hpos:=hM.pos
 obtain⟨N,hNN⟩:∃ N:Nat,bitN (nzs t) 16=N:=⟨_,rfl⟩
 have cM0:=fun W (hW:TkC W g o t pc cc)=>marksOf_one t g o pc cc W hW
 rw[hNN] at hr1 cM0
 obtain⟨p,pB,pK,hN0,t0,m0,cM⟩:∃ p:World->Prop,(∀ W,p W->Below w.heap.size w W)/\(∀ W,Below w.heap.size w W->p W)/\Nonempty (CW p)/\(∀ θ:CW p,θ.w.cell? ⟨g,o,none⟩=some (.int .i64 (q:Int)))/\(∀ θ:CW p,θ.w.cell? ⟨1,q,none⟩=some (.int .i64 (mayN (q:Int):Int)))/\(∀ W,p W->Calls Tryz.prog 121 #[.pointer (some ⟨g,o,none⟩)] W fun e w'=>e = .returned (.int .i64 (N:Int))/\p w') :=
  ⟨Below w.heap.size w,fun _ h=>h,fun _ h=>h,⟨⟨w,Below.refl _ _⟩⟩,fun θ=>(θ.h.cell (p:=⟨g,o,none⟩) hg).trans t0v,fun θ=>(θ.h.cell (p:=⟨1,q,none⟩) hpos).trans mv,callB (Nat.le_refl _) (fun W hW=>cM0 W (hT.below hg hW))⟩
 have hfin:(!plainB t)=((r:Int) != 0):=by
  rw[Bool.eq_iff_iff]
  cases hp:plainB t with
  | true=>have:=hres.2 hp;simp[this]
  | false =>
   have:¬ r=0:=fun e=>by rw[hres.1 e] at hp;cases hp
   simp[this]
 rw[hfin]
 clear hfin hres hT hg hM ho hq hN hm hr2 t0v mv hNN cM0
 go_enter Tryz.func86,Tryz.ntmps86
 go_wp2_with fail
 refine wp_region_pp p [0,2,3,4,5,6,7,1,8,9,10] (by kernel_rfl) (by kernel_rfl) (fun _ _ d _ _ h=>by cases d<;>exact h) (pK _ (drw (Below.refl _ _))) ?_
 simp only[List.filterMap_cons,List.filterMap_nil,List.getElem?_cons_zero,List.getElem?_cons_succ]
 have hp:p w.drew:=pK _ (drw (Below.refl _ _))
 generalize w.drew=W at hp ⊢
 repeat (first|(refine lx_one rfl ?_;(first|go_big_quiet_skip|(go_big_quiet_want;go_big_quiet_op;go_big_quiet_on));refine wpQuiet_nil ?_)|(refine lx_p1 ent_marksOf cM hp rfl (by rfl) ?_;intro W hp;simp only[pts])|(refine lx_skip (by rfl) ?_;simp only[pts]))
 refine lx_done ?_
 go_wp2_with fail
 go_ret
 exact⟨rfl,pB _ hp⟩
theorem nempty (s : ByteArray) : (s.toList==[])=decide (s.size=0) := by
  have h : s.toList.length=s.size := by rw[ByteArray.toList_eq]; exact Array.length_toList
  cases hs : s.toList with
  | nil => rw[hs] at h; have : s.size=0 := h.symm; simp[this]
  | cons a l => rw [hs] at h; have : ¬ s.size = 0 := by simp at h; omega
                simp[this]
theorem Symbol_any (s:ByteArray) (hs:s.size<=9223372036854775806) (w:World):Calls Tryz.prog 87 #[.string s] w fun e w'=>e = .returned (.bool (symbolB s))/\w'=w:=by
 by_cases h0:s.size=0
 ·have e0:(s.toList==[])=true:=by rw[nempty];simp[h0]
  have g:symbolB s=false:=by unfold symbolB;simp[h0]
  rw[g]
  go_enter Tryz.func87,Tryz.ntmps87
  go_wp2_with fail
  go_ret
  exact⟨rfl,rfl⟩
 have e0:(s.toList==[])=false:=by rw[nempty];simp[h0]
 by_cases h64:64<s.size
 ·have d1:decide (64<(s.size:Int))=true:=by simp;omega
  have g:symbolB s=false:=by unfold symbolB;simp;omega
  rw[g]
  go_enter Tryz.func87,Tryz.ntmps87
  go_wp2_with fail
  go_ret
  exact⟨rfl,rfl⟩
 have d1:decide (64<(s.size:Int))=false:=by simp;omega
 have ix0:∀ w:World,(Instr.index 9 (.string s) (.int .i64 0)).run Tryz.prog w = .ok (.int .u8 (ch s 0:Int)) w:=fun w=>nidx (w:=w) s 0 (by omega) .i64
 cases hd0:ndig (ch s 0)
 case true =>
  have g:symbolB s=false:=by unfold symbolB;simp[hd0]
  rw[g]
  go_enter Tryz.func87,Tryz.ntmps87
  go_wp2_with (go_at_call 122;refine(nisDigit _ _).mono ?_;rintro e w1 ⟨rfl,rfl⟩)
  go_ret
  exact⟨rfl,rfl⟩
 case false =>
 go_enter Tryz.func87,Tryz.ntmps87
 go_wp2_with (go_at_call 122;refine(nisDigit _ _).mono ?_;rintro e w1 ⟨rfl,rfl⟩)
 go_loop [19] (fun i=>∃ k:Nat,k<=s.size/\i = .int .i64 (k:Int)/\∀ j,j<k->nsym (ch s j)=true) (fun i=>s.size-(intOf i).toNat)
 case atStart=>exact⟨0,Nat.zero_le _,rfl,fun j hj=>absurd hj (Nat.not_lt_zero j)⟩
 case round =>
  obtain⟨k,hk,rfl,hall⟩:=hrel
  by_cases hlt:k<s.size
  ·have d1:decide ((k:Int)<(s.size:Int))=true:=by simp;omega
   have ix:∀ w:World,(Instr.index 9 (.string s) (.int .i64 (k:Int))).run Tryz.prog w = .ok (.int .u8 (ch s k:Int)) w:=fun w=>nidx (w:=w) s k hlt .i64
   have hgo:nsym (ch s k)=true\/(nlet (ch s k)=false/\ndig (ch s k)=false/\((ch s k:Int) != 95)=true/\symbolB s=false):=by
    cases hx:nsym (ch s k)
    ·right
     have hx':=hx
     unfold nsym at hx'
     simp only[Bool.or_eq_false_iff,decide_eq_false_iff_not] at hx'
     refine⟨hx'.1.1,hx'.1.2,by simp;omega,?_⟩
     unfold symbolB
     simp only[decide_eq_false_iff_not]
     rintro⟨-,-,-,h⟩
     rw[h k hlt] at hx
     cases hx
    ·exact Or.inl rfl
   rcases hgo with hx|⟨a1,a2,a3,g⟩
   ·have hall2:∀ j,j<k+1->nsym (ch s j)=true:=fun j hj=>by
     by_cases h:j=k
     ·rw[h];exact hx
     ·exact hall j (by omega)
    have a3:((ch s k:Int) != 95) = !(decide (ch s k=95)):=by by_cases h:ch s k=95<;>simp[h];omega
    unfold nsym at hx
    clear hall
    cases hl:nlet (ch s k)<;>cases hd:ndig (ch s k)<;>cases h95:decide (ch s k=95)<;>rw[hl,hd,h95] at hx<;>first|(cases hx;done)|skip
    all_goals
     clear hx
     rw[h95] at a3
     simp only[Bool.not_true,Bool.not_false] at a3
     clear h95
     go_wp2_with (first|(go_at_call 123;refine(nisLetter _ _).mono ?_;rintro e w1 ⟨rfl,rfl⟩)|(go_at_call 122;refine(nisDigit _ _).mono ?_;rintro e w1 ⟨rfl,rfl⟩))
     go_round
     case rel=>exact⟨k+1,by omega,by go_num,hall2⟩
     case measure=>simp[intOf];omega
   ·skip
    go_wp2_with (first|(go_at_call 123;refine(nisLetter _ _).mono ?_;rintro e w1 ⟨rfl,rfl⟩)|(go_at_call 122;refine(nisDigit _ _).mono ?_;rintro e w1 ⟨rfl,rfl⟩))
    go_ret
    first|exact⟨rfl,rfl⟩|exact⟨nret g.symm,rfl⟩
  ·obtain rfl:k=s.size:=by omega
   have g:symbolB s=true:=by
    unfold symbolB
    simp only[decide_eq_true_eq]
    exact⟨by omega,by omega,hd0,hall⟩
   clear hall
   go_wp2_with fail
   go_ret
   first|exact⟨rfl,rfl⟩|exact⟨nret g.symm,rfl⟩
end Go.Proofs.YtjlbcdnkglaheaaGreatDoor
