import Derived.Test.YtcgimchhcaankaaGreatDoorK04
namespace Go.Proofs.YtcgimchhcaankaaGreatDoor
set_option maxRecDepth 1000000
set_option maxHeartbeats 16000000
open Go.ChangeShapes Go.WideShapes Go.ChangeAt Go.RowKit
theorem fits_any (s r n m x b:Int) (w:World) (hk:KOk s r) (hb:0<=b) (hb':b<18446744073709551616) :
  Calls Tryz.prog 137 #[kV s r n m x,.int .u64 b] w fun e w'=>e = .returned (.bool (fitsF s r b))/\Below w.heap.size w w':=by
 by_cases hs:s=0
 ·subst hs
  go_enter Tryz.func137,Tryz.ntmps137
  go_wp2
  go_ret
  exact⟨ret_bool rfl,(bel1 _ _).alloc (by simp) _⟩
 ·have hpos:0<s:=by unfold KOk at hk;omega
  have e:fitsF s r b=(wordF s r b==b):=by unfold fitsF;rw[decide_eq_true hpos];rfl
  rw[e]
  have hk':Hid (KOk s r):=hk
  clear hk e
  go_enter Tryz.func137,Tryz.ntmps137
  go_wp2_with (first|(go_at_call 139;refine(word_any _ _ _ _ _ _ _ hk'.out hs hb hb').mono ?_;rintro e w' ⟨rfl,hbl⟩)|(go_at_call 138;go_in))
  go_ret
  exact⟨rfl,((bel1 _ _).alloc (by simp) _).trans (hbl.mono (by simp;omega))⟩
theorem field0 (s r n m x:Int) (w:World):(Instr.field 164 (kV s r n m x) 0).run Tryz.prog w = .ok (.int .i64 s) w:=by kernel_rfl
theorem field4 (s r n m x:Int) (w:World):(Instr.field 164 (kV s r n m x) 4).run Tryz.prog w = .ok (.int .u64 x) w:=by kernel_rfl
theorem Fits_any (p b:Int) (w:World) (h:KT w) (hb:0<=b) (hb':b<18446744073709551616):Calls Tryz.prog 125 #[.int .i64 p,.int .u64 b] w fun e w'=>e = .returned (.bool (fitsF (sz p) (rd p) b))/\Below w.heap.size w w':=by
 go_enter Tryz.func125,Tryz.ntmps125
 go_wp2_with (first|(go_at_call 134;refine(kindOf_any _ _ h).mono ?_;rintro e w' ⟨rfl,hbl⟩)|(go_at_call 137;refine(fits_any _ _ _ _ _ _ _ (kok p) hb hb').mono ?_;rintro e w1 ⟨rfl,hbl1⟩))
 go_ret
 exact⟨rfl,hbl.trans (hbl1.mono hbl.size)⟩
def bitsF (n:Int):Int:=2 ^ n.toNat-1
theorem bitsF_succ (k:Nat):bitsF ((k:Int)+1)=2*bitsF k+1:=by
 unfold bitsF
 rw[show ((k:Int)+1).toNat=k+1 by omega,show (k:Int).toNat=k by omega,Int.pow_succ]
 omega
theorem bitsF_bd (n:Nat) (h:n<=64):0<=bitsF n/\bitsF n<=18446744073709551615:=by
 unfold bitsF
 rw[show (n:Int).toNat=n by omega]
 have h1:(2:Nat) ^ n<=2 ^ 64:=Nat.pow_le_pow_right (by decide) h
 have h2:0<(2:Nat) ^ n:=Nat.pow_pos (by decide)
 have h3:((2:Int) ^ n)=((2 ^ n:Nat):Int):=by norm_cast
 rw[h3]
 have h4:(2:Nat) ^ 64=18446744073709551616:=by decide
 omega
theorem bitsF_nat (n:Int):bitsF n.toNat=bitsF n:=by unfold bitsF;rw[show ((n.toNat:Nat):Int).toNat=n.toNat by omega]
theorem refBits_any (n:Int) (w:World) (h:n<=64):Calls Tryz.prog 65 #[.int .i64 n] w fun e w'=>e = .returned (.int .u64 (bitsF n))/\w'=w:=by
 go_enter Tryz.func65,Tryz.ntmps65
 go_wp2
 go_loop [3,4] (fun b i=>∃ k:Nat,k<=n.toNat/\i = .int .i64 k/\b = .int .u64 (bitsF k)) (fun _ i=>n.toNat-(intOf i).toNat)
 case atStart=>exact⟨0,Nat.zero_le _,rfl,rfl⟩
 case round =>
  obtain⟨k,hk,rfl,rfl⟩:=hrel
  have hb:=bitsF_bd k (by omega)
  have hb':=bitsF_bd (k+1)
  have HS:Hid (bitsF ((k+1:Nat):Int)=2*bitsF k+1):=bitsF_succ k
  by_cases hlt:(k:Int)<n
  ·have hm:2*bitsF k+1<=18446744073709551615:=by have:=hb' (by omega);rw[HS.out] at this;exact this.2
   clear hb'
   go_wp2
   go_round
   case rel=>exact⟨k+1,by omega,by go_num,by rw[HS.out]⟩
   case measure=>simp[intOf];omega
  ·clear hb'
   go_wp2
   go_ret
   exact⟨ret_int (by rw[<- bitsF_nat n];congr 1;omega),rfl⟩
theorem refSize_any (p:Int) (w:World):Calls Tryz.prog 47 #[.int .i64 p] w fun e w'=>e = .returned (.int .i64 (sz p))/\w'=w:=by
 rcases prim_cases p with h|rfl|rfl|rfl|rfl|rfl|rfl|rfl|rfl|rfl|rfl|rfl
 ·have e:sz p=0:=by unfold sz;rw[kRow_out p h]
  rw[e];clear e
  rcases h with h|h
  all_goals
   go_enter Tryz.func47,Tryz.ntmps47
   go_wp2
   go_ret
   exact⟨rfl,rfl⟩
 all_goals
  go_enter Tryz.func47,Tryz.ntmps47
  go_wp2
  go_ret
  exact⟨rfl,rfl⟩
theorem refSigned_any (p:Int) (w:World):Calls Tryz.prog 63 #[.int .i64 p] w fun e w'=>e = .returned (.bool (rd p==1))/\w'=w:=by
 rcases prim_cases p with h|rfl|rfl|rfl|rfl|rfl|rfl|rfl|rfl|rfl|rfl|rfl
 ·have e:(rd p==1)=false:=by unfold rd;rw[kRow_out p h];rfl
  rw[e];clear e
  rcases h with h|h
  all_goals
   go_enter Tryz.func63,Tryz.ntmps63
   go_wp2
   go_ret
   first|exact⟨rfl,rfl⟩|exact⟨ret_bool (decide_eq_false (by omega)),rfl⟩
 all_goals
  go_enter Tryz.func63,Tryz.ntmps63
  go_wp2
  go_ret
  exact⟨rfl,rfl⟩
def highF (s:Int):Int:=if s=0 then 0 else pw s / 2
theorem refHigh_any (p:Int) (w:World):Calls Tryz.prog 64 #[.int .i64 p] w fun e w'=>e = .returned (.int .u64 (highF (sz p)))/\w'=w:=by
 have hc:sz p=0\/sz p=1\/sz p=2\/sz p=4\/sz p=8:=by have:=kok p;unfold KOk at this;omega
 rcases hc with hs|hs|hs|hs|hs
 all_goals
  rw[hs]
  go_enter Tryz.func64,Tryz.ntmps64
  go_wp2_with (first|(go_at_call 47;refine(refSize_any _ _).mono ?_;rintro e w' ⟨rfl,rfl⟩)|(go_at_call 65;refine(refBits_any _ _ (by omega)).mono ?_;rintro e w' ⟨rfl,rfl⟩))
  go_ret
  exact⟨ret_int (by simp only[IntKind.wrap_u64];decide),rfl⟩
theorem sz_rd:sz 0=1/\(rd 0==1)=false/\sz 1=1/\(rd 1==1)=true/\sz 2=2/\(rd 2==1)=true/\sz 3=4/\(rd 3==1)=true/\sz 4=8/\(rd 4==1)=true/\sz 5=1/\(rd 5==1)=false/\sz 6=2/\(rd 6==1)=false/\sz 7=4/\(rd 7==1)=false/\sz 8=8/\(rd 8==1)=false/\sz 9=4/\(rd 9==1)=false/\sz 10=8/\(rd 10==1)=false:=by decide
theorem refNull_any (p:Int) (w:World):Calls Tryz.prog 68 #[.int .i64 p] w fun e w'=>e = .returned (.int .u64 (nl p))/\w'=w:=by
 rcases prim_cases p with h|rfl|rfl|rfl|rfl|rfl|rfl|rfl|rfl|rfl|rfl|rfl
 ·have e:nl p=0:=by unfold nl;rw[kRow_out p h]
  have e1:sz p=0:=by unfold sz;rw[kRow_out p h]
  have e2:(rd p==1)=false:=by unfold rd;rw[kRow_out p h];rfl
  rw[e];clear e
  rcases h with h|h
  all_goals
   go_enter Tryz.func68,Tryz.ntmps68
   go_wp2_with (first|(go_at_call 47;refine(refSize_any _ _).mono ?_;rintro e w' ⟨rfl,rfl⟩)|(go_at_call 63;refine(refSigned_any _ _).mono ?_;rintro e w' ⟨rfl,rfl⟩)|(go_at_call 65;refine(refBits_any _ _ (by omega)).mono ?_;rintro e w' ⟨rfl,rfl⟩)|(go_at_call 64;refine(refHigh_any _ _).mono ?_;rintro e w' ⟨rfl,rfl⟩))
   go_ret
   exact⟨rfl,rfl⟩
 all_goals
  obtain⟨a0,a1,a2,a3,a4,a5,a6,a7,a8,a9,a10,a11,a12,a13,a14,a15,a16,a17,a18,a19,a20,a21⟩:=sz_rd
  go_enter Tryz.func68,Tryz.ntmps68
  go_wp2_with (first|(go_at_call 47;refine(refSize_any _ _).mono ?_;rintro e w' ⟨rfl,rfl⟩)|(go_at_call 63;refine(refSigned_any _ _).mono ?_;rintro e w' ⟨rfl,rfl⟩)|(go_at_call 65;refine(refBits_any _ _ (by omega)).mono ?_;rintro e w' ⟨rfl,rfl⟩)|(go_at_call 64;refine(refHigh_any _ _).mono ?_;rintro e w' ⟨rfl,rfl⟩))
  go_ret
  first|exact⟨rfl,rfl⟩|exact⟨ret_int (by simp only[IntKind.wrap_u64];decide),rfl⟩
theorem refMax_any (p:Int) (w:World):Calls Tryz.prog 48 #[.int .i64 p] w fun e w'=>e = .returned (.int .u64 (mx p))/\w'=w:=by
 rcases prim_cases p with h|rfl|rfl|rfl|rfl|rfl|rfl|rfl|rfl|rfl|rfl|rfl
 ·have e:mx p=0:=by unfold mx;rw[kRow_out p h]
  have e1:sz p=0:=by unfold sz;rw[kRow_out p h]
  have e2:(rd p==1)=false:=by unfold rd;rw[kRow_out p h];rfl
  rw[e];clear e
  have g0:(p==0)=false:=by simp;omega
  have g9:(p==9)=false:=by simp;omega
  have g10:(p==10)=false:=by simp;omega
  rcases h with h|h
  all_goals
   go_enter Tryz.func48,Tryz.ntmps48
   go_wp2_with (first|(go_at_call 47;refine(refSize_any _ _).mono ?_;rintro e w' ⟨rfl,rfl⟩)|(go_at_call 63;refine(refSigned_any _ _).mono ?_;rintro e w' ⟨rfl,rfl⟩)|(go_at_call 68;refine(refNull_any _ _).mono ?_;rintro e w' ⟨rfl,rfl⟩)|(go_at_call 65;refine(refBits_any _ _ (by omega)).mono ?_;rintro e w' ⟨rfl,rfl⟩)|(go_at_call 64;refine(refHigh_any _ _).mono ?_;rintro e w' ⟨rfl,rfl⟩))
   go_ret
   exact⟨rfl,rfl⟩
 all_goals
  obtain⟨a0,a1,a2,a3,a4,a5,a6,a7,a8,a9,a10,a11,a12,a13,a14,a15,a16,a17,a18,a19,a20,a21⟩:=sz_rd
  go_enter Tryz.func48,Tryz.ntmps48
  go_wp2_with (first|(go_at_call 47;refine(refSize_any _ _).mono ?_;rintro e w' ⟨rfl,rfl⟩)|(go_at_call 63;refine(refSigned_any _ _).mono ?_;rintro e w' ⟨rfl,rfl⟩)|(go_at_call 68;refine(refNull_any _ _).mono ?_;rintro e w' ⟨rfl,rfl⟩)|(go_at_call 65;refine(refBits_any _ _ (by omega)).mono ?_;rintro e w' ⟨rfl,rfl⟩)|(go_at_call 64;refine(refHigh_any _ _).mono ?_;rintro e w' ⟨rfl,rfl⟩))
  go_ret
  first|exact⟨rfl,rfl⟩|exact⟨ret_int (by simp only[IntKind.wrap_u64];decide),rfl⟩
theorem or_no {p q:Prop} [Decidable p] [Decidable q] (h:¬ p):(decide p||decide q)=decide q:=by simp[h]
theorem bool_of {x:Bool} {q:Prop} [Decidable q] (h:x=true↔q):decide q=x:=by cases x<;>simp_all
theorem refFits_0 (b:Int) (w:World) (h0:0<=b) (h1:b<18446744073709551616):Calls Tryz.prog 52 #[.int .i64 0,.int .u64 b] w fun e w'=>e = .returned (.bool (fitsF 1 0 b))/\w'=w:=by
 have e1:sz 0=1:=rfl
 have e2:(rd 0==1)=false:=rfl
 have F:=fits_iff 1 0 b (by unfold KOk;omega) h0 h1
 simp[pw] at F
 have e3:bitsF 8=255:=rfl
 have G:decide (b<=255)=fitsF 1 0 b:=bool_of (F.trans (by omega))
 rw[<- G];clear F G
 go_enter Tryz.func52,Tryz.ntmps52
 go_wp2_with (first|(go_at_call 47;refine(refSize_any _ _).mono ?_;rintro e w' ⟨rfl,rfl⟩)|(go_at_call 63;refine(refSigned_any _ _).mono ?_;rintro e w' ⟨rfl,rfl⟩)|(go_at_call 68;refine(refNull_any _ _).mono ?_;rintro e w' ⟨rfl,rfl⟩)|(go_at_call 65;refine(refBits_any _ _ (by omega)).mono ?_;rintro e w' ⟨rfl,rfl⟩)|(go_at_call 64;refine(refHigh_any _ _).mono ?_;rintro e w' ⟨rfl,rfl⟩))
 go_ret
 exact⟨rfl,rfl⟩
theorem refFits_1 (b:Int) (w:World) (h0:0<=b) (h1:b<18446744073709551616):Calls Tryz.prog 52 #[.int .i64 1,.int .u64 b] w fun e w'=>e = .returned (.bool (fitsF 1 1 b))/\w'=w:=by
 have e1:sz 1=1:=rfl
 have e2:(rd 1==1)=true:=rfl
 have F:=fits_iff 1 1 b (by unfold KOk;omega) h0 h1
 simp[pw] at F
 have e3:highF 1=128:=rfl
 have e4:nl 1=18446744073709551488:=rfl
 by_cases g1:b<128
 ·have G:fitsF 1 1 b=true:=F.2 (by omega)
  rw[G];clear F G
  go_enter Tryz.func52,Tryz.ntmps52
  go_wp2_with (first|(go_at_call 47;refine(refSize_any _ _).mono ?_;rintro e w' ⟨rfl,rfl⟩)|(go_at_call 63;refine(refSigned_any _ _).mono ?_;rintro e w' ⟨rfl,rfl⟩)|(go_at_call 68;refine(refNull_any _ _).mono ?_;rintro e w' ⟨rfl,rfl⟩)|(go_at_call 65;refine(refBits_any _ _ (by omega)).mono ?_;rintro e w' ⟨rfl,rfl⟩)|(go_at_call 64;refine(refHigh_any _ _).mono ?_;rintro e w' ⟨rfl,rfl⟩))
  go_ret
  first|exact⟨rfl,rfl⟩|exact⟨ret_bool (or_no (by omega)),rfl⟩|exact⟨ret_bool (decide_eq_true (by omega)).symm,rfl⟩
 ·have G:decide (18446744073709551488<=b)=fitsF 1 1 b:=bool_of (F.trans (by omega))
  rw[<- G];clear F G
  go_enter Tryz.func52,Tryz.ntmps52
  go_wp2_with (first|(go_at_call 47;refine(refSize_any _ _).mono ?_;rintro e w' ⟨rfl,rfl⟩)|(go_at_call 63;refine(refSigned_any _ _).mono ?_;rintro e w' ⟨rfl,rfl⟩)|(go_at_call 68;refine(refNull_any _ _).mono ?_;rintro e w' ⟨rfl,rfl⟩)|(go_at_call 65;refine(refBits_any _ _ (by omega)).mono ?_;rintro e w' ⟨rfl,rfl⟩)|(go_at_call 64;refine(refHigh_any _ _).mono ?_;rintro e w' ⟨rfl,rfl⟩))
  go_ret
  first|exact⟨rfl,rfl⟩|exact⟨ret_bool (or_no (by omega)),rfl⟩|exact⟨ret_bool (decide_eq_true (by omega)).symm,rfl⟩
theorem refFits_2 (b:Int) (w:World) (h0:0<=b) (h1:b<18446744073709551616):Calls Tryz.prog 52 #[.int .i64 2,.int .u64 b] w fun e w'=>e = .returned (.bool (fitsF 2 1 b))/\w'=w:=by
 have e1:sz 2=2:=rfl
 have e2:(rd 2==1)=true:=rfl
 have F:=fits_iff 2 1 b (by unfold KOk;omega) h0 h1
 simp[pw] at F
 have e3:highF 2=32768:=rfl
 have e4:nl 2=18446744073709518848:=rfl
 by_cases g1:b<32768
 ·have G:fitsF 2 1 b=true:=F.2 (by omega)
  rw[G];clear F G
  go_enter Tryz.func52,Tryz.ntmps52
  go_wp2_with (first|(go_at_call 47;refine(refSize_any _ _).mono ?_;rintro e w' ⟨rfl,rfl⟩)|(go_at_call 63;refine(refSigned_any _ _).mono ?_;rintro e w' ⟨rfl,rfl⟩)|(go_at_call 68;refine(refNull_any _ _).mono ?_;rintro e w' ⟨rfl,rfl⟩)|(go_at_call 65;refine(refBits_any _ _ (by omega)).mono ?_;rintro e w' ⟨rfl,rfl⟩)|(go_at_call 64;refine(refHigh_any _ _).mono ?_;rintro e w' ⟨rfl,rfl⟩))
  go_ret
  first|exact⟨rfl,rfl⟩|exact⟨ret_bool (or_no (by omega)),rfl⟩|exact⟨ret_bool (decide_eq_true (by omega)).symm,rfl⟩
 ·have G:decide (18446744073709518848<=b)=fitsF 2 1 b:=bool_of (F.trans (by omega))
  rw[<- G];clear F G
  go_enter Tryz.func52,Tryz.ntmps52
  go_wp2_with (first|(go_at_call 47;refine(refSize_any _ _).mono ?_;rintro e w' ⟨rfl,rfl⟩)|(go_at_call 63;refine(refSigned_any _ _).mono ?_;rintro e w' ⟨rfl,rfl⟩)|(go_at_call 68;refine(refNull_any _ _).mono ?_;rintro e w' ⟨rfl,rfl⟩)|(go_at_call 65;refine(refBits_any _ _ (by omega)).mono ?_;rintro e w' ⟨rfl,rfl⟩)|(go_at_call 64;refine(refHigh_any _ _).mono ?_;rintro e w' ⟨rfl,rfl⟩))
  go_ret
  first|exact⟨rfl,rfl⟩|exact⟨ret_bool (or_no (by omega)),rfl⟩|exact⟨ret_bool (decide_eq_true (by omega)).symm,rfl⟩
theorem refFits_3 (b:Int) (w:World) (h0:0<=b) (h1:b<18446744073709551616):Calls Tryz.prog 52 #[.int .i64 3,.int .u64 b] w fun e w'=>e = .returned (.bool (fitsF 4 1 b))/\w'=w:=by
 have e1:sz 3=4:=rfl
 have e2:(rd 3==1)=true:=rfl
 have F:=fits_iff 4 1 b (by unfold KOk;omega) h0 h1
 simp[pw] at F
 have e3:highF 4=2147483648:=rfl
 have e4:nl 3=18446744071562067968:=rfl
 by_cases g1:b<2147483648
 ·have G:fitsF 4 1 b=true:=F.2 (by omega)
  rw[G];clear F G
  go_enter Tryz.func52,Tryz.ntmps52
  go_wp2_with (first|(go_at_call 47;refine(refSize_any _ _).mono ?_;rintro e w' ⟨rfl,rfl⟩)|(go_at_call 63;refine(refSigned_any _ _).mono ?_;rintro e w' ⟨rfl,rfl⟩)|(go_at_call 68;refine(refNull_any _ _).mono ?_;rintro e w' ⟨rfl,rfl⟩)|(go_at_call 65;refine(refBits_any _ _ (by omega)).mono ?_;rintro e w' ⟨rfl,rfl⟩)|(go_at_call 64;refine(refHigh_any _ _).mono ?_;rintro e w' ⟨rfl,rfl⟩))
  go_ret
  first|exact⟨rfl,rfl⟩|exact⟨ret_bool (or_no (by omega)),rfl⟩|exact⟨ret_bool (decide_eq_true (by omega)).symm,rfl⟩
 ·have G:decide (18446744071562067968<=b)=fitsF 4 1 b:=bool_of (F.trans (by omega))
  rw[<- G];clear F G
  go_enter Tryz.func52,Tryz.ntmps52
  go_wp2_with (first|(go_at_call 47;refine(refSize_any _ _).mono ?_;rintro e w' ⟨rfl,rfl⟩)|(go_at_call 63;refine(refSigned_any _ _).mono ?_;rintro e w' ⟨rfl,rfl⟩)|(go_at_call 68;refine(refNull_any _ _).mono ?_;rintro e w' ⟨rfl,rfl⟩)|(go_at_call 65;refine(refBits_any _ _ (by omega)).mono ?_;rintro e w' ⟨rfl,rfl⟩)|(go_at_call 64;refine(refHigh_any _ _).mono ?_;rintro e w' ⟨rfl,rfl⟩))
  go_ret
  first|exact⟨rfl,rfl⟩|exact⟨ret_bool (or_no (by omega)),rfl⟩|exact⟨ret_bool (decide_eq_true (by omega)).symm,rfl⟩
theorem refFits_4 (b:Int) (w:World) (h0:0<=b) (h1:b<18446744073709551616):Calls Tryz.prog 52 #[.int .i64 4,.int .u64 b] w fun e w'=>e = .returned (.bool (fitsF 8 1 b))/\w'=w:=by
 have e1:sz 4=8:=rfl
 have e2:(rd 4==1)=true:=rfl
 have F:=fits_iff 8 1 b (by unfold KOk;omega) h0 h1
 simp[pw] at F
 have e3:highF 8=9223372036854775808:=rfl
 have e4:nl 4=9223372036854775808:=rfl
 by_cases g1:b<9223372036854775808
 ·have G:fitsF 8 1 b=true:=F.2 (by omega)
  rw[G];clear F G
  go_enter Tryz.func52,Tryz.ntmps52
  go_wp2_with (first|(go_at_call 47;refine(refSize_any _ _).mono ?_;rintro e w' ⟨rfl,rfl⟩)|(go_at_call 63;refine(refSigned_any _ _).mono ?_;rintro e w' ⟨rfl,rfl⟩)|(go_at_call 68;refine(refNull_any _ _).mono ?_;rintro e w' ⟨rfl,rfl⟩)|(go_at_call 65;refine(refBits_any _ _ (by omega)).mono ?_;rintro e w' ⟨rfl,rfl⟩)|(go_at_call 64;refine(refHigh_any _ _).mono ?_;rintro e w' ⟨rfl,rfl⟩))
  go_ret
  first|exact⟨rfl,rfl⟩|exact⟨ret_bool (or_no (by omega)),rfl⟩|exact⟨ret_bool (decide_eq_true (by omega)).symm,rfl⟩
 ·have G:decide (9223372036854775808<=b)=fitsF 8 1 b:=bool_of (F.trans (by omega))
  rw[<- G];clear F G
  go_enter Tryz.func52,Tryz.ntmps52
  go_wp2_with (first|(go_at_call 47;refine(refSize_any _ _).mono ?_;rintro e w' ⟨rfl,rfl⟩)|(go_at_call 63;refine(refSigned_any _ _).mono ?_;rintro e w' ⟨rfl,rfl⟩)|(go_at_call 68;refine(refNull_any _ _).mono ?_;rintro e w' ⟨rfl,rfl⟩)|(go_at_call 65;refine(refBits_any _ _ (by omega)).mono ?_;rintro e w' ⟨rfl,rfl⟩)|(go_at_call 64;refine(refHigh_any _ _).mono ?_;rintro e w' ⟨rfl,rfl⟩))
  go_ret
  first|exact⟨rfl,rfl⟩|exact⟨ret_bool (or_no (by omega)),rfl⟩|exact⟨ret_bool (decide_eq_true (by omega)).symm,rfl⟩
theorem refFits_5 (b:Int) (w:World) (h0:0<=b) (h1:b<18446744073709551616):Calls Tryz.prog 52 #[.int .i64 5,.int .u64 b] w fun e w'=>e = .returned (.bool (fitsF 1 0 b))/\w'=w:=by
 have e1:sz 5=1:=rfl
 have e2:(rd 5==1)=false:=rfl
 have F:=fits_iff 1 0 b (by unfold KOk;omega) h0 h1
 simp[pw] at F
 have e3:bitsF 8=255:=rfl
 have G:decide (b<=255)=fitsF 1 0 b:=bool_of (F.trans (by omega))
 rw[<- G];clear F G
 go_enter Tryz.func52,Tryz.ntmps52
 go_wp2_with (first|(go_at_call 47;refine(refSize_any _ _).mono ?_;rintro e w' ⟨rfl,rfl⟩)|(go_at_call 63;refine(refSigned_any _ _).mono ?_;rintro e w' ⟨rfl,rfl⟩)|(go_at_call 68;refine(refNull_any _ _).mono ?_;rintro e w' ⟨rfl,rfl⟩)|(go_at_call 65;refine(refBits_any _ _ (by omega)).mono ?_;rintro e w' ⟨rfl,rfl⟩)|(go_at_call 64;refine(refHigh_any _ _).mono ?_;rintro e w' ⟨rfl,rfl⟩))
 go_ret
 exact⟨rfl,rfl⟩
theorem refFits_6 (b:Int) (w:World) (h0:0<=b) (h1:b<18446744073709551616):Calls Tryz.prog 52 #[.int .i64 6,.int .u64 b] w fun e w'=>e = .returned (.bool (fitsF 2 0 b))/\w'=w:=by
 have e1:sz 6=2:=rfl
 have e2:(rd 6==1)=false:=rfl
 have F:=fits_iff 2 0 b (by unfold KOk;omega) h0 h1
 simp[pw] at F
 have e3:bitsF 16=65535:=rfl
 have G:decide (b<=65535)=fitsF 2 0 b:=bool_of (F.trans (by omega))
 rw[<- G];clear F G
 go_enter Tryz.func52,Tryz.ntmps52
 go_wp2_with (first|(go_at_call 47;refine(refSize_any _ _).mono ?_;rintro e w' ⟨rfl,rfl⟩)|(go_at_call 63;refine(refSigned_any _ _).mono ?_;rintro e w' ⟨rfl,rfl⟩)|(go_at_call 68;refine(refNull_any _ _).mono ?_;rintro e w' ⟨rfl,rfl⟩)|(go_at_call 65;refine(refBits_any _ _ (by omega)).mono ?_;rintro e w' ⟨rfl,rfl⟩)|(go_at_call 64;refine(refHigh_any _ _).mono ?_;rintro e w' ⟨rfl,rfl⟩))
 go_ret
 exact⟨rfl,rfl⟩
theorem refFits_7 (b:Int) (w:World) (h0:0<=b) (h1:b<18446744073709551616):Calls Tryz.prog 52 #[.int .i64 7,.int .u64 b] w fun e w'=>e = .returned (.bool (fitsF 4 0 b))/\w'=w:=by
 have e1:sz 7=4:=rfl
 have e2:(rd 7==1)=false:=rfl
 have F:=fits_iff 4 0 b (by unfold KOk;omega) h0 h1
 simp[pw] at F
 have e3:bitsF 32=4294967295:=rfl
 have G:decide (b<=4294967295)=fitsF 4 0 b:=bool_of (F.trans (by omega))
 rw[<- G];clear F G
 go_enter Tryz.func52,Tryz.ntmps52
 go_wp2_with (first|(go_at_call 47;refine(refSize_any _ _).mono ?_;rintro e w' ⟨rfl,rfl⟩)|(go_at_call 63;refine(refSigned_any _ _).mono ?_;rintro e w' ⟨rfl,rfl⟩)|(go_at_call 68;refine(refNull_any _ _).mono ?_;rintro e w' ⟨rfl,rfl⟩)|(go_at_call 65;refine(refBits_any _ _ (by omega)).mono ?_;rintro e w' ⟨rfl,rfl⟩)|(go_at_call 64;refine(refHigh_any _ _).mono ?_;rintro e w' ⟨rfl,rfl⟩))
 go_ret
 exact⟨rfl,rfl⟩
theorem refFits_8 (b:Int) (w:World) (h0:0<=b) (h1:b<18446744073709551616):Calls Tryz.prog 52 #[.int .i64 8,.int .u64 b] w fun e w'=>e = .returned (.bool (fitsF 8 0 b))/\w'=w:=by
 have e1:sz 8=8:=rfl
 have e2:(rd 8==1)=false:=rfl
 have F:=fits_iff 8 0 b (by unfold KOk;omega) h0 h1
 simp[pw] at F
 have e3:bitsF 64=18446744073709551615:=rfl
 have G:decide (b<=18446744073709551615)=fitsF 8 0 b:=bool_of (F.trans (by omega))
 rw[<- G];clear F G
 go_enter Tryz.func52,Tryz.ntmps52
 go_wp2_with (first|(go_at_call 47;refine(refSize_any _ _).mono ?_;rintro e w' ⟨rfl,rfl⟩)|(go_at_call 63;refine(refSigned_any _ _).mono ?_;rintro e w' ⟨rfl,rfl⟩)|(go_at_call 68;refine(refNull_any _ _).mono ?_;rintro e w' ⟨rfl,rfl⟩)|(go_at_call 65;refine(refBits_any _ _ (by omega)).mono ?_;rintro e w' ⟨rfl,rfl⟩)|(go_at_call 64;refine(refHigh_any _ _).mono ?_;rintro e w' ⟨rfl,rfl⟩))
 go_ret
 exact⟨rfl,rfl⟩
theorem refFits_9 (b:Int) (w:World) (h0:0<=b) (h1:b<18446744073709551616):Calls Tryz.prog 52 #[.int .i64 9,.int .u64 b] w fun e w'=>e = .returned (.bool (fitsF 4 2 b))/\w'=w:=by
 have e1:sz 9=4:=rfl
 have e2:(rd 9==1)=false:=rfl
 have F:=fits_iff 4 2 b (by unfold KOk;omega) h0 h1
 simp[pw] at F
 have e3:bitsF 32=4294967295:=rfl
 have G:decide (b<=4294967295)=fitsF 4 2 b:=bool_of (F.trans (by omega))
 rw[<- G];clear F G
 go_enter Tryz.func52,Tryz.ntmps52
 go_wp2_with (first|(go_at_call 47;refine(refSize_any _ _).mono ?_;rintro e w' ⟨rfl,rfl⟩)|(go_at_call 63;refine(refSigned_any _ _).mono ?_;rintro e w' ⟨rfl,rfl⟩)|(go_at_call 68;refine(refNull_any _ _).mono ?_;rintro e w' ⟨rfl,rfl⟩)|(go_at_call 65;refine(refBits_any _ _ (by omega)).mono ?_;rintro e w' ⟨rfl,rfl⟩)|(go_at_call 64;refine(refHigh_any _ _).mono ?_;rintro e w' ⟨rfl,rfl⟩))
 go_ret
 exact⟨rfl,rfl⟩
theorem refFits_10 (b:Int) (w:World) (h0:0<=b) (h1:b<18446744073709551616):Calls Tryz.prog 52 #[.int .i64 10,.int .u64 b] w fun e w'=>e = .returned (.bool (fitsF 8 2 b))/\w'=w:=by
 have e1:sz 10=8:=rfl
 have e2:(rd 10==1)=false:=rfl
 have F:=fits_iff 8 2 b (by unfold KOk;omega) h0 h1
 simp[pw] at F
 have e3:bitsF 64=18446744073709551615:=rfl
 have G:decide (b<=18446744073709551615)=fitsF 8 2 b:=bool_of (F.trans (by omega))
 rw[<- G];clear F G
 go_enter Tryz.func52,Tryz.ntmps52
 go_wp2_with (first|(go_at_call 47;refine(refSize_any _ _).mono ?_;rintro e w' ⟨rfl,rfl⟩)|(go_at_call 63;refine(refSigned_any _ _).mono ?_;rintro e w' ⟨rfl,rfl⟩)|(go_at_call 68;refine(refNull_any _ _).mono ?_;rintro e w' ⟨rfl,rfl⟩)|(go_at_call 65;refine(refBits_any _ _ (by omega)).mono ?_;rintro e w' ⟨rfl,rfl⟩)|(go_at_call 64;refine(refHigh_any _ _).mono ?_;rintro e w' ⟨rfl,rfl⟩))
 go_ret
 exact⟨rfl,rfl⟩
theorem refFits_any (p b:Int) (w:World) (h0:0<=b) (h1:b<18446744073709551616):Calls Tryz.prog 52 #[.int .i64 p,.int .u64 b] w fun e w'=>e = .returned (.bool (fitsF (sz p) (rd p) b))/\w'=w:=by
 rcases prim_cases p with h|rfl|rfl|rfl|rfl|rfl|rfl|rfl|rfl|rfl|rfl|rfl
 ·have e1:sz p=0:=by unfold sz;rw[kRow_out p h]
  have e2:fitsF (sz p) (rd p) b=false:=by rw[e1];rfl
  rw[e2];clear e2 h
  go_enter Tryz.func52,Tryz.ntmps52
  go_wp2_with (first|(go_at_call 47;refine(refSize_any _ _).mono ?_;rintro e w' ⟨rfl,rfl⟩)|(go_at_call 63;refine(refSigned_any _ _).mono ?_;rintro e w' ⟨rfl,rfl⟩)|(go_at_call 68;refine(refNull_any _ _).mono ?_;rintro e w' ⟨rfl,rfl⟩)|(go_at_call 65;refine(refBits_any _ _ (by omega)).mono ?_;rintro e w' ⟨rfl,rfl⟩)|(go_at_call 64;refine(refHigh_any _ _).mono ?_;rintro e w' ⟨rfl,rfl⟩))
  go_ret
  exact⟨rfl,rfl⟩
 ·exact refFits_0 b w h0 h1
 ·exact refFits_1 b w h0 h1
 ·exact refFits_2 b w h0 h1
 ·exact refFits_3 b w h0 h1
 ·exact refFits_4 b w h0 h1
 ·exact refFits_5 b w h0 h1
 ·exact refFits_6 b w h0 h1
 ·exact refFits_7 b w h0 h1
 ·exact refFits_8 b w h0 h1
 ·exact refFits_9 b w h0 h1
 ·exact refFits_10 b w h0 h1
end Go.Proofs.YtcgimchhcaankaaGreatDoor
