import Derived.Test.YtkcjdncchoohoaaGreatDoorK04
namespace Go.Proofs.YtkcjdncchoohoaaGreatDoor
set_option maxRecDepth 1000000
set_option maxHeartbeats 16000000
open Go.ChangeShapes Go.WideShapes Go.ChangeAt Go.RowKit
variable {B:Nat} {W a w w':World} {o:Obj} {q:Prop} {ty:TypeId} {v:Value}
def bitsF (n:Int):Int:=2 ^ n.toNat-1
theorem bitsF_succ (k:Nat):bitsF ((k:Int)+1)=2*bitsF k+1:=by
 unfold bitsF
 rw[show ((k:Int)+1).toNat=k+1 by omega,show (k:Int).toNat=k by omega,Int.pow_succ]
 omega
theorem bitsF_bd (n:Nat) (h:n<=64):0<=bitsF n/\bitsF n<=18446744073709551615:=by
 unfold bitsF
 rw[show (n:Int).toNat=n by omega]
 have h1:(2:Nat) ^ n<=2 ^ 64:=Nat.pow_le_pow_right (by decide) h
 have h2:0<(2:Nat) ^ n:=Nat.pow_pos (by decide)
 have h3:((2:Int) ^ n)=((2 ^ n:Nat):Int):=by norm_cast
 rw[h3]
 have h4:(2:Nat) ^ 64=18446744073709551616:=by decide
 omega
theorem bitsF_nat (n:Int):bitsF n.toNat=bitsF n:=by unfold bitsF;rw[show ((n.toNat:Nat):Int).toNat=n.toNat by omega]
theorem refBits_any (n:Int) (w:World) (h:n<=64):Calls Tryz.prog 107 #[.int .i64 n] w fun e w'=>e = .returned (.int .u64 (bitsF n))/\w'=w:=by
 go_enter Tryz.func107,Tryz.ntmps107
 go_wp2
 go_loop [3,4] (fun b i=>∃ k:Nat,k<=n.toNat/\i = .int .i64 k/\b = .int .u64 (bitsF k)) (fun _ i=>n.toNat-(intOf i).toNat)
 case atStart=>exact⟨0,Nat.zero_le _,rfl,rfl⟩
 case round =>
  obtain⟨k,hk,rfl,rfl⟩:=hrel
  have hb:=bitsF_bd k (by omega)
  have hb':=bitsF_bd (k+1)
  have HS:Hid (bitsF ((k+1:Nat):Int)=2*bitsF k+1):=bitsF_succ k
  by_cases hlt:(k:Int)<n
  ·have hm:2*bitsF k+1<=18446744073709551615:=by have:=hb' (by omega);rw[HS.out] at this;exact this.2
   clear hb'
   go_wp2
   go_round
   case rel=>exact⟨k+1,by omega,by go_num,by rw[HS.out]⟩
   case measure=>simp[intOf];omega
  ·clear hb'
   go_wp2
   go_ret
   exact⟨ret_int (by rw[<- bitsF_nat n];congr 1;omega),rfl⟩
theorem refSize_any (p:Int) (w:World):Calls Tryz.prog 67 #[.int .i64 p] w fun e w'=>e = .returned (.int .i64 (sz p))/\w'=w:=by
 rcases prim_cases p with h|rfl|rfl|rfl|rfl|rfl|rfl|rfl|rfl|rfl|rfl|rfl
 ·have e:sz p=0:=by unfold sz;rw[kRow_out p h]
  rw[e];clear e
  rcases h with h|h
  all_goals
   go_enter Tryz.func67,Tryz.ntmps67
   go_wp2
   go_ret
   exact⟨rfl,rfl⟩
 all_goals
  go_enter Tryz.func67,Tryz.ntmps67
  go_wp2
  go_ret
  exact⟨rfl,rfl⟩
theorem refSigned_any (p:Int) (w:World):Calls Tryz.prog 105 #[.int .i64 p] w fun e w'=>e = .returned (.bool (rd p==1))/\w'=w:=by
 rcases prim_cases p with h|rfl|rfl|rfl|rfl|rfl|rfl|rfl|rfl|rfl|rfl|rfl
 ·have e:(rd p==1)=false:=by unfold rd;rw[kRow_out p h];rfl
  rw[e];clear e
  rcases h with h|h
  all_goals
   go_enter Tryz.func105,Tryz.ntmps105
   go_wp2
   go_ret
   first|exact⟨rfl,rfl⟩|exact⟨ret_bool (decide_eq_false (by omega)),rfl⟩
 all_goals
  go_enter Tryz.func105,Tryz.ntmps105
  go_wp2
  go_ret
  exact⟨rfl,rfl⟩
def highF (s:Int):Int:=if s=0 then 0 else pw s / 2
theorem refHigh_any (p:Int) (w:World):Calls Tryz.prog 106 #[.int .i64 p] w fun e w'=>e = .returned (.int .u64 (highF (sz p)))/\w'=w:=by
 have hc:sz p=0\/sz p=1\/sz p=2\/sz p=4\/sz p=8:=by have:=kok p;unfold KOk at this;omega
 rcases hc with hs|hs|hs|hs|hs
 all_goals
  rw[hs]
  go_enter Tryz.func106,Tryz.ntmps106
  go_wp2_with (first|(go_at_call 67;refine(refSize_any _ _).mono ?_;rintro e w' ⟨rfl,rfl⟩)|(go_at_call 107;refine(refBits_any _ _ (by omega)).mono ?_;rintro e w' ⟨rfl,rfl⟩))
  go_ret
  exact⟨ret_int (by simp only[IntKind.wrap_u64];decide),rfl⟩
theorem sz_rd:sz 0=1/\(rd 0==1)=false/\sz 1=1/\(rd 1==1)=true/\sz 2=2/\(rd 2==1)=true/\sz 3=4/\(rd 3==1)=true/\sz 4=8/\(rd 4==1)=true/\sz 5=1/\(rd 5==1)=false/\sz 6=2/\(rd 6==1)=false/\sz 7=4/\(rd 7==1)=false/\sz 8=8/\(rd 8==1)=false/\sz 9=4/\(rd 9==1)=false/\sz 10=8/\(rd 10==1)=false:=by decide
theorem refNull_any (p:Int) (w:World):Calls Tryz.prog 110 #[.int .i64 p] w fun e w'=>e = .returned (.int .u64 (nl p))/\w'=w:=by
 rcases prim_cases p with h|rfl|rfl|rfl|rfl|rfl|rfl|rfl|rfl|rfl|rfl|rfl
 ·have e:nl p=0:=by unfold nl;rw[kRow_out p h]
  have e1:sz p=0:=by unfold sz;rw[kRow_out p h]
  have e2:(rd p==1)=false:=by unfold rd;rw[kRow_out p h];rfl
  rw[e];clear e
  rcases h with h|h
  all_goals
   go_enter Tryz.func110,Tryz.ntmps110
   go_wp2_with (first|(go_at_call 67;refine(refSize_any _ _).mono ?_;rintro e w' ⟨rfl,rfl⟩)|(go_at_call 105;refine(refSigned_any _ _).mono ?_;rintro e w' ⟨rfl,rfl⟩)|(go_at_call 107;refine(refBits_any _ _ (by omega)).mono ?_;rintro e w' ⟨rfl,rfl⟩)|(go_at_call 106;refine(refHigh_any _ _).mono ?_;rintro e w' ⟨rfl,rfl⟩))
   go_ret
   exact⟨rfl,rfl⟩
 all_goals
  obtain⟨a0,a1,a2,a3,a4,a5,a6,a7,a8,a9,a10,a11,a12,a13,a14,a15,a16,a17,a18,a19,a20,a21⟩:=sz_rd
  go_enter Tryz.func110,Tryz.ntmps110
  go_wp2_with (first|(go_at_call 67;refine(refSize_any _ _).mono ?_;rintro e w' ⟨rfl,rfl⟩)|(go_at_call 105;refine(refSigned_any _ _).mono ?_;rintro e w' ⟨rfl,rfl⟩)|(go_at_call 107;refine(refBits_any _ _ (by omega)).mono ?_;rintro e w' ⟨rfl,rfl⟩)|(go_at_call 106;refine(refHigh_any _ _).mono ?_;rintro e w' ⟨rfl,rfl⟩))
  go_ret
  first|exact⟨rfl,rfl⟩|exact⟨ret_int (by simp only[IntKind.wrap_u64];decide),rfl⟩
theorem refMax_any (p:Int) (w:World):Calls Tryz.prog 68 #[.int .i64 p] w fun e w'=>e = .returned (.int .u64 (mx p))/\w'=w:=by
 rcases prim_cases p with h|rfl|rfl|rfl|rfl|rfl|rfl|rfl|rfl|rfl|rfl|rfl
 ·have e:mx p=0:=by unfold mx;rw[kRow_out p h]
  have e1:sz p=0:=by unfold sz;rw[kRow_out p h]
  have e2:(rd p==1)=false:=by unfold rd;rw[kRow_out p h];rfl
  rw[e];clear e
  have g0:(p==0)=false:=by simp;omega
  have g9:(p==9)=false:=by simp;omega
  have g10:(p==10)=false:=by simp;omega
  rcases h with h|h
  all_goals
   go_enter Tryz.func68,Tryz.ntmps68
   go_wp2_with (first|(go_at_call 67;refine(refSize_any _ _).mono ?_;rintro e w' ⟨rfl,rfl⟩)|(go_at_call 105;refine(refSigned_any _ _).mono ?_;rintro e w' ⟨rfl,rfl⟩)|(go_at_call 110;refine(refNull_any _ _).mono ?_;rintro e w' ⟨rfl,rfl⟩)|(go_at_call 107;refine(refBits_any _ _ (by omega)).mono ?_;rintro e w' ⟨rfl,rfl⟩)|(go_at_call 106;refine(refHigh_any _ _).mono ?_;rintro e w' ⟨rfl,rfl⟩))
   go_ret
   exact⟨rfl,rfl⟩
 all_goals
  obtain⟨a0,a1,a2,a3,a4,a5,a6,a7,a8,a9,a10,a11,a12,a13,a14,a15,a16,a17,a18,a19,a20,a21⟩:=sz_rd
  go_enter Tryz.func68,Tryz.ntmps68
  go_wp2_with (first|(go_at_call 67;refine(refSize_any _ _).mono ?_;rintro e w' ⟨rfl,rfl⟩)|(go_at_call 105;refine(refSigned_any _ _).mono ?_;rintro e w' ⟨rfl,rfl⟩)|(go_at_call 110;refine(refNull_any _ _).mono ?_;rintro e w' ⟨rfl,rfl⟩)|(go_at_call 107;refine(refBits_any _ _ (by omega)).mono ?_;rintro e w' ⟨rfl,rfl⟩)|(go_at_call 106;refine(refHigh_any _ _).mono ?_;rintro e w' ⟨rfl,rfl⟩))
  go_ret
  first|exact⟨rfl,rfl⟩|exact⟨ret_int (by simp only[IntKind.wrap_u64];decide),rfl⟩
theorem or_no {p:Prop} [Decidable p] [Decidable q] (h:¬ p):(decide p||decide q)=decide q:=by simp[h]
theorem bool_of {x:Bool} [Decidable q] (h:x=true↔q):decide q=x:=by cases x<;>simp_all
theorem refFits_0 (b:Int) (w:World) (h0:0<=b) (h1:b<18446744073709551616):Calls Tryz.prog 72 #[.int .i64 0,.int .u64 b] w fun e w'=>e = .returned (.bool (fitsF 1 0 b))/\w'=w:=by
 have e1:sz 0=1:=rfl
 have e2:(rd 0==1)=false:=rfl
 have F:=fits_iff 1 0 b (by unfold KOk;omega) h0 h1
 simp[pw] at F
 have e3:bitsF 8=255:=rfl
 have G:decide (b<=255)=fitsF 1 0 b:=bool_of (F.trans (by omega))
 rw[<- G];clear F G
 go_enter Tryz.func72,Tryz.ntmps72
 go_wp2_with (first|(go_at_call 67;refine(refSize_any _ _).mono ?_;rintro e w' ⟨rfl,rfl⟩)|(go_at_call 105;refine(refSigned_any _ _).mono ?_;rintro e w' ⟨rfl,rfl⟩)|(go_at_call 110;refine(refNull_any _ _).mono ?_;rintro e w' ⟨rfl,rfl⟩)|(go_at_call 107;refine(refBits_any _ _ (by omega)).mono ?_;rintro e w' ⟨rfl,rfl⟩)|(go_at_call 106;refine(refHigh_any _ _).mono ?_;rintro e w' ⟨rfl,rfl⟩))
 go_ret
 exact⟨rfl,rfl⟩
theorem refFits_1 (b:Int) (w:World) (h0:0<=b) (h1:b<18446744073709551616):Calls Tryz.prog 72 #[.int .i64 1,.int .u64 b] w fun e w'=>e = .returned (.bool (fitsF 1 1 b))/\w'=w:=by
 have e1:sz 1=1:=rfl
 have e2:(rd 1==1)=true:=rfl
 have F:=fits_iff 1 1 b (by unfold KOk;omega) h0 h1
 simp[pw] at F
 have e3:highF 1=128:=rfl
 have e4:nl 1=18446744073709551488:=rfl
 by_cases g1:b<128
 ·have G:fitsF 1 1 b=true:=F.2 (by omega)
  rw[G];clear F G
  go_enter Tryz.func72,Tryz.ntmps72
  go_wp2_with (first|(go_at_call 67;refine(refSize_any _ _).mono ?_;rintro e w' ⟨rfl,rfl⟩)|(go_at_call 105;refine(refSigned_any _ _).mono ?_;rintro e w' ⟨rfl,rfl⟩)|(go_at_call 110;refine(refNull_any _ _).mono ?_;rintro e w' ⟨rfl,rfl⟩)|(go_at_call 107;refine(refBits_any _ _ (by omega)).mono ?_;rintro e w' ⟨rfl,rfl⟩)|(go_at_call 106;refine(refHigh_any _ _).mono ?_;rintro e w' ⟨rfl,rfl⟩))
  go_ret
  first|exact⟨rfl,rfl⟩|exact⟨ret_bool (or_no (by omega)),rfl⟩|exact⟨ret_bool (decide_eq_true (by omega)).symm,rfl⟩
 ·have G:decide (18446744073709551488<=b)=fitsF 1 1 b:=bool_of (F.trans (by omega))
  rw[<- G];clear F G
  go_enter Tryz.func72,Tryz.ntmps72
  go_wp2_with (first|(go_at_call 67;refine(refSize_any _ _).mono ?_;rintro e w' ⟨rfl,rfl⟩)|(go_at_call 105;refine(refSigned_any _ _).mono ?_;rintro e w' ⟨rfl,rfl⟩)|(go_at_call 110;refine(refNull_any _ _).mono ?_;rintro e w' ⟨rfl,rfl⟩)|(go_at_call 107;refine(refBits_any _ _ (by omega)).mono ?_;rintro e w' ⟨rfl,rfl⟩)|(go_at_call 106;refine(refHigh_any _ _).mono ?_;rintro e w' ⟨rfl,rfl⟩))
  go_ret
  first|exact⟨rfl,rfl⟩|exact⟨ret_bool (or_no (by omega)),rfl⟩|exact⟨ret_bool (decide_eq_true (by omega)).symm,rfl⟩
theorem refFits_2 (b:Int) (w:World) (h0:0<=b) (h1:b<18446744073709551616):Calls Tryz.prog 72 #[.int .i64 2,.int .u64 b] w fun e w'=>e = .returned (.bool (fitsF 2 1 b))/\w'=w:=by
 have e1:sz 2=2:=rfl
 have e2:(rd 2==1)=true:=rfl
 have F:=fits_iff 2 1 b (by unfold KOk;omega) h0 h1
 simp[pw] at F
 have e3:highF 2=32768:=rfl
 have e4:nl 2=18446744073709518848:=rfl
 by_cases g1:b<32768
 ·have G:fitsF 2 1 b=true:=F.2 (by omega)
  rw[G];clear F G
  go_enter Tryz.func72,Tryz.ntmps72
  go_wp2_with (first|(go_at_call 67;refine(refSize_any _ _).mono ?_;rintro e w' ⟨rfl,rfl⟩)|(go_at_call 105;refine(refSigned_any _ _).mono ?_;rintro e w' ⟨rfl,rfl⟩)|(go_at_call 110;refine(refNull_any _ _).mono ?_;rintro e w' ⟨rfl,rfl⟩)|(go_at_call 107;refine(refBits_any _ _ (by omega)).mono ?_;rintro e w' ⟨rfl,rfl⟩)|(go_at_call 106;refine(refHigh_any _ _).mono ?_;rintro e w' ⟨rfl,rfl⟩))
  go_ret
  first|exact⟨rfl,rfl⟩|exact⟨ret_bool (or_no (by omega)),rfl⟩|exact⟨ret_bool (decide_eq_true (by omega)).symm,rfl⟩
 ·have G:decide (18446744073709518848<=b)=fitsF 2 1 b:=bool_of (F.trans (by omega))
  rw[<- G];clear F G
  go_enter Tryz.func72,Tryz.ntmps72
  go_wp2_with (first|(go_at_call 67;refine(refSize_any _ _).mono ?_;rintro e w' ⟨rfl,rfl⟩)|(go_at_call 105;refine(refSigned_any _ _).mono ?_;rintro e w' ⟨rfl,rfl⟩)|(go_at_call 110;refine(refNull_any _ _).mono ?_;rintro e w' ⟨rfl,rfl⟩)|(go_at_call 107;refine(refBits_any _ _ (by omega)).mono ?_;rintro e w' ⟨rfl,rfl⟩)|(go_at_call 106;refine(refHigh_any _ _).mono ?_;rintro e w' ⟨rfl,rfl⟩))
  go_ret
  first|exact⟨rfl,rfl⟩|exact⟨ret_bool (or_no (by omega)),rfl⟩|exact⟨ret_bool (decide_eq_true (by omega)).symm,rfl⟩
theorem refFits_3 (b:Int) (w:World) (h0:0<=b) (h1:b<18446744073709551616):Calls Tryz.prog 72 #[.int .i64 3,.int .u64 b] w fun e w'=>e = .returned (.bool (fitsF 4 1 b))/\w'=w:=by
 have e1:sz 3=4:=rfl
 have e2:(rd 3==1)=true:=rfl
 have F:=fits_iff 4 1 b (by unfold KOk;omega) h0 h1
 simp[pw] at F
 have e3:highF 4=2147483648:=rfl
 have e4:nl 3=18446744071562067968:=rfl
 by_cases g1:b<2147483648
 ·have G:fitsF 4 1 b=true:=F.2 (by omega)
  rw[G];clear F G
  go_enter Tryz.func72,Tryz.ntmps72
  go_wp2_with (first|(go_at_call 67;refine(refSize_any _ _).mono ?_;rintro e w' ⟨rfl,rfl⟩)|(go_at_call 105;refine(refSigned_any _ _).mono ?_;rintro e w' ⟨rfl,rfl⟩)|(go_at_call 110;refine(refNull_any _ _).mono ?_;rintro e w' ⟨rfl,rfl⟩)|(go_at_call 107;refine(refBits_any _ _ (by omega)).mono ?_;rintro e w' ⟨rfl,rfl⟩)|(go_at_call 106;refine(refHigh_any _ _).mono ?_;rintro e w' ⟨rfl,rfl⟩))
  go_ret
  first|exact⟨rfl,rfl⟩|exact⟨ret_bool (or_no (by omega)),rfl⟩|exact⟨ret_bool (decide_eq_true (by omega)).symm,rfl⟩
 ·have G:decide (18446744071562067968<=b)=fitsF 4 1 b:=bool_of (F.trans (by omega))
  rw[<- G];clear F G
  go_enter Tryz.func72,Tryz.ntmps72
  go_wp2_with (first|(go_at_call 67;refine(refSize_any _ _).mono ?_;rintro e w' ⟨rfl,rfl⟩)|(go_at_call 105;refine(refSigned_any _ _).mono ?_;rintro e w' ⟨rfl,rfl⟩)|(go_at_call 110;refine(refNull_any _ _).mono ?_;rintro e w' ⟨rfl,rfl⟩)|(go_at_call 107;refine(refBits_any _ _ (by omega)).mono ?_;rintro e w' ⟨rfl,rfl⟩)|(go_at_call 106;refine(refHigh_any _ _).mono ?_;rintro e w' ⟨rfl,rfl⟩))
  go_ret
  first|exact⟨rfl,rfl⟩|exact⟨ret_bool (or_no (by omega)),rfl⟩|exact⟨ret_bool (decide_eq_true (by omega)).symm,rfl⟩
theorem refFits_4 (b:Int) (w:World) (h0:0<=b) (h1:b<18446744073709551616):Calls Tryz.prog 72 #[.int .i64 4,.int .u64 b] w fun e w'=>e = .returned (.bool (fitsF 8 1 b))/\w'=w:=by
 have e1:sz 4=8:=rfl
 have e2:(rd 4==1)=true:=rfl
 have F:=fits_iff 8 1 b (by unfold KOk;omega) h0 h1
 simp[pw] at F
 have e3:highF 8=9223372036854775808:=rfl
 have e4:nl 4=9223372036854775808:=rfl
 by_cases g1:b<9223372036854775808
 ·have G:fitsF 8 1 b=true:=F.2 (by omega)
  rw[G];clear F G
  go_enter Tryz.func72,Tryz.ntmps72
  go_wp2_with (first|(go_at_call 67;refine(refSize_any _ _).mono ?_;rintro e w' ⟨rfl,rfl⟩)|(go_at_call 105;refine(refSigned_any _ _).mono ?_;rintro e w' ⟨rfl,rfl⟩)|(go_at_call 110;refine(refNull_any _ _).mono ?_;rintro e w' ⟨rfl,rfl⟩)|(go_at_call 107;refine(refBits_any _ _ (by omega)).mono ?_;rintro e w' ⟨rfl,rfl⟩)|(go_at_call 106;refine(refHigh_any _ _).mono ?_;rintro e w' ⟨rfl,rfl⟩))
  go_ret
  first|exact⟨rfl,rfl⟩|exact⟨ret_bool (or_no (by omega)),rfl⟩|exact⟨ret_bool (decide_eq_true (by omega)).symm,rfl⟩
 ·have G:decide (9223372036854775808<=b)=fitsF 8 1 b:=bool_of (F.trans (by omega))
  rw[<- G];clear F G
  go_enter Tryz.func72,Tryz.ntmps72
  go_wp2_with (first|(go_at_call 67;refine(refSize_any _ _).mono ?_;rintro e w' ⟨rfl,rfl⟩)|(go_at_call 105;refine(refSigned_any _ _).mono ?_;rintro e w' ⟨rfl,rfl⟩)|(go_at_call 110;refine(refNull_any _ _).mono ?_;rintro e w' ⟨rfl,rfl⟩)|(go_at_call 107;refine(refBits_any _ _ (by omega)).mono ?_;rintro e w' ⟨rfl,rfl⟩)|(go_at_call 106;refine(refHigh_any _ _).mono ?_;rintro e w' ⟨rfl,rfl⟩))
  go_ret
  first|exact⟨rfl,rfl⟩|exact⟨ret_bool (or_no (by omega)),rfl⟩|exact⟨ret_bool (decide_eq_true (by omega)).symm,rfl⟩
theorem refFits_5 (b:Int) (w:World) (h0:0<=b) (h1:b<18446744073709551616):Calls Tryz.prog 72 #[.int .i64 5,.int .u64 b] w fun e w'=>e = .returned (.bool (fitsF 1 0 b))/\w'=w:=by
 have e1:sz 5=1:=rfl
 have e2:(rd 5==1)=false:=rfl
 have F:=fits_iff 1 0 b (by unfold KOk;omega) h0 h1
 simp[pw] at F
 have e3:bitsF 8=255:=rfl
 have G:decide (b<=255)=fitsF 1 0 b:=bool_of (F.trans (by omega))
 rw[<- G];clear F G
 go_enter Tryz.func72,Tryz.ntmps72
 go_wp2_with (first|(go_at_call 67;refine(refSize_any _ _).mono ?_;rintro e w' ⟨rfl,rfl⟩)|(go_at_call 105;refine(refSigned_any _ _).mono ?_;rintro e w' ⟨rfl,rfl⟩)|(go_at_call 110;refine(refNull_any _ _).mono ?_;rintro e w' ⟨rfl,rfl⟩)|(go_at_call 107;refine(refBits_any _ _ (by omega)).mono ?_;rintro e w' ⟨rfl,rfl⟩)|(go_at_call 106;refine(refHigh_any _ _).mono ?_;rintro e w' ⟨rfl,rfl⟩))
 go_ret
 exact⟨rfl,rfl⟩
theorem refFits_6 (b:Int) (w:World) (h0:0<=b) (h1:b<18446744073709551616):Calls Tryz.prog 72 #[.int .i64 6,.int .u64 b] w fun e w'=>e = .returned (.bool (fitsF 2 0 b))/\w'=w:=by
 have e1:sz 6=2:=rfl
 have e2:(rd 6==1)=false:=rfl
 have F:=fits_iff 2 0 b (by unfold KOk;omega) h0 h1
 simp[pw] at F
 have e3:bitsF 16=65535:=rfl
 have G:decide (b<=65535)=fitsF 2 0 b:=bool_of (F.trans (by omega))
 rw[<- G];clear F G
 go_enter Tryz.func72,Tryz.ntmps72
 go_wp2_with (first|(go_at_call 67;refine(refSize_any _ _).mono ?_;rintro e w' ⟨rfl,rfl⟩)|(go_at_call 105;refine(refSigned_any _ _).mono ?_;rintro e w' ⟨rfl,rfl⟩)|(go_at_call 110;refine(refNull_any _ _).mono ?_;rintro e w' ⟨rfl,rfl⟩)|(go_at_call 107;refine(refBits_any _ _ (by omega)).mono ?_;rintro e w' ⟨rfl,rfl⟩)|(go_at_call 106;refine(refHigh_any _ _).mono ?_;rintro e w' ⟨rfl,rfl⟩))
 go_ret
 exact⟨rfl,rfl⟩
theorem refFits_7 (b:Int) (w:World) (h0:0<=b) (h1:b<18446744073709551616):Calls Tryz.prog 72 #[.int .i64 7,.int .u64 b] w fun e w'=>e = .returned (.bool (fitsF 4 0 b))/\w'=w:=by
 have e1:sz 7=4:=rfl
 have e2:(rd 7==1)=false:=rfl
 have F:=fits_iff 4 0 b (by unfold KOk;omega) h0 h1
 simp[pw] at F
 have e3:bitsF 32=4294967295:=rfl
 have G:decide (b<=4294967295)=fitsF 4 0 b:=bool_of (F.trans (by omega))
 rw[<- G];clear F G
 go_enter Tryz.func72,Tryz.ntmps72
 go_wp2_with (first|(go_at_call 67;refine(refSize_any _ _).mono ?_;rintro e w' ⟨rfl,rfl⟩)|(go_at_call 105;refine(refSigned_any _ _).mono ?_;rintro e w' ⟨rfl,rfl⟩)|(go_at_call 110;refine(refNull_any _ _).mono ?_;rintro e w' ⟨rfl,rfl⟩)|(go_at_call 107;refine(refBits_any _ _ (by omega)).mono ?_;rintro e w' ⟨rfl,rfl⟩)|(go_at_call 106;refine(refHigh_any _ _).mono ?_;rintro e w' ⟨rfl,rfl⟩))
 go_ret
 exact⟨rfl,rfl⟩
theorem refFits_8 (b:Int) (w:World) (h0:0<=b) (h1:b<18446744073709551616):Calls Tryz.prog 72 #[.int .i64 8,.int .u64 b] w fun e w'=>e = .returned (.bool (fitsF 8 0 b))/\w'=w:=by
 have e1:sz 8=8:=rfl
 have e2:(rd 8==1)=false:=rfl
 have F:=fits_iff 8 0 b (by unfold KOk;omega) h0 h1
 simp[pw] at F
 have e3:bitsF 64=18446744073709551615:=rfl
 have G:decide (b<=18446744073709551615)=fitsF 8 0 b:=bool_of (F.trans (by omega))
 rw[<- G];clear F G
 go_enter Tryz.func72,Tryz.ntmps72
 go_wp2_with (first|(go_at_call 67;refine(refSize_any _ _).mono ?_;rintro e w' ⟨rfl,rfl⟩)|(go_at_call 105;refine(refSigned_any _ _).mono ?_;rintro e w' ⟨rfl,rfl⟩)|(go_at_call 110;refine(refNull_any _ _).mono ?_;rintro e w' ⟨rfl,rfl⟩)|(go_at_call 107;refine(refBits_any _ _ (by omega)).mono ?_;rintro e w' ⟨rfl,rfl⟩)|(go_at_call 106;refine(refHigh_any _ _).mono ?_;rintro e w' ⟨rfl,rfl⟩))
 go_ret
 exact⟨rfl,rfl⟩
theorem refFits_9 (b:Int) (w:World) (h0:0<=b) (h1:b<18446744073709551616):Calls Tryz.prog 72 #[.int .i64 9,.int .u64 b] w fun e w'=>e = .returned (.bool (fitsF 4 2 b))/\w'=w:=by
 have e1:sz 9=4:=rfl
 have e2:(rd 9==1)=false:=rfl
 have F:=fits_iff 4 2 b (by unfold KOk;omega) h0 h1
 simp[pw] at F
 have e3:bitsF 32=4294967295:=rfl
 have G:decide (b<=4294967295)=fitsF 4 2 b:=bool_of (F.trans (by omega))
 rw[<- G];clear F G
 go_enter Tryz.func72,Tryz.ntmps72
 go_wp2_with (first|(go_at_call 67;refine(refSize_any _ _).mono ?_;rintro e w' ⟨rfl,rfl⟩)|(go_at_call 105;refine(refSigned_any _ _).mono ?_;rintro e w' ⟨rfl,rfl⟩)|(go_at_call 110;refine(refNull_any _ _).mono ?_;rintro e w' ⟨rfl,rfl⟩)|(go_at_call 107;refine(refBits_any _ _ (by omega)).mono ?_;rintro e w' ⟨rfl,rfl⟩)|(go_at_call 106;refine(refHigh_any _ _).mono ?_;rintro e w' ⟨rfl,rfl⟩))
 go_ret
 exact⟨rfl,rfl⟩
theorem refFits_10 (b:Int) (w:World) (h0:0<=b) (h1:b<18446744073709551616):Calls Tryz.prog 72 #[.int .i64 10,.int .u64 b] w fun e w'=>e = .returned (.bool (fitsF 8 2 b))/\w'=w:=by
 have e1:sz 10=8:=rfl
 have e2:(rd 10==1)=false:=rfl
 have F:=fits_iff 8 2 b (by unfold KOk;omega) h0 h1
 simp[pw] at F
 have e3:bitsF 64=18446744073709551615:=rfl
 have G:decide (b<=18446744073709551615)=fitsF 8 2 b:=bool_of (F.trans (by omega))
 rw[<- G];clear F G
 go_enter Tryz.func72,Tryz.ntmps72
 go_wp2_with (first|(go_at_call 67;refine(refSize_any _ _).mono ?_;rintro e w' ⟨rfl,rfl⟩)|(go_at_call 105;refine(refSigned_any _ _).mono ?_;rintro e w' ⟨rfl,rfl⟩)|(go_at_call 110;refine(refNull_any _ _).mono ?_;rintro e w' ⟨rfl,rfl⟩)|(go_at_call 107;refine(refBits_any _ _ (by omega)).mono ?_;rintro e w' ⟨rfl,rfl⟩)|(go_at_call 106;refine(refHigh_any _ _).mono ?_;rintro e w' ⟨rfl,rfl⟩))
 go_ret
 exact⟨rfl,rfl⟩
theorem refFits_any (p b:Int) (w:World) (h0:0<=b) (h1:b<18446744073709551616):Calls Tryz.prog 72 #[.int .i64 p,.int .u64 b] w fun e w'=>e = .returned (.bool (fitsF (sz p) (rd p) b))/\w'=w:=by
 rcases prim_cases p with h|rfl|rfl|rfl|rfl|rfl|rfl|rfl|rfl|rfl|rfl|rfl
 ·have e1:sz p=0:=by unfold sz;rw[kRow_out p h]
  have e2:fitsF (sz p) (rd p) b=false:=by rw[e1];rfl
  rw[e2];clear e2 h
  go_enter Tryz.func72,Tryz.ntmps72
  go_wp2_with (first|(go_at_call 67;refine(refSize_any _ _).mono ?_;rintro e w' ⟨rfl,rfl⟩)|(go_at_call 105;refine(refSigned_any _ _).mono ?_;rintro e w' ⟨rfl,rfl⟩)|(go_at_call 110;refine(refNull_any _ _).mono ?_;rintro e w' ⟨rfl,rfl⟩)|(go_at_call 107;refine(refBits_any _ _ (by omega)).mono ?_;rintro e w' ⟨rfl,rfl⟩)|(go_at_call 106;refine(refHigh_any _ _).mono ?_;rintro e w' ⟨rfl,rfl⟩))
  go_ret
  exact⟨rfl,rfl⟩
 ·exact refFits_0 b w h0 h1
 ·exact refFits_1 b w h0 h1
 ·exact refFits_2 b w h0 h1
 ·exact refFits_3 b w h0 h1
 ·exact refFits_4 b w h0 h1
 ·exact refFits_5 b w h0 h1
 ·exact refFits_6 b w h0 h1
 ·exact refFits_7 b w h0 h1
 ·exact refFits_8 b w h0 h1
 ·exact refFits_9 b w h0 h1
 ·exact refFits_10 b w h0 h1
open Go.Shelf
abbrev spV (s:Sp):Value:=.agg #[.int .i64 s.p,.int .i64 s.o]
theorem rb {a b:Bool} (h:a=b):Ending.returned (.bool a) = .returned (.bool b):=by rw[h]
theorem isBetween_any (n a b:Int) (w:World):Calls Tryz.prog 84 #[.int .i64 n,.int .i64 a,.int .i64 b] w fun r w'=>r = .returned (.bool (bet n a b))/\w'=w:=by
 unfold bet
 by_cases h:a<=n
 ·have d:decide (a<=n)=true:=decide_eq_true h
  go_enter Tryz.func84,Tryz.ntmps84
  go_wp2_with fail
  go_ret
  exact⟨rb (by simp[h]),rfl⟩
 ·have d:decide (a<=n)=false:=decide_eq_false h
  go_enter Tryz.func84,Tryz.ntmps84
  go_wp2_with fail
  go_ret
  exact⟨rb (by simp),rfl⟩
theorem isNumber_any (p:Int) (w:World):Calls Tryz.prog 124 #[.int .i64 p] w fun r w'=>r = .returned (.bool (numB p))/\w'=w:=by
 unfold numB
 by_cases h5:p=5
 ·subst h5
  go_enter Tryz.func124,Tryz.ntmps124
  go_wp2_with fail
  go_ret
  exact⟨rfl,rfl⟩
 have d5:(p==5)=false:=beq_eq_false_iff_ne.2 h5
 by_cases h6:p=6
 ·subst h6
  go_enter Tryz.func124,Tryz.ntmps124
  go_wp2_with fail
  go_ret
  exact⟨rfl,rfl⟩
 have d6:(p==6)=false:=beq_eq_false_iff_ne.2 h6
 go_enter Tryz.func124,Tryz.ntmps124
 go_wp2_with fail
 go_ret
 exact⟨rb (by rw[Bool.eq_iff_iff];simp[h5,h6]),rfl⟩
theorem size_any (p:Int) (w:World) (h:KT w):Calls Tryz.prog 125 #[.int .i64 p] w fun e w'=>e = .returned (.int .i64 (sz p))/\Below w.heap.size w w':=by
 have hf:=field0
 go_enter Tryz.func125,Tryz.ntmps125
 go_wp2_with (go_at_call 140;refine(kindOf_any _ _ h).mono ?_;rintro e w' ⟨rfl,hbl⟩)
 go_ret
 exact⟨rfl,hbl⟩
theorem max_any (p:Int) (w:World) (h:KT w):Calls Tryz.prog 119 #[.int .i64 p] w fun e w'=>e = .returned (.int .u64 (mx p))/\Below w.heap.size w w':=by
 have hf:=field4
 go_enter Tryz.func119,Tryz.ntmps119
 go_wp2_with (go_at_call 140;refine(kindOf_any _ _ h).mono ?_;rintro e w' ⟨rfl,hbl⟩)
 go_ret
 exact⟨rfl,hbl⟩
theorem KT.up (h:KT w) (hb:Below w.heap.size w w'):KT w':=h.below h.pos hb
theorem KT.al (h:KT w) (o:Obj):KT (w.alloc o):=h.up (bel1 _ _)
theorem sz_b (p:Int):0<=sz p/\sz p<=8:=by
 rcases prim_cases p with h|rfl|rfl|rfl|rfl|rfl|rfl|rfl|rfl|rfl|rfl|rfl
 ·unfold sz;rw[kRow_out p h];decide
 all_goals decide
def i64ok (x:Int):Prop:=-9223372036854775808<=x/\x<=9223372036854775807
def u64ok (x:Int):Prop:=0<=x/\x<=18446744073709551615
theorem al_le (w:World) (o:Obj):w.heap.size<=(w.alloc o).heap.size:=by rw[World.size_alloc];omega
theorem heap_al (w:World) (o:Obj):(w.alloc o).heap[w.heap.size]?=some o:=by show (w.heap.push o)[w.heap.size]?=_;rw[Array.getElem?_push,if_pos rfl]
theorem cell_at {g:Nat} {cs:Array Value} (h:w.heap[g]?=some (.cells cs ty)) (o:Nat):w.cell? ⟨g,o,none⟩=cs[o]?:=by simp only[World.cell?,h];rfl
theorem drw (h:Below B a w):Below B a w.drew:=⟨h.os,h.tape,h.output,h.size,h.block⟩
theorem own_cell {cs:Array Value} (e:o = .cells cs ty) (h:Below (w.heap.size+1) (w.alloc o) W) (k:Nat):W.cell? ⟨w.heap.size,k,none⟩=cs[k]?:=by
 subst e
 rw[h.cell (p:=⟨w.heap.size,k,none⟩) (Nat.lt_succ_self _)]
 exact cell_at (heap_al _ _) k
theorem bel2 (h:Below (w.heap.size+1) (w.alloc o) W):Below w.heap.size w W:=(bel1 w o).trans (h.mono (Nat.le_succ _))
theorem bel0 (w:World) (o:Obj):Below (w.heap.size+1) (w.alloc o) (w.alloc o):=Below.refl _ _
theorem bel_call (h:Below B a W) (hB:B<=a.heap.size) (hb:Below W.heap.size W w'):Below B a w':=h.trans (hb.mono (Nat.le_trans hB h.size))
theorem callB {f:FuncId} {ag:Array Value} (hB:B<=a.heap.size) (h:∀ W,Below B a W->Calls Tryz.prog f ag W fun e w'=>e = .returned v/\Below W.heap.size W w'):∀ W,Below B a W->Calls Tryz.prog f ag W fun e w'=>e = .returned v/\Below B a w' :=
 fun W hW=>(h W hW).mono fun _ _ ⟨h1,h2⟩=>⟨h1,bel_call hW hB h2⟩
theorem callS {p:World->Prop} {f:FuncId} {ag:Array Value} (h:∀ W,Calls Tryz.prog f ag W fun e w'=>e = .returned v/\w'=W):∀ W,p W->Calls Tryz.prog f ag W fun e w'=>e = .returned v/\p w' :=
 fun W hW=>(h W).mono fun _ _ ⟨h1,h2⟩=>⟨h1,h2▸hW⟩
theorem ent_isNumber:∀ ag w,(callFunc 124 ag).run Tryz.prog w = .ok (.enter 124 ag) w:=enters_of Tryz.func124 (by kernel_rfl) rfl
theorem ent_size:∀ ag w,(callFunc 125 ag).run Tryz.prog w = .ok (.enter 125 ag) w:=enters_of Tryz.func125 (by kernel_rfl) rfl
theorem ent_isBetween:∀ ag w,(callFunc 84 ag).run Tryz.prog w = .ok (.enter 84 ag) w:=enters_of Tryz.func84 (by kernel_rfl) rfl
theorem ktb (h:KT w) (hb:Below (w.heap.size+1) (w.alloc o) W):KT W:=h.up (bel2 hb)
theorem szal (w:World) (o:Obj):w.heap.size+1<=(w.alloc o).heap.size:=by rw[World.size_alloc];omega
theorem liesIn_any (s:Sp) (n:Int) (w:World) (h:KT w) (hn:0<=n/\n<=9223372036854775807):Calls Tryz.prog 117 #[spV s,.int .i64 n] w fun r w'=>r = .returned (.bool (lieB s n))/\Below w.heap.size w w':=by
 obtain⟨p,p0,pB,hN,f0,f1,cN,cS⟩:∃ p:World->Prop,p (w.alloc (.cells #[.int .i64 s.p,.int .i64 s.o] 25)).drew/\(∀ W,p W->Below w.heap.size w W)/\Nonempty (CW p)/\(∀ θ:CW p,θ.w.cell? ⟨w.heap.size,0,none⟩=some (.int .i64 s.p))/\(∀ θ:CW p,θ.w.cell? ⟨w.heap.size,1,none⟩=some (.int .i64 s.o)) /\
   (∀ W,p W->Calls Tryz.prog 124 #[.int .i64 s.p] W fun e w'=>e = .returned (.bool (numB s.p))/\p w')/\(∀ W,p W->Calls Tryz.prog 125 #[.int .i64 s.p] W fun e w'=>e = .returned (.int .i64 (sz s.p))/\p w') :=
  ⟨Below (w.heap.size+1) (w.alloc (.cells #[.int .i64 s.p,.int .i64 s.o] 25)),drw (bel0 _ _),fun _ h=>bel2 h,⟨⟨_,bel0 _ _⟩⟩,fun θ=>own_cell rfl θ.h 0,fun θ=>own_cell rfl θ.h 1,callS (isNumber_any s.p),callB (szal _ _) (fun W hW=>size_any s.p W (ktb h hW))⟩
 have hz:=sz_b s.p
 have hw:IntKind.i64.wrap (n-sz s.p)=n-sz s.p:=by rw[IntKind.wrap_i64];omega
 unfold lieB
 rcases ch2 (numB s.p) (decide (0<=s.o)) with k1|⟨k1,k2⟩|⟨k1,k2⟩
 all_goals
  rw[k1] at cN ⊢
  go_enter Tryz.func117,Tryz.ntmps117
  go_wp2_with fail
  refine wp_region_lp p (by kernel_rfl) (by kernel_rfl) (fun _ _ d _ _ h=>by cases d<;>exact h) p0 fun W hp=>?_
  repeat (first|(refine lx_one rfl ?_;(first|go_big_quiet_skip|(go_big_quiet_want;go_big_quiet_op;go_big_quiet_on));refine wpQuiet_nil ?_)|(refine lx_p1 ent_isNumber cN hp rfl (by rfl) ?_;intro W hp;simp only[pts])|(refine lx_p1 ent_size cS hp rfl (by rfl) ?_;intro W hp;simp only[pts])|(refine lx_skip (by rfl) ?_;simp only[pts]))
  refine lx_done ?_
  go_wp2_with fail
  go_ret
  exact⟨rb (by simp_all<;>omega),pB _ hp⟩
theorem meet_any (s t:Sp) (w:World) (h:KT w) (hs:0<=s.o/\s.o<=9223372036854775700) (ht:0<=t.o/\t.o<=9223372036854775700):Calls Tryz.prog 118 #[spV s,spV t] w fun r w'=>r = .returned (.bool (!aptB s t))/\Below w.heap.size w w':=by
 have hz:=sz_b s.p
 have hy:=sz_b t.p
 obtain⟨p,p0,pB,hN,f0,f1,f2,f3,cS,cT⟩:∃ p:World->Prop,p ((w.alloc (.cells #[.int .i64 s.p,.int .i64 s.o] 25)).alloc (.cells #[.int .i64 t.p,.int .i64 t.o] 25)).drew/\(∀ W,p W->Below w.heap.size w W)/\Nonempty (CW p)/\(∀ θ:CW p,θ.w.cell? ⟨w.heap.size,0,none⟩=some (.int .i64 s.p))/\(∀ θ:CW p,θ.w.cell? ⟨w.heap.size,1,none⟩=some (.int .i64 s.o))/\(∀ θ:CW p,θ.w.cell? ⟨w.heap.size+1,0,none⟩=some (.int .i64 t.p))/\(∀ θ:CW p,θ.w.cell? ⟨w.heap.size+1,1,none⟩=some (.int .i64 t.o)) /\
   (∀ W,p W->Calls Tryz.prog 125 #[.int .i64 s.p] W fun e w'=>e = .returned (.int .i64 (sz s.p))/\p w')/\(∀ W,p W->Calls Tryz.prog 125 #[.int .i64 t.p] W fun e w'=>e = .returned (.int .i64 (sz t.p))/\p w'):=by
  have q1:∀ W,Below (w.heap.size+2) ((w.alloc (.cells #[.int .i64 s.p,.int .i64 s.o] 25)).alloc (.cells #[.int .i64 t.p,.int .i64 t.o] 25)) W->Below (w.heap.size+1) (w.alloc (.cells #[.int .i64 s.p,.int .i64 s.o] 25)) W:=fun W h=>by
   have:=(bel1 (w.alloc (.cells #[.int .i64 s.p,.int .i64 s.o] 25)) (.cells #[.int .i64 t.p,.int .i64 t.o] 25)).trans (h.mono (by rw[World.size_alloc];omega))
   rwa [World.size_alloc] at this
  have q2:∀ W,Below (w.heap.size+2) ((w.alloc (.cells #[.int .i64 s.p,.int .i64 s.o] 25)).alloc (.cells #[.int .i64 t.p,.int .i64 t.o] 25)) W->∀ k,W.cell? ⟨w.heap.size+1,k,none⟩=(#[.int .i64 t.p,.int .i64 t.o]:Array Value)[k]?:=fun W h k=>by
   have:=own_cell (w:=w.alloc (.cells #[.int .i64 s.p,.int .i64 s.o] 25)) (o:=(.cells #[.int .i64 t.p,.int .i64 t.o] 25)) rfl (W:=W) (by rw[World.size_alloc];exact h) k
   rwa [World.size_alloc] at this
  exact⟨Below (w.heap.size+2) ((w.alloc (.cells #[.int .i64 s.p,.int .i64 s.o] 25)).alloc (.cells #[.int .i64 t.p,.int .i64 t.o] 25)),drw (Below.refl _ _),fun _ h=>bel2 (q1 _ h),⟨⟨_,Below.refl _ _⟩⟩,fun θ=>own_cell rfl (q1 _ θ.h) 0,fun θ=>own_cell rfl (q1 _ θ.h) 1,fun θ=>q2 _ θ.h 0,fun θ=>q2 _ θ.h 1,
   callB (by rw[World.size_alloc,World.size_alloc];omega) (fun W hW=>size_any s.p W (ktb h (q1 _ hW))),callB (by rw[World.size_alloc,World.size_alloc];omega) (fun W hW=>size_any t.p W (ktb h (q1 _ hW)))⟩
 have hw1:IntKind.i64.wrap (t.o+sz t.p)=t.o+sz t.p:=by rw[IntKind.wrap_i64];omega
 have hw2:IntKind.i64.wrap (s.o+sz s.p)=s.o+sz s.p:=by rw[IntKind.wrap_i64];omega
 unfold aptB
 rcases Bool.eq_false_or_eq_true (decide (s.o<t.o+sz t.p)) with k1|k1
 all_goals
  go_enter Tryz.func118,Tryz.ntmps118
  go_wp2_with fail
  refine wp_region_lp p (by kernel_rfl) (by kernel_rfl) (fun _ _ d _ _ h=>by cases d<;>exact h) p0 fun W hp=>?_
  repeat (first|(refine lx_one rfl ?_;(first|go_big_quiet_skip|(go_big_quiet_want;go_big_quiet_op;go_big_quiet_on));refine wpQuiet_nil ?_)|(refine lx_p1 ent_size cS hp rfl (by rfl) ?_;intro W hp;simp only[pts])|(refine lx_p1 ent_size cT hp rfl (by rfl) ?_;intro W hp;simp only[pts])|(refine lx_skip (by rfl) ?_;simp only[pts]))
  refine lx_done ?_
  go_wp2_with fail
  go_ret
  exact⟨rb (by
   simp only[decide_eq_true_eq,decide_eq_false_iff_not] at k1
   rw[Bool.eq_iff_iff]
   simp
   omega),pB _ hp⟩
theorem canTell_any (s:Sp) (n:Int) (w:World) (h:KT w) (hn:0<=n/\n<=9223372036854775807):Calls Tryz.prog 86 #[spV s,.int .i64 n] w fun r w'=>r = .returned (.bool (telB s n))/\Below w.heap.size w w':=by
 have hw:IntKind.u64.wrap n=n:=by rw[IntKind.wrap_u64];omega
 unfold telB
 go_enter Tryz.func86,Tryz.ntmps86
 go_wp2_with (go_at_call 119;refine(max_any _ _ (h.al _)).mono ?_;rintro _ w1 ⟨rfl,hb⟩)
 go_ret
 exact⟨rb (by simp[hn.1]),(bel1 _ _).trans (hb.mono (al_le _ _))⟩
end Go.Proofs.YtkcjdncchoohoaaGreatDoor
