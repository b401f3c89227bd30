import Derived.Test.YtbhmciieiilcfaaGreatDoorK02
import Derived.Deep.RegionHeld
import Derived.Shelf.Abstract
namespace Go.Proofs.YtbhmciieiilcfaaGreatDoor
set_option maxRecDepth 1000000
set_option maxHeartbeats 16000000
open Go.ChangeShapes Go.WideShapes Go.ChangeAt Go.RowKit
variable {B id:Nat} {P:Program} {R:World->Prop} {W w w':World} {a:Act} {l:List Oper} {o:Obj} {q:Prop} {ty:TypeId} {v y1 y2 y3:Value}
def bitsF (n:Int):Int:=2 ^ n.toNat-1
theorem bitsF_succ (k:Nat):bitsF ((k:Int)+1)=2*bitsF k+1:=by
 unfold bitsF
 rw[show ((k:Int)+1).toNat=k+1 by omega,show (k:Int).toNat=k by omega,Int.pow_succ]
 omega
theorem bitsF_bd (n:Nat) (h:n<=64):0<=bitsF n/\bitsF n<=18446744073709551615:=by
 unfold bitsF
 rw[show (n:Int).toNat=n by omega]
 have h1:(2:Nat) ^ n<=2 ^ 64:=Nat.pow_le_pow_right (by decide) h
 have h2:0<(2:Nat) ^ n:=Nat.pow_pos (by decide)
 have h3:((2:Int) ^ n)=((2 ^ n:Nat):Int):=by norm_cast
 rw[h3]
 have h4:(2:Nat) ^ 64=18446744073709551616:=by decide
 omega
theorem bitsF_nat (n:Int):bitsF n.toNat=bitsF n:=by unfold bitsF;rw[show ((n.toNat:Nat):Int).toNat=n.toNat by omega]
theorem refBits_any (n:Int) (w:World) (h:n<=64):Calls Tryz.prog 54 #[.int .i64 n] w fun e w'=>e = .returned (.int .u64 (bitsF n))/\w'=w:=by
 go_enter Tryz.func54,Tryz.ntmps54
 go_wp2
 go_loop [3,4] (fun b i=>∃ k:Nat,k<=n.toNat/\i = .int .i64 k/\b = .int .u64 (bitsF k)) (fun _ i=>n.toNat-(intOf i).toNat)
 case atStart=>exact⟨0,Nat.zero_le _,rfl,rfl⟩
 case round =>
  obtain⟨k,hk,rfl,rfl⟩:=hrel
  have hb:=bitsF_bd k (by omega)
  have hb':=bitsF_bd (k+1)
  have HS:Hid (bitsF ((k+1:Nat):Int)=2*bitsF k+1):=bitsF_succ k
  by_cases hlt:(k:Int)<n
  ·have hm:2*bitsF k+1<=18446744073709551615:=by have:=hb' (by omega);rw[HS.out] at this;exact this.2
   clear hb'
   go_wp2
   go_round
   case rel=>exact⟨k+1,by omega,by go_num,by rw[HS.out]⟩
   case measure=>simp[intOf];omega
  ·clear hb'
   go_wp2
   go_ret
   exact⟨ret_int (by rw[<- bitsF_nat n];congr 1;omega),rfl⟩
theorem refSize_any (p:Int) (w:World):Calls Tryz.prog 55 #[.int .i64 p] w fun e w'=>e = .returned (.int .i64 (sz p))/\w'=w:=by
 rcases prim_cases p with h|rfl|rfl|rfl|rfl|rfl|rfl|rfl|rfl|rfl|rfl|rfl
 ·have e:sz p=0:=by unfold sz;rw[kRow_out p h]
  rw[e];clear e
  rcases h with h|h
  all_goals
   go_enter Tryz.func55,Tryz.ntmps55
   go_wp2
   go_ret
   exact⟨rfl,rfl⟩
 all_goals
  go_enter Tryz.func55,Tryz.ntmps55
  go_wp2
  go_ret
  exact⟨rfl,rfl⟩
theorem refSigned_any (p:Int) (w:World):Calls Tryz.prog 52 #[.int .i64 p] w fun e w'=>e = .returned (.bool (rd p==1))/\w'=w:=by
 rcases prim_cases p with h|rfl|rfl|rfl|rfl|rfl|rfl|rfl|rfl|rfl|rfl|rfl
 ·have e:(rd p==1)=false:=by unfold rd;rw[kRow_out p h];rfl
  rw[e];clear e
  rcases h with h|h
  all_goals
   go_enter Tryz.func52,Tryz.ntmps52
   go_wp2
   go_ret
   first|exact⟨rfl,rfl⟩|exact⟨ret_bool (decide_eq_false (by omega)),rfl⟩
 all_goals
  go_enter Tryz.func52,Tryz.ntmps52
  go_wp2
  go_ret
  exact⟨rfl,rfl⟩
def highF (s:Int):Int:=if s=0 then 0 else pw s / 2
theorem refHigh_any (p:Int) (w:World):Calls Tryz.prog 53 #[.int .i64 p] w fun e w'=>e = .returned (.int .u64 (highF (sz p)))/\w'=w:=by
 have hc:sz p=0\/sz p=1\/sz p=2\/sz p=4\/sz p=8:=by have:=kok p;unfold KOk at this;omega
 rcases hc with hs|hs|hs|hs|hs
 all_goals
  rw[hs]
  go_enter Tryz.func53,Tryz.ntmps53
  go_wp2_with (first|(go_at_call 55;refine(refSize_any _ _).mono ?_;rintro e w' ⟨rfl,rfl⟩)|(go_at_call 54;refine(refBits_any _ _ (by omega)).mono ?_;rintro e w' ⟨rfl,rfl⟩))
  go_ret
  exact⟨ret_int (by simp only[IntKind.wrap_u64];decide),rfl⟩
theorem sz_rd:sz 0=1/\(rd 0==1)=false/\sz 1=1/\(rd 1==1)=true/\sz 2=2/\(rd 2==1)=true/\sz 3=4/\(rd 3==1)=true/\sz 4=8/\(rd 4==1)=true/\sz 5=1/\(rd 5==1)=false/\sz 6=2/\(rd 6==1)=false/\sz 7=4/\(rd 7==1)=false/\sz 8=8/\(rd 8==1)=false/\sz 9=4/\(rd 9==1)=false/\sz 10=8/\(rd 10==1)=false:=by decide
theorem refNull_any (p:Int) (w:World):Calls Tryz.prog 106 #[.int .i64 p] w fun e w'=>e = .returned (.int .u64 (nl p))/\w'=w:=by
 rcases prim_cases p with h|rfl|rfl|rfl|rfl|rfl|rfl|rfl|rfl|rfl|rfl|rfl
 ·have e:nl p=0:=by unfold nl;rw[kRow_out p h]
  have e1:sz p=0:=by unfold sz;rw[kRow_out p h]
  have e2:(rd p==1)=false:=by unfold rd;rw[kRow_out p h];rfl
  rw[e];clear e
  rcases h with h|h
  all_goals
   go_enter Tryz.func106,Tryz.ntmps106
   go_wp2_with (first|(go_at_call 55;refine(refSize_any _ _).mono ?_;rintro e w' ⟨rfl,rfl⟩)|(go_at_call 52;refine(refSigned_any _ _).mono ?_;rintro e w' ⟨rfl,rfl⟩)|(go_at_call 54;refine(refBits_any _ _ (by omega)).mono ?_;rintro e w' ⟨rfl,rfl⟩)|(go_at_call 53;refine(refHigh_any _ _).mono ?_;rintro e w' ⟨rfl,rfl⟩))
   go_ret
   exact⟨rfl,rfl⟩
 all_goals
  obtain⟨a0,a1,a2,a3,a4,a5,a6,a7,a8,a9,a10,a11,a12,a13,a14,a15,a16,a17,a18,a19,a20,a21⟩:=sz_rd
  go_enter Tryz.func106,Tryz.ntmps106
  go_wp2_with (first|(go_at_call 55;refine(refSize_any _ _).mono ?_;rintro e w' ⟨rfl,rfl⟩)|(go_at_call 52;refine(refSigned_any _ _).mono ?_;rintro e w' ⟨rfl,rfl⟩)|(go_at_call 54;refine(refBits_any _ _ (by omega)).mono ?_;rintro e w' ⟨rfl,rfl⟩)|(go_at_call 53;refine(refHigh_any _ _).mono ?_;rintro e w' ⟨rfl,rfl⟩))
  go_ret
  first|exact⟨rfl,rfl⟩|exact⟨ret_int (by simp only[IntKind.wrap_u64];decide),rfl⟩
theorem refMax_any (p:Int) (w:World):Calls Tryz.prog 28 #[.int .i64 p] w fun e w'=>e = .returned (.int .u64 (mx p))/\w'=w:=by
 rcases prim_cases p with h|rfl|rfl|rfl|rfl|rfl|rfl|rfl|rfl|rfl|rfl|rfl
 ·have e:mx p=0:=by unfold mx;rw[kRow_out p h]
  have e1:sz p=0:=by unfold sz;rw[kRow_out p h]
  have e2:(rd p==1)=false:=by unfold rd;rw[kRow_out p h];rfl
  rw[e];clear e
  have g0:(p==0)=false:=by simp;omega
  have g9:(p==9)=false:=by simp;omega
  have g10:(p==10)=false:=by simp;omega
  rcases h with h|h
  all_goals
   go_enter Tryz.func28,Tryz.ntmps28
   go_wp2_with (first|(go_at_call 55;refine(refSize_any _ _).mono ?_;rintro e w' ⟨rfl,rfl⟩)|(go_at_call 52;refine(refSigned_any _ _).mono ?_;rintro e w' ⟨rfl,rfl⟩)|(go_at_call 106;refine(refNull_any _ _).mono ?_;rintro e w' ⟨rfl,rfl⟩)|(go_at_call 54;refine(refBits_any _ _ (by omega)).mono ?_;rintro e w' ⟨rfl,rfl⟩)|(go_at_call 53;refine(refHigh_any _ _).mono ?_;rintro e w' ⟨rfl,rfl⟩))
   go_ret
   exact⟨rfl,rfl⟩
 all_goals
  obtain⟨a0,a1,a2,a3,a4,a5,a6,a7,a8,a9,a10,a11,a12,a13,a14,a15,a16,a17,a18,a19,a20,a21⟩:=sz_rd
  go_enter Tryz.func28,Tryz.ntmps28
  go_wp2_with (first|(go_at_call 55;refine(refSize_any _ _).mono ?_;rintro e w' ⟨rfl,rfl⟩)|(go_at_call 52;refine(refSigned_any _ _).mono ?_;rintro e w' ⟨rfl,rfl⟩)|(go_at_call 106;refine(refNull_any _ _).mono ?_;rintro e w' ⟨rfl,rfl⟩)|(go_at_call 54;refine(refBits_any _ _ (by omega)).mono ?_;rintro e w' ⟨rfl,rfl⟩)|(go_at_call 53;refine(refHigh_any _ _).mono ?_;rintro e w' ⟨rfl,rfl⟩))
  go_ret
  first|exact⟨rfl,rfl⟩|exact⟨ret_int (by simp only[IntKind.wrap_u64];decide),rfl⟩
theorem or_no {p:Prop} [Decidable p] [Decidable q] (h:¬ p):(decide p||decide q)=decide q:=by simp[h]
theorem bool_of {x:Bool} [Decidable q] (h:x=true↔q):decide q=x:=by cases x<;>simp_all
theorem refFits_0 (b:Int) (w:World) (h0:0<=b) (h1:b<18446744073709551616):Calls Tryz.prog 81 #[.int .i64 0,.int .u64 b] w fun e w'=>e = .returned (.bool (fitsF 1 0 b))/\w'=w:=by
 have e1:sz 0=1:=rfl
 have e2:(rd 0==1)=false:=rfl
 have F:=fits_iff 1 0 b (by unfold KOk;omega) h0 h1
 simp[pw] at F
 have e3:bitsF 8=255:=rfl
 have G:decide (b<=255)=fitsF 1 0 b:=bool_of (F.trans (by omega))
 rw[<- G];clear F G
 go_enter Tryz.func81,Tryz.ntmps81
 go_wp2_with (first|(go_at_call 55;refine(refSize_any _ _).mono ?_;rintro e w' ⟨rfl,rfl⟩)|(go_at_call 52;refine(refSigned_any _ _).mono ?_;rintro e w' ⟨rfl,rfl⟩)|(go_at_call 106;refine(refNull_any _ _).mono ?_;rintro e w' ⟨rfl,rfl⟩)|(go_at_call 54;refine(refBits_any _ _ (by omega)).mono ?_;rintro e w' ⟨rfl,rfl⟩)|(go_at_call 53;refine(refHigh_any _ _).mono ?_;rintro e w' ⟨rfl,rfl⟩))
 go_ret
 exact⟨rfl,rfl⟩
theorem refFits_1 (b:Int) (w:World) (h0:0<=b) (h1:b<18446744073709551616):Calls Tryz.prog 81 #[.int .i64 1,.int .u64 b] w fun e w'=>e = .returned (.bool (fitsF 1 1 b))/\w'=w:=by
 have e1:sz 1=1:=rfl
 have e2:(rd 1==1)=true:=rfl
 have F:=fits_iff 1 1 b (by unfold KOk;omega) h0 h1
 simp[pw] at F
 have e3:highF 1=128:=rfl
 have e4:nl 1=18446744073709551488:=rfl
 by_cases g1:b<128
 ·have G:fitsF 1 1 b=true:=F.2 (by omega)
  rw[G];clear F G
  go_enter Tryz.func81,Tryz.ntmps81
  go_wp2_with (first|(go_at_call 55;refine(refSize_any _ _).mono ?_;rintro e w' ⟨rfl,rfl⟩)|(go_at_call 52;refine(refSigned_any _ _).mono ?_;rintro e w' ⟨rfl,rfl⟩)|(go_at_call 106;refine(refNull_any _ _).mono ?_;rintro e w' ⟨rfl,rfl⟩)|(go_at_call 54;refine(refBits_any _ _ (by omega)).mono ?_;rintro e w' ⟨rfl,rfl⟩)|(go_at_call 53;refine(refHigh_any _ _).mono ?_;rintro e w' ⟨rfl,rfl⟩))
  go_ret
  first|exact⟨rfl,rfl⟩|exact⟨ret_bool (or_no (by omega)),rfl⟩|exact⟨ret_bool (decide_eq_true (by omega)).symm,rfl⟩
 ·have G:decide (18446744073709551488<=b)=fitsF 1 1 b:=bool_of (F.trans (by omega))
  rw[<- G];clear F G
  go_enter Tryz.func81,Tryz.ntmps81
  go_wp2_with (first|(go_at_call 55;refine(refSize_any _ _).mono ?_;rintro e w' ⟨rfl,rfl⟩)|(go_at_call 52;refine(refSigned_any _ _).mono ?_;rintro e w' ⟨rfl,rfl⟩)|(go_at_call 106;refine(refNull_any _ _).mono ?_;rintro e w' ⟨rfl,rfl⟩)|(go_at_call 54;refine(refBits_any _ _ (by omega)).mono ?_;rintro e w' ⟨rfl,rfl⟩)|(go_at_call 53;refine(refHigh_any _ _).mono ?_;rintro e w' ⟨rfl,rfl⟩))
  go_ret
  first|exact⟨rfl,rfl⟩|exact⟨ret_bool (or_no (by omega)),rfl⟩|exact⟨ret_bool (decide_eq_true (by omega)).symm,rfl⟩
theorem refFits_2 (b:Int) (w:World) (h0:0<=b) (h1:b<18446744073709551616):Calls Tryz.prog 81 #[.int .i64 2,.int .u64 b] w fun e w'=>e = .returned (.bool (fitsF 2 1 b))/\w'=w:=by
 have e1:sz 2=2:=rfl
 have e2:(rd 2==1)=true:=rfl
 have F:=fits_iff 2 1 b (by unfold KOk;omega) h0 h1
 simp[pw] at F
 have e3:highF 2=32768:=rfl
 have e4:nl 2=18446744073709518848:=rfl
 by_cases g1:b<32768
 ·have G:fitsF 2 1 b=true:=F.2 (by omega)
  rw[G];clear F G
  go_enter Tryz.func81,Tryz.ntmps81
  go_wp2_with (first|(go_at_call 55;refine(refSize_any _ _).mono ?_;rintro e w' ⟨rfl,rfl⟩)|(go_at_call 52;refine(refSigned_any _ _).mono ?_;rintro e w' ⟨rfl,rfl⟩)|(go_at_call 106;refine(refNull_any _ _).mono ?_;rintro e w' ⟨rfl,rfl⟩)|(go_at_call 54;refine(refBits_any _ _ (by omega)).mono ?_;rintro e w' ⟨rfl,rfl⟩)|(go_at_call 53;refine(refHigh_any _ _).mono ?_;rintro e w' ⟨rfl,rfl⟩))
  go_ret
  first|exact⟨rfl,rfl⟩|exact⟨ret_bool (or_no (by omega)),rfl⟩|exact⟨ret_bool (decide_eq_true (by omega)).symm,rfl⟩
 ·have G:decide (18446744073709518848<=b)=fitsF 2 1 b:=bool_of (F.trans (by omega))
  rw[<- G];clear F G
  go_enter Tryz.func81,Tryz.ntmps81
  go_wp2_with (first|(go_at_call 55;refine(refSize_any _ _).mono ?_;rintro e w' ⟨rfl,rfl⟩)|(go_at_call 52;refine(refSigned_any _ _).mono ?_;rintro e w' ⟨rfl,rfl⟩)|(go_at_call 106;refine(refNull_any _ _).mono ?_;rintro e w' ⟨rfl,rfl⟩)|(go_at_call 54;refine(refBits_any _ _ (by omega)).mono ?_;rintro e w' ⟨rfl,rfl⟩)|(go_at_call 53;refine(refHigh_any _ _).mono ?_;rintro e w' ⟨rfl,rfl⟩))
  go_ret
  first|exact⟨rfl,rfl⟩|exact⟨ret_bool (or_no (by omega)),rfl⟩|exact⟨ret_bool (decide_eq_true (by omega)).symm,rfl⟩
theorem refFits_3 (b:Int) (w:World) (h0:0<=b) (h1:b<18446744073709551616):Calls Tryz.prog 81 #[.int .i64 3,.int .u64 b] w fun e w'=>e = .returned (.bool (fitsF 4 1 b))/\w'=w:=by
 have e1:sz 3=4:=rfl
 have e2:(rd 3==1)=true:=rfl
 have F:=fits_iff 4 1 b (by unfold KOk;omega) h0 h1
 simp[pw] at F
 have e3:highF 4=2147483648:=rfl
 have e4:nl 3=18446744071562067968:=rfl
 by_cases g1:b<2147483648
 ·have G:fitsF 4 1 b=true:=F.2 (by omega)
  rw[G];clear F G
  go_enter Tryz.func81,Tryz.ntmps81
  go_wp2_with (first|(go_at_call 55;refine(refSize_any _ _).mono ?_;rintro e w' ⟨rfl,rfl⟩)|(go_at_call 52;refine(refSigned_any _ _).mono ?_;rintro e w' ⟨rfl,rfl⟩)|(go_at_call 106;refine(refNull_any _ _).mono ?_;rintro e w' ⟨rfl,rfl⟩)|(go_at_call 54;refine(refBits_any _ _ (by omega)).mono ?_;rintro e w' ⟨rfl,rfl⟩)|(go_at_call 53;refine(refHigh_any _ _).mono ?_;rintro e w' ⟨rfl,rfl⟩))
  go_ret
  first|exact⟨rfl,rfl⟩|exact⟨ret_bool (or_no (by omega)),rfl⟩|exact⟨ret_bool (decide_eq_true (by omega)).symm,rfl⟩
 ·have G:decide (18446744071562067968<=b)=fitsF 4 1 b:=bool_of (F.trans (by omega))
  rw[<- G];clear F G
  go_enter Tryz.func81,Tryz.ntmps81
  go_wp2_with (first|(go_at_call 55;refine(refSize_any _ _).mono ?_;rintro e w' ⟨rfl,rfl⟩)|(go_at_call 52;refine(refSigned_any _ _).mono ?_;rintro e w' ⟨rfl,rfl⟩)|(go_at_call 106;refine(refNull_any _ _).mono ?_;rintro e w' ⟨rfl,rfl⟩)|(go_at_call 54;refine(refBits_any _ _ (by omega)).mono ?_;rintro e w' ⟨rfl,rfl⟩)|(go_at_call 53;refine(refHigh_any _ _).mono ?_;rintro e w' ⟨rfl,rfl⟩))
  go_ret
  first|exact⟨rfl,rfl⟩|exact⟨ret_bool (or_no (by omega)),rfl⟩|exact⟨ret_bool (decide_eq_true (by omega)).symm,rfl⟩
theorem refFits_4 (b:Int) (w:World) (h0:0<=b) (h1:b<18446744073709551616):Calls Tryz.prog 81 #[.int .i64 4,.int .u64 b] w fun e w'=>e = .returned (.bool (fitsF 8 1 b))/\w'=w:=by
 have e1:sz 4=8:=rfl
 have e2:(rd 4==1)=true:=rfl
 have F:=fits_iff 8 1 b (by unfold KOk;omega) h0 h1
 simp[pw] at F
 have e3:highF 8=9223372036854775808:=rfl
 have e4:nl 4=9223372036854775808:=rfl
 by_cases g1:b<9223372036854775808
 ·have G:fitsF 8 1 b=true:=F.2 (by omega)
  rw[G];clear F G
  go_enter Tryz.func81,Tryz.ntmps81
  go_wp2_with (first|(go_at_call 55;refine(refSize_any _ _).mono ?_;rintro e w' ⟨rfl,rfl⟩)|(go_at_call 52;refine(refSigned_any _ _).mono ?_;rintro e w' ⟨rfl,rfl⟩)|(go_at_call 106;refine(refNull_any _ _).mono ?_;rintro e w' ⟨rfl,rfl⟩)|(go_at_call 54;refine(refBits_any _ _ (by omega)).mono ?_;rintro e w' ⟨rfl,rfl⟩)|(go_at_call 53;refine(refHigh_any _ _).mono ?_;rintro e w' ⟨rfl,rfl⟩))
  go_ret
  first|exact⟨rfl,rfl⟩|exact⟨ret_bool (or_no (by omega)),rfl⟩|exact⟨ret_bool (decide_eq_true (by omega)).symm,rfl⟩
 ·have G:decide (9223372036854775808<=b)=fitsF 8 1 b:=bool_of (F.trans (by omega))
  rw[<- G];clear F G
  go_enter Tryz.func81,Tryz.ntmps81
  go_wp2_with (first|(go_at_call 55;refine(refSize_any _ _).mono ?_;rintro e w' ⟨rfl,rfl⟩)|(go_at_call 52;refine(refSigned_any _ _).mono ?_;rintro e w' ⟨rfl,rfl⟩)|(go_at_call 106;refine(refNull_any _ _).mono ?_;rintro e w' ⟨rfl,rfl⟩)|(go_at_call 54;refine(refBits_any _ _ (by omega)).mono ?_;rintro e w' ⟨rfl,rfl⟩)|(go_at_call 53;refine(refHigh_any _ _).mono ?_;rintro e w' ⟨rfl,rfl⟩))
  go_ret
  first|exact⟨rfl,rfl⟩|exact⟨ret_bool (or_no (by omega)),rfl⟩|exact⟨ret_bool (decide_eq_true (by omega)).symm,rfl⟩
theorem refFits_5 (b:Int) (w:World) (h0:0<=b) (h1:b<18446744073709551616):Calls Tryz.prog 81 #[.int .i64 5,.int .u64 b] w fun e w'=>e = .returned (.bool (fitsF 1 0 b))/\w'=w:=by
 have e1:sz 5=1:=rfl
 have e2:(rd 5==1)=false:=rfl
 have F:=fits_iff 1 0 b (by unfold KOk;omega) h0 h1
 simp[pw] at F
 have e3:bitsF 8=255:=rfl
 have G:decide (b<=255)=fitsF 1 0 b:=bool_of (F.trans (by omega))
 rw[<- G];clear F G
 go_enter Tryz.func81,Tryz.ntmps81
 go_wp2_with (first|(go_at_call 55;refine(refSize_any _ _).mono ?_;rintro e w' ⟨rfl,rfl⟩)|(go_at_call 52;refine(refSigned_any _ _).mono ?_;rintro e w' ⟨rfl,rfl⟩)|(go_at_call 106;refine(refNull_any _ _).mono ?_;rintro e w' ⟨rfl,rfl⟩)|(go_at_call 54;refine(refBits_any _ _ (by omega)).mono ?_;rintro e w' ⟨rfl,rfl⟩)|(go_at_call 53;refine(refHigh_any _ _).mono ?_;rintro e w' ⟨rfl,rfl⟩))
 go_ret
 exact⟨rfl,rfl⟩
theorem refFits_6 (b:Int) (w:World) (h0:0<=b) (h1:b<18446744073709551616):Calls Tryz.prog 81 #[.int .i64 6,.int .u64 b] w fun e w'=>e = .returned (.bool (fitsF 2 0 b))/\w'=w:=by
 have e1:sz 6=2:=rfl
 have e2:(rd 6==1)=false:=rfl
 have F:=fits_iff 2 0 b (by unfold KOk;omega) h0 h1
 simp[pw] at F
 have e3:bitsF 16=65535:=rfl
 have G:decide (b<=65535)=fitsF 2 0 b:=bool_of (F.trans (by omega))
 rw[<- G];clear F G
 go_enter Tryz.func81,Tryz.ntmps81
 go_wp2_with (first|(go_at_call 55;refine(refSize_any _ _).mono ?_;rintro e w' ⟨rfl,rfl⟩)|(go_at_call 52;refine(refSigned_any _ _).mono ?_;rintro e w' ⟨rfl,rfl⟩)|(go_at_call 106;refine(refNull_any _ _).mono ?_;rintro e w' ⟨rfl,rfl⟩)|(go_at_call 54;refine(refBits_any _ _ (by omega)).mono ?_;rintro e w' ⟨rfl,rfl⟩)|(go_at_call 53;refine(refHigh_any _ _).mono ?_;rintro e w' ⟨rfl,rfl⟩))
 go_ret
 exact⟨rfl,rfl⟩
theorem refFits_7 (b:Int) (w:World) (h0:0<=b) (h1:b<18446744073709551616):Calls Tryz.prog 81 #[.int .i64 7,.int .u64 b] w fun e w'=>e = .returned (.bool (fitsF 4 0 b))/\w'=w:=by
 have e1:sz 7=4:=rfl
 have e2:(rd 7==1)=false:=rfl
 have F:=fits_iff 4 0 b (by unfold KOk;omega) h0 h1
 simp[pw] at F
 have e3:bitsF 32=4294967295:=rfl
 have G:decide (b<=4294967295)=fitsF 4 0 b:=bool_of (F.trans (by omega))
 rw[<- G];clear F G
 go_enter Tryz.func81,Tryz.ntmps81
 go_wp2_with (first|(go_at_call 55;refine(refSize_any _ _).mono ?_;rintro e w' ⟨rfl,rfl⟩)|(go_at_call 52;refine(refSigned_any _ _).mono ?_;rintro e w' ⟨rfl,rfl⟩)|(go_at_call 106;refine(refNull_any _ _).mono ?_;rintro e w' ⟨rfl,rfl⟩)|(go_at_call 54;refine(refBits_any _ _ (by omega)).mono ?_;rintro e w' ⟨rfl,rfl⟩)|(go_at_call 53;refine(refHigh_any _ _).mono ?_;rintro e w' ⟨rfl,rfl⟩))
 go_ret
 exact⟨rfl,rfl⟩
theorem refFits_8 (b:Int) (w:World) (h0:0<=b) (h1:b<18446744073709551616):Calls Tryz.prog 81 #[.int .i64 8,.int .u64 b] w fun e w'=>e = .returned (.bool (fitsF 8 0 b))/\w'=w:=by
 have e1:sz 8=8:=rfl
 have e2:(rd 8==1)=false:=rfl
 have F:=fits_iff 8 0 b (by unfold KOk;omega) h0 h1
 simp[pw] at F
 have e3:bitsF 64=18446744073709551615:=rfl
 have G:decide (b<=18446744073709551615)=fitsF 8 0 b:=bool_of (F.trans (by omega))
 rw[<- G];clear F G
 go_enter Tryz.func81,Tryz.ntmps81
 go_wp2_with (first|(go_at_call 55;refine(refSize_any _ _).mono ?_;rintro e w' ⟨rfl,rfl⟩)|(go_at_call 52;refine(refSigned_any _ _).mono ?_;rintro e w' ⟨rfl,rfl⟩)|(go_at_call 106;refine(refNull_any _ _).mono ?_;rintro e w' ⟨rfl,rfl⟩)|(go_at_call 54;refine(refBits_any _ _ (by omega)).mono ?_;rintro e w' ⟨rfl,rfl⟩)|(go_at_call 53;refine(refHigh_any _ _).mono ?_;rintro e w' ⟨rfl,rfl⟩))
 go_ret
 exact⟨rfl,rfl⟩
theorem refFits_9 (b:Int) (w:World) (h0:0<=b) (h1:b<18446744073709551616):Calls Tryz.prog 81 #[.int .i64 9,.int .u64 b] w fun e w'=>e = .returned (.bool (fitsF 4 2 b))/\w'=w:=by
 have e1:sz 9=4:=rfl
 have e2:(rd 9==1)=false:=rfl
 have F:=fits_iff 4 2 b (by unfold KOk;omega) h0 h1
 simp[pw] at F
 have e3:bitsF 32=4294967295:=rfl
 have G:decide (b<=4294967295)=fitsF 4 2 b:=bool_of (F.trans (by omega))
 rw[<- G];clear F G
 go_enter Tryz.func81,Tryz.ntmps81
 go_wp2_with (first|(go_at_call 55;refine(refSize_any _ _).mono ?_;rintro e w' ⟨rfl,rfl⟩)|(go_at_call 52;refine(refSigned_any _ _).mono ?_;rintro e w' ⟨rfl,rfl⟩)|(go_at_call 106;refine(refNull_any _ _).mono ?_;rintro e w' ⟨rfl,rfl⟩)|(go_at_call 54;refine(refBits_any _ _ (by omega)).mono ?_;rintro e w' ⟨rfl,rfl⟩)|(go_at_call 53;refine(refHigh_any _ _).mono ?_;rintro e w' ⟨rfl,rfl⟩))
 go_ret
 exact⟨rfl,rfl⟩
theorem refFits_10 (b:Int) (w:World) (h0:0<=b) (h1:b<18446744073709551616):Calls Tryz.prog 81 #[.int .i64 10,.int .u64 b] w fun e w'=>e = .returned (.bool (fitsF 8 2 b))/\w'=w:=by
 have e1:sz 10=8:=rfl
 have e2:(rd 10==1)=false:=rfl
 have F:=fits_iff 8 2 b (by unfold KOk;omega) h0 h1
 simp[pw] at F
 have e3:bitsF 64=18446744073709551615:=rfl
 have G:decide (b<=18446744073709551615)=fitsF 8 2 b:=bool_of (F.trans (by omega))
 rw[<- G];clear F G
 go_enter Tryz.func81,Tryz.ntmps81
 go_wp2_with (first|(go_at_call 55;refine(refSize_any _ _).mono ?_;rintro e w' ⟨rfl,rfl⟩)|(go_at_call 52;refine(refSigned_any _ _).mono ?_;rintro e w' ⟨rfl,rfl⟩)|(go_at_call 106;refine(refNull_any _ _).mono ?_;rintro e w' ⟨rfl,rfl⟩)|(go_at_call 54;refine(refBits_any _ _ (by omega)).mono ?_;rintro e w' ⟨rfl,rfl⟩)|(go_at_call 53;refine(refHigh_any _ _).mono ?_;rintro e w' ⟨rfl,rfl⟩))
 go_ret
 exact⟨rfl,rfl⟩
theorem refFits_any (p b:Int) (w:World) (h0:0<=b) (h1:b<18446744073709551616):Calls Tryz.prog 81 #[.int .i64 p,.int .u64 b] w fun e w'=>e = .returned (.bool (fitsF (sz p) (rd p) b))/\w'=w:=by
 rcases prim_cases p with h|rfl|rfl|rfl|rfl|rfl|rfl|rfl|rfl|rfl|rfl|rfl
 ·have e1:sz p=0:=by unfold sz;rw[kRow_out p h]
  have e2:fitsF (sz p) (rd p) b=false:=by rw[e1];rfl
  rw[e2];clear e2 h
  go_enter Tryz.func81,Tryz.ntmps81
  go_wp2_with (first|(go_at_call 55;refine(refSize_any _ _).mono ?_;rintro e w' ⟨rfl,rfl⟩)|(go_at_call 52;refine(refSigned_any _ _).mono ?_;rintro e w' ⟨rfl,rfl⟩)|(go_at_call 106;refine(refNull_any _ _).mono ?_;rintro e w' ⟨rfl,rfl⟩)|(go_at_call 54;refine(refBits_any _ _ (by omega)).mono ?_;rintro e w' ⟨rfl,rfl⟩)|(go_at_call 53;refine(refHigh_any _ _).mono ?_;rintro e w' ⟨rfl,rfl⟩))
  go_ret
  exact⟨rfl,rfl⟩
 ·exact refFits_0 b w h0 h1
 ·exact refFits_1 b w h0 h1
 ·exact refFits_2 b w h0 h1
 ·exact refFits_3 b w h0 h1
 ·exact refFits_4 b w h0 h1
 ·exact refFits_5 b w h0 h1
 ·exact refFits_6 b w h0 h1
 ·exact refFits_7 b w h0 h1
 ·exact refFits_8 b w h0 h1
 ·exact refFits_9 b w h0 h1
 ·exact refFits_10 b w h0 h1
def rdK:Op->Bool
 | .move _=>true
 | .assign _=>true
 | .pick _ _ _=>true
 | .build _ _=>true
 | .load _ _=>true
 | .nilCheck _=>true
 | .binOp _ _ _ _ _=>true
 | .unOp _ _ _=>true
 | .convert _ _ _=>true
 | .slice _ _ _ _ _=>true
 | .fieldAddr _ _ _=>true
 | .field _ _ _=>true
 | .indexAddr _ _ _=>true
 | .index _ _ _=>true
 | .extract _ _=>true
 | .call { callee:=.builtin .len,args:=_,argTypes:=_ }=>true
 | _=>false
section
variable {P:Program} {ops:Array Oper} {C:World->Prop} {Q:Exit->Act->World->Prop} {md:Region.Mode}
def ValOnly (s:Sem Next):Prop:=∀ (P:Program) (W W':World) (n:Next),s.run P W = .ok n W'->∃ u,n = .value u
theorem valOnly_v (s:Sem Value):ValOnly (do let x <- s;pure (Next.value x)):=fun P W W' n h=>by
 simp only[Sem.run_bind] at h
 cases hs:s.run P W with
 | ok u w' =>
  rw[hs] at h
  simp only[Result.andThen_ok,Sem.run_pure] at h
  cases h
  exact⟨_,rfl⟩
 | halt x w'=>rw[hs] at h;cases h
theorem valOnly_pure (v:Value):ValOnly (pure (Next.value v)):=fun P W W' n h=>by cases h;exact⟨_,rfl⟩
theorem valOnly_bind {α:Type} (s:Sem α) (f:α->Sem Next) (h:∀ x,ValOnly (f x)):ValOnly (s >>= f):=fun P W W' n h'=>by
 simp only[Sem.run_bind] at h'
 cases hs:s.run P W with
 | ok u w'=>rw[hs] at h';exact h u P w' W' n h'
 | halt x w'=>rw[hs] at h';cases h'
theorem valOnly_nil:ValOnly (runtimePanic .nilDeref):=fun P W W' n h=>by
 revert h
 simp[go_sem]
theorem rd_valOnly {o:Oper} {ρ:Operand->Value} (hr:rdK o.op=true):ValOnly (execOp ρ o):=by
 obtain⟨d,op,ty,ps,af,gd⟩:=o
 cases op
 case pick=>exact valOnly_bind _ _ fun _=>valOnly_pure _
 case nilCheck x =>
  unfold execOp
  dsimp only
  split
  ·exact valOnly_nil
  ·exact valOnly_nil
  ·exact valOnly_nil
  ·split
   ·exact valOnly_nil
   ·refine valOnly_bind _ _ fun _=>valOnly_bind _ _ fun _=>?_
    split
    ·exact valOnly_bind _ _ fun _=>valOnly_pure _
    ·exact valOnly_pure _
   ·exact valOnly_pure _
  ·exact valOnly_pure _
 case call c =>
  obtain⟨cl,ar,at_⟩:=c
  cases cl with
  | value f=>exact Bool.noConfusion (show false=true from hr)
  | invoke r m=>exact Bool.noConfusion (show false=true from hr)
  | builtin b =>
   cases b
   case len=>exact valOnly_v _
   all_goals exact Bool.noConfusion (show false=true from hr)
 all_goals first
  | exact Bool.noConfusion (show false=true from hr)
  | exact valOnly_pure _
  | exact valOnly_v _
theorem rd_value {o:Oper} (hr:rdK o.op=true) (h:o.quietAt P a C W v):(execOp a.eval o).run P W = .ok (.value v) W:=by
 have hv:=rd_valOnly (ρ:=a.eval) hr P W
 unfold Oper.quietAt at h
 cases hs:(execOp a.eval o).run P W with
 | ok n w' =>
  obtain⟨u,rfl⟩:=hv w' n hs
  rw[hs] at h
  obtain⟨rfl,rfl⟩:=h
  rfl
 | halt x w'=>rw[hs] at h;exact h.elim
def schB (md:Region.Mode) (ops:Array Oper):List Nat->Array Bool->Bool
 | [],listed=>(Region.ready md ops listed).isEmpty
 | i::r,listed=>(match ops[i]? with
  | some o=>if rdK o.op then Region.free md ops listed i&&(Region.ready md ops listed).contains i else Region.ready md ops listed==[i]
  | none=>false)&&schB md ops r (listed.setIfInBounds i true)
def wpSch (P:Program) (ops:Array Oper) (C:World->Prop) (Q:Exit->Act->World->Prop):List Nat->Act->World->Prop
 | [],a,w=>Q .normal a w
 | i::r,a,w=>match ops[i]? with
  | none=>False
  | some o=>if Region.wanted o (yielded ops a.tmps)=true then (if rdK o.op=true then o.quiet P a C (fun a'=>wpSch P ops C Q r a' w) else Oper.wp P o a w (fun a' w'=>C w'/\wpSch P ops C Q r a' w') Q) else wpSch P ops C Q r (a.put o.dst undef) w
theorem wpAnyH_sch (hs:Region.noSelect ops=true) (hQ:∀ c (a:Act) d v w,Q (.panic c) (a.put d v) w->Q (.panic c) a w):∀ (sc:List Nat) (listed:Array Bool) (a:Act) (w:World),schB md ops sc listed=true->C w->wpSch P ops C Q sc a w->wpAnyH P md ops Q C sc.length listed a w
 | [],listed,a,w,hv,_,h=>wpAnyH_done (by simpa[schB] using hv) h _
 | i::r,listed,a,w,hv,hC,h=>by
  unfold schB at hv
  rw[Bool.and_eq_true] at hv
  obtain⟨h1,h2⟩:=hv
  unfold wpSch at h
  cases ho:ops[i]? with
  | none=>rw[ho] at h1;cases h1
  | some o =>
   rw[ho] at h1 h
   dsimp only at h1 h
   rw[List.length_cons]
   by_cases hr:rdK o.op=true
   ·rw[if_pos hr,Bool.and_eq_true] at h1
    by_cases hw:Region.wanted o (yielded ops a.tmps)=true
    ·rw[if_pos hw,if_pos hr] at h
     obtain⟨v,hv,h⟩:=h
     exact wpAnyH_take ho hs h1.1 h1.2 (fun c a w=>hQ c a o.dst v w) (.inl ⟨hw,fun W hW=>rd_value hr (hv W hW)⟩) hC (wpAnyH_sch hs hQ r _ _ _ h2 hC h)
    ·rw[if_neg hw] at h
     rw[Bool.not_eq_true] at hw
     exact wpAnyH_take ho hs h1.1 h1.2 (fun c a w=>hQ c a o.dst undef w) (.inr ⟨hw,rfl⟩) hC (wpAnyH_sch hs hQ r _ _ _ h2 hC h)
   ·rw[if_neg hr,beq_iff_eq] at h1
    refine wpAnyH_all h1 (by simp) fun j hj=>?_
    rw[List.mem_singleton.1 hj]
    unfold wpOp
    rw[ho]
    dsimp only
    by_cases hw:Region.wanted o (yielded ops a.tmps)=true
    ·rw[if_pos hw,if_neg hr] at h
     rw[if_pos hw]
     exact .inl (Oper.wp_mono (fun a' w' h'=>⟨h'.1,wpAnyH_sch hs hQ r _ _ _ h2 h'.1 h'.2⟩) h)
    ·rw[if_neg hw] at h
     rw[if_neg hw]
     exact⟨hC,wpAnyH_sch hs hQ r _ _ _ h2 hC h⟩
def wpLx (P:Program) (ops:Array Oper) (C:World->Prop) (Q:Exit->Act->World->Prop):List Oper->Act->World->Prop
 | [],a,w=>Q .normal a w
 | o::r,a,w=>if Region.wanted o (yielded ops a.tmps)=true then (if rdK o.op=true then o.quiet P a C (fun a'=>wpLx P ops C Q r a' w) else Oper.wp P o a w (fun a' w'=>C w'/\wpLx P ops C Q r a' w') Q) else wpLx P ops C Q r (a.put o.dst undef) w
theorem wpSch_of:∀ (sc:List Nat) (l:List Oper) (a:Act) (w:World),sc.map (fun i=>ops[i]?)=l.map some->wpLx P ops C Q l a w->wpSch P ops C Q sc a w
 | [],[],_,_,_,h=>h
 | [],_::_,_,_,e,_=>by cases e
 | _::_,[],_,_,e,_=>by cases e
 | i::r,o::l,a,w,e,h=>by
  simp only[List.map_cons,List.cons.injEq] at e
  unfold wpSch
  rw[e.1]
  unfold wpLx at h
  dsimp only
  split
  ·rename_i hw
   rw[if_pos hw] at h
   split
   ·rename_i hr
    rw[if_pos hr] at h
    exact Oper.quiet_mono (fun a' h'=>wpSch_of r l a' w e.2 h') h
   ·rename_i hr
    rw[if_neg hr] at h
    exact Oper.wp_mono (fun a' w' h'=>⟨h'.1,wpSch_of r l a' w' e.2 h'.2⟩) h
  ·rename_i hw
   rw[if_neg hw] at h
   exact wpSch_of r l _ w e.2 h
variable {d:Option Tmp} {op:Op} {ty:TypeId} {ps:String} {af:Array Edge} {gd:Option (Nat×Bool)} {r:List Oper} {a:Act} {w:World}
structure Lx (P:Program) (ops:Array Oper) (C:World->Prop) (Q:Exit->Act->World->Prop) (l:List Oper) (a:Act) (w:World):Prop where
 out:wpLx P ops C Q l a w
theorem lx_skip (hw:Region.wanted ⟨d,op,ty,ps,af,gd⟩ (yielded ops a.tmps)=false) (h:Lx P ops C Q r (a.put d undef) w):Lx P ops C Q (⟨d,op,ty,ps,af,gd⟩::r) a w:=by
 refine⟨?_⟩
 unfold wpLx
 rw[if_neg (by rw[hw];decide)]
 exact h.out
theorem lx_read (hw:Region.wanted ⟨d,op,ty,ps,af,gd⟩ (yielded ops a.tmps)=true) (hr:rdK op=true) (h:∀ K:Act->Prop,(∀ a',Lx P ops C Q r a' w->K a')->Oper.quiet P ⟨d,op,ty,ps,af,gd⟩ a C K):Lx P ops C Q (⟨d,op,ty,ps,af,gd⟩::r) a w:=by
 refine⟨?_⟩
 unfold wpLx
 rw[if_pos hw,if_pos hr]
 exact h _ fun _ h=>h.out
theorem lx_act (hw:Region.wanted ⟨d,op,ty,ps,af,gd⟩ (yielded ops a.tmps)=true) (hr:rdK op=false) (h:∀ K:Act->World->Prop,(∀ a' w',C w'->Lx P ops C Q r a' w'->K a' w')->Oper.wp P ⟨d,op,ty,ps,af,gd⟩ a w K Q):Lx P ops C Q (⟨d,op,ty,ps,af,gd⟩::r) a w:=by
 refine⟨?_⟩
 unfold wpLx
 rw[if_pos hw,if_neg (by rw[hr];decide)]
 exact h _ fun _ _ h1 h2=>⟨h1,h2.out⟩
theorem lx_one (hr:rdK op=true) (h:wpQuiet P ops C (fun a'=>Lx P ops C Q r a' w) [⟨d,op,ty,ps,af,gd⟩] a):Lx P ops C Q (⟨d,op,ty,ps,af,gd⟩::r) a w:=by
 unfold wpQuiet at h
 by_cases hw:Region.wanted ⟨d,op,ty,ps,af,gd⟩ (yielded ops a.tmps)=true
 ·rw[if_pos hw] at h
  refine lx_read hw hr fun K hK=>?_
  exact Oper.quiet_mono (fun a' h'=>hK a' h') h
 ·rw[if_neg hw] at h
  exact lx_skip (by simpa using hw) h
theorem lx_done (h:Q .normal a w):Lx P ops C Q [] a w:=⟨h⟩
theorem lx_call1 {f:FuncId} {x1:Operand} {tx:Array TypeId} (hen:∀ ag w,(callFunc f ag).run P w = .ok (.enter f ag) w) (hc:Calls P f #[y1] w fun e w'=>e = .returned v/\R w') (h1:a.eval x1=y1) (hw:Region.wanted ⟨d,.call { callee:=.value (.func f),args:=#[x1],argTypes:=tx },ty,ps,af,gd⟩ (yielded ops a.tmps)=true)
  (h:∀ w',R w'->C w'/\Lx P ops C Q r (a.put d v) w'):Lx P ops C Q (⟨d,.call { callee:=.value (.func f),args:=#[x1],argTypes:=tx },ty,ps,af,gd⟩::r) a w :=
 lx_act hw rfl fun K hK=>by
  have hf:a.eval (.func f) = .func (.func f) #[] #[]:=rfl
  unfold Oper.wp execOp
  simp only[resolve,invoke,Sem.run_bind,hf]
  simp[Deferred.ofValue,hen,Oper.upon_enter,h1]
  refine hc.mono ?_
  rintro e w' ⟨rfl,hp⟩
  exact hK _ _ (h w' hp).1 (h w' hp).2
theorem lx_call2 {f:FuncId} {x1 x2:Operand} {tx:Array TypeId} (hen:∀ ag w,(callFunc f ag).run P w = .ok (.enter f ag) w) (hc:Calls P f #[y1,y2] w fun e w'=>e = .returned v/\R w') (h1:a.eval x1=y1) (h2:a.eval x2=y2) (hw:Region.wanted ⟨d,.call { callee:=.value (.func f),args:=#[x1,x2],argTypes:=tx },ty,ps,af,gd⟩ (yielded ops a.tmps)=true)
  (h:∀ w',R w'->C w'/\Lx P ops C Q r (a.put d v) w'):Lx P ops C Q (⟨d,.call { callee:=.value (.func f),args:=#[x1,x2],argTypes:=tx },ty,ps,af,gd⟩::r) a w :=
 lx_act hw rfl fun K hK=>by
  have hf:a.eval (.func f) = .func (.func f) #[] #[]:=rfl
  unfold Oper.wp execOp
  simp only[resolve,invoke,Sem.run_bind,hf]
  simp[Deferred.ofValue,hen,Oper.upon_enter,h1,h2]
  refine hc.mono ?_
  rintro e w' ⟨rfl,hp⟩
  exact hK _ _ (h w' hp).1 (h w' hp).2
theorem lx_call3 {f:FuncId} {x1 x2 x3:Operand} {tx:Array TypeId} (hen:∀ ag w,(callFunc f ag).run P w = .ok (.enter f ag) w) (hc:Calls P f #[y1,y2,y3] w fun e w'=>e = .returned v/\R w') (h1:a.eval x1=y1) (h2:a.eval x2=y2) (h3:a.eval x3=y3) (hw:Region.wanted ⟨d,.call { callee:=.value (.func f),args:=#[x1,x2,x3],argTypes:=tx },ty,ps,af,gd⟩ (yielded ops a.tmps)=true)
  (h:∀ w',R w'->C w'/\Lx P ops C Q r (a.put d v) w'):Lx P ops C Q (⟨d,.call { callee:=.value (.func f),args:=#[x1,x2,x3],argTypes:=tx },ty,ps,af,gd⟩::r) a w :=
 lx_act hw rfl fun K hK=>by
  have hf:a.eval (.func f) = .func (.func f) #[] #[]:=rfl
  unfold Oper.wp execOp
  simp only[resolve,invoke,Sem.run_bind,hf]
  simp[Deferred.ofValue,hen,Oper.upon_enter,h1,h2,h3]
  refine hc.mono ?_
  rintro e w' ⟨rfl,hp⟩
  exact hK _ _ (h w' hp).1 (h w' hp).2
theorem range_map (l:List Oper):(List.range l.length).map (fun i=>l.toArray[i]?)=l.map some:=by
 apply List.ext_getElem?
 intro i
 rw[List.getElem?_map,List.getElem?_map]
 by_cases hi:i<l.length
 ·rw[List.getElem?_range hi]
  simp[hi]
 ·rw[List.getElem?_eq_none (by simpa using hi),List.getElem?_eq_none (by omega)]
  rfl
end
structure CW (p:World->Prop) where
 w:World
 h:p w
section
variable {P:Program} {ops:Array Oper} {Q:Exit->Act->World->Prop} {d:Option Tmp} {ty:TypeId} {ps:String} {af:Array Edge} {gd:Option (Nat×Bool)} {r:List Oper} {a:Act} {w:World} {p:World->Prop}
theorem lx_p1 {f:FuncId} {x1:Operand} {tx:Array TypeId} (hen:∀ ag w,(callFunc f ag).run P w = .ok (.enter f ag) w) (hc:∀ W,p W->Calls P f #[y1] W fun e w'=>e = .returned v/\p w') (hp:p w) (h1:a.eval x1=y1) (hw:Region.wanted ⟨d,.call { callee:=.value (.func f),args:=#[x1],argTypes:=tx },ty,ps,af,gd⟩ (yielded ops a.tmps)=true)
  (h:∀ w',p w'->Lx P ops (fun W=>∃ θ:CW p,W=θ.w) Q r (a.put d v) w'):Lx P ops (fun W=>∃ θ:CW p,W=θ.w) Q (⟨d,.call { callee:=.value (.func f),args:=#[x1],argTypes:=tx },ty,ps,af,gd⟩::r) a w :=
 lx_call1 hen (hc w hp) h1 hw fun w' hp'=>⟨⟨⟨w',hp'⟩,rfl⟩,h w' hp'⟩
theorem lx_p2 {f:FuncId} {x1 x2:Operand} {tx:Array TypeId} (hen:∀ ag w,(callFunc f ag).run P w = .ok (.enter f ag) w) (hc:∀ W,p W->Calls P f #[y1,y2] W fun e w'=>e = .returned v/\p w') (hp:p w) (h1:a.eval x1=y1) (h2:a.eval x2=y2) (hw:Region.wanted ⟨d,.call { callee:=.value (.func f),args:=#[x1,x2],argTypes:=tx },ty,ps,af,gd⟩ (yielded ops a.tmps)=true)
  (h:∀ w',p w'->Lx P ops (fun W=>∃ θ:CW p,W=θ.w) Q r (a.put d v) w'):Lx P ops (fun W=>∃ θ:CW p,W=θ.w) Q (⟨d,.call { callee:=.value (.func f),args:=#[x1,x2],argTypes:=tx },ty,ps,af,gd⟩::r) a w :=
 lx_call2 hen (hc w hp) h1 h2 hw fun w' hp'=>⟨⟨⟨w',hp'⟩,rfl⟩,h w' hp'⟩
theorem lx_p3 {f:FuncId} {x1 x2 x3:Operand} {tx:Array TypeId} (hen:∀ ag w,(callFunc f ag).run P w = .ok (.enter f ag) w) (hc:∀ W,p W->Calls P f #[y1,y2,y3] W fun e w'=>e = .returned v/\p w') (hp:p w) (h1:a.eval x1=y1) (h2:a.eval x2=y2) (h3:a.eval x3=y3) (hw:Region.wanted ⟨d,.call { callee:=.value (.func f),args:=#[x1,x2,x3],argTypes:=tx },ty,ps,af,gd⟩ (yielded ops a.tmps)=true)
  (h:∀ w',p w'->Lx P ops (fun W=>∃ θ:CW p,W=θ.w) Q r (a.put d v) w'):Lx P ops (fun W=>∃ θ:CW p,W=θ.w) Q (⟨d,.call { callee:=.value (.func f),args:=#[x1,x2,x3],argTypes:=tx },ty,ps,af,gd⟩::r) a w :=
 lx_call3 hen (hc w hp) h1 h2 h3 hw fun w' hp'=>⟨⟨⟨w',hp'⟩,rfl⟩,h w' hp'⟩
end
theorem wp_region_lx {Q:Exit->Act->World->Prop} (p:World->Prop) (hm:P.follows .mixedOrders=true) (hv:(Region.noSelect l.toArray&&schB .any l.toArray (List.range l.length) (Array.replicate l.length false))=true)
  (hQ:∀ c (a:Act) d v w,Q (.panic c) (a.put d v) w->Q (.panic c) a w) (hp:p w.drew) (h:Lx P l.toArray (fun W=>∃ θ:CW p,W=θ.w) Q l a w.drew):(Code.region id l.toArray true).wp P Q a w:=by
 rw[Bool.and_eq_true] at hv
 refine wp_region_held (S:=fun W=>∃ θ:CW p,W=θ.w) hm ?_
 have:=wpAnyH_sch hv.1 hQ _ _ a w.drew hv.2 ⟨⟨_,hp⟩,rfl⟩ (wpSch_of _ _ _ _ (range_map l) h.out)
 rw[List.length_range] at this
 simpa using this
theorem wp_region_lp {Q:Exit->Act->World->Prop} (p:World->Prop) (hm:P.follows .mixedOrders=true) (hv:(Region.noSelect l.toArray&&schB .any l.toArray (List.range l.length) (Array.replicate l.length false))=true)
  (hQ:∀ c (a:Act) d v w,Q (.panic c) (a.put d v) w->Q (.panic c) a w) (hp:p w.drew) (h:∀ W,p W->Lx P l.toArray (fun W=>∃ θ:CW p,W=θ.w) Q l a W):(Code.region id l.toArray true).wp P Q a w :=
 wp_region_lx p hm hv hQ hp (h _ hp)
theorem wp_region_px {Q:Exit->Act->World->Prop} (p:World->Prop) (sc:List Nat) (l':List Oper) (hl:sc.map (fun i=>l.toArray[i]?)=l'.map some) (hm:P.follows .mixedOrders=true) (hv:(Region.noSelect l.toArray&&schB .any l.toArray sc (Array.replicate l.length false)&&(sc.length==l.length))=true)
  (hQ:∀ c (a:Act) d v w,Q (.panic c) (a.put d v) w->Q (.panic c) a w) (hp:p w.drew) (h:Lx P l.toArray (fun W=>∃ θ:CW p,W=θ.w) Q l' a w.drew):(Code.region id l.toArray true).wp P Q a w:=by
 rw[Bool.and_eq_true,Bool.and_eq_true,beq_iff_eq] at hv
 refine wp_region_held (S:=fun W=>∃ θ:CW p,W=θ.w) hm ?_
 have:=wpAnyH_sch hv.1.1 hQ _ _ a w.drew hv.1.2 ⟨⟨_,hp⟩,rfl⟩ (wpSch_of _ _ _ _ hl h.out)
 rw[hv.2] at this
 simpa using this
theorem ch2:∀ a b:Bool,a=false\/(a=true/\b=false)\/(a=true/\b=true):=by decide
theorem ch3:∀ a b c:Bool,a=false\/(a=true/\b=false)\/(a=true/\b=true/\c=false)\/(a=true/\b=true/\c=true):=by decide
theorem ch4:∀ a b c d:Bool,a=false\/(a=true/\b=false)\/(a=true/\b=true/\c=false)\/(a=true/\b=true/\c=true/\d=false)\/(a=true/\b=true/\c=true/\d=true):=by decide
theorem ch5:∀ a b c d e:Bool,a=false\/(a=true/\b=false)\/(a=true/\b=true/\c=false)\/(a=true/\b=true/\c=true/\d=false)\/(a=true/\b=true/\c=true/\d=true/\e=false)\/(a=true/\b=true/\c=true/\d=true/\e=true):=by decide
theorem ch6:∀ a b c d e f:Bool,a=false\/(a=true/\b=false)\/(a=true/\b=true/\c=false)\/(a=true/\b=true/\c=true/\d=false)\/(a=true/\b=true/\c=true/\d=true/\e=false)\/(a=true/\b=true/\c=true/\d=true/\e=true/\f=false)\/(a=true/\b=true/\c=true/\d=true/\e=true/\f=true):=by
 intro a b c d e f
 cases a<;>cases b<;>cases c<;>cases d<;>cases e<;>cases f<;>simp
theorem pts:(∀ (a:Act) (d:Tmp) (v:Value),a.put (some d) v={ a with tmps:=a.tmps.setIfInBounds d v })/\(∀ (a:Act) (v:Value),a.put none v=a)/\(∀ (l:List Value) (i:Nat) (v:Value),l.toArray.setIfInBounds i v=(l.set i v).toArray)/\(∀ (l:List Value) (x v:Value),(x::l).set 0 v=v::l)/\(∀ (l:List Value) (x v:Value) (n:Nat),(x::l).set (n+1) v=x::l.set n v) :=
 ⟨fun _ _ _=>rfl,fun _ _=>rfl,fun _ _ _=>List.setIfInBounds_toArray ..,fun _ _ _=>rfl,fun _ _ _ _=>rfl⟩
open Go.Shelf
abbrev spV (s:Sp):Value:=.agg #[.int .i64 s.p,.int .i64 s.o]
theorem rb {a b:Bool} (h:a=b):Ending.returned (.bool a) = .returned (.bool b):=by rw[h]
theorem isBetween_any (n a b:Int) (w:World):Calls Tryz.prog 82 #[.int .i64 n,.int .i64 a,.int .i64 b] w fun r w'=>r = .returned (.bool (bet n a b))/\w'=w:=by
 unfold bet
 by_cases h:a<=n
 ·have d:decide (a<=n)=true:=decide_eq_true h
  go_enter Tryz.func82,Tryz.ntmps82
  go_wp2_with fail
  go_ret
  exact⟨rb (by simp[h]),rfl⟩
 ·have d:decide (a<=n)=false:=decide_eq_false h
  go_enter Tryz.func82,Tryz.ntmps82
  go_wp2_with fail
  go_ret
  exact⟨rb (by simp),rfl⟩
theorem isNumber_any (p:Int) (w:World):Calls Tryz.prog 114 #[.int .i64 p] w fun r w'=>r = .returned (.bool (numB p))/\w'=w:=by
 unfold numB
 by_cases h5:p=5
 ·subst h5
  go_enter Tryz.func114,Tryz.ntmps114
  go_wp2_with fail
  go_ret
  exact⟨rfl,rfl⟩
 have d5:(p==5)=false:=beq_eq_false_iff_ne.2 h5
 by_cases h6:p=6
 ·subst h6
  go_enter Tryz.func114,Tryz.ntmps114
  go_wp2_with fail
  go_ret
  exact⟨rfl,rfl⟩
 have d6:(p==6)=false:=beq_eq_false_iff_ne.2 h6
 go_enter Tryz.func114,Tryz.ntmps114
 go_wp2_with fail
 go_ret
 exact⟨rb (by rw[Bool.eq_iff_iff];simp[h5,h6]),rfl⟩
theorem size_any (p:Int) (w:World) (h:KT w):Calls Tryz.prog 115 #[.int .i64 p] w fun e w'=>e = .returned (.int .i64 (sz p))/\Below w.heap.size w w':=by
 have hf:=field0
 go_enter Tryz.func115,Tryz.ntmps115
 go_wp2_with (go_at_call 129;refine(kindOf_any _ _ h).mono ?_;rintro e w' ⟨rfl,hbl⟩)
 go_ret
 exact⟨rfl,hbl⟩
theorem max_any (p:Int) (w:World) (h:KT w):Calls Tryz.prog 109 #[.int .i64 p] w fun e w'=>e = .returned (.int .u64 (mx p))/\Below w.heap.size w w':=by
 have hf:=field4
 go_enter Tryz.func109,Tryz.ntmps109
 go_wp2_with (go_at_call 129;refine(kindOf_any _ _ h).mono ?_;rintro e w' ⟨rfl,hbl⟩)
 go_ret
 exact⟨rfl,hbl⟩
theorem KT.up (h:KT w) (hb:Below w.heap.size w w'):KT w':=h.below h.pos hb
theorem KT.al (h:KT w) (o:Obj):KT (w.alloc o):=h.up (bel1 _ _)
theorem sz_b (p:Int):0<=sz p/\sz p<=8:=by
 rcases prim_cases p with h|rfl|rfl|rfl|rfl|rfl|rfl|rfl|rfl|rfl|rfl|rfl
 ·unfold sz;rw[kRow_out p h];decide
 all_goals decide
def i64ok (x:Int):Prop:=-9223372036854775808<=x/\x<=9223372036854775807
def u64ok (x:Int):Prop:=0<=x/\x<=18446744073709551615
theorem al_le (w:World) (o:Obj):w.heap.size<=(w.alloc o).heap.size:=by rw[World.size_alloc];omega
theorem heap_al (w:World) (o:Obj):(w.alloc o).heap[w.heap.size]?=some o:=by show (w.heap.push o)[w.heap.size]?=_;rw[Array.getElem?_push,if_pos rfl]
theorem cell_at {g:Nat} {cs:Array Value} (h:w.heap[g]?=some (.cells cs ty)) (o:Nat):w.cell? ⟨g,o,none⟩=cs[o]?:=by simp only[World.cell?,h];rfl
theorem drw {a:World} (h:Below B a w):Below B a w.drew:=⟨h.os,h.tape,h.output,h.size,h.block⟩
theorem own_cell {cs:Array Value} (e:o = .cells cs ty) (h:Below (w.heap.size+1) (w.alloc o) W) (k:Nat):W.cell? ⟨w.heap.size,k,none⟩=cs[k]?:=by
 subst e
 rw[h.cell (p:=⟨w.heap.size,k,none⟩) (Nat.lt_succ_self _)]
 exact cell_at (heap_al _ _) k
theorem bel2 (h:Below (w.heap.size+1) (w.alloc o) W):Below w.heap.size w W:=(bel1 w o).trans (h.mono (Nat.le_succ _))
theorem bel0 (w:World) (o:Obj):Below (w.heap.size+1) (w.alloc o) (w.alloc o):=Below.refl _ _
theorem bel_call {a:World} (h:Below B a W) (hB:B<=a.heap.size) (hb:Below W.heap.size W w'):Below B a w':=h.trans (hb.mono (Nat.le_trans hB h.size))
theorem callB {a:World} {f:FuncId} {ag:Array Value} (hB:B<=a.heap.size) (h:∀ W,Below B a W->Calls Tryz.prog f ag W fun e w'=>e = .returned v/\Below W.heap.size W w'):∀ W,Below B a W->Calls Tryz.prog f ag W fun e w'=>e = .returned v/\Below B a w' :=
 fun W hW=>(h W hW).mono fun _ _ ⟨h1,h2⟩=>⟨h1,bel_call hW hB h2⟩
theorem callS {p:World->Prop} {f:FuncId} {ag:Array Value} (h:∀ W,Calls Tryz.prog f ag W fun e w'=>e = .returned v/\w'=W):∀ W,p W->Calls Tryz.prog f ag W fun e w'=>e = .returned v/\p w' :=
 fun W hW=>(h W).mono fun _ _ ⟨h1,h2⟩=>⟨h1,h2▸hW⟩
theorem ent_isNumber:∀ ag w,(callFunc 114 ag).run Tryz.prog w = .ok (.enter 114 ag) w:=enters_of Tryz.func114 (by kernel_rfl) rfl
theorem ent_size:∀ ag w,(callFunc 115 ag).run Tryz.prog w = .ok (.enter 115 ag) w:=enters_of Tryz.func115 (by kernel_rfl) rfl
theorem ent_isBetween:∀ ag w,(callFunc 82 ag).run Tryz.prog w = .ok (.enter 82 ag) w:=enters_of Tryz.func82 (by kernel_rfl) rfl
theorem ktb (h:KT w) (hb:Below (w.heap.size+1) (w.alloc o) W):KT W:=h.up (bel2 hb)
theorem szal (w:World) (o:Obj):w.heap.size+1<=(w.alloc o).heap.size:=by rw[World.size_alloc];omega
theorem liesIn_any (s:Sp) (n:Int) (w:World) (h:KT w) (hn:0<=n/\n<=9223372036854775807):Calls Tryz.prog 107 #[spV s,.int .i64 n] w fun r w'=>r = .returned (.bool (lieB s n))/\Below w.heap.size w w':=by
 obtain⟨p,p0,pB,hN,f0,f1,cN,cS⟩:∃ p:World->Prop,p (w.alloc (.cells #[.int .i64 s.p,.int .i64 s.o] 25)).drew/\(∀ W,p W->Below w.heap.size w W)/\Nonempty (CW p)/\(∀ θ:CW p,θ.w.cell? ⟨w.heap.size,0,none⟩=some (.int .i64 s.p))/\(∀ θ:CW p,θ.w.cell? ⟨w.heap.size,1,none⟩=some (.int .i64 s.o)) /\
   (∀ W,p W->Calls Tryz.prog 114 #[.int .i64 s.p] W fun e w'=>e = .returned (.bool (numB s.p))/\p w')/\(∀ W,p W->Calls Tryz.prog 115 #[.int .i64 s.p] W fun e w'=>e = .returned (.int .i64 (sz s.p))/\p w') :=
  ⟨Below (w.heap.size+1) (w.alloc (.cells #[.int .i64 s.p,.int .i64 s.o] 25)),drw (bel0 _ _),fun _ h=>bel2 h,⟨⟨_,bel0 _ _⟩⟩,fun θ=>own_cell rfl θ.h 0,fun θ=>own_cell rfl θ.h 1,callS (isNumber_any s.p),callB (szal _ _) (fun W hW=>size_any s.p W (ktb h hW))⟩
 have hz:=sz_b s.p
 have hw:IntKind.i64.wrap (n-sz s.p)=n-sz s.p:=by rw[IntKind.wrap_i64];omega
 unfold lieB
 rcases ch2 (numB s.p) (decide (0<=s.o)) with k1|⟨k1,k2⟩|⟨k1,k2⟩
 all_goals
  rw[k1] at cN ⊢
  go_enter Tryz.func107,Tryz.ntmps107
  go_wp2_with fail
  refine wp_region_lp p (by kernel_rfl) (by kernel_rfl) (fun _ _ d _ _ h=>by cases d<;>exact h) p0 fun W hp=>?_
  repeat (first|(refine lx_one rfl ?_;(first|go_big_quiet_skip|(go_big_quiet_want;go_big_quiet_op;go_big_quiet_on));refine wpQuiet_nil ?_)|(refine lx_p1 ent_isNumber cN hp rfl (by rfl) ?_;intro W hp;simp only[pts])|(refine lx_p1 ent_size cS hp rfl (by rfl) ?_;intro W hp;simp only[pts])|(refine lx_skip (by rfl) ?_;simp only[pts]))
  refine lx_done ?_
  go_wp2_with fail
  go_ret
  exact⟨rb (by simp_all<;>omega),pB _ hp⟩
theorem meet_any (s t:Sp) (w:World) (h:KT w) (hs:0<=s.o/\s.o<=9223372036854775700) (ht:0<=t.o/\t.o<=9223372036854775700):Calls Tryz.prog 108 #[spV s,spV t] w fun r w'=>r = .returned (.bool (!aptB s t))/\Below w.heap.size w w':=by
 have hz:=sz_b s.p
 have hy:=sz_b t.p
 obtain⟨p,p0,pB,hN,f0,f1,f2,f3,cS,cT⟩:∃ p:World->Prop,p ((w.alloc (.cells #[.int .i64 s.p,.int .i64 s.o] 25)).alloc (.cells #[.int .i64 t.p,.int .i64 t.o] 25)).drew/\(∀ W,p W->Below w.heap.size w W)/\Nonempty (CW p)/\(∀ θ:CW p,θ.w.cell? ⟨w.heap.size,0,none⟩=some (.int .i64 s.p))/\(∀ θ:CW p,θ.w.cell? ⟨w.heap.size,1,none⟩=some (.int .i64 s.o))/\(∀ θ:CW p,θ.w.cell? ⟨w.heap.size+1,0,none⟩=some (.int .i64 t.p))/\(∀ θ:CW p,θ.w.cell? ⟨w.heap.size+1,1,none⟩=some (.int .i64 t.o)) /\
   (∀ W,p W->Calls Tryz.prog 115 #[.int .i64 s.p] W fun e w'=>e = .returned (.int .i64 (sz s.p))/\p w')/\(∀ W,p W->Calls Tryz.prog 115 #[.int .i64 t.p] W fun e w'=>e = .returned (.int .i64 (sz t.p))/\p w'):=by
  have q1:∀ W,Below (w.heap.size+2) ((w.alloc (.cells #[.int .i64 s.p,.int .i64 s.o] 25)).alloc (.cells #[.int .i64 t.p,.int .i64 t.o] 25)) W->Below (w.heap.size+1) (w.alloc (.cells #[.int .i64 s.p,.int .i64 s.o] 25)) W:=fun W h=>by
   have:=(bel1 (w.alloc (.cells #[.int .i64 s.p,.int .i64 s.o] 25)) (.cells #[.int .i64 t.p,.int .i64 t.o] 25)).trans (h.mono (by rw[World.size_alloc];omega))
   rwa [World.size_alloc] at this
  have q2:∀ W,Below (w.heap.size+2) ((w.alloc (.cells #[.int .i64 s.p,.int .i64 s.o] 25)).alloc (.cells #[.int .i64 t.p,.int .i64 t.o] 25)) W->∀ k,W.cell? ⟨w.heap.size+1,k,none⟩=(#[.int .i64 t.p,.int .i64 t.o]:Array Value)[k]?:=fun W h k=>by
   have:=own_cell (w:=w.alloc (.cells #[.int .i64 s.p,.int .i64 s.o] 25)) (o:=(.cells #[.int .i64 t.p,.int .i64 t.o] 25)) rfl (W:=W) (by rw[World.size_alloc];exact h) k
   rwa [World.size_alloc] at this
  exact⟨Below (w.heap.size+2) ((w.alloc (.cells #[.int .i64 s.p,.int .i64 s.o] 25)).alloc (.cells #[.int .i64 t.p,.int .i64 t.o] 25)),drw (Below.refl _ _),fun _ h=>bel2 (q1 _ h),⟨⟨_,Below.refl _ _⟩⟩,fun θ=>own_cell rfl (q1 _ θ.h) 0,fun θ=>own_cell rfl (q1 _ θ.h) 1,fun θ=>q2 _ θ.h 0,fun θ=>q2 _ θ.h 1,
   callB (by rw[World.size_alloc,World.size_alloc];omega) (fun W hW=>size_any s.p W (ktb h (q1 _ hW))),callB (by rw[World.size_alloc,World.size_alloc];omega) (fun W hW=>size_any t.p W (ktb h (q1 _ hW)))⟩
 have hw1:IntKind.i64.wrap (t.o+sz t.p)=t.o+sz t.p:=by rw[IntKind.wrap_i64];omega
 have hw2:IntKind.i64.wrap (s.o+sz s.p)=s.o+sz s.p:=by rw[IntKind.wrap_i64];omega
 unfold aptB
 rcases Bool.eq_false_or_eq_true (decide (s.o<t.o+sz t.p)) with k1|k1
 all_goals
  go_enter Tryz.func108,Tryz.ntmps108
  go_wp2_with fail
  refine wp_region_lp p (by kernel_rfl) (by kernel_rfl) (fun _ _ d _ _ h=>by cases d<;>exact h) p0 fun W hp=>?_
  repeat (first|(refine lx_one rfl ?_;(first|go_big_quiet_skip|(go_big_quiet_want;go_big_quiet_op;go_big_quiet_on));refine wpQuiet_nil ?_)|(refine lx_p1 ent_size cS hp rfl (by rfl) ?_;intro W hp;simp only[pts])|(refine lx_p1 ent_size cT hp rfl (by rfl) ?_;intro W hp;simp only[pts])|(refine lx_skip (by rfl) ?_;simp only[pts]))
  refine lx_done ?_
  go_wp2_with fail
  go_ret
  exact⟨rb (by
   simp only[decide_eq_true_eq,decide_eq_false_iff_not] at k1
   rw[Bool.eq_iff_iff]
   simp
   omega),pB _ hp⟩
theorem canTell_any (s:Sp) (n:Int) (w:World) (h:KT w) (hn:0<=n/\n<=9223372036854775807):Calls Tryz.prog 84 #[spV s,.int .i64 n] w fun r w'=>r = .returned (.bool (telB s n))/\Below w.heap.size w w':=by
 have hw:IntKind.u64.wrap n=n:=by rw[IntKind.wrap_u64];omega
 unfold telB
 go_enter Tryz.func84,Tryz.ntmps84
 go_wp2_with (go_at_call 109;refine(max_any _ _ (h.al _)).mono ?_;rintro _ w1 ⟨rfl,hb⟩)
 go_ret
 exact⟨rb (by simp[hn.1]),(bel1 _ _).trans (hb.mono (al_le _ _))⟩
end Go.Proofs.YtbhmciieiilcfaaGreatDoor
