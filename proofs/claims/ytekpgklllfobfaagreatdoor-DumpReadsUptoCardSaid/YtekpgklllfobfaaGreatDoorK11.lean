import Derived.Lib.ItoaMem
import Derived.Test.YtekpgklllfobfaaGreatDoorK10
namespace Go.Proofs.YtekpgklllfobfaaGreatDoor
set_option maxRecDepth 1000000
set_option maxHeartbeats 16000000
open Go.ChangeShapes Go.WideShapes Go.ChangeAt Go.RowKit Go.Shelf Go.Maps
def rD (n:Nat):ByteArray:=⟨(Lib.decDigits n).toArray⟩
def rO (c:Nat):ByteArray:=⟨#[UInt8.ofNat c]⟩
theorem rO_size (c:Nat):(rO c).size=1:=rfl
theorem rnconv (W:World) (g:Nat) (c:Nat) (hg:W.heap.size=g) :
  (convert 29 9 (.slice (some ⟨g,0,none⟩) 1 1)).run Tryz.prog (W.alloc (.cells #[.int .u8 (c:Int)] 5)) = .ok (.string (rO c)) (W.alloc (.cells #[.int .u8 (c:Int)] 5)):=by
 subst hg
 have:strOfNums [(c:Int)]=rO c:=by unfold strOfNums rO;simp
 rw[<- this]
 refine run_convert_bytes_arg _ 29 5 Tryz.underlying29 Tryz.underlying5 W.heap.size 0 1 1 [(c:Int)] rfl (fun i hi=>?_) 9 Tryz.underlying9
 obtain rfl:i=0:=by omega
 have:(W.alloc (.cells #[.int .u8 (c:Int)] 5)).heap[W.heap.size]?=some (.cells #[.int .u8 (c:Int)] 5):=heap_alloc_new W _
 rw[Nat.zero_add]
 unfold World.cell?
 rw[this]
 rfl
theorem rd_small {m:Nat} (h:m / 10=0):Lib.decDigits m=[UInt8.ofNat (48+m % 10)]:=by
 rw[Lib.decDigits,dif_pos (by omega),show m % 10=m by omega]
theorem rd_big {m:Nat} (h:m / 10≠0):Lib.decDigits m=Lib.decDigits (m / 10)++[UInt8.ofNat (48+m % 10)]:=by
 rw[Lib.decDigits,dif_neg (by omega)]
def RdS (n m:Nat) (t:ByteArray):Prop:=Lib.decDigits n=Lib.decDigits m++t.data.toList
theorem RdS.last {n m:Nat} {t:ByteArray} (h:RdS n m t) (hm:m / 10=0):rO (48+m % 10)++t=rD n:=by
 refine ba_ext ?_
 rw[ByteArray.data_append,Array.toList_append]
 show [UInt8.ofNat (48+m % 10)]++_=_
 unfold rD
 rw[h,rd_small hm]
theorem RdS.next {n m:Nat} {t:ByteArray} (h:RdS n m t) (hm:m / 10≠0):RdS n (m / 10) (rO (48+m % 10)++t):=by
 unfold RdS
 rw[h,rd_big hm,ByteArray.data_append,Array.toList_append,List.append_assoc]
 rfl
theorem rnd20 {n:Nat} (h:n<18446744073709551616):Lib.nDigits n<=20:=by
 by_cases h1:1<=n
 ·have:=Lib.numDigits_eq n h1 h
  split at this<;>omega
 ·obtain rfl:n=0:=by omega
  rw[Lib.nDigits_small (by omega)]
  omega
theorem RdS.size {n m:Nat} {t:ByteArray} (h:RdS n m t) (hn:n<18446744073709551616):t.size<=20:=by
 have h1:=congrArg List.length h
 rw[List.length_append,Lib.decDigits_length] at h1
 have h2:=rnd20 hn
 have:t.data.toList.length=t.size:=Array.length_toList
 omega
theorem decimal3 (n:Nat) (hn:n<18446744073709551616) (w:World):Calls Tryz.prog 59 #[.int .u64 (n:Int)] w fun e w'=>e = .returned (.string (rD n))/\Below w.heap.size w w':=by
 have H0:Hid (RdS n n ⟨#[]⟩/\Below w.heap.size w w):=⟨by unfold RdS;simp,Below.refl _ _⟩
 go_enter Tryz.func59,Tryz.ntmps59
 go_wp2_with fail
 go_loopw [0,3] (fun q v wr=>∃ (m:Nat) (t:ByteArray),m<18446744073709551616/\q = .int .u64 (m:Int)/\v = .string t/\Hid (RdS n m t/\Below w.heap.size w wr)) (fun q _ _=>(RowKit.intOf q).toNat)
 case atStart=>exact⟨n,⟨#[]⟩,hn,rfl,rfl,H0⟩
 case round =>
  clear H0
  obtain⟨m,t,hm,rfl,rfl,hI⟩:=hrel
  have hts:=hI.out.1.size hn
  have hsz:(rO (48+m % 10)++t).size=1+t.size:=by rw[ByteArray.size_append,rO_size]
  have hmod:(m:Int).tmod 10=((m % 10:Nat):Int):=by rw[Int.tmod_eq_emod_of_nonneg (by omega)];omega
  have hdiv:(m:Int).tdiv 10=((m / 10:Nat):Int):=by rw[Int.tdiv_eq_ediv_of_nonneg (by omega)];omega
  have hmI:(m:Int)<18446744073709551616:=by omega
  obtain⟨r,hr⟩:∃ r,m % 10=r:=⟨_,rfl⟩
  obtain⟨k,hk⟩:∃ k,m / 10=k:=⟨_,rfl⟩
  have hr9:r<10:=by omega
  have hw64:IntKind.u64.wrap (48+(r:Int))=48+(r:Int):=by rw[IntKind.wrap_u64];omega
  have hw8:IntKind.u8.wrap (48+(r:Int))=((48+r:Nat):Int):=by rw[IntKind.wrap_u8];omega
  have hkI:(k:Int)<18446744073709551616:=by omega
  rw[hr] at hmod hsz
  rw[hk] at hdiv
  have hovf:¬ 9223372036854775807<(rO (48+r)).size+t.size:=by rw[rO_size];omega
  have hcv:=rnconv wr wr.heap.size (48+r) rfl
  have hb:=hI.out.2.trans ((nbel wr (.cells #[.int .u8 ((48+r:Nat):Int)] 5)).mono hI.out.2.size)
  rw[show ((48+r:Nat):Int)=48+(r:Int) by omega] at hcv hb
  replace hb:Hid (Below _ _ _):=hb
  by_cases hk0:k=0
  ·have e0:((k:Int)==0)=true:=by rw[hk0];rfl
   have e0n:(k==0)=true:=by rw[hk0];rfl
   have hF:Hid (rO (48+r)++t=rD n):=by show _=_;rw[<- hr];exact RdS.last hI.out.1 (by omega)
   clear hk0 hk hr hI
   go_wp2_with fail
   go_ret
   exact⟨by rw[hF.out];rfl,hb.out⟩
  ·have e0:((k:Int)==0)=false:=beq_eq_false_iff_ne.2 (by omega)
   have e0n:(k==0)=false:=beq_eq_false_iff_ne.2 hk0
   have hF:Hid (RdS n k (rO (48+r)++t)):=by show RdS _ _ _;rw[<- hr,<- hk];exact RdS.next hI.out.1 (by omega)
   have hlt:k<m:=by omega
   have hk64:k<18446744073709551616:=by omega
   clear hk hr hI
   go_wp2_with fail
   go_roundw
   case rel=>exact⟨k,rO (48+r)++t,hk64,rfl,rfl,⟨hF.out,hb.out⟩⟩
   case measure=>simp[RowKit.intOf];omega
theorem rsize8 (w:World):Calls Tryz.prog 78 #[.int .i64 8] w fun e w'=>e = .returned (.int .i64 8)/\w'=w:=by
 go_enter Tryz.func78,Tryz.ntmps78
 go_wp2
 go_ret
 exact⟨rfl,rfl⟩
theorem rsigned8 (w:World):Calls Tryz.prog 60 #[.int .i64 8] w fun e w'=>e = .returned (.bool false)/\w'=w:=by
 go_enter Tryz.func60,Tryz.ntmps60
 go_wp2
 go_ret
 exact⟨rfl,rfl⟩
theorem two_le {i:Nat} (h:i<64):2*2 ^ i<=18446744073709551616:=by
 have:=Nat.pow_le_pow_right (n:=2) (by decide) (show i+1<=64 by omega)
 rw[Nat.pow_succ] at this
 omega
theorem rbits64 (w : World) : Calls Tryz.prog 81 #[.int .i64 64] w fun e w' => e = .returned (.int .u64 18446744073709551615)/\w'=w := by
  go_enter Tryz.func81, Tryz.ntmps81
  go_wp2_with fail
  go_loop [3, 4] (fun v q => ∃ (i x : Nat), i<=64/\q = .int .i64 (i : Int)/\v = .int .u64 (x : Int)/\x+1=2 ^ i) (fun _ q => 64-(RowKit.intOf q).toNat)
  case atStart => exact⟨0, 0, by omega, rfl, rfl, rfl⟩
  case round =>
    obtain⟨i, x, hi, rfl, rfl, hx⟩ := hrel
    by_cases hlt : i<64
    · have l1 : decide ((i : Int)<64)=true := by simp; omega
      have h2 := two_le hlt
      have hx2 : 2*x+1+1=2 ^ (i+1) := by rw[Nat.pow_succ]; omega
      have hxb : 2*x+1<18446744073709551616 := by omega
      clear hx h2
      go_wp2_with fail
      go_round
      case rel => exact⟨i+1, 2*x+1, by omega, by go_num, by go_num, hx2⟩
      case measure => simp[RowKit.intOf]; omega
    · obtain rfl : i=64 := by omega
      obtain rfl : x = 18446744073709551615 := by have : (2 : Nat) ^ 64 = 18446744073709551616 := by decide
                                                  omega
      go_wp2_with fail
      go_ret
      exact⟨rfl, rfl⟩
theorem rfits8 (x:Nat) (hx:x<18446744073709551616) (w:World):Calls Tryz.prog 57 #[.int .i64 8,.int .u64 (x:Int)] w fun e w'=>e = .returned (.bool true)/\w'=w:=by
 have l1:decide ((x:Int)<=18446744073709551615)=true:=by simp;omega
 go_enter Tryz.func57,Tryz.ntmps57
 go_wp2_with (first|(go_at_call 78;refine(rsize8 _).mono ?_;rintro _ w1 ⟨rfl,rfl⟩)|(go_at_call 60;refine(rsigned8 _).mono ?_;rintro _ w1 ⟨rfl,rfl⟩)|(go_at_call 81;refine(rbits64 _).mono ?_;rintro _ w1 ⟨rfl,rfl⟩))
 go_ret
 exact⟨rfl,rfl⟩
theorem rprint8 (x:Nat) (hx:x<18446744073709551616) (w:World):Calls Tryz.prog 38 #[.int .i64 8,.int .u64 (x:Int)] w fun e w'=>e = .returned (.tuple #[.string (rD x),.int .i64 0])/\Below w.heap.size w w':=by
 have cD:=fun w=>decimal3 x hx w
 go_enter Tryz.func38,Tryz.ntmps38
 go_wp2_with (first|(go_at_call 57;refine(rfits8 x hx _).mono ?_;rintro _ w1 ⟨rfl,rfl⟩)|(go_at_call 60;refine(rsigned8 _).mono ?_;rintro _ w1 ⟨rfl,rfl⟩)|(go_at_call 59;refine(cD _).mono ?_;clear cD;rintro _ w1 ⟨rfl,hb⟩))
 go_ret2
 exact⟨rfl,hb⟩
theorem rdecimal22 (x:Nat) (hx:x<9223372036854775808) (w:World):Calls Tryz.prog 21 #[.int .i64 (x:Int)] w fun e w'=>e = .returned (.string (rD x))/\Below w.heap.size w w':=by
 have cD:=rprint8 x (by omega) w
 have hw:IntKind.u64.wrap (x:Int)=x:=by rw[IntKind.wrap_u64];omega
 go_enter Tryz.func21,Tryz.ntmps21
 go_wp2_with (go_at_call 38;refine cD.mono ?_;clear cD;rintro _ w1 ⟨rfl,hb⟩)
 go_ret
 exact⟨rfl,hb⟩
theorem nV_app (k:Nat) (a b:ByteArray):∀ i,i<=a.size->nV k (a++b) i=nV k a i
 | 0,_=>rfl
 | i+1,h=>by rw[nV,nV,nV_app k a b i (by omega),ch_app_l a b i (by omega)]
theorem rO_ch {c:Nat} (h:c<256):ch (rO c) 0=c:=by
 unfold ch rO
 simp
 omega
theorem rD_small {n:Nat} (h:n<10):rD n=rO (48+n):=by
 unfold rD rO
 rw[rd_small (by omega),show n % 10=n by omega]
theorem rD_big {n:Nat} (h:¬ n<10):rD n=rD (n / 10)++rO (48+n % 10):=by
 refine ba_ext ?_
 unfold rD rO
 rw[rd_big (by omega),ByteArray.data_append,Array.toList_append]
theorem wt_dg {d:Nat} (h:d<10):wtZ (48+d)=(d:Int):=by
 unfold wtZ
 rw[if_pos (by omega)]
 omega
theorem rD_all (n:Nat):0<(rD n).size/\(∀ j,j<(rD n).size->dgB (ch (rD n) j)=true)/\nV 10 (rD n) (rD n).size=n:=by
 induction n using Nat.strongRecOn with
 | _ n ih =>
  by_cases h:n<10
  ·rw[rD_small h]
   refine⟨by rw[rO_size];omega,fun j hj=>?_,?_⟩
   ·rw[rO_size] at hj
    obtain rfl:j=0:=by omega
    rw[rO_ch (by omega)]
    unfold dgB
    simp
    omega
   ·rw[rO_size,nV,nV,rO_ch (by omega),wt_dg h]
    simp
  ·obtain⟨h1,h2,h3⟩:=ih (n / 10) (by omega)
   have hm:n % 10<10:=Nat.mod_lt _ (by decide)
   rw[rD_big h]
   have hs:(rD (n / 10)++rO (48+n % 10)).size=(rD (n / 10)).size+1:=by rw[ByteArray.size_append,rO_size]
   have hl:ch (rD (n / 10)++rO (48+n % 10)) (rD (n / 10)).size=48+n % 10:=by
    have:=ch_app_r (rD (n / 10)) (rO (48+n % 10)) 0
    rw[Nat.add_zero] at this
    rw[this,rO_ch (by omega)]
   rw[hs]
   refine⟨by omega,fun j hj=>?_,?_⟩
   ·by_cases e:j=(rD (n / 10)).size
    ·rw[e,hl]
     unfold dgB
     simp
     omega
    ·rw[ch_app_l _ _ _ (by omega)]
     exact h2 j (by omega)
   ·rw[nV,nV_app _ _ _ _ (Nat.le_refl _),h3,hl,wt_dg hm]
    simp
    omega
theorem rwN_full (s:ByteArray) (hex:Bool):∀ (m i:Nat),i<=s.size->s.size-i<=m->(∀ j,i<=j->j<s.size->rok hex (ch s j)=true)->rwN s hex i m=s.size
 | 0,i,h,h2,_=>by rw[rwN];omega
 | m+1,i,h,h2,h3=>by
  rw[rwN]
  by_cases hi:i<s.size
  ·rw[if_pos ⟨hi,h3 i (Nat.le_refl _) hi⟩]
   exact rwN_full s hex m (i+1) (by omega) (by omega) fun j hj hj2=>h3 j (by omega) hj2
  ·rw[if_neg (fun h=>hi h.1)]
   omega
theorem rD_size {n:Nat} (h:n<18446744073709551616):(rD n).size<=20:=by
 have h2:=rnd20 h
 have h1:=Lib.decDigits_length n
 have:(rD n).size=(Lib.decDigits n).length:=by
  have:(rD n).data.toList.length=(rD n).size:=Array.length_toList
  rw[<- this]
  rfl
 omega
theorem intA_rD {n:Nat} {most:Int} (hn:n<18446744073709551616) (h:(n:Int)<=most):intA (rD n) most=((n:Int),0,0):=by
 obtain⟨h1,h2,h3⟩:=rD_all n
 have h4:=rD_size hn
 have hr:rwN (rD n) false 0 1099511627776=(rD n).size:=rwN_full _ _ _ _ (Nat.zero_le _) (by omega) fun j _ hj=>by unfold rok;rw[h2 j hj];rfl
 unfold intA
 dsimp only
 rw[hr,h3,if_neg (by omega),if_neg (by omega)]
theorem rD_inj {a b:Nat} (h:rD a=rD b):a=b:=by
 have h1:=(rD_all a).2.2
 rw[h,(rD_all b).2.2] at h1
 exact h1.symm
end Go.Proofs.YtekpgklllfobfaaGreatDoor
