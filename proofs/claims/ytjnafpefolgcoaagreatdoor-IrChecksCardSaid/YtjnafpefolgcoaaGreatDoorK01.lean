import Derived.Test.YtjnafpefolgcoaaGreatDoorProg
import Derived.WalkSpells
import Derived.WalkLawsBesides
import Derived.ProofKit
import Derived.OpenShut
import Derived.Deep.RegionWith
import Derived.BigQuiet
namespace Go.Proofs.YtjnafpefolgcoaaGreatDoor
def kRow (p:Int):Int×Int×Int×Int×Int :=
 if p=0 then (1,0,0,32,126) else
 if p=1 then (1,1,18446744073709551488,18446744073709551489,127) else
 if p=2 then (2,1,18446744073709518848,18446744073709518849,32767) else
 if p=3 then (4,1,18446744071562067968,18446744071562067969,2147483647) else
 if p=4 then (8,1,9223372036854775808,9223372036854775809,9223372036854775807) else
 if p=5 then (1,0,255,0,254) else
 if p=6 then (2,0,65535,0,65534) else
 if p=7 then (4,0,4294967295,0,4294967294) else
 if p=8 then (8,0,18446744073709551615,0,18446744073709551614) else
 if p=9 then (4,2,2143289344,0,4294967295) else
 if p=10 then (8,2,9221120237041090560,0,18446744073709551615) else
 (0,0,0,0,0)
def sz (p:Int):Int:=(kRow p).1
def rd (p:Int):Int:=(kRow p).2.1
def nl (p:Int):Int:=(kRow p).2.2.1
def mn (p:Int):Int:=(kRow p).2.2.2.1
def mx (p:Int):Int:=(kRow p).2.2.2.2
theorem prim_cases (p:Int):(p<0\/11<=p)\/p=0\/p=1\/p=2\/p=3\/p=4\/p=5\/p=6\/p=7\/p=8\/p=9\/p=10:=by omega
theorem kRow_out (p:Int) (h:p<0\/11<=p):kRow p=(0,0,0,0,0):=by
 unfold kRow
 rw[if_neg (by omega),if_neg (by omega),if_neg (by omega),if_neg (by omega),if_neg (by omega),if_neg (by omega),if_neg (by omega),if_neg (by omega),if_neg (by omega),if_neg (by omega),if_neg (by omega)]
def KOk (s r:Int):Prop:=(s=0/\r=0)\/(s=1/\r=0)\/(s=1/\r=1)\/(s=2/\r=0)\/(s=2/\r=1)\/(s=4/\r=0)\/(s=4/\r=1)\/(s=4/\r=2)\/(s=8/\r=0)\/(s=8/\r=1)\/(s=8/\r=2)
theorem kok (p:Int):KOk (sz p) (rd p):=by
 unfold KOk
 rcases prim_cases p with h|rfl|rfl|rfl|rfl|rfl|rfl|rfl|rfl|rfl|rfl|rfl
 ·left;unfold sz rd;rw[kRow_out p h];exact⟨rfl,rfl⟩
 all_goals decide
def pw (s:Int):Int:=if s=1 then 256 else if s=2 then 65536 else if s=4 then 4294967296 else 18446744073709551616
def wordF (s r b:Int):Int:=if r=1/\pw s<=2*(b % pw s) then b % pw s+18446744073709551616-pw s else b % pw s
def fitsF (s r b:Int):Bool:=decide (0<s)&&(wordF s r b==b)
theorem fits_iff (s r b:Int) (hk:KOk s r) (h0:0<=b) (h1:b<18446744073709551616) :
  fitsF s r b=true↔s≠0/\((r≠1/\b<pw s)\/(r=1/\(2*b<pw s\/18446744073709551616<=b+pw s / 2))):=by
 unfold fitsF wordF
 rcases hk with ⟨rfl,rfl⟩|⟨rfl,rfl⟩|⟨rfl,rfl⟩|⟨rfl,rfl⟩|⟨rfl,rfl⟩|⟨rfl,rfl⟩|⟨rfl,rfl⟩|⟨rfl,rfl⟩|⟨rfl,rfl⟩|⟨rfl,rfl⟩|⟨rfl,rfl⟩
 all_goals simp[pw]
 all_goals first|omega|(split<;>omega)
def ch (s:ByteArray) (i:Nat):Nat:=(s.data.toList.getD i 0).toNat
theorem tl_len (t:ByteArray):t.data.toList.length=t.size:=Array.length_toList
theorem ch_get (s:ByteArray) (i:Nat) (h:i<s.size):(s[i]'h).toNat=ch s i:=by
 have h2:i<s.data.toList.length:=by rw[tl_len];exact h
 simp only[ch,List.getD,List.getElem?_eq_getElem h2,Option.getD_some]
 congr 1
theorem ba_ext {a b:ByteArray} (h:a.data.toList=b.data.toList):a=b:=by
 cases a;cases b;congr 1;exact Array.toList_inj.1 h
open Go.ChangeShapes Go.WideShapes Go.ChangeAt Go.RowKit
theorem nret {a b:Bool} (h:a=b):Ending.returned (.bool a) = .returned (.bool b):=by rw[h]
theorem nidx {w:World} (s:ByteArray) (i:Nat) (h:i<s.size) (k:IntKind):(Instr.index 9 (.string s) (.int k (i:Int))).run Tryz.prog w = .ok (.int .u8 (ch s i:Int)) w:=by
 rw[run_index_string w 9 s k i Tryz.underlying9,dif_pos ⟨by omega,by omega⟩]
 simp only[Int.toNat_natCast,ch_get]
def nlet (c:Nat):Bool:=(decide (65<=c)&&decide (c<=90))||(decide (97<=c)&&decide (c<=122))
def ndig (c:Nat):Bool:=decide (48<=c)&&decide (c<=57)
def nsym (c:Nat):Bool:=nlet c||ndig c||decide (c=95)
def symbolB (s:ByteArray):Bool:=decide (0<s.size/\s.size<=64/\ndig (ch s 0)=false/\∀ i,i<s.size->nsym (ch s i)=true)
theorem nisDigit (c:Nat) (w:World):Calls Tryz.prog 116 #[.int .u8 (c:Int)] w fun e w'=>e = .returned (.bool (ndig c))/\w'=w:=by
 unfold ndig
 by_cases h:48<=c
 ·go_enter Tryz.func116,Tryz.ntmps116
  go_wp2
  go_ret
  exact⟨nret (by simp[h];omega),rfl⟩
 ·have d:decide (48<=(c:Int))=false:=by simp;omega
  go_enter Tryz.func116,Tryz.ntmps116
  go_wp2
  go_ret
  exact⟨nret (by simp;omega),rfl⟩
theorem nisLetter (c:Nat) (w:World):Calls Tryz.prog 117 #[.int .u8 (c:Int)] w fun e w'=>e = .returned (.bool (nlet c))/\w'=w:=by
 have:(c<65)\/(65<=c/\c<=90)\/(90<c/\c<97)\/(97<=c/\c<=122)\/122<c:=by omega
 rcases this with h|h|h|h|h
 ·have d1:decide (65<=(c:Int))=false:=by simp;omega
  have d3:decide (97<=(c:Int))=false:=by simp;omega
  have g:nlet c=false:=by unfold nlet;simp;omega
  rw[g]
  go_enter Tryz.func117,Tryz.ntmps117
  go_wp2
  go_ret
  exact⟨rfl,rfl⟩
 ·have d1:decide (65<=(c:Int))=true:=by simp;omega
  have d2:decide ((c:Int)<=90)=true:=by simp;omega
  have g:nlet c=true:=by unfold nlet;simp;omega
  rw[g]
  go_enter Tryz.func117,Tryz.ntmps117
  go_wp2
  go_ret
  exact⟨rfl,rfl⟩
 ·have d1:decide (65<=(c:Int))=true:=by simp;omega
  have d2:decide ((c:Int)<=90)=false:=by simp;omega
  have d3:decide (97<=(c:Int))=false:=by simp;omega
  have g:nlet c=false:=by unfold nlet;simp;omega
  rw[g]
  go_enter Tryz.func117,Tryz.ntmps117
  go_wp2
  go_ret
  exact⟨rfl,rfl⟩
 ·have d1:decide (65<=(c:Int))=true:=by simp;omega
  have d2:decide ((c:Int)<=90)=false:=by simp;omega
  have d3:decide (97<=(c:Int))=true:=by simp;omega
  have d4:decide ((c:Int)<=122)=true:=by simp;omega
  have g:nlet c=true:=by unfold nlet;simp;omega
  rw[g]
  go_enter Tryz.func117,Tryz.ntmps117
  go_wp2
  go_ret
  exact⟨rfl,rfl⟩
 ·have d1:decide (65<=(c:Int))=true:=by simp;omega
  have d2:decide ((c:Int)<=90)=false:=by simp;omega
  have d3:decide (97<=(c:Int))=true:=by simp;omega
  have d4:decide ((c:Int)<=122)=false:=by simp;omega
  have g:nlet c=false:=by unfold nlet;simp;omega
  rw[g]
  go_enter Tryz.func117,Tryz.ntmps117
  go_wp2
  go_ret
  exact⟨rfl,rfl⟩
end Go.Proofs.YtjnafpefolgcoaaGreatDoor
