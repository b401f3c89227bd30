import Derived.Test.YtjlbcdnkglaheaaGreatDoorProg
import Derived.WalkSpells
import Derived.WalkLawsBesides
import Derived.ProofKit
import Derived.OpenShut
import Derived.Deep.RegionWith
import Derived.BigQuiet
namespace Go.Proofs.YtjlbcdnkglaheaaGreatDoor
def kRow (p:Int):Int×Int×Int×Int×Int :=
 if p=0 then (1,0,0,32,126) else
 if p=1 then (1,1,18446744073709551488,18446744073709551489,127) else
 if p=2 then (2,1,18446744073709518848,18446744073709518849,32767) else
 if p=3 then (4,1,18446744071562067968,18446744071562067969,2147483647) else
 if p=4 then (8,1,9223372036854775808,9223372036854775809,9223372036854775807) else
 if p=5 then (1,0,255,0,254) else
 if p=6 then (2,0,65535,0,65534) else
 if p=7 then (4,0,4294967295,0,4294967294) else
 if p=8 then (8,0,18446744073709551615,0,18446744073709551614) else
 if p=9 then (4,2,2143289344,0,4294967295) else
 if p=10 then (8,2,9221120237041090560,0,18446744073709551615) else
 (0,0,0,0,0)
def sz (p:Int):Int:=(kRow p).1
def rd (p:Int):Int:=(kRow p).2.1
def nl (p:Int):Int:=(kRow p).2.2.1
def mn (p:Int):Int:=(kRow p).2.2.2.1
def mx (p:Int):Int:=(kRow p).2.2.2.2
theorem prim_cases (p:Int):(p<0\/11<=p)\/p=0\/p=1\/p=2\/p=3\/p=4\/p=5\/p=6\/p=7\/p=8\/p=9\/p=10:=by omega
theorem kRow_out (p:Int) (h:p<0\/11<=p):kRow p=(0,0,0,0,0):=by
 unfold kRow
 rw[if_neg (by omega),if_neg (by omega),if_neg (by omega),if_neg (by omega),if_neg (by omega),if_neg (by omega),if_neg (by omega),if_neg (by omega),if_neg (by omega),if_neg (by omega),if_neg (by omega)]
def KOk (s r:Int):Prop:=(s=0/\r=0)\/(s=1/\r=0)\/(s=1/\r=1)\/(s=2/\r=0)\/(s=2/\r=1)\/(s=4/\r=0)\/(s=4/\r=1)\/(s=4/\r=2)\/(s=8/\r=0)\/(s=8/\r=1)\/(s=8/\r=2)
theorem kok (p:Int):KOk (sz p) (rd p):=by
 unfold KOk
 rcases prim_cases p with h|rfl|rfl|rfl|rfl|rfl|rfl|rfl|rfl|rfl|rfl|rfl
 ·left;unfold sz rd;rw[kRow_out p h];exact⟨rfl,rfl⟩
 all_goals decide
def pw (s:Int):Int:=if s=1 then 256 else if s=2 then 65536 else if s=4 then 4294967296 else 18446744073709551616
def wordF (s r b:Int):Int:=if r=1/\pw s<=2*(b % pw s) then b % pw s+18446744073709551616-pw s else b % pw s
def fitsF (s r b:Int):Bool:=decide (0<s)&&(wordF s r b==b)
def ch (s:ByteArray) (i:Nat):Nat:=(s.data.toList.getD i 0).toNat
theorem tl_len (t:ByteArray):t.data.toList.length=t.size:=Array.length_toList
theorem ch_get (s:ByteArray) (i:Nat) (h:i<s.size):(s[i]'h).toNat=ch s i:=by
 have h2:i<s.data.toList.length:=by rw[tl_len];exact h
 simp only[ch,List.getD,List.getElem?_eq_getElem h2,Option.getD_some]
 congr 1
open Go.ChangeShapes Go.WideShapes Go.ChangeAt Go.RowKit
theorem nret {a b:Bool} (h:a=b):Ending.returned (.bool a) = .returned (.bool b):=by rw[h]
theorem nidx {w:World} (s:ByteArray) (i:Nat) (h:i<s.size) (k:IntKind):(Instr.index 9 (.string s) (.int k (i:Int))).run Tryz.prog w = .ok (.int .u8 (ch s i:Int)) w:=by
 rw[run_index_string w 9 s k i Tryz.underlying9,dif_pos ⟨by omega,by omega⟩]
 simp only[Int.toNat_natCast,ch_get]
def nlet (c:Nat):Bool:=(decide (65<=c)&&decide (c<=90))||(decide (97<=c)&&decide (c<=122))
def ndig (c:Nat):Bool:=decide (48<=c)&&decide (c<=57)
def nsym (c:Nat):Bool:=nlet c||ndig c||decide (c=95)
def symbolB (s:ByteArray):Bool:=decide (0<s.size/\s.size<=64/\ndig (ch s 0)=false/\∀ i,i<s.size->nsym (ch s i)=true)
theorem nisDigit (c:Nat) (w:World):Calls Tryz.prog 122 #[.int .u8 (c:Int)] w fun e w'=>e = .returned (.bool (ndig c))/\w'=w:=by
 unfold ndig
 by_cases h:48<=c
 ·go_enter Tryz.func122,Tryz.ntmps122
  go_wp2
  go_ret
  exact⟨nret (by simp[h];omega),rfl⟩
 ·have d:decide (48<=(c:Int))=false:=by simp;omega
  go_enter Tryz.func122,Tryz.ntmps122
  go_wp2
  go_ret
  exact⟨nret (by simp;omega),rfl⟩
theorem nisLetter (c:Nat) (w:World):Calls Tryz.prog 123 #[.int .u8 (c:Int)] w fun e w'=>e = .returned (.bool (nlet c))/\w'=w:=by
 have:(c<65)\/(65<=c/\c<=90)\/(90<c/\c<97)\/(97<=c/\c<=122)\/122<c:=by omega
 rcases this with h|h|h|h|h
 ·have d1:decide (65<=(c:Int))=false:=by simp;omega
  have d3:decide (97<=(c:Int))=false:=by simp;omega
  have g:nlet c=false:=by unfold nlet;simp;omega
  rw[g]
  go_enter Tryz.func123,Tryz.ntmps123
  go_wp2
  go_ret
  exact⟨rfl,rfl⟩
 ·have d1:decide (65<=(c:Int))=true:=by simp;omega
  have d2:decide ((c:Int)<=90)=true:=by simp;omega
  have g:nlet c=true:=by unfold nlet;simp;omega
  rw[g]
  go_enter Tryz.func123,Tryz.ntmps123
  go_wp2
  go_ret
  exact⟨rfl,rfl⟩
 ·have d1:decide (65<=(c:Int))=true:=by simp;omega
  have d2:decide ((c:Int)<=90)=false:=by simp;omega
  have d3:decide (97<=(c:Int))=false:=by simp;omega
  have g:nlet c=false:=by unfold nlet;simp;omega
  rw[g]
  go_enter Tryz.func123,Tryz.ntmps123
  go_wp2
  go_ret
  exact⟨rfl,rfl⟩
 ·have d1:decide (65<=(c:Int))=true:=by simp;omega
  have d2:decide ((c:Int)<=90)=false:=by simp;omega
  have d3:decide (97<=(c:Int))=true:=by simp;omega
  have d4:decide ((c:Int)<=122)=true:=by simp;omega
  have g:nlet c=true:=by unfold nlet;simp;omega
  rw[g]
  go_enter Tryz.func123,Tryz.ntmps123
  go_wp2
  go_ret
  exact⟨rfl,rfl⟩
 ·have d1:decide (65<=(c:Int))=true:=by simp;omega
  have d2:decide ((c:Int)<=90)=false:=by simp;omega
  have d3:decide (97<=(c:Int))=true:=by simp;omega
  have d4:decide ((c:Int)<=122)=false:=by simp;omega
  have g:nlet c=false:=by unfold nlet;simp;omega
  rw[g]
  go_enter Tryz.func123,Tryz.ntmps123
  go_wp2
  go_ret
  exact⟨rfl,rfl⟩
structure Sp where
 p:Int
 o:Int
structure Tk where
 op:Int
 name:ByteArray
 id:Int
 off:Int
 siz:Int
 since:Int
 prim:Int
 len:Int
 pres:Int
 nul:Int
 lo:Int
 hi:Int
 cst:List Int
 val:Int
 blk:Int
 full:Int
 a:Sp
 b:Sp
 pair:Int
structure Fm where
 ord:Int
 sch:Int
 ver:Int
 hsz:Int
 hb:Sp
 ht:Sp
 hs:Sp
 hv:Sp
 toks:List Tk
def fitsP (p w:Int):Bool:=fitsF (sz p) (rd p) w
def numB (p:Int):Bool:=decide (p=5\/p=6\/p=7)
def lieB (s:Sp) (n:Int):Bool:=numB s.p&&decide (0<=s.o/\s.o<=n-sz s.p)
def aptB (a b:Sp):Bool:=decide (a.o+sz a.p<=b.o\/b.o+sz b.p<=a.o)
def telB (s:Sp) (n:Int):Bool:=decide (0<=n/\n<=mx s.p)
def bet (n lo hi:Int):Bool:=decide (lo<=n/\n<=hi)
def headB (f:Fm):Bool :=
 decide (f.ord=0\/f.ord=1)&&bet f.sch 0 65535&&bet f.ver 0 65534&&bet f.hsz 1 65535 &&
 (lieB f.hb f.hsz&&(lieB f.ht f.hsz&&aptB f.ht f.hb)&&(lieB f.hs f.hsz&&aptB f.hs f.hb&&aptB f.hs f.ht)&&(lieB f.hv f.hsz&&aptB f.hv f.hb&&aptB f.hv f.ht&&aptB f.hv f.hs)) &&
 telB f.hs f.sch&&telB f.hv f.ver
def nzs (t:Tk):List Bool:=[decide (t.id≠0),decide (t.off≠0),decide (t.siz≠0),decide (t.since≠0),decide (t.prim≠0),decide (t.len≠0),decide (t.pres≠0),decide (t.nul≠0),decide (t.lo≠0),decide (t.hi≠0),decide (t.cst.length≠0),decide (t.val≠0),decide (t.blk≠0),decide (t.full≠0),decide (¬ (t.a.p=0/\t.a.o=0)),decide (¬ (t.b.p=0/\t.b.o=0))]
def mays (op:Int):List Bool :=
 if op=0 then [true,false,false,true,false,false,false,false,false,false,false,false,true,true,false,false] else
 if op=2 then [true,true,true,true,false,false,true,false,false,false,true,false,false,false,false,false] else
 if op=4 then [true,false,true,true,false,false,false,false,false,false,false,false,true,true,true,true] else
 if op=6 then [true,false,true,true,true,false,false,false,false,false,false,false,false,false,true,false] else
 if op=8 then [false,true,true,false,false,false,false,false,false,false,false,false,false,false,false,false] else
 if op=10\/op=12 then [false,true,true,false,false,false,true,false,false,false,false,false,false,false,false,false] else
 if op=14 then [false,true,true,false,true,true,true,true,true,true,true,false,false,false,false,false] else
 if op=15 then [false,false,false,true,false,false,false,false,false,false,false,true,false,false,false,false] else
 [false,false,false,false,false,false,false,false,false,false,false,false,false,false,false,false]
def subB:List Bool->List Bool->Bool
 | a::r,b::s=>(!a||b)&&subB r s
 | _,_=>true
def plainB (t:Tk):Bool:=subB (nzs t) (mays t.op)
def bgO (op:Int):Bool:=decide (op=0\/op=2\/op=4\/op=6\/op=8\/op=10\/op=12)
def edO (op:Int):Bool:=decide (op=1\/op=3\/op=5\/op=7\/op=9\/op=11\/op=13)
def ptO (op:Int):Bool:=decide (op=2\/op=4\/op=6)
def tyO (op:Int):Bool:=decide (op=8\/op=10\/op=12\/op=14)
structure Sc where
 at_:Nat
 tk:Tk
 kids:List Nat
 fld:Int
 row:Int
 e0:Int
structure St where
 open_:List Sc
 ids:List Int
def lastOp (l:List Tk) (x:Sc):Int:=match x.kids.getLast? with
 | some k=>match l[k]? with
  | some t=>t.op
  | none=>0
 | none=>0
def mayB (l:List Tk) (x:Sc) (op:Int):Bool :=
 if x.tk.op=0\/x.tk.op=4 then decide (op=x.tk.op+1)||(ptO op&&decide (lastOp l x<=op))
 else if x.tk.op=2 then (decide (x.kids.length=0)&&tyO op)||(decide (x.kids.length=1)&&decide (op=x.tk.op+1))
 else if x.tk.op=10\/x.tk.op=12 then (decide (x.kids.length=0)&&decide (op=14))||(decide (x.kids.length≠0)&&(decide (op=15)||decide (op=x.tk.op+1)))
 else if x.tk.op=8 then tyO op||decide (op=x.tk.op+1)
 else decide (op=x.tk.op+1)
def pairB (l:List Tk) (i:Nat) (t:Tk):Bool:=decide ((i:Int)<t.pair/\t.pair<l.length)&&match l[t.pair.toNat]? with
 | some u=>decide (u.op=t.op+1)&&decide (u.name=t.name)&&decide (u.pair=i)
 | none=>false
def nameIn (l:List Tk) (ks:List Nat) (s:ByteArray):Bool:=ks.any fun k=>match l[k]? with
 | some t=>decide (t.name=s)
 | none=>false
def valIn (l:List Tk) (ks:List Nat) (v:Int):Bool:=ks.any fun k=>match l[k]? with
 | some t=>decide (t.val=v)
 | none=>false
def depB (op:Int) (o:List Sc):Nat:=(o.filter fun s=>decide (s.tk.op=op)).length
def newB (l:List Tk) (ids:List Int) (x:Sc) (t:Tk):Bool:=bet t.id 0 65535 && !(ids.contains t.id) && !(nameIn l x.kids t.name)
def blkB (t:Tk):Bool:=bet t.blk 0 t.full&&decide (t.full<=65535)
def inB (l:List Tk) (i:Nat) (x:Sc) (t:Tk):Bool:=decide (t.cst.length=0)&&(match l[i+1]? with
 | some u=>decide (t.siz=u.siz)
 | none=>false)&&(if t.siz=0 then decide (t.off=0) else decide (0<t.siz/\x.e0<=t.off/\t.off+t.siz<=x.tk.blk))
def fldB (f:Fm) (ids:List Int) (i:Nat) (x:Sc) (t:Tk):Bool:=newB f.toks ids x t&&bet t.since x.fld f.ver &&
 (if t.pres=0 then decide (t.since=x.tk.since)&&inB f.toks i x t else if t.pres=1 then inB f.toks i x t else if t.pres=2 then decide (t.off=0/\t.siz=0/\t.cst.length≠0) else false)
def rowB (f:Fm) (x:Sc) (t:Tk):Bool:=if x.tk.op=4 then decide (t.since=x.tk.since) else bet t.since x.row f.ver
def grpB (f:Fm) (o:List Sc) (ids:List Int) (x:Sc) (t:Tk):Bool:=decide (depB 4 o<8)&&newB f.toks ids x t&&rowB f x t&&blkB t&&bet t.siz 1 65535&&(lieB t.a t.siz&&(lieB t.b t.siz&&aptB t.b t.a))&&telB t.a t.full
def datB (f:Fm) (ids:List Int) (x:Sc) (t:Tk):Bool:=newB f.toks ids x t&&rowB f x t&&decide (t.a.o=0)&&numB t.a.p&&decide (t.siz=sz t.a.p)&&decide (t.prim=0\/t.prim=5)
def codB (x:Sc) (t:Tk):Bool:=decide (t.off=x.tk.off/\t.siz=x.tk.siz/\t.pres=x.tk.pres/\t.len=1)
def memB (x:Sc) (t:Tk):Bool:=decide (x.tk.off<=t.off/\t.off+t.siz<=x.tk.off+x.tk.siz/\(t.siz=0\/x.e0<=t.off))
def plcB (x:Sc) (t:Tk):Bool:=bet t.siz 0 65535&&bet t.pres 0 2 &&
 (if x.tk.op=2 then decide (t.off=0) else if x.tk.op=10 then codB x t&&decide (t.prim≠9/\t.prim≠10) else if x.tk.op=12 then codB x t&&bet t.prim 5 8 else memB x t)
def cmpB (o:List Sc) (x:Sc) (t:Tk):Bool:=decide (depB 8 o<16)&&plcB x t
def encB (x:Sc) (t:Tk):Bool:=plcB x t&&bet t.len 1 65535&&(fitsP t.prim t.nul&&fitsP t.prim t.lo&&fitsP t.prim t.hi) &&
 (if t.pres=2 then decide (t.siz=0)&&decide ((t.cst.length:Int)=t.len)&&t.cst.all (fitsP t.prim) else decide (t.siz=t.len*sz t.prim)&&decide (t.cst.length=0))
def codP (l:List Tk) (x:Sc):Int:=if (x.tk.op=10\/x.tk.op=12)/\x.kids.length≠0 then (match l[x.at_+1]? with
 | some t=>t.prim
 | none=>0) else 0
def choB (l:List Tk) (x:Sc) (t:Tk):Bool:=bet t.since 0 65534 && !(nameIn l x.kids.tail t.name) && !(valIn l x.kids.tail t.val) &&
 (if x.tk.op=12 then decide (t.val<8*sz (codP l x)) else fitsP (codP l x) t.val)
def rulB (f:Fm) (o:List Sc) (ids:List Int) (i:Nat) (x:Sc) (t:Tk):Bool :=
 if t.op=2 then fldB f ids i x t else if t.op=4 then grpB f o ids x t else if t.op=6 then datB f ids x t else if t.op=8 then cmpB o x t
 else if t.op=10\/t.op=12 then plcB x t else if t.op=14 then encB x t else choB f.toks x t
def msgB (f:Fm) (t:Tk):Bool:=bet t.id 0 65535&&bet t.since 0 f.ver&&blkB t&&telB f.hb t.full&&telB f.ht t.id
def inOk (f:Fm) (o:List Sc) (ids:List Int) (i:Nat) (x:Sc) (t:Tk):Bool:=mayB f.toks x t.op&&plainB t&&symbolB t.name &&
 (if edO t.op then decide (t.pair=x.at_)&&decide (x.tk.pair=i) else (if bgO t.op then pairB f.toks i t else decide (t.pair=i))&&rulB f o ids i x t)
def okZ (f:Fm) (s:St) (i:Nat) (t:Tk):Bool:=match s.open_ with
 | []=>decide (i=0)&&decide (t.op=0)&&plainB t&&symbolB t.name&&pairB f.toks i t&&msgB f t
 | x::_=>inOk f s.open_ s.ids i x t
def scNew (i:Nat) (t:Tk):Sc:=⟨i,t,[],t.since,t.since,0⟩
def metX (x:Sc) (i:Nat) (t:Tk):Sc :=
 ⟨x.at_,x.tk,x.kids++[i],if t.op=2 then t.since else x.fld,if (t.op=4\/t.op=6)/\x.tk.op≠4 then t.since else x.row,
  if 0<t.siz/\((t.op=2/\t.pres≠2)\/x.tk.op=8) then t.off+t.siz else x.e0⟩
def metL (o:List Sc) (i:Nat) (t:Tk):List Sc:=match o with
 | x::r=>metX x i t::r
 | []=>[]
def nxt (s:St) (i:Nat) (t:Tk):St :=
 if edO t.op then ⟨s.open_.tail,s.ids⟩
 else ⟨if bgO t.op then scNew i t::metL s.open_ i t else metL s.open_ i t,if ptO t.op then s.ids++[t.id] else s.ids⟩
def runZ (f:Fm):List Tk->Nat->St->Option Int
 | [],i,s=>if i=0\/s.open_≠[] then some (i:Int) else none
 | t::r,i,s=>if okZ f s i t then runZ f r (i+1) (nxt s i t) else some (i:Int)
def chkZ (f:Fm):Option Int:=if headB f then runZ f f.toks 0 ⟨[],[]⟩ else some (-1)
theorem decT {p:Prop} [Decidable p] (h:decide p=true):p:=of_decide_eq_true h
theorem betT {n a b:Int} (h:bet n a b=true):a<=n/\n<=b:=decT h
def Chn (l:List Tk):Nat->List Nat->Nat->Prop
 | p,[],q=>p=q
 | p,k::r,q=>p=k/\∃ t n,l[k]?=some t/\t.pair=((n:Nat):Int)/\Chn l (n+1) r q
theorem Chn.snoc {l:List Tk}:∀ {p:Nat} {ks:List Nat} {k n:Nat} {t:Tk},Chn l p ks k->l[k]?=some t->t.pair=(n:Int)->Chn l p (ks++[k]) (n+1)
 | _,[],_,_,_,h,ht,hn=>⟨h,_,_,ht,hn,rfl⟩
 | _,_::_,_,_,_,⟨e,u,m,hu,hm,h⟩,ht,hn=>⟨e,u,m,hu,hm,h.snoc ht hn⟩
structure ScOk (l:List Tk) (i:Nat) (s:Sc):Prop where
 tk:l[s.at_]?=some s.tk
 lt:s.at_<i
 beg:bgO s.tk.op=true
 pln:plainB s.tk=true
 sym:symbolB s.tk.name=true
 pr:pairB l s.at_ s.tk=true
 le:(i:Int)<=s.tk.pair
 fld:s.tk.since<=s.fld
 row:s.tk.since<=s.row
 e0:0<=s.e0/\s.e0<=131070
 off:0<=s.tk.off/\0<=s.tk.siz/\s.tk.siz<=65535/\s.tk.off<=65535
 cmp:s.tk.op=8->s.tk.off+s.tk.siz<=65535
 blk:0<=s.tk.blk/\s.tk.blk<=65535
 kid:∀ k∈s.kids,s.at_<k/\k<i
 par:s.tk.op=0\/s.tk.op=4->∀ k∈s.kids,∃ t,l[k]?=some t/\ptO t.op=true
 one:s.tk.op=2->s.kids.length<=1
 dat:s.tk.op=6->s.kids=[]
def Out (l:List Tk) (b:Nat):List Sc->Prop
 | []=>True
 | a::o=>(∃ ks,a.kids=ks++[b]/\Chn l (a.at_+1) ks b)/\(a.tk.op=0\/a.tk.op=2\/a.tk.op=4\/a.tk.op=8)/\Out l a.at_ o
def Nest (l:List Tk) (i:Nat):List Sc->Prop
 | []=>True
 | x::o=>Chn l (x.at_+1) x.kids i/\((x.tk.op=10\/x.tk.op=12)->x.kids=List.range' (x.at_+1) (i-(x.at_+1))/\(x.kids≠[]->∃ t,l[x.at_+1]?=some t/\t.op=14))/\Out l x.at_ o
structure Inv (f:Fm) (i:Nat) (s:St):Prop where
 all:∀ x∈s.open_,ScOk f.toks i x
 nest:Nest f.toks i s.open_
 zero:i=0->s.open_=[]
 ids:s.ids.length<=i
theorem ScOk.up {l:List Tk} {i:Nat} {s:Sc} (h:ScOk l i s) (hp:s.tk.pair≠i):ScOk l (i+1) s :=
 { h with lt:=Nat.lt_succ_of_lt h.lt,le:=by have:=h.le;omega,kid:=fun k hk=>by have:=h.kid k hk;omega }
theorem pl_msg {t:Tk} (h:plainB t=true) (ho:t.op=0\/t.op=4\/t.op=6):t.off=0:=by
 unfold plainB nzs mays at h
 rcases ho with e|e|e<;>· rw[e] at h;simp[subB] at h;omega
theorem pl_blk {t:Tk} (h:plainB t=true) (ho:¬ (t.op=0\/t.op=4)):t.blk=0:=by
 unfold plainB nzs mays at h
 by_cases e2:t.op=2
 ·rw[e2] at h;simp[subB] at h;omega
 by_cases e6:t.op=6
 ·rw[e6] at h;simp[subB] at h;omega
 by_cases e8:t.op=8
 ·rw[e8] at h;simp[subB] at h;omega
 by_cases e10:t.op=10\/t.op=12
 ·rw[if_neg (by omega),if_neg (by omega),if_neg (by omega),if_neg (by omega),if_neg (by omega),if_pos e10] at h;simp[subB] at h;omega
 by_cases e14:t.op=14
 ·rw[e14] at h;simp[subB] at h;omega
 by_cases e15:t.op=15
 ·rw[e15] at h;simp[subB] at h;omega
 rw[if_neg (by omega),if_neg (by omega),if_neg (by omega),if_neg (by omega),if_neg (by omega),if_neg (by omega),if_neg (by omega),if_neg (by omega)] at h
 simp[subB] at h
 omega
theorem out_lt {l:List Tk} {i:Nat}:∀ {b:Nat} {o:List Sc},Out l b o->(∀ a∈o,ScOk l i a)->∀ a∈o,a.at_<b
 | _,[],_,_,_,h=>by cases h
 | b,a::o,⟨⟨ks,hk,_⟩,_,h⟩,hs,c,hc=>by
  have h1:a.at_<b:=((hs a (List.mem_cons_self ..)).kid b (by rw[hk];simp)).1
  rcases List.mem_cons.1 hc with rfl|hc
  ·exact h1
  ·have:=out_lt h (fun x hx=>hs x (List.mem_cons_of_mem _ hx)) c hc
   omega
theorem pairB_get {l:List Tk} {i:Nat} {t:Tk} (h:pairB l i t=true):∃ (n:Nat) (u:Tk),t.pair=n/\i<n/\n<l.length/\l[n]?=some u/\u.op=t.op+1/\u.name=t.name/\u.pair=i:=by
 unfold pairB at h
 rw[Bool.and_eq_true] at h
 obtain⟨h1,h2⟩:=h
 have h1:=decT h1
 obtain⟨n,hn⟩:∃ n:Nat,t.pair=n:=⟨t.pair.toNat,by omega⟩
 rw[hn] at h1 h2
 rw[Int.toNat_natCast] at h2
 obtain⟨u,hu⟩:∃ u,l[n]?=some u:=⟨l[n]'(by omega),List.getElem?_eq_getElem (by omega)⟩
 rw[hu] at h2
 simp only[Bool.and_eq_true,decide_eq_true_eq] at h2
 exact⟨n,u,hn,by omega,by omega,hu,h2.1.1,h2.1.2,h2.2⟩
theorem edO_succ {op:Int} (h:bgO op=true):edO (op+1)=true:=by
 unfold bgO at h
 unfold edO
 simp only[decide_eq_true_eq] at h ⊢
 omega
theorem ScOk.stay {l:List Tk} {i:Nat} {s:Sc} {t:Tk} (h:ScOk l i s) (ht:l[i]?=some t) (he:edO t.op=false):ScOk l (i+1) s:=h.up fun e=>by
 obtain⟨n,u,hn,_,_,hu,ho,_,_⟩:=pairB_get h.pr
 have:n=i:=by omega
 subst this
 rw[ht] at hu
 cases hu
 rw[ho,edO_succ h.beg] at he
 cases he
theorem numB_sz {p:Int} (h:numB p=true):1<=sz p/\sz p<=4:=by
 unfold numB at h
 rcases decT h with rfl|rfl|rfl<;>decide
theorem may_typ {l:List Tk} {x:Sc} {op:Int} (h:mayB l x op=true) (he:edO op=false) (hb:bgO x.tk.op=true) :
  ((x.tk.op=0\/x.tk.op=4)/\ptO op=true/\lastOp l x<=op)\/(x.tk.op=2/\x.kids=[]/\tyO op=true)\/(x.tk.op=8/\tyO op=true)\/((x.tk.op=10\/x.tk.op=12)/\((x.kids=[]/\op=14)\/(x.kids≠[]/\op=15))):=by
 have hne:decide (op=x.tk.op+1)=false:=by
  cases hd:decide (op=x.tk.op+1) with
  | false=>rfl
  | true=>rw[decT hd,edO_succ hb] at he;cases he
 unfold mayB at h
 rw[hne] at h
 unfold bgO at hb
 have hb:=decT hb
 by_cases h0:x.tk.op=0\/x.tk.op=4
 ·rw[if_pos h0] at h
  simp only[Bool.false_or,Bool.and_eq_true,decide_eq_true_eq] at h
  exact .inl ⟨h0,h.1,h.2⟩
 rw[if_neg h0] at h
 by_cases h2:x.tk.op=2
 ·rw[if_pos h2] at h
  simp only[Bool.and_false,Bool.or_false,Bool.and_eq_true,decide_eq_true_eq] at h
  exact .inr (.inl ⟨h2,List.length_eq_zero_iff.1 h.1,h.2⟩)
 rw[if_neg h2] at h
 by_cases h10:x.tk.op=10\/x.tk.op=12
 ·rw[if_pos h10] at h
  simp only[Bool.or_false,Bool.or_eq_true,Bool.and_eq_true,decide_eq_true_eq] at h
  refine .inr (.inr (.inr ⟨h10,?_⟩))
  rcases h with ⟨h1,h2⟩|⟨h1,h2⟩
  ·exact .inl ⟨List.length_eq_zero_iff.1 h1,h2⟩
  ·exact .inr ⟨fun e=>h1 (by rw[e];rfl),h2⟩
 rw[if_neg h10] at h
 by_cases h8:x.tk.op=8
 ·rw[if_pos h8] at h
  simp only[Bool.or_false] at h
  exact .inr (.inr (.inl ⟨h8,h⟩))
 ·rw[if_neg h8] at h
  cases h
theorem rul_typ {f:Fm} {o:List Sc} {ids:List Int} {i:Nat} {x:Sc} {t:Tk} (h:rulB f o ids i x t=true) (ht:tyO t.op=true):plcB x t=true:=by
 unfold tyO at ht
 unfold rulB at h
 rcases decT ht with e|e|e|e
 ·rw[if_neg (by omega),if_neg (by omega),if_neg (by omega),if_pos e] at h
  unfold cmpB at h
  simp only[Bool.and_eq_true] at h
  exact h.2
 ·rw[if_neg (by omega),if_neg (by omega),if_neg (by omega),if_neg (by omega),if_pos (.inl e)] at h;exact h
 ·rw[if_neg (by omega),if_neg (by omega),if_neg (by omega),if_neg (by omega),if_pos (.inr e)] at h;exact h
 ·rw[if_neg (by omega),if_neg (by omega),if_neg (by omega),if_neg (by omega),if_neg (by omega),if_pos e] at h
  unfold encB at h
  simp only[Bool.and_eq_true] at h
  exact h.1.1.1
theorem plc_b {x:Sc} {t:Tk} (h:plcB x t=true) (hx:x.tk.op=2\/x.tk.op=8) (ho:0<=x.tk.off) (hc:x.tk.op=8->x.tk.off+x.tk.siz<=65535):0<=t.siz/\t.siz<=65535/\0<=t.off/\t.off+t.siz<=65535/\(x.tk.op=8->memB x t=true):=by
 unfold plcB at h
 simp only[Bool.and_eq_true] at h
 have h1:=betT h.1.1
 rcases hx with e|e
 ·have h2:=h.2
  rw[if_pos e] at h2
  have h2:=decT h2
  exact⟨h1.1,h1.2,by omega,by omega,fun h=>by omega⟩
 ·have h2:=h.2
  rw[if_neg (by omega),if_neg (by omega),if_neg (by omega)] at h2
  have h3:=h2
  unfold memB at h3
  have h3:=decT h3
  have:=hc e
  exact⟨h1.1,h1.2,by omega,by omega,fun _=>h2⟩
theorem fld_b {f:Fm} {ids:List Int} {i:Nat} {x:Sc} {t:Tk} (h:fldB f ids i x t=true) (he:0<=x.e0) (hb:x.tk.blk<=65535):0<=t.siz/\0<=t.off/\t.off+t.siz<=65535/\x.fld<=t.since/\t.since<=f.ver/\(t.pres≠2->inB f.toks i x t=true):=by
 unfold fldB at h
 simp only[Bool.and_eq_true] at h
 have h1:=betT h.1.2
 have key:inB f.toks i x t=true->0<=t.siz/\0<=t.off/\t.off+t.siz<=65535:=fun h=>by
  unfold inB at h
  simp only[Bool.and_eq_true] at h
  have h2:=h.2
  by_cases e:t.siz=0
  ·rw[if_pos e] at h2
   have:=decT h2
   omega
  ·rw[if_neg e] at h2
   have:=decT h2
   omega
 have h2:=h.2
 by_cases e0:t.pres=0
 ·rw[if_pos e0,Bool.and_eq_true] at h2
  have:=key h2.2
  exact⟨this.1,this.2.1,this.2.2,h1.1,h1.2,fun _=>h2.2⟩
 rw[if_neg e0] at h2
 by_cases e1:t.pres=1
 ·rw[if_pos e1] at h2
  have:=key h2
  exact⟨this.1,this.2.1,this.2.2,h1.1,h1.2,fun _=>h2⟩
 rw[if_neg e1] at h2
 by_cases e2:t.pres=2
 ·rw[if_pos e2] at h2
  have:=decT h2
  exact⟨by omega,by omega,by omega,h1.1,h1.2,fun h=>absurd e2 h⟩
 ·rw[if_neg e2] at h2
  cases h2
theorem rul_b {f:Fm} {o:List Sc} {ids:List Int} {i:Nat} {x:Sc} {t:Tk} (hx:ScOk f.toks i x) (hm:mayB f.toks x t.op=true) (he:edO t.op=false) (hp:plainB t=true) (h:rulB f o ids i x t=true) :
  (bgO t.op=true->0<=t.off/\0<=t.siz/\t.siz<=65535/\t.off<=65535/\(t.op=8->t.off+t.siz<=65535)/\0<=t.blk/\t.blk<=65535) /\
  (t.op=2->x.fld<=t.since)/\((t.op=4\/t.op=6)/\x.tk.op≠4->x.row<=t.since)/\(0<t.siz/\((t.op=2/\t.pres≠2)\/x.tk.op=8)->0<=t.off+t.siz/\t.off+t.siz<=65535):=by
 have hr:=may_typ hm he hx.beg
 have h2:t.op=2->fldB f ids i x t=true:=fun e=>by unfold rulB at h;rwa [if_pos e] at h
 have h4:t.op=4->grpB f o ids x t=true:=fun e=>by unfold rulB at h;rwa [if_neg (by omega),if_pos e] at h
 have h6:t.op=6->datB f ids x t=true:=fun e=>by unfold rulB at h;rwa [if_neg (by omega),if_neg (by omega),if_pos e] at h
 have hT:tyO t.op=true->plcB x t=true:=rul_typ h
 have ho:=hx.off
 have hc:=hx.cmp
 have hB:=hx.blk
 have hE:=hx.e0
 refine⟨fun hb=>?_,fun e=>(fld_b (h2 e) hE.1 hB.2).2.2.2.1,fun ⟨e,e'⟩=>?_,fun ⟨hs,e⟩=>?_⟩
 ·unfold bgO at hb
  have hblk:¬ (t.op=0\/t.op=4)->0<=t.blk/\t.blk<=65535:=fun hn=>by rw[pl_blk hp hn];omega
  rcases decT hb with e|e|e|e|e|e|e
  ·rcases hr with ⟨_,hr,_⟩|⟨_,_,hr⟩|⟨_,hr⟩|⟨_,⟨_,hr⟩|⟨_,hr⟩⟩
   ·unfold ptO at hr;have:=decT hr;omega
   ·unfold tyO at hr;have:=decT hr;omega
   ·unfold tyO at hr;have:=decT hr;omega
   ·omega
   ·omega
  ·have:=fld_b (h2 e) hE.1 hB.2
   have hb:=hblk (by omega)
   exact⟨by omega,by omega,by omega,by omega,by omega,hb.1,hb.2⟩
  ·have:=h4 e
   unfold grpB blkB at this
   simp only[Bool.and_eq_true] at this
   have h1:=betT this.1.1.1.2.1
   have h2:=decT this.1.1.1.2.2
   have h3:=betT this.1.1.2
   have h5:=pl_msg hp (.inr (.inl e))
   exact⟨by omega,by omega,by omega,by omega,by omega,by omega,by omega⟩
  ·have:=h6 e
   unfold datB at this
   simp only[Bool.and_eq_true] at this
   have h1:=numB_sz this.1.1.2
   have h2:=decT this.1.2
   have h5:=pl_msg hp (.inr (.inr e))
   have hb:=hblk (by omega)
   exact⟨by omega,by omega,by omega,by omega,by omega,hb.1,hb.2⟩
  all_goals
   have ht:tyO t.op=true:=by unfold tyO;rw[e];rfl
   have hx2:x.tk.op=2\/x.tk.op=8:=by
    rcases hr with ⟨_,hr,_⟩|⟨hr,_⟩|⟨hr,_⟩|⟨_,⟨_,hr⟩|⟨_,hr⟩⟩
    ·unfold ptO at hr;have:=decT hr;omega
    ·exact .inl hr
    ·exact .inr hr
    ·omega
    ·omega
   have:=plc_b (hT ht) hx2 ho.1 hc
   have hb:=hblk (by omega)
   exact⟨by omega,by omega,by omega,by omega,by omega,hb.1,hb.2⟩
 ·have key:rowB f x t=true:=by
   rcases e with e|e
   ·have:=h4 e
    unfold grpB at this
    simp only[Bool.and_eq_true] at this
    exact this.1.1.1.1.2
   ·have:=h6 e
    unfold datB at this
    simp only[Bool.and_eq_true] at this
    exact this.1.1.1.1.2
  unfold rowB at key
  rw[if_neg e'] at key
  exact(betT key).1
 ·rcases e with ⟨e,_⟩|e
  ·have:=fld_b (h2 e) hE.1 hB.2
   omega
  ·have ht:tyO t.op=true:=by
    rcases hr with ⟨hr,_⟩|⟨hr,_⟩|⟨_,hr⟩|⟨hr,_⟩
    ·omega
    ·omega
    ·exact hr
    ·omega
   have:=plc_b (hT ht) (.inr e) ho.1 hc
   omega
theorem bgO_end {op:Int} (h:bgO op=true):edO op=false:=by
 unfold bgO at h
 unfold edO
 have:=decT h
 exact decide_eq_false (by omega)
theorem scNew_ok {l : List Tk} {i : Nat} {t : Tk} (ht : l[i]? = some t) (hb : bgO t.op = true) (hp : plainB t = true) (hs : symbolB t.name = true) (hq : pairB l i t = true)
    (h : 0<=t.off/\0<=t.siz/\t.siz<=65535/\t.off<=65535/\(t.op=8->t.off+t.siz<=65535)/\0<=t.blk/\t.blk<=65535) : ScOk l (i+1) (scNew i t) := by
  obtain⟨h1, h2, h3, h4, h5, h6, h7⟩ := h
  obtain⟨n, u, hn, hlt, _⟩ := pairB_get hq
  exact { tk := ht, lt := Nat.lt_succ_self _, beg := hb, pln := hp, sym := hs, pr := hq, le := by show ((i + 1 : Nat) : Int) ≤ t.pair; omega, fld := Int.le_refl _, row := Int.le_refl _, e0 := by show (0 : Int) ≤ 0 ∧ (0 : Int) ≤ 131070; omega, off := ⟨h1, h2, h3, h4⟩, cmp := h5, blk := ⟨h6, h7⟩,
          kid := fun k hk => absurd hk List.not_mem_nil, par := fun _ k hk => absurd hk List.not_mem_nil, one := fun _ => Nat.zero_le _, dat := fun _ => rfl }
theorem msg_b {f:Fm} {t:Tk} (h:msgB f t=true) (hp:plainB t=true) (ho:t.op=0):0<=t.off/\0<=t.siz/\t.siz<=65535/\t.off<=65535/\(t.op=8->t.off+t.siz<=65535)/\0<=t.blk/\t.blk<=65535:=by
 unfold msgB blkB at h
 simp only[Bool.and_eq_true] at h
 have h1:=betT h.1.1.2.1
 have h2:=decT h.1.1.2.2
 have h3:=pl_msg hp (.inl ho)
 have h4:t.siz=0:=by
  unfold plainB nzs mays at hp
  rw[ho] at hp;simp[subB] at hp;omega
 omega
theorem okZ_nil {f:Fm} {ids:List Int} {i:Nat} {t:Tk} (h:okZ f ⟨[],ids⟩ i t=true):i=0/\t.op=0/\plainB t=true/\symbolB t.name=true/\pairB f.toks i t=true/\msgB f t=true:=by
 unfold okZ at h
 simp only[Bool.and_eq_true,decide_eq_true_eq] at h
 obtain⟨⟨⟨⟨⟨h1,h2⟩,h3⟩,h4⟩,h5⟩,h6⟩:=h
 exact⟨h1,h2,h3,h4,h5,h6⟩
theorem inOk_end {f:Fm} {o:List Sc} {ids:List Int} {i:Nat} {x:Sc} {t:Tk} (h:inOk f o ids i x t=true) (he:edO t.op=true):mayB f.toks x t.op=true/\plainB t=true/\symbolB t.name=true/\t.pair=x.at_/\x.tk.pair=i:=by
 unfold inOk at h
 rw[if_pos he] at h
 simp only[Bool.and_eq_true,decide_eq_true_eq] at h
 exact⟨h.1.1.1,h.1.1.2,h.1.2,h.2.1,h.2.2⟩
theorem inOk_in {f:Fm} {o:List Sc} {ids:List Int} {i:Nat} {x:Sc} {t:Tk} (h:inOk f o ids i x t=true) (he:edO t.op=false):mayB f.toks x t.op=true/\plainB t=true/\symbolB t.name=true/\(bgO t.op=true->pairB f.toks i t=true)/\(bgO t.op=false->t.pair=i)/\rulB f o ids i x t=true:=by
 unfold inOk at h
 rw[if_neg (by rw[he];decide)] at h
 simp only[Bool.and_eq_true] at h
 refine⟨h.1.1.1,h.1.1.2,h.1.2,fun hb=>?_,fun hb=>?_,h.2.2⟩
 ·have:=h.2.1
  rwa [if_pos hb] at this
 ·have:=h.2.1
  rw[if_neg (by rw[hb];decide)] at this
  exact decT this
theorem met_ok {f:Fm} {o:List Sc} {ids:List Int} {i:Nat} {x:Sc} {t:Tk} (hx:ScOk f.toks i x) (ht:f.toks[i]?=some t) (h:inOk f o ids i x t=true) (he:edO t.op=false):ScOk f.toks (i+1) (metX x i t):=by
 obtain⟨hm,hp,hs,hb,hnb,hr⟩:=inOk_in h he
 obtain⟨b1,b2,b3,b4⟩:=rul_b hx hm he hp hr
 have ht2:=may_typ hm he hx.beg
 have hst:=hx.stay ht he
 refine { hst with fld:=?_,row:=?_,e0:=?_,kid:=?_,par:=?_,one:=?_,dat:=?_ }
 ·show x.tk.since<=(if t.op=2 then t.since else x.fld)
  have:=hx.fld
  split
  ·rename_i e;have:=b2 e;omega
  ·exact this
 ·show x.tk.since<=(if (t.op=4\/t.op=6)/\x.tk.op≠4 then t.since else x.row)
  have:=hx.row
  split
  ·rename_i e;have:=b3 e;omega
  ·exact this
 ·have:=hx.e0
  show 0<=(if 0<t.siz/\((t.op=2/\t.pres≠2)\/x.tk.op=8) then t.off+t.siz else x.e0)/\(if 0<t.siz/\((t.op=2/\t.pres≠2)\/x.tk.op=8) then t.off+t.siz else x.e0)<=131070
  split
  ·rename_i e;have:=b4 e;omega
  ·exact this
 ·intro k hk
  rcases List.mem_append.1 hk with hk|hk
  ·have:=hx.kid k hk;exact⟨this.1,by omega⟩
  ·have:=hx.lt
   rw[List.mem_singleton.1 hk]
   exact⟨this,Nat.lt_succ_self _⟩
 ·intro ho k hk
  rcases List.mem_append.1 hk with hk|hk
  ·exact hx.par ho k hk
  ·rw[List.mem_singleton.1 hk]
   refine⟨t,ht,?_⟩
   rcases ht2 with ⟨_,h2,_⟩|⟨h2,_⟩|⟨h2,_⟩|⟨h2,_⟩
   ·exact h2
   all_goals
    have ho:x.tk.op=0\/x.tk.op=4:=ho
    omega
 ·intro ho
  have ho:x.tk.op=2:=ho
  rcases ht2 with ⟨h2,_⟩|⟨_,h2,_⟩|⟨h2,_⟩|⟨h2,_⟩
  ·omega
  ·show (x.kids++[i]).length<=1
   rw[h2];exact Nat.le_refl _
  ·omega
  ·omega
 ·intro ho
  have ho:x.tk.op=6:=ho
  rcases ht2 with ⟨h2,_⟩|⟨h2,_⟩|⟨h2,_⟩|⟨h2,_⟩<;>omega
theorem bgO_or {op:Int} (h:ptO op=true\/tyO op=true\/op=14\/op=15) (hb:bgO op=false):op=14\/op=15:=by
 unfold ptO tyO at h
 unfold bgO at hb
 have hb:=of_decide_eq_false hb
 simp only[decide_eq_true_eq] at h
 omega
theorem inv_step {f:Fm} {s:St} {i:Nat} {t:Tk} (H:Inv f i s) (ht:f.toks[i]?=some t) (h:okZ f s i t=true):Inv f (i+1) (nxt s i t):=by
 obtain⟨o,ids⟩:=s
 rcases o with _|⟨x,o⟩
 ·obtain⟨hi,ho,hp,hs,hq,hm⟩:=okZ_nil h
  have hb:bgO t.op=true:=by rw[ho];rfl
  have he:=bgO_end hb
  have hn:ptO t.op=false:=by rw[ho];rfl
  unfold nxt
  rw[if_neg (by rw[he];decide),if_pos hb,if_neg (by rw[hn];decide)]
  refine⟨fun x hx=>?_,⟨rfl,fun e=>?_,trivial⟩,fun e=>by omega,by have:=H.ids;show ids.length<=i+1;have:ids.length<=i:=this;omega⟩
  ·have:x=scNew i t:=by simpa[metL] using hx
   rw[this]
   exact scNew_ok ht hb hp hs hq (msg_b hm hp ho)
  ·have:t.op=10\/t.op=12:=e
   omega
 ·have hx:=H.all x (List.mem_cons_self ..)
  have hlt:=out_lt H.nest.2.2 (fun a ha=>H.all a (List.mem_cons_of_mem _ ha))
  have h:inOk f (x::o) ids i x t=true:=h
  have hids:ids.length<=i:=H.ids
  cases he:edO t.op with
  | true =>
   obtain⟨hm,hp,hs,h1,h2⟩:=inOk_end h he
   unfold nxt
   rw[if_pos he]
   refine⟨fun a ha=>?_,?_,fun e=>by omega,by show ids.length<=i+1;omega⟩
   ·have ha:a∈o:=ha
    refine(H.all a (List.mem_cons_of_mem _ ha)).up fun e=>?_
    obtain⟨n,u,hn,_,_,hu,_,_,hup⟩:=pairB_get (H.all a (List.mem_cons_of_mem _ ha)).pr
    have:n=i:=by omega
    subst this
    rw[ht] at hu
    cases hu
    have:=hlt a ha
    omega
   ·show Nest f.toks (i+1) o
    have hO:=H.nest.2.2
    rcases o with _|⟨a,o⟩
    ·trivial
    ·obtain⟨⟨ks,hk,hc⟩,hop,hO'⟩:=hO
     refine⟨?_,fun e=>by omega,hO'⟩
     rw[hk]
     exact hc.snoc hx.tk h2
  | false =>
   have hmet:=met_ok hx ht h he
   obtain⟨hm,hp,hs,hb,hnb,hr⟩:=inOk_in h he
   have ht2:=may_typ hm he hx.beg
   have hall:∀ a∈metX x i t::o,ScOk f.toks (i+1) a:=fun a ha=>by
    rcases List.mem_cons.1 ha with rfl|ha
    ·exact hmet
    ·exact(H.all a (List.mem_cons_of_mem _ ha)).stay ht he
   have hidl:(if ptO t.op=true then ids++[t.id] else ids).length<=i+1:=by
    split
    ·rw[List.length_append];show ids.length+1<=_;omega
    ·omega
   unfold nxt
   rw[if_neg (by rw[he];decide)]
   cases hbb:bgO t.op with
   | true =>
    rw[if_pos rfl]
    refine⟨fun a ha=>?_,⟨rfl,fun e=>⟨?_,fun e=>absurd rfl e⟩,?_⟩,fun e=>by omega,hidl⟩
    ·have ha:a∈scNew i t::metX x i t::o:=ha
     rcases List.mem_cons.1 ha with rfl|ha
     ·exact scNew_ok ht hbb hp hs (hb hbb) ((rul_b hx hm he hp hr).1 hbb)
     ·exact hall a ha
    ·show []=List.range' (i+1) (i+1-(i+1))
     rw[Nat.sub_self];rfl
    ·refine⟨⟨x.kids,rfl,H.nest.1⟩,?_,H.nest.2.2⟩
     show x.tk.op=0\/x.tk.op=2\/x.tk.op=4\/x.tk.op=8
     rcases ht2 with ⟨h2,_⟩|⟨h2,_⟩|⟨h2,_⟩|⟨h2,⟨_,h3⟩|⟨_,h3⟩⟩
     ·omega
     ·omega
     ·omega
     ·rw[h3] at hbb;cases hbb
     ·rw[h3] at hbb;cases hbb
   | false =>
    rw[if_neg (by decide)]
    have h14:t.op=14\/t.op=15:=bgO_or (by
     rcases ht2 with ⟨_,h3,_⟩|⟨_,_,h3⟩|⟨_,h3⟩|⟨_,⟨_,h3⟩|⟨_,h3⟩⟩
     ·exact .inl h3
     ·exact .inr (.inl h3)
     ·exact .inr (.inl h3)
     ·exact .inr (.inr (.inl h3))
     ·exact .inr (.inr (.inr h3))) hbb
    have hpr:=hnb hbb
    refine⟨hall,⟨H.nest.1.snoc ht hpr,fun e=>?_,H.nest.2.2⟩,fun e=>by omega,hidl⟩
    have e:x.tk.op=10\/x.tk.op=12:=e
    obtain⟨hk,h1⟩:=H.nest.2.1 e
    have hlt:=hx.lt
    refine⟨?_,fun _=>?_⟩
    ·show x.kids++[i]=List.range' (x.at_+1) (i+1-(x.at_+1))
     rw[show i+1-(x.at_+1)=(i-(x.at_+1))+1 by omega,List.range'_concat,hk]
     congr 2
     omega
    ·show ∃ u,f.toks[x.at_+1]?=some u/\u.op=14
     by_cases hk0:x.kids=[]
     ·have:x.at_+1=i:=by
       have:=H.nest.1
       rw[hk0] at this
       exact this
      rw[this]
      refine⟨t,ht,?_⟩
      rcases ht2 with ⟨h2,_⟩|⟨h2,_⟩|⟨h2,_⟩|⟨_,⟨_,h3⟩|⟨h4,_⟩⟩
      ·omega
      ·omega
      ·omega
      ·exact h3
      ·exact absurd hk0 h4
     ·exact h1 hk0
theorem inv_zero (f:Fm):Inv f 0 ⟨[],[]⟩:=⟨fun _ hx=>absurd hx List.not_mem_nil,trivial,fun _=>rfl,Nat.le_refl _⟩
def Srt (o:List Sc):Prop:=∀ x∈o,x.kids.Pairwise (· < ·)
theorem srt_step {f:Fm} {s:St} {i:Nat} {t:Tk} (H:Inv f i s) (hs:Srt s.open_):Srt (nxt s i t).open_:=by
 obtain⟨o,ids⟩:=s
 intro y hy
 unfold nxt at hy
 by_cases he:edO t.op=true
 ·rw[if_pos he] at hy
  exact hs y (List.mem_of_mem_tail hy)
 ·rw[if_neg he] at hy
  have key:∀ y∈metL o i t,y.kids.Pairwise (· < ·):=fun y hy=>by
   rcases o with _|⟨x,o⟩
   ·cases hy
   ·rcases List.mem_cons.1 hy with rfl|hy
    ·show (x.kids++[i]).Pairwise (· < ·)
     refine List.pairwise_append.2 ⟨hs x (List.mem_cons_self ..),List.pairwise_singleton _ _,fun a ha b hb=>?_⟩
     rw[List.mem_singleton.1 hb]
     exact((H.all x (List.mem_cons_self ..)).kid a ha).2
    ·exact hs y (List.mem_cons_of_mem _ hy)
  have hy:y∈(if bgO t.op=true then scNew i t::metL o i t else metL o i t):=hy
  split at hy
  ·rcases List.mem_cons.1 hy with rfl|hy
   ·exact List.Pairwise.nil
   ·exact key y hy
  ·exact key y hy
end Go.Proofs.YtjlbcdnkglaheaaGreatDoor
