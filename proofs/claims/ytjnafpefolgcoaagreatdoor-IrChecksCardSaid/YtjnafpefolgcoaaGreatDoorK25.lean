import Derived.Test.YtjnafpefolgcoaaGreatDoorK24
import Derived.Test.YtjnafpefolgcoaaGreatDoorK09
namespace Go.Proofs.YtjnafpefolgcoaaGreatDoor
abbrev sp0:Sp:=⟨0,0⟩
def maskD (t:Tk):Tk :=
 if t.op=0 then ⟨t.op,t.name,t.id,0,0,t.since,0,0,0,0,0,0,[],0,t.blk,t.full,sp0,sp0,t.pair⟩ else
 if t.op=4 then ⟨t.op,t.name,t.id,0,t.siz,t.since,0,0,0,0,0,0,[],0,t.blk,t.full,t.a,t.b,t.pair⟩ else
 if t.op=2 then ⟨t.op,t.name,t.id,t.off,t.siz,t.since,0,0,t.pres,0,0,0,t.cst,0,0,0,sp0,sp0,t.pair⟩ else
 if t.op=6 then ⟨t.op,t.name,t.id,0,t.siz,t.since,t.prim,0,0,0,0,0,[],0,0,0,t.a,sp0,t.pair⟩ else
 if t.op=8 then ⟨t.op,t.name,0,t.off,t.siz,0,0,0,0,0,0,0,[],0,0,0,sp0,sp0,t.pair⟩ else
 if t.op=10\/t.op=12 then ⟨t.op,t.name,0,t.off,t.siz,0,0,0,t.pres,0,0,0,[],0,0,0,sp0,sp0,t.pair⟩ else
 if t.op=14 then ⟨t.op,t.name,0,t.off,t.siz,0,t.prim,t.len,t.pres,t.nul,t.lo,t.hi,t.cst,0,0,0,sp0,sp0,t.pair⟩ else
 if t.op=15 then ⟨t.op,t.name,0,0,0,t.since,0,0,0,0,0,0,[],t.val,0,0,sp0,sp0,t.pair⟩ else
 ⟨t.op,t.name,0,0,0,0,0,0,0,0,0,0,[],0,0,0,sp0,sp0,t.pair⟩
theorem maskD_iff (t:Tk):maskD t=t↔plainB t=true:=by
 obtain⟨op,nm,id,off,siz,si,pr,len,ps,nul,lo,hi,cst,val,blk,full,⟨ap,ao⟩,⟨bp,bo⟩,pair⟩:=t
 unfold maskD plainB nzs mays
 simp only
 by_cases h0:op=0
 ·subst h0;simp[subB];constructor<;>intro h<;>simp_all<;>(try omega)
 by_cases h4:op=4
 ·subst h4;simp[subB];constructor<;>intro h<;>simp_all<;>(try omega)
 by_cases h2:op=2
 ·subst h2;simp[subB];constructor<;>intro h<;>simp_all<;>(try omega)
 by_cases h6:op=6
 ·subst h6;simp[subB];constructor<;>intro h<;>simp_all<;>(try omega)
 by_cases h8:op=8
 ·subst h8;simp[subB];constructor<;>intro h<;>simp_all<;>(try omega)
 by_cases h10:op=10\/op=12
 ·rcases h10 with h|h<;>· subst h;simp[subB];constructor<;>intro h<;>simp_all<;>(try omega)
 by_cases h14:op=14
 ·subst h14;simp[subB];constructor<;>intro h<;>simp_all<;>(try omega)
 by_cases h15:op=15
 ·subst h15;simp[subB];constructor<;>intro h<;>simp_all<;>(try omega)
 simp only[h0,h4,h2,h6,h8,h10,h14,h15,if_false]
 simp[subB]
 constructor<;>intro h<;>simp_all<;>(try omega)
def fldR (f:Fm) (i:Nat) (x:Sc) (t:Tk):Bool:=bet t.since x.fld f.ver&&(if t.pres=0 then decide (t.since=x.tk.since)&&inB f.toks i x t else if t.pres=1 then inB f.toks i x t else if t.pres=2 then decide (t.off=0/\t.siz=0/\t.cst.length≠0) else false)
theorem fld_split (f:Fm) (ids:List Int) (i:Nat) (x:Sc) (t:Tk):fldB f ids i x t=(newB f.toks ids x t&&fldR f i x t):=by unfold fldB fldR;rw[Bool.and_assoc]
theorem fldR_iff {f:Fm} {i:Nat} {x:Sc} {t u:Tk} (he:0<=x.e0) (hf:x.tk.since<=x.fld) (hb:0<=x.tk.blk) (hu:f.toks[i+1]?=some u):fldR f i x t=true ↔
  (x.tk.since<=t.since/\x.fld<=t.since/\t.since<=f.ver/\0<=t.pres/\t.pres<=2/\(t.pres=0->t.since=x.tk.since))/\((t.pres=2/\t.off=0/\t.siz=0/\0<t.cst.length)\/(t.pres≠2/\t.cst.length=0/\0<=t.siz/\0<=t.off/\(t.siz=0->t.off=0)/\t.off<=x.tk.blk/\t.siz<=x.tk.blk-t.off/\u.siz=t.siz/\(0<t.siz->x.e0<=t.off))):=by
 unfold fldR inB bet
 rw[hu]
 generalize t.cst.length=n
 by_cases h0:t.pres=0
 ·by_cases hz:t.siz=0<;>simp[h0,hz]<;>omega
 by_cases h1:t.pres=1
 ·by_cases hz:t.siz=0<;>simp[h1,hz]<;>omega
 by_cases h2:t.pres=2
 ·simp only[h2,if_true]
  simp
  omega
 ·simp[h0,h1,h2]
  omega
def grpR (f:Fm) (o:List Sc) (x:Sc) (t:Tk):Bool:=rowB f x t&&(blkB t&&bet t.siz 1 65535)&&(lieB t.a t.siz&&lieB t.b t.siz&&aptB t.a t.b&&telB t.a t.full&&decide (depB 4 o<8))
theorem apt_comm (a b:Sp):aptB a b=aptB b a:=by unfold aptB;rw[Bool.eq_iff_iff];simp;omega
theorem grp_split (f:Fm) (o:List Sc) (ids:List Int) (x:Sc) (t:Tk):grpB f o ids x t=(newB f.toks ids x t&&grpR f o x t):=by
 unfold grpB grpR
 rw[apt_comm t.a t.b,Bool.eq_iff_iff]
 simp only[Bool.and_eq_true]
 constructor
 ·rintro⟨⟨⟨⟨⟨⟨h1,h2⟩,h3⟩,h4⟩,h5⟩,h6,h7,h8⟩,h9⟩;exact⟨h2,⟨h3,h4,h5⟩,⟨⟨⟨h6,h7⟩,h8⟩,h9⟩,h1⟩
 ·rintro⟨h2,⟨h3,h4,h5⟩,⟨⟨⟨h6,h7⟩,h8⟩,h9⟩,h1⟩;exact⟨⟨⟨⟨⟨⟨h1,h2⟩,h3⟩,h4⟩,h5⟩,h6,h7,h8⟩,h9⟩
def datR (f:Fm) (x:Sc) (t:Tk):Bool:=rowB f x t&&(decide (t.a.o=0)&&lieB t.a 4&&decide (t.siz=sz t.a.p)&&decide (t.prim=0\/t.prim=5))
theorem sz_num {p:Int} (h:numB p=true):0<sz p/\sz p<=4:=by
 unfold numB at h
 rcases decT h with rfl|rfl|rfl<;>decide
theorem dat_split (f:Fm) (ids:List Int) (x:Sc) (t:Tk):datB f ids x t=(newB f.toks ids x t&&datR f x t):=by
 unfold datB datR lieB
 rw[Bool.eq_iff_iff]
 simp only[Bool.and_eq_true,decide_eq_true_eq]
 constructor
 ·rintro⟨⟨⟨⟨⟨h1,h2⟩,h3⟩,h4⟩,h5⟩,h6⟩
  have:=sz_num h4
  exact⟨h1,h2,⟨⟨h3,h4,by omega,by omega⟩,h5⟩,h6⟩
 ·rintro⟨h1,h2,⟨⟨h3,h4,_⟩,h5⟩,h6⟩
  exact⟨⟨⟨⟨⟨h1,h2⟩,h3⟩,h4⟩,h5⟩,h6⟩
theorem rowB_iff {f:Fm} {x:Sc} {t:Tk} (hr:x.tk.since<=x.row):rowB f x t=true↔((x.tk.op=4->t.since=x.tk.since)/\(x.tk.op≠4->x.tk.since<=t.since/\x.row<=t.since/\t.since<=f.ver)):=by
 unfold rowB bet
 by_cases h:x.tk.op=4
 ·simp[h]
 ·simp[h];omega
theorem blkB_iff {t:Tk}:(blkB t&&bet t.siz 1 65535)=true↔(1<=t.siz/\t.siz<=65535/\0<=t.blk/\t.blk<=t.full/\t.full<=65535):=by
 unfold blkB bet
 simp
 omega
theorem plcB_iff {x:Sc} {t:Tk} (ho:x.tk.op=2\/x.tk.op=8\/x.tk.op=10\/x.tk.op=12):plcB x t=true↔(0<=t.siz/\t.siz<=65535/\0<=t.pres/\t.pres<=2)/\(x.tk.op=2->t.off=0) /\
  (x.tk.op=10\/x.tk.op=12->t.off=x.tk.off/\t.siz=x.tk.siz/\t.pres=x.tk.pres/\t.len=1/\(x.tk.op=10->t.prim≠9/\t.prim≠10)/\(x.tk.op=12->5<=t.prim/\t.prim<=8)) /\
  (x.tk.op=8->x.tk.off<=t.off/\t.off<=x.tk.off+x.tk.siz/\t.siz<=x.tk.off+x.tk.siz-t.off/\(0<t.siz->x.e0<=t.off)):=by
 unfold plcB codB memB bet
 rcases ho with h|h|h|h<;>simp[h]<;>omega
def encR (t:Tk):Bool:=bet t.len 1 65535&&(fitsP t.prim t.nul&&fitsP t.prim t.lo&&fitsP t.prim t.hi)&&(if t.pres=2 then decide (t.siz=0)&&decide ((t.cst.length:Int)=t.len)&&t.cst.all (fitsP t.prim) else decide (t.siz=t.len*sz t.prim)&&decide (t.cst.length=0))
theorem enc_split (x:Sc) (t:Tk):encB x t=(plcB x t&&encR t):=by unfold encB encR;simp only[Bool.and_assoc]
theorem nameIn_no {l:List Tk} {ks:List Nat} {s:ByteArray}:nameIn l ks s=false↔∀ k∈ks,∀ u,l[k]?=some u->u.name≠s:=by
 unfold nameIn
 rw[List.any_eq_false]
 constructor
 ·intro h k hk u hu e
  have:=h k hk
  rw[hu] at this
  simp[e] at this
 ·intro h k hk
  cases hu:l[k]? with
  | none=>simp
  | some u=>simpa using h k hk u hu
theorem valIn_no {l:List Tk} {ks:List Nat} {s:Int}:valIn l ks s=false↔∀ k∈ks,∀ u,l[k]?=some u->u.val≠s:=by
 unfold valIn
 rw[List.any_eq_false]
 constructor
 ·intro h k hk u hu e
  have:=h k hk
  rw[hu] at this
  simp[e] at this
 ·intro h k hk
  cases hu:l[k]? with
  | none=>simp
  | some u=>simpa using h k hk u hu
theorem cho_no {l:List Tk} {x:Sc} {i:Nat} {t:Tk} (hk:x.kids=List.range' (x.at_+1) (i-(x.at_+1))):(nameIn l x.kids.tail t.name=false/\valIn l x.kids.tail t.val=false)↔∀ k,x.at_+2<=k->k<i->∀ u,l[k]?=some u->¬ (u.name=t.name\/u.val=t.val):=by
 have e:x.kids.tail=List.range' (x.at_+2) (i-(x.at_+2)):=by
  rw[hk]
  by_cases h:x.at_+1<i
  ·rw[show i-(x.at_+1)=(i-(x.at_+2))+1 by omega,List.range'_succ]
   rfl
  ·rw[show i-(x.at_+1)=0 by omega,show i-(x.at_+2)=0 by omega]
   rfl
 rw[nameIn_no,valIn_no,e]
 constructor
 ·rintro⟨h1,h2⟩ k hk1 hk2 u hu
  have hm:k∈List.range' (x.at_+2) (i-(x.at_+2)):=List.mem_range'_1.2 (by omega)
  exact fun e=>e.elim (h1 k hm u hu) (h2 k hm u hu)
 ·intro h
  refine⟨fun k hm u hu e=>?_,fun k hm u hu e=>?_⟩
  ·have:=List.mem_range'_1.1 hm
   exact h k (by omega) (by omega) u hu (.inl e)
  ·have:=List.mem_range'_1.1 hm
   exact h k (by omega) (by omega) u hu (.inr e)
theorem stg_met {l:List Tk} {i:Nat} {x:Sc} {t:Tk} (hx:ScOk l i x) (ht:l[i]?=some t) (hm:mayB l x t.op=true) (he:edO t.op=false) :
  stgO l (metX x i t)=if t.op=4 then 1 else if t.op=6 then 2 else if tyO t.op then stgO l x+1 else stgO l x:=by
 have hl:lastOp l (metX x i t)=t.op:=by unfold lastOp metX;simp[ht]
 have hk:(metX x i t).kids=x.kids++[i]:=rfl
 have htk:(metX x i t).tk=x.tk:=rfl
 have h2:=may_typ hm he hx.beg
 unfold stgO
 rw[hl,hk,htk]
 rcases h2 with ⟨h0,hp,hle⟩|⟨h0,hz,hty⟩|⟨h0,hty⟩|⟨h0,⟨hz,h14⟩|⟨hz,h15⟩⟩
 ·rw[if_pos h0,if_pos h0]
  unfold ptO at hp
  have hp:=decT hp
  have hll:=last_par hx h0
  rcases hp with e|e|e
  ·rw[e]
   have:lastOp l x=0\/lastOp l x=2:=by omega
   rcases this with e|e<;>rw[e]<;>rfl
  ·rw[e];rfl
  ·rw[e];rfl
 ·have hy:=hty
  unfold tyO at hty
  have hty:=decT hty
  have a1:¬ (x.tk.op=0\/x.tk.op=4):=by omega
  have a2:¬ (x.tk.op=10\/x.tk.op=12):=by omega
  have a3:¬ t.op=4:=by omega
  have a4:¬ t.op=6:=by omega
  rw[if_neg a1,if_neg a2,if_neg a3,if_neg a4,if_pos hy,if_neg a1,if_neg a2]
  simp
 ·have hy:=hty
  unfold tyO at hty
  have hty:=decT hty
  have a1:¬ (x.tk.op=0\/x.tk.op=4):=by omega
  have a2:¬ (x.tk.op=10\/x.tk.op=12):=by omega
  have a3:¬ t.op=4:=by omega
  have a4:¬ t.op=6:=by omega
  rw[if_neg a1,if_neg a2,if_neg a3,if_neg a4,if_pos hy,if_neg a1,if_neg a2]
  simp
 ·have a1:¬ (x.tk.op=0\/x.tk.op=4):=by omega
  rw[h14,if_neg a1,if_pos h0,if_neg (by simp),if_neg (by decide),if_neg (by decide),if_pos (by decide),if_neg a1,if_pos h0]
  simp[hz]
 ·have a1:¬ (x.tk.op=0\/x.tk.op=4):=by omega
  rw[h15,if_neg a1,if_pos h0,if_neg (by simp),if_neg (by decide),if_neg (by decide),if_neg (by decide),if_neg a1,if_pos h0]
  simp[hz]
open Go.ChangeShapes Go.WideShapes Go.ChangeAt Go.RowKit Go.Shelf
theorem sz_5:sz 5=1:=rfl
theorem sz_6:sz 6=2:=rfl
theorem sz_7:sz 7=4:=rfl
theorem refLies_any (s:Sp) (n:Int) (w:World) (hn:0<=n/\n<=9223372036854775807):Calls Tryz.prog 25 #[spV s,.int .i64 n] w fun r w'=>r = .returned (.bool (lieB s n))/\Below w.heap.size w w':=by
 suffices hh:Calls Tryz.prog 25 #[spV s,.int .i64 n] w fun r w'=>Ans r (lieB s n=true)/\Below w.heap.size w w' from hh.mono fun r w' h=>⟨h.1.same,h.2⟩
 by_cases h5:s.p=5
 ·have hb:Hid0 (lieB s n=true↔0<=s.o/\s.o<=n-1):=⟨by unfold lieB numB;rw[h5];simp only[sz_5];simp;exact decide_eq_true_iff⟩
  have d5:(s.p==5)=true:=by simp[h5]
  clear h5
  go_enter Tryz.func25,Tryz.ntmps25
  go_wp2_with fail
  all_goals
   go_ret
   refine⟨⟨_,rfl,?_⟩,bel1 _ _⟩
   rw[hb.out]
   simp_all
   try omega
 by_cases h6:s.p=6
 ·have hb:Hid0 (lieB s n=true↔0<=s.o/\s.o<=n-2):=⟨by unfold lieB numB;rw[h6];simp only[sz_6];simp;exact decide_eq_true_iff⟩
  have d5:(s.p==5)=false:=by simp[h5]
  have d6:(s.p==6)=true:=by simp[h6]
  clear h5 h6
  go_enter Tryz.func25,Tryz.ntmps25
  go_wp2_with fail
  all_goals
   go_ret
   refine⟨⟨_,rfl,?_⟩,bel1 _ _⟩
   rw[hb.out]
   simp_all
   try omega
 by_cases h7:s.p=7
 ·have hb:Hid0 (lieB s n=true↔0<=s.o/\s.o<=n-4):=⟨by unfold lieB numB;rw[h7];simp only[sz_7];simp;exact decide_eq_true_iff⟩
  have d5:(s.p==5)=false:=by simp[h5]
  have d6:(s.p==6)=false:=by simp[h6]
  have d7:(s.p==7)=true:=by simp[h7]
  clear h5 h6 h7
  go_enter Tryz.func25,Tryz.ntmps25
  go_wp2_with fail
  all_goals
   go_ret
   refine⟨⟨_,rfl,?_⟩,bel1 _ _⟩
   rw[hb.out]
   simp_all
   try omega
 have hb:Hid0 (¬ lieB s n=true):=⟨by unfold lieB numB;simp[h5,h6,h7]⟩
 have d5:(s.p==5)=false:=by simp[h5]
 have d6:(s.p==6)=false:=by simp[h6]
 have d7:(s.p==7)=false:=by simp[h7]
 clear h5 h6 h7
 go_enter Tryz.func25,Tryz.ntmps25
 go_wp2_with fail
 all_goals
  go_ret
  exact⟨Ans.no hb.out,bel1 _ _⟩
theorem refTells_any (s:Sp) (n:Int) (w:World) (hn:i64ok n):Calls Tryz.prog 27 #[spV s,.int .i64 n] w fun r w'=>r = .returned (.bool (telB s n))/\Below w.heap.size w w':=by
 have cM:=refMax_any s.p
 unfold telB
 unfold i64ok at hn
 by_cases h0:0<=n
 ·have hw:IntKind.u64.wrap n=n:=by rw[IntKind.wrap_u64];omega
  go_enter Tryz.func27,Tryz.ntmps27
  go_wp2_with (go_at_call 55;refine(cM _).mono ?_;rintro _ _ ⟨rfl,rfl⟩)
  go_ret
  exact⟨rb (by simp[h0]),bel1 _ _⟩
 ·have d0:decide (0<=n)=false:=by simp;omega
  go_enter Tryz.func27,Tryz.ntmps27
  go_wp2_with (go_at_call 55;refine(cM _).mono ?_;rintro _ _ ⟨rfl,rfl⟩)
  go_ret
  exact⟨rb (by simp;omega),bel1 _ _⟩
theorem dbb2 (w:World) (a b:Obj):Below w.heap.size w ((w.alloc a).alloc b):=(bel1 w a).trans ((bel1 (w.alloc a) b).mono (al_le _ _))
theorem refApart_any (s t:Sp) (w:World) (hs:0<=s.o/\s.o<=9223372036854775700) (ht:0<=t.o/\t.o<=9223372036854775700):Calls Tryz.prog 26 #[spV s,spV t] w fun r w'=>r = .returned (.bool (aptB s t))/\Below w.heap.size w w':=by
 have hz:=sz_b s.p
 have hy:=sz_b t.p
 have hw1:IntKind.i64.wrap (t.o+sz t.p)=t.o+sz t.p:=by rw[IntKind.wrap_i64];omega
 have hw2:IntKind.i64.wrap (s.o+sz s.p)=s.o+sz s.p:=by rw[IntKind.wrap_i64];omega
 suffices hh:Calls Tryz.prog 26 #[spV s,spV t] w fun r w'=>Ans r (aptB s t=true)/\Below w.heap.size w w' from hh.mono fun r w' h=>⟨h.1.same,h.2⟩
 have hb:Hid0 (aptB s t=true↔(s.o+sz s.p<=t.o\/t.o+sz t.p<=s.o)):=⟨by unfold aptB;rw[decide_eq_true_eq]⟩
 have cS:=refSize_any s.p
 have cT:=refSize_any t.p
 generalize sz s.p=a at *
 generalize sz t.p=b at *
 go_enter Tryz.func26,Tryz.ntmps26
 go_wp2_with (first|(go_at_call_of 54 (Value.int .i64 s.p);refine(cS _).mono ?_;rintro _ _ ⟨rfl,rfl⟩)|(go_at_call_of 54 (Value.int .i64 t.p);refine(cT _).mono ?_;rintro _ _ ⟨rfl,rfl⟩))
 all_goals
  go_ret
  refine⟨⟨_,rfl,?_⟩,dbb2 _ _ _⟩
  rw[hb.out]
  simp_all
  try omega
theorem clsB (wr:World):∃ p:World->Prop,p wr.drew/\(∀ W,p W->Below wr.heap.size wr W)/\Nonempty (CW p)/\(∀ (g o:Nat),g<wr.heap.size->∀ θ:CW p,θ.w.cell? ⟨g,o,none⟩=wr.cell? ⟨g,o,none⟩) /\
  (∀ (f:FuncId) (ag:Array Value) (v:Value),(∀ W,Below wr.heap.size wr W->Calls Tryz.prog f ag W fun e w'=>e = .returned v/\Below W.heap.size W w')->∀ W,p W->Calls Tryz.prog f ag W fun e w'=>e = .returned v/\p w') :=
 ⟨Below wr.heap.size wr,drw (Below.refl _ _),fun _ h=>h,⟨⟨_,Below.refl _ _⟩⟩,fun g o hg θ=>θ.h.cell (p:=⟨g,o,none⟩) hg,fun _ _ _ h=>callB (Nat.le_refl _) h⟩
theorem ent_lies:∀ ag w,(callFunc 25 ag).run Tryz.prog w = .ok (.enter 25 ag) w:=enters_of Tryz.func25 (by kernel_rfl) rfl
theorem ent_apart:∀ ag w,(callFunc 26 ag).run Tryz.prog w = .ok (.enter 26 ag) w:=enters_of Tryz.func26 (by kernel_rfl) rfl
theorem ent_tells:∀ ag w,(callFunc 27 ag).run Tryz.prog w = .ok (.enter 27 ag) w:=enters_of Tryz.func27 (by kernel_rfl) rfl
open Go.Maps
theorem ld_new (w:World) (t:Tk) (pc:Option Addr) (cc:Nat):∃ W:World,(∀ z:Array Value,z.size=21->(Instr.storeAt 53 (.pointer (some ⟨w.heap.size,0,none⟩)) (tkV t pc cc)).run Tryz.prog (w.alloc (.cells z 53)) = .ok () W)/\TkC W w.heap.size 0 t pc cc/\Below w.heap.size w W/\W.heap.size=w.heap.size+1 :=
 ⟨w.alloc (tkO t pc cc),fun z hz=>st_new w z hz t pc cc,tk_of (heap_al _ _),bel1 _ _,World.size_alloc _ _⟩
theorem own_tk {w W:World} {g:Nat} {t:Tk} {pc:Option Addr} {cc:Nat} (h:TkC w g 0 t pc cc) (hg:g<w.heap.size) (hb:Below w.heap.size w W):TkC W g 0 t pc cc:=h.below hg hb
theorem Dt.at {w:World} {c:Df} {f:Fm} {L:List Od} {x:Od} {xt t:Tk} {ids:List Int} {vi:Value} (h:Dt w c f L x xt t ids vi) {k:Nat} {u:Tk} (hu:f.toks[k]?=some u):∃ pc cc,TkC w c.g (c.o+k*21) u pc cc/\URow w pc c.H u.cst/\u.cst.length<=cc/\TkOk u:=by
 obtain⟨g,o,pc,cc,e,_,h1,h2,h3,h4⟩:=h.tl.at hu
 cases e
 exact⟨pc,cc,h1,h2,h3,h4⟩
structure D0 (w:World) (c:Df) (f:Fm) (t:Tk) (vo vi:Value):Prop where
 ds:DsH w c.B f (some ⟨c.g,c.o,none⟩) c.cp vo vi
 tl:TkL w (some ⟨c.g,c.o,none⟩) c.H f.toks
 ht:f.toks[c.i]?=some t
 lg:c.g<w.heap.size
 sz:c.H<=w.heap.size
section
variable {w w':World} {c:Df} {f:Fm} {t:Tk} {vo vi:Value}
theorem D0.ll (h:D0 w c f t vo vi):f.toks.length<=733007751850:=by have:=h.tl.len;omega
theorem D0.il (h:D0 w c f t vo vi):c.i<f.toks.length:=(List.getElem?_eq_some_iff.1 h.ht).1
theorem D0.below (h:D0 w c f t vo vi) (hb:Below w.heap.size w w'):D0 w' c f t vo vi :=
 ⟨h.ds.same (hb.block _ h.ds.lt),h.tl.below (hb.mono h.sz),h.ht,Nat.lt_of_lt_of_le h.lg hb.size,Nat.le_trans h.sz hb.size⟩
theorem D0.at (h:D0 w c f t vo vi) {k:Nat} {u:Tk} (hu:f.toks[k]?=some u):∃ pc cc,TkC w c.g (c.o+k*21) u pc cc/\URow w pc w.heap.size u.cst/\u.cst.length<=cc/\TkOk u:=by
 obtain⟨g,o,pc,cc,e,_,h1,h2,h3,h4⟩:=h.tl.at hu
 cases e
 exact⟨pc,cc,h1,h2.mono h.sz,h3,h4⟩
theorem D0.tk (h:D0 w c f t vo vi):∃ pc cc,TkC w c.g (c.o+c.i*21) t pc cc/\URow w pc w.heap.size t.cst/\t.cst.length<=cc/\TkOk t:=h.at h.ht
theorem Dt.d0 {L:List Od} {x:Od} {xt:Tk} {ids:List Int} (h:Dt w c f L x xt t ids vi):D0 w c f t (.slice (some ⟨c.go,0,none⟩) (L.length+1) c.cap) vi:=⟨h.ds,h.tl,h.ht,h.lg,h.sz⟩
end
theorem bgO_i64 {op:Int} (h:bgO op=true):IntKind.i64.wrap (op+1)=op+1:=by
 unfold bgO at h
 have:=decT h
 rw[IntKind.wrap_i64]
 omega
theorem lx_ld {P:Program} {ops:Array Oper} {C:World->Prop} {Q:Exit->Act->World->Prop} {d:Option Tmp} {t ty:TypeId} {x:Operand} {ps:String} {af:Array Edge} {gd:Option (Nat×Bool)} {r:List Oper} {a:Act} {w:World} {p v:Value}
  (hl:∀ W,C W->(Instr.loadAt t p).run P W = .ok v W) (hx:a.eval x=p) (hw:Region.wanted ⟨d,.load t x,ty,ps,af,gd⟩ (yielded ops a.tmps)=true) (h:Lx P ops C Q r (a.put d v) w):Lx P ops C Q (⟨d,.load t x,ty,ps,af,gd⟩::r) a w :=
 lx_read hw rfl fun K hK=>⟨v,fun W hW=>by
  unfold Oper.quietAt execOp
  simp only[hx,hl W hW,Sem.run_bind,Result.andThen_ok,Sem.run_pure]
  exact⟨rfl,rfl⟩,hK _ h⟩
theorem lx_st {P:Program} {ops:Array Oper} {C:World->Prop} {Q:Exit->Act->World->Prop} {d:Option Tmp} {t ty:TypeId} {x y:Operand} {ps:String} {af:Array Edge} {gd:Option (Nat×Bool)} {r:List Oper} {a:Act} {w w':World} {p v:Value}
  (hr:(Instr.storeAt t p v).run P w = .ok () w') (hC:C w') (hx:a.eval x=p) (hy:a.eval y=v) (hw:Region.wanted ⟨d,.store t x y,ty,ps,af,gd⟩ (yielded ops a.tmps)=true) (h:Lx P ops C Q r (a.put d undef) w'):Lx P ops C Q (⟨d,.store t x y,ty,ps,af,gd⟩::r) a w :=
 lx_act hw rfl fun K hK=>by
  unfold Oper.wp execOp
  simp only[hx,hy,hr,Sem.run_bind,Result.andThen_ok]
  exact hK _ _ hC h
theorem clsT (wr:World):∃ p:World->Prop,p wr.drew/\(∀ W,p W->Below wr.heap.size wr W)/\(∀ W,Below wr.heap.size wr W->p W)/\Nonempty (CW p)/\(∀ (g o:Nat),g<wr.heap.size->∀ θ:CW p,θ.w.cell? ⟨g,o,none⟩=wr.cell? ⟨g,o,none⟩) /\
  (∀ (g o:Nat) (t:Tk) (pc:Option Addr) (cc:Nat),g<wr.heap.size->TkC wr g o t pc cc->∀ W,(∃ θ:CW p,W=θ.w)->(Instr.loadAt 53 (.pointer (some ⟨g,o,none⟩))).run Tryz.prog W = .ok (tkV t pc cc) W) /\
  (∀ (f:FuncId) (ag:Array Value) (v:Value),(∀ W,Below wr.heap.size wr W->Calls Tryz.prog f ag W fun e w'=>e = .returned v/\Below W.heap.size W w')->∀ W,p W->Calls Tryz.prog f ag W fun e w'=>e = .returned v/\p w') :=
 ⟨Below wr.heap.size wr,drw (Below.refl _ _),fun _ h=>h,fun _ h=>h,⟨⟨_,Below.refl _ _⟩⟩,fun g o hg θ=>θ.h.cell (p:=⟨g,o,none⟩) hg,fun g o t pc cc hg h=>by rintro _ ⟨θ,rfl⟩;exact(h.below hg θ.h).load,fun _ _ _ h=>callB (Nat.le_refl _) h⟩
abbrev odV (x:Od):Value:=.agg #[.int .i64 (x.at_:Int),.int .i64 x.stg,.int .i64 x.en,.int .i64 x.snc,.int .i64 x.row]
theorem infoOd:(Tryz.prog.info? 58).map (·.size)=some 5:=by kernel_rfl
theorem odC_one (x:Od):∀ u∈odC x,u.oneCell'=true:=by
 intro u hu
 simp only[odC,List.mem_cons,List.not_mem_nil,or_false] at hu
 rcases hu with rfl|rfl|rfl|rfl|rfl<;>rfl
theorem od_new (w:World) (x:Od):∃ W:World,(∀ z:Array Value,z.size=5->(Instr.storeAt 58 (.pointer (some ⟨w.heap.size,0,none⟩)) (odV x)).run Tryz.prog (w.alloc (.cells z 58)) = .ok () W)/\OdC W w.heap.size 0 x/\Below w.heap.size w W/\W.heap.size=w.heap.size+1 :=
 ⟨w.alloc (.cells (odC x).toArray 58),fun z hz=>run_storeAt_new w 58 z (odC x).toArray infoOd hz (all_oneCell_toArray (odC_one x)),
  have hh:=fun k=>cell_at (heap_al w (.cells (odC x).toArray 58)) k
  ⟨hh 0,hh 1,hh 2,hh 3,hh 4⟩,bel1 _ _,World.size_alloc _ _⟩
theorem ends12 (op:Int) (h:0<=op/\op<=15) (w:World):Calls Tryz.prog 48 #[.int .i64 op] w fun r w'=>r = .returned (.bool (edO op))/\w'=w:=by
 have:op=0\/op=1\/op=2\/op=3\/op=4\/op=5\/op=6\/op=7\/op=8\/op=9\/op=10\/op=11\/op=12\/op=13\/op=14\/op=15:=by omega
 rcases this with rfl|rfl|rfl|rfl|rfl|rfl|rfl|rfl|rfl|rfl|rfl|rfl|rfl|rfl|rfl|rfl
 all_goals
  go_enter Tryz.func48,Tryz.ntmps48
  go_wp2_with fail
  go_ret
  exact⟨rfl,rfl⟩
theorem begins12 (op:Int) (h:0<=op/\op<=15) (w:World):Calls Tryz.prog 52 #[.int .i64 op] w fun r w'=>r = .returned (.bool (bgO op))/\w'=w:=by
 have:op=0\/op=1\/op=2\/op=3\/op=4\/op=5\/op=6\/op=7\/op=8\/op=9\/op=10\/op=11\/op=12\/op=13\/op=14\/op=15:=by omega
 rcases this with rfl|rfl|rfl|rfl|rfl|rfl|rfl|rfl|rfl|rfl|rfl|rfl|rfl|rfl|rfl|rfl
 all_goals
  go_enter Tryz.func52,Tryz.ntmps52
  go_wp2_with fail
  go_ret
  exact⟨rfl,rfl⟩
theorem make_strs (w:World) (n:Nat) (hn:n<=1000000000000):∃ w',(Instr.makeSlice 35 (.int .i64 0) (.int .i64 (n:Int))).run Tryz.prog w = .ok (.slice (some ⟨w.heap.size,0,none⟩) 0 n) w'/\SRow w' w.heap.size (.slice (some ⟨w.heap.size,0,none⟩) 0 n) []/\Below w.heap.size w w':=by
 obtain⟨i,hi,hz⟩:=Option.map_eq_some_iff.1 infoStr
 simp only[Prod.mk.injEq] at hz
 have hr:=run_make (P:=Tryz.prog) w 35 9 i (.string ⟨#[]⟩) Tryz.underlying35 hi hz.1 .i64 .i64 0 n (Int.le_refl _) (by omega) (by rw[hz.2.2];omega) (by omega)
 simp only[Int.toNat_zero,Int.toNat_natCast] at hr
 refine⟨_,hr,?_,sbel1 _ _⟩
 rw[hz.2.1,Nat.mul_one]
 exact World.ownsRow_made w _ n (Nat.le_refl _) (by simp only[maxLen];omega) (by rw[size_madeCells,Nat.mul_one])
theorem shD_sz {n:Nat} (h:n<18446744073709551616):(shD n).size<=20:=by
 have h1:=nd20 h
 have h2:=Lib.decDigits_length n
 have:(shD n).size=(Lib.decDigits n).length:=by unfold shD;simp[ByteArray.size]
 omega
theorem shT_size {t:Tk} (hN:ShN t) (hv:0<=t.val/\t.val<18446744073709551616):(shJ (shT pnZ t)).size<=t.name.size+200/\(shT pnZ t).length<=7:=by
 have h1:∀ n:Int,0<=n/\n<=65535->(shI n).size<=20:=fun n h=>shD_sz (by omega)
 have hV:(shI t.val).size<=20:=shD_sz (by omega)
 have hp:=pnZ_size t.prim
 have hq:=shP_size t.pres
 have hS:shSp.size=1:=rfl
 have e0:shMsg.size=7:=rfl
 have e2:shFld.size=5:=rfl
 have e4:shGrp.size=5:=rfl
 have e6:shDat.size=4:=rfl
 have e8:shCmp.size=9:=rfl
 have e10:shEnu.size=4:=rfl
 have e12:shSet.size=3:=rfl
 have e14:shEnc.size=8:=rfl
 have e15:shCho.size=6:=rfl
 have ee:shEnd.size=3:=rfl
 unfold shT
 by_cases o0:t.op=0
 ·have a:=h1 _ (hN.id (by omega));have b:=h1 _ (hN.since (by omega));have c:=h1 _ (hN.blk (by omega))
  rw[if_pos o0,shJ_5];simp only[ByteArray.size_append,List.length_cons,List.length_nil];omega
 rw[if_neg o0]
 by_cases o2:t.op=2
 ·have a:=h1 _ (hN.id (by omega));have b:=h1 _ (hN.since (by omega));have c:=h1 _ (hN.off (by omega));have d:=h1 _ (hN.siz (by omega))
  rw[if_pos o2,shJ_7];simp only[ByteArray.size_append,List.length_cons,List.length_nil];omega
 rw[if_neg o2]
 by_cases o4:t.op=4
 ·have a:=h1 _ (hN.id (by omega));have b:=h1 _ (hN.since (by omega));have c:=h1 _ (hN.blk (by omega));have d:=h1 _ (hN.siz (by omega))
  rw[if_pos o4,shJ_6];simp only[ByteArray.size_append,List.length_cons,List.length_nil];omega
 rw[if_neg o4]
 by_cases o6:t.op=6
 ·have a:=h1 _ (hN.id (by omega));have b:=h1 _ (hN.since (by omega));have d:=h1 _ (hN.siz (by omega))
  rw[if_pos o6,shJ_6];simp only[ByteArray.size_append,List.length_cons,List.length_nil];omega
 rw[if_neg o6]
 by_cases o8:t.op=8
 ·have c:=h1 _ (hN.off (by omega));have d:=h1 _ (hN.siz (by omega))
  rw[if_pos o8,shJ_4];simp only[ByteArray.size_append,List.length_cons,List.length_nil];omega
 rw[if_neg o8]
 by_cases o10:t.op=10
 ·have c:=h1 _ (hN.off (by omega));have d:=h1 _ (hN.siz (by omega))
  rw[if_pos o10,shJ_4];simp only[ByteArray.size_append,List.length_cons,List.length_nil];omega
 rw[if_neg o10]
 by_cases o12:t.op=12
 ·have c:=h1 _ (hN.off (by omega));have d:=h1 _ (hN.siz (by omega))
  rw[if_pos o12,shJ_4];simp only[ByteArray.size_append,List.length_cons,List.length_nil];omega
 rw[if_neg o12]
 by_cases o14:t.op=14
 ·have c:=h1 _ (hN.off (by omega));have d:=h1 _ (hN.siz (by omega));have l:=h1 _ (hN.len (by omega))
  rw[if_pos o14,shJ_7];simp only[ByteArray.size_append,List.length_cons,List.length_nil];omega
 rw[if_neg o14]
 by_cases o15:t.op=15
 ·have b:=h1 _ (hN.since (by omega))
  rw[if_pos o15,shJ_4];simp only[ByteArray.size_append,List.length_cons,List.length_nil];omega
 rw[if_neg o15,shJ_2]
 simp only[ByteArray.size_append,List.length_cons,List.length_nil]
 omega
theorem shT_pos (t:Tk):0<(shT pnZ t).length:=by
 unfold shT
 repeat' split
 all_goals simp
def shLn (f:Fm) (i:Nat) (t:Tk):ByteArray:=shR (lnD f i t)++shJ (shT pnZ t)
theorem shL_get (f:Fm) {i:Nat} {t:Tk} (h:f.toks[i]?=some t):(shL pnZ f)[i]?=some (shLn f i t):=by
 unfold shL
 rw[List.getElem?_mapIdx,h]
 rfl
theorem shL_len (f:Fm):(shL pnZ f).length=f.toks.length:=by unfold shL;rw[List.length_mapIdx]
theorem shL_take (f:Fm) {i:Nat} {t:Tk} (h:f.toks[i]?=some t):(shL pnZ f).take (i+1)=(shL pnZ f).take i++[shLn f i t]:=by
 rw[List.take_add_one,shL_get f h]
 rfl
theorem shR_size (k:Nat):(shR k).size=2*k:=by
 induction k with
 | zero=>rfl
 | succ k ih=>rw[shR_succ,ByteArray.size_append,ih];show 2+2*k=_;omega
end Go.Proofs.YtjnafpefolgcoaaGreatDoor
