import Derived.Test.YtkcjdncchoohoaaGreatDoorK22
import Derived.Test.YtkcjdncchoohoaaGreatDoorK07
namespace Go.Proofs.YtkcjdncchoohoaaGreatDoor
set_option maxRecDepth 1000000
set_option maxHeartbeats 16000000
variable {C:World->Prop} {L:List Od} {P:Program} {a:Act} {f:Fm} {gd:Option (Nat×Bool)} {i k:Nat} {ids:List Int} {ks:List Nat} {l:List Tk} {p v:Value} {r:List Oper} {t u xt:Tk} {ty:TypeId} {w:World} {x:Sc}
abbrev sp0:Sp:=⟨0,0⟩
def maskD (t:Tk):Tk :=
 if t.op=0 then ⟨t.op,t.name,t.id,0,0,t.since,0,0,0,0,0,0,[],0,t.blk,t.full,sp0,sp0,t.pair⟩ else
 if t.op=4 then ⟨t.op,t.name,t.id,0,t.siz,t.since,0,0,0,0,0,0,[],0,t.blk,t.full,t.a,t.b,t.pair⟩ else
 if t.op=2 then ⟨t.op,t.name,t.id,t.off,t.siz,t.since,0,0,t.pres,0,0,0,t.cst,0,0,0,sp0,sp0,t.pair⟩ else
 if t.op=6 then ⟨t.op,t.name,t.id,0,t.siz,t.since,t.prim,0,0,0,0,0,[],0,0,0,t.a,sp0,t.pair⟩ else
 if t.op=8 then ⟨t.op,t.name,0,t.off,t.siz,0,0,0,0,0,0,0,[],0,0,0,sp0,sp0,t.pair⟩ else
 if t.op=10\/t.op=12 then ⟨t.op,t.name,0,t.off,t.siz,0,0,0,t.pres,0,0,0,[],0,0,0,sp0,sp0,t.pair⟩ else
 if t.op=14 then ⟨t.op,t.name,0,t.off,t.siz,0,t.prim,t.len,t.pres,t.nul,t.lo,t.hi,t.cst,0,0,0,sp0,sp0,t.pair⟩ else
 if t.op=15 then ⟨t.op,t.name,0,0,0,t.since,0,0,0,0,0,0,[],t.val,0,0,sp0,sp0,t.pair⟩ else
 ⟨t.op,t.name,0,0,0,0,0,0,0,0,0,0,[],0,0,0,sp0,sp0,t.pair⟩
theorem maskD_iff (t:Tk):maskD t=t↔plainB t=true:=by
 obtain⟨op,nm,id,off,siz,si,pr,len,ps,nul,lo,hi,cst,val,blk,full,⟨ap,ao⟩,⟨bp,bo⟩,pair⟩:=t
 unfold maskD plainB nzs mays
 simp only
 by_cases h0:op=0
 ·subst h0;simp[subB];constructor<;>intro h<;>simp_all<;>(try omega)
 by_cases h4:op=4
 ·subst h4;simp[subB];constructor<;>intro h<;>simp_all<;>(try omega)
 by_cases h2:op=2
 ·subst h2;simp[subB];constructor<;>intro h<;>simp_all<;>(try omega)
 by_cases h6:op=6
 ·subst h6;simp[subB];constructor<;>intro h<;>simp_all<;>(try omega)
 by_cases h8:op=8
 ·subst h8;simp[subB];constructor<;>intro h<;>simp_all<;>(try omega)
 by_cases h10:op=10\/op=12
 ·rcases h10 with h|h<;>· subst h;simp[subB];constructor<;>intro h<;>simp_all<;>(try omega)
 by_cases h14:op=14
 ·subst h14;simp[subB];constructor<;>intro h<;>simp_all<;>(try omega)
 by_cases h15:op=15
 ·subst h15;simp[subB];constructor<;>intro h<;>simp_all<;>(try omega)
 simp only[h0,h4,h2,h6,h8,h10,h14,h15,if_false]
 simp[subB]
 constructor<;>intro h<;>simp_all<;>(try omega)
def fldR (f:Fm) (i:Nat) (x:Sc) (t:Tk):Bool:=bet t.since x.fld f.ver&&(if t.pres=0 then decide (t.since=x.tk.since)&&inB f.toks i x t else if t.pres=1 then inB f.toks i x t else if t.pres=2 then decide (t.off=0/\t.siz=0/\t.cst.length≠0) else false)
theorem fld_split (f:Fm) (ids:List Int) (i:Nat) (x:Sc) (t:Tk):fldB f ids i x t=(newB f.toks ids x t&&fldR f i x t):=by unfold fldB fldR;rw[Bool.and_assoc]
theorem fldR_iff (he:0<=x.e0) (hf:x.tk.since<=x.fld) (hb:0<=x.tk.blk) (hu:f.toks[i+1]?=some u):fldR f i x t=true ↔
  (x.tk.since<=t.since/\x.fld<=t.since/\t.since<=f.ver/\0<=t.pres/\t.pres<=2/\(t.pres=0->t.since=x.tk.since))/\((t.pres=2/\t.off=0/\t.siz=0/\0<t.cst.length)\/(t.pres≠2/\t.cst.length=0/\0<=t.siz/\0<=t.off/\(t.siz=0->t.off=0)/\t.off<=x.tk.blk/\t.siz<=x.tk.blk-t.off/\u.siz=t.siz/\(0<t.siz->x.e0<=t.off))):=by
 unfold fldR inB bet
 rw[hu]
 generalize t.cst.length=n
 by_cases h0:t.pres=0
 ·by_cases hz:t.siz=0<;>simp[h0,hz]<;>omega
 by_cases h1:t.pres=1
 ·by_cases hz:t.siz=0<;>simp[h1,hz]<;>omega
 by_cases h2:t.pres=2
 ·simp only[h2,if_true]
  simp
  omega
 ·simp[h0,h1,h2]
  omega
def grpR (f:Fm) (o:List Sc) (x:Sc) (t:Tk):Bool:=rowB f x t&&(blkB t&&bet t.siz 1 65535)&&(lieB t.a t.siz&&lieB t.b t.siz&&aptB t.a t.b&&telB t.a t.full&&decide (depB 4 o<8))
theorem apt_comm (a b:Sp):aptB a b=aptB b a:=by unfold aptB;rw[Bool.eq_iff_iff];simp;omega
theorem grp_split (f:Fm) (o:List Sc) (ids:List Int) (x:Sc) (t:Tk):grpB f o ids x t=(newB f.toks ids x t&&grpR f o x t):=by
 unfold grpB grpR
 rw[apt_comm t.a t.b,Bool.eq_iff_iff]
 simp only[Bool.and_eq_true]
 constructor
 ·rintro⟨⟨⟨⟨⟨⟨h1,h2⟩,h3⟩,h4⟩,h5⟩,h6,h7,h8⟩,h9⟩;exact⟨h2,⟨h3,h4,h5⟩,⟨⟨⟨h6,h7⟩,h8⟩,h9⟩,h1⟩
 ·rintro⟨h2,⟨h3,h4,h5⟩,⟨⟨⟨h6,h7⟩,h8⟩,h9⟩,h1⟩;exact⟨⟨⟨⟨⟨⟨h1,h2⟩,h3⟩,h4⟩,h5⟩,h6,h7,h8⟩,h9⟩
def datR (f:Fm) (x:Sc) (t:Tk):Bool:=rowB f x t&&(decide (t.a.o=0)&&lieB t.a 4&&decide (t.siz=sz t.a.p)&&decide (t.prim=0\/t.prim=5))
theorem sz_num {p:Int} (h:numB p=true):0<sz p/\sz p<=4:=by
 unfold numB at h
 rcases decT h with rfl|rfl|rfl<;>decide
theorem dat_split (f:Fm) (ids:List Int) (x:Sc) (t:Tk):datB f ids x t=(newB f.toks ids x t&&datR f x t):=by
 unfold datB datR lieB
 rw[Bool.eq_iff_iff]
 simp only[Bool.and_eq_true,decide_eq_true_eq]
 constructor
 ·rintro⟨⟨⟨⟨⟨h1,h2⟩,h3⟩,h4⟩,h5⟩,h6⟩
  have:=sz_num h4
  exact⟨h1,h2,⟨⟨h3,h4,by omega,by omega⟩,h5⟩,h6⟩
 ·rintro⟨h1,h2,⟨⟨h3,h4,_⟩,h5⟩,h6⟩
  exact⟨⟨⟨⟨⟨h1,h2⟩,h3⟩,h4⟩,h5⟩,h6⟩
theorem rowB_iff (hr:x.tk.since<=x.row):rowB f x t=true↔((x.tk.op=4->t.since=x.tk.since)/\(x.tk.op≠4->x.tk.since<=t.since/\x.row<=t.since/\t.since<=f.ver)):=by
 unfold rowB bet
 by_cases h:x.tk.op=4
 ·simp[h]
 ·simp[h];omega
theorem blkB_iff:(blkB t&&bet t.siz 1 65535)=true↔(1<=t.siz/\t.siz<=65535/\0<=t.blk/\t.blk<=t.full/\t.full<=65535):=by
 unfold blkB bet
 simp
 omega
theorem plcB_iff (ho:x.tk.op=2\/x.tk.op=8\/x.tk.op=10\/x.tk.op=12):plcB x t=true↔(0<=t.siz/\t.siz<=65535/\0<=t.pres/\t.pres<=2)/\(x.tk.op=2->t.off=0) /\
  (x.tk.op=10\/x.tk.op=12->t.off=x.tk.off/\t.siz=x.tk.siz/\t.pres=x.tk.pres/\t.len=1/\(x.tk.op=10->t.prim≠9/\t.prim≠10)/\(x.tk.op=12->5<=t.prim/\t.prim<=8)) /\
  (x.tk.op=8->x.tk.off<=t.off/\t.off<=x.tk.off+x.tk.siz/\t.siz<=x.tk.off+x.tk.siz-t.off/\(0<t.siz->x.e0<=t.off)):=by
 unfold plcB codB memB bet
 rcases ho with h|h|h|h<;>simp[h]<;>omega
def encR (t:Tk):Bool:=bet t.len 1 65535&&(fitsP t.prim t.nul&&fitsP t.prim t.lo&&fitsP t.prim t.hi)&&(if t.pres=2 then decide (t.siz=0)&&decide ((t.cst.length:Int)=t.len)&&t.cst.all (fitsP t.prim) else decide (t.siz=t.len*sz t.prim)&&decide (t.cst.length=0))
theorem enc_split (x:Sc) (t:Tk):encB x t=(plcB x t&&encR t):=by unfold encB encR;simp only[Bool.and_assoc]
theorem nameIn_no {s:ByteArray}:nameIn l ks s=false↔∀ k∈ks,∀ u,l[k]?=some u->u.name≠s:=by
 unfold nameIn
 rw[List.any_eq_false]
 constructor
 ·intro h k hk u hu e
  have:=h k hk
  rw[hu] at this
  simp[e] at this
 ·intro h k hk
  cases hu:l[k]? with
  | none=>simp
  | some u=>simpa using h k hk u hu
theorem valIn_no {s:Int}:valIn l ks s=false↔∀ k∈ks,∀ u,l[k]?=some u->u.val≠s:=by
 unfold valIn
 rw[List.any_eq_false]
 constructor
 ·intro h k hk u hu e
  have:=h k hk
  rw[hu] at this
  simp[e] at this
 ·intro h k hk
  cases hu:l[k]? with
  | none=>simp
  | some u=>simpa using h k hk u hu
theorem cho_no (hk:x.kids=List.range' (x.at_+1) (i-(x.at_+1))):(nameIn l x.kids.tail t.name=false/\valIn l x.kids.tail t.val=false)↔∀ k,x.at_+2<=k->k<i->∀ u,l[k]?=some u->¬ (u.name=t.name\/u.val=t.val):=by
 have e:x.kids.tail=List.range' (x.at_+2) (i-(x.at_+2)):=by
  rw[hk]
  by_cases h:x.at_+1<i
  ·rw[show i-(x.at_+1)=(i-(x.at_+2))+1 by omega,List.range'_succ]
   rfl
  ·rw[show i-(x.at_+1)=0 by omega,show i-(x.at_+2)=0 by omega]
   rfl
 rw[nameIn_no,valIn_no,e]
 constructor
 ·rintro⟨h1,h2⟩ k hk1 hk2 u hu
  have hm:k∈List.range' (x.at_+2) (i-(x.at_+2)):=List.mem_range'_1.2 (by omega)
  exact fun e=>e.elim (h1 k hm u hu) (h2 k hm u hu)
 ·intro h
  refine⟨fun k hm u hu e=>?_,fun k hm u hu e=>?_⟩
  ·have:=List.mem_range'_1.1 hm
   exact h k (by omega) (by omega) u hu (.inl e)
  ·have:=List.mem_range'_1.1 hm
   exact h k (by omega) (by omega) u hu (.inr e)
theorem stg_met (hx:ScOk l i x) (ht:l[i]?=some t) (hm:mayB l x t.op=true) (he:edO t.op=false) :
  stgO l (metX x i t)=if t.op=4 then 1 else if t.op=6 then 2 else if tyO t.op then stgO l x+1 else stgO l x:=by
 have hl:lastOp l (metX x i t)=t.op:=by unfold lastOp metX;simp[ht]
 have hk:(metX x i t).kids=x.kids++[i]:=rfl
 have htk:(metX x i t).tk=x.tk:=rfl
 have h2:=may_typ hm he hx.beg
 unfold stgO
 rw[hl,hk,htk]
 rcases h2 with ⟨h0,hp,hle⟩|⟨h0,hz,hty⟩|⟨h0,hty⟩|⟨h0,⟨hz,h14⟩|⟨hz,h15⟩⟩
 ·rw[if_pos h0,if_pos h0]
  unfold ptO at hp
  have hp:=decT hp
  have hll:=last_par hx h0
  rcases hp with e|e|e
  ·rw[e]
   have:lastOp l x=0\/lastOp l x=2:=by omega
   rcases this with e|e<;>rw[e]<;>rfl
  ·rw[e];rfl
  ·rw[e];rfl
 ·have hy:=hty
  unfold tyO at hty
  have hty:=decT hty
  have a1:¬ (x.tk.op=0\/x.tk.op=4):=by omega
  have a2:¬ (x.tk.op=10\/x.tk.op=12):=by omega
  have a3:¬ t.op=4:=by omega
  have a4:¬ t.op=6:=by omega
  rw[if_neg a1,if_neg a2,if_neg a3,if_neg a4,if_pos hy,if_neg a1,if_neg a2]
  simp
 ·have hy:=hty
  unfold tyO at hty
  have hty:=decT hty
  have a1:¬ (x.tk.op=0\/x.tk.op=4):=by omega
  have a2:¬ (x.tk.op=10\/x.tk.op=12):=by omega
  have a3:¬ t.op=4:=by omega
  have a4:¬ t.op=6:=by omega
  rw[if_neg a1,if_neg a2,if_neg a3,if_neg a4,if_pos hy,if_neg a1,if_neg a2]
  simp
 ·have a1:¬ (x.tk.op=0\/x.tk.op=4):=by omega
  rw[h14,if_neg a1,if_pos h0,if_neg (by simp),if_neg (by decide),if_neg (by decide),if_pos (by decide),if_neg a1,if_pos h0]
  simp[hz]
 ·have a1:¬ (x.tk.op=0\/x.tk.op=4):=by omega
  rw[h15,if_neg a1,if_pos h0,if_neg (by simp),if_neg (by decide),if_neg (by decide),if_neg (by decide),if_neg a1,if_pos h0]
  simp[hz]
open Go.ChangeShapes Go.WideShapes Go.ChangeAt Go.RowKit Go.Shelf Go.Maps
theorem ld_new (w:World) (t:Tk) (pc:Option Addr) (cc:Nat):∃ W:World,(∀ z:Array Value,z.size=21->(Instr.storeAt 47 (.pointer (some ⟨w.heap.size,0,none⟩)) (tkV t pc cc)).run Tryz.prog (w.alloc (.cells z 47)) = .ok () W)/\TkC W w.heap.size 0 t pc cc/\Below w.heap.size w W/\W.heap.size=w.heap.size+1 :=
 ⟨w.alloc (tkO t pc cc),fun z hz=>st_new w z hz t pc cc,tk_of (heap_al _ _),bel1 _ _,World.size_alloc _ _⟩
theorem own_tk {W:World} {g:Nat} {pc:Option Addr} {cc:Nat} (h:TkC w g 0 t pc cc) (hg:g<w.heap.size) (hb:Below w.heap.size w W):TkC W g 0 t pc cc:=h.below hg hb
theorem Dt.at {c:Df} {x:Od} {vi:Value} (h:Dt w c f L x xt t ids vi) (hu:f.toks[k]?=some u):∃ pc cc,TkC w c.g (c.o+k*21) u pc cc/\URow w pc c.H u.cst/\u.cst.length<=cc/\TkOk u:=by
 obtain⟨g,o,pc,cc,e,_,h1,h2,h3,h4⟩:=h.tl.at hu
 cases e
 exact⟨pc,cc,h1,h2,h3,h4⟩
structure D0 (w:World) (c:Df) (f:Fm) (t:Tk) (vo vi:Value):Prop where
 ds:DsH w c.B f (some ⟨c.g,c.o,none⟩) c.cp vo vi
 tl:TkL w (some ⟨c.g,c.o,none⟩) c.H f.toks
 ht:f.toks[c.i]?=some t
 lg:c.g<w.heap.size
 sz:c.H<=w.heap.size
section
variable {w w':World} {c:Df} {f:Fm} {t:Tk} {vo vi:Value}
theorem D0.ll (h:D0 w c f t vo vi):f.toks.length<=733007751850:=by have:=h.tl.len;omega
theorem D0.il (h:D0 w c f t vo vi):c.i<f.toks.length:=(List.getElem?_eq_some_iff.1 h.ht).1
theorem D0.below (h:D0 w c f t vo vi) (hb:Below w.heap.size w w'):D0 w' c f t vo vi :=
 ⟨h.ds.same (hb.block _ h.ds.lt),h.tl.below (hb.mono h.sz),h.ht,Nat.lt_of_lt_of_le h.lg hb.size,Nat.le_trans h.sz hb.size⟩
theorem D0.at (h:D0 w c f t vo vi) (hu:f.toks[k]?=some u):∃ pc cc,TkC w c.g (c.o+k*21) u pc cc/\URow w pc w.heap.size u.cst/\u.cst.length<=cc/\TkOk u:=by
 obtain⟨g,o,pc,cc,e,_,h1,h2,h3,h4⟩:=h.tl.at hu
 cases e
 exact⟨pc,cc,h1,h2.mono h.sz,h3,h4⟩
theorem D0.tk (h:D0 w c f t vo vi):∃ pc cc,TkC w c.g (c.o+c.i*21) t pc cc/\URow w pc w.heap.size t.cst/\t.cst.length<=cc/\TkOk t:=h.at h.ht
theorem Dt.d0 {x:Od} (h:Dt w c f L x xt t ids vi):D0 w c f t (.slice (some ⟨c.go,0,none⟩) (L.length+1) c.cap) vi:=⟨h.ds,h.tl,h.ht,h.lg,h.sz⟩
end
theorem bgO_i64 {op:Int} (h:bgO op=true):IntKind.i64.wrap (op+1)=op+1:=by
 unfold bgO at h
 have:=decT h
 rw[IntKind.wrap_i64]
 omega
theorem lx_ld {ops:Array Oper} {Q:Exit->Act->World->Prop} {d:Option Tmp} {t:TypeId} {x:Operand} {ps:String} {af:Array Edge}
  (hl:∀ W,C W->(Instr.loadAt t p).run P W = .ok v W) (hx:a.eval x=p) (hw:Region.wanted ⟨d,.load t x,ty,ps,af,gd⟩ (yielded ops a.tmps)=true) (h:Lx P ops C Q r (a.put d v) w):Lx P ops C Q (⟨d,.load t x,ty,ps,af,gd⟩::r) a w :=
 lx_read hw rfl fun K hK=>⟨v,fun W hW=>by
  unfold Oper.quietAt execOp
  simp only[hx,hl W hW,Sem.run_bind,Result.andThen_ok,Sem.run_pure]
  exact⟨rfl,rfl⟩,hK _ h⟩
theorem lx_st {ops:Array Oper} {Q:Exit->Act->World->Prop} {d:Option Tmp} {t:TypeId} {x y:Operand} {ps:String} {af:Array Edge} {w':World}
  (hr:(Instr.storeAt t p v).run P w = .ok () w') (hC:C w') (hx:a.eval x=p) (hy:a.eval y=v) (hw:Region.wanted ⟨d,.store t x y,ty,ps,af,gd⟩ (yielded ops a.tmps)=true) (h:Lx P ops C Q r (a.put d undef) w'):Lx P ops C Q (⟨d,.store t x y,ty,ps,af,gd⟩::r) a w :=
 lx_act hw rfl fun K hK=>by
  unfold Oper.wp execOp
  simp only[hx,hy,hr,Sem.run_bind,Result.andThen_ok]
  exact hK _ _ hC h
theorem clsT (wr:World):∃ p:World->Prop,p wr.drew/\(∀ W,p W->Below wr.heap.size wr W)/\(∀ W,Below wr.heap.size wr W->p W)/\Nonempty (CW p)/\(∀ (g o:Nat),g<wr.heap.size->∀ θ:CW p,θ.w.cell? ⟨g,o,none⟩=wr.cell? ⟨g,o,none⟩) /\
  (∀ (g o:Nat) (t:Tk) (pc:Option Addr) (cc:Nat),g<wr.heap.size->TkC wr g o t pc cc->∀ W,(∃ θ:CW p,W=θ.w)->(Instr.loadAt 47 (.pointer (some ⟨g,o,none⟩))).run Tryz.prog W = .ok (tkV t pc cc) W) /\
  (∀ (f:FuncId) (ag:Array Value) (v:Value),(∀ W,Below wr.heap.size wr W->Calls Tryz.prog f ag W fun e w'=>e = .returned v/\Below W.heap.size W w')->∀ W,p W->Calls Tryz.prog f ag W fun e w'=>e = .returned v/\p w') :=
 ⟨Below wr.heap.size wr,drw (Below.refl _ _),fun _ h=>h,fun _ h=>h,⟨⟨_,Below.refl _ _⟩⟩,fun g o hg θ=>θ.h.cell (p:=⟨g,o,none⟩) hg,fun g o t pc cc hg h=>by rintro _ ⟨θ,rfl⟩;exact(h.below hg θ.h).load,fun _ _ _ h=>callB (Nat.le_refl _) h⟩
abbrev odV (x:Od):Value:=.agg #[.int .i64 (x.at_:Int),.int .i64 x.stg,.int .i64 x.en,.int .i64 x.snc,.int .i64 x.row]
theorem infoOd:(Tryz.prog.info? 67).map (·.size)=some 5:=by kernel_rfl
theorem odC_one (x:Od):∀ u∈odC x,u.oneCell'=true:=by
 intro u hu
 simp only[odC,List.mem_cons,List.not_mem_nil,or_false] at hu
 rcases hu with rfl|rfl|rfl|rfl|rfl<;>rfl
theorem od_new (w:World) (x:Od):∃ W:World,(∀ z:Array Value,z.size=5->(Instr.storeAt 67 (.pointer (some ⟨w.heap.size,0,none⟩)) (odV x)).run Tryz.prog (w.alloc (.cells z 67)) = .ok () W)/\OdC W w.heap.size 0 x/\Below w.heap.size w W/\W.heap.size=w.heap.size+1 :=
 ⟨w.alloc (.cells (odC x).toArray 67),fun z hz=>run_storeAt_new w 67 z (odC x).toArray infoOd hz (all_oneCell_toArray (odC_one x)),
  have hh:=fun k=>cell_at (heap_al w (.cells (odC x).toArray 67)) k
  ⟨hh 0,hh 1,hh 2,hh 3,hh 4⟩,bel1 _ _,World.size_alloc _ _⟩
theorem make_int (w:World) (n:Nat) (hn:n<=1000000000000):∃ w',(Instr.makeSlice 38 (.int .i64 0) (.int .i64 (n:Int))).run Tryz.prog w = .ok (.slice (some ⟨w.heap.size,0,none⟩) 0 n) w'/\NRow w' w.heap.size (.slice (some ⟨w.heap.size,0,none⟩) 0 n) []/\Below w.heap.size w w'/\w'.heap.size=w.heap.size+1:=by
 obtain⟨i,hi,hz⟩:=Option.map_eq_some_iff.1 infoInt
 simp only[Prod.mk.injEq] at hz
 have hr:=run_make (P:=Tryz.prog) w 38 3 i (.int .i64 0) Tryz.underlying38 hi hz.1 .i64 .i64 0 n (Int.le_refl _) (by omega) (by rw[hz.2.2];omega) (by omega)
 simp only[Int.toNat_zero,Int.toNat_natCast] at hr
 refine⟨_,hr,?_,bel1 _ _,by simp⟩
 rw[hz.2.1,Nat.mul_one]
 exact World.ownsRow_made w _ n (Nat.le_refl _) (by simp only[maxLen];omega) (by rw[size_madeCells,Nat.mul_one])
theorem stkD_length:∀ (l:List Tk) (st:List Nat),(stkD l st).length<=l.length+st.length
 | [],_=>by simp[stkD]
 | t::r,st=>by
  rw[stkD]
  have:=stkD_length r (camS st t).2
  have h2:(camS st t).2.length<=st.length+1:=by
   unfold camS
   split
   ·simp
    omega
   ·simp only
    split<;>simp
  simp only[List.length_cons]
  omega
theorem bs_int (k:Int) (W:World):(Instr.buildSlice 38 1 #[(0,.int .i64 k)]).run Tryz.prog W = .ok (.slice (some ⟨W.heap.size,0,none⟩) 1 1) (W.alloc (.cells #[.int .i64 k] 3)):=by kernel_rfl
theorem comings_any (f:Fm) (pp:Option Addr) (cp:Nat) (w:World) (hz:chkZ f=none) (tl:TkL w pp w.heap.size f.toks) (hlm:f.toks.length*192<=140737488351232) :
  Calls Tryz.prog 23 #[.slice pp f.toks.length cp] w fun e w'=>∃ v,e = .returned v/\NRow w' w.heap.size v (camZ f)/\Below w.heap.size w w':=by
 obtain⟨wm,hmk,hN,hbm,hsm⟩:=make_int w f.toks.length (by omega)
 have hbx:=bel1 wm (.cells #[.slice none 0 0,.slice (some ⟨w.heap.size,0,none⟩) 0 f.toks.length] 74)
 have H0:Hid (Hs (wm.alloc (.cells #[.slice none 0 0,.slice (some ⟨w.heap.size,0,none⟩) 0 f.toks.length] 74)) w.heap.size wm.heap.size (wm.heap.size+1) [] [] (.slice (some ⟨w.heap.size,0,none⟩) 0 f.toks.length)):=⟨⟨.slice none 0 0,heap_al _ _,NRow.nil _ _,hN.below hbx,fun k hk=>by simp[Value.ownBlock] at hk,fun k hk=>by simp[Value.ownBlock] at hk;omega,by omega,by simp[Value.ownBlock]⟩,by omega⟩
 have B0:Hid (Below w.heap.size w (wm.alloc (.cells #[.slice none 0 0,.slice (some ⟨w.heap.size,0,none⟩) 0 f.toks.length] 74))):=⟨hbm.trans (hbx.mono hbm.size)⟩
 have hll:f.toks.length<=733007751850:=by omega
 have hT:Hid _:=⟨tl⟩
 have hZ:Hid _:=⟨hz⟩
 replace hN:=Hid.mk hN
 replace hbm:=Hid.mk hbm
 clear hbx tl hz hlm
 generalize hh:wm.heap.size=h at H0 B0 hsm
 replace hsm:=Hid.mk hsm
 go_enter Tryz.func23,Tryz.ntmps23
 go_wp2_with fail
 go_loopw [13] (fun q wr=>∃ (j:Nat) (vc:Value),j<=f.toks.length/\q = .int .i64 (j:Int)/\Hid (Hs wr w.heap.size h wr.heap.size (stkD (f.toks.take j) []) (camF (f.toks.take j) []) vc/\Below w.heap.size w wr)) (fun q _=>f.toks.length-(RowKit.intOf q).toNat)
 case atStart=>exact⟨0,_,Nat.zero_le _,by go_num,⟨H0.out.any (Nat.le_refl _),B0.out⟩⟩
 case round =>
  clear H0 B0 hN hbm hmk hsm
  obtain⟨j,vc,hj,rfl,hI⟩:=hrel
  have hH:Hid _:=⟨hI.out.1⟩
  have hB:Hid _:=⟨hI.out.2⟩
  clear hI
  by_cases hlt:j<f.toks.length
  ·obtain⟨t,ht⟩:∃ t,f.toks[j]?=some t:=⟨f.toks[j],List.getElem?_eq_getElem hlt⟩
   obtain⟨gf,ofs,pc,cc,rfl,hgf,hTk,-,-⟩:=hT.out.row.c j t ht
   have hT1:=hTk.below hgf hB.out
   have l1:Hid _:=⟨hT1.load⟩
   obtain⟨W1,s1,hA,hb1,hz1⟩:=ld_new wr t pc cc
   have hji:(j:Int)<f.toks.length:=by omega
   have hop:=val_op hZ.out ht
   have hsi:=val_since hZ.out ht
   have hed:edO t.op=true->stkD (f.toks.take j) []≠[]:=fun he=>by
    rw[stk_open hZ.out j hj]
    rcases val_tok hZ.out ht with ⟨_,_,x,o,e,_⟩|⟨e,_⟩|⟨e,_⟩
    ·rw[e];simp
    ·rw[e] at he;cases he
    ·rw[e] at he;cases he
   have hsl:(stkD (f.toks.take j) []).length+1<=1000000000000:=by
    have:=stkD_length (f.toks.take j) []
    rw[List.length_take] at this
    simp at this
    omega
   have hcl:(camF (f.toks.take j) []).length+1<=1000000000000:=by rw[camF_length,List.length_take];omega
   have H1:=hH.out.below hb1
   have hw1:w.heap.size<=W1.heap.size:=Nat.le_trans hB.out.size hb1.size
   have htb:wr.heap.size<W1.heap.size:=by omega
   have cP:=pPass_any (H1.below (Below.refl _ _).drew) t pc cc hsl hw1 htb hop hsi.1 hed
   have es:stkD (f.toks.take (j+1)) []=(camS (stkD (f.toks.take j) []) t).2:=stkD_succ ht []
   have ec:camF (f.toks.take (j+1)) []=camF (f.toks.take j) []++[(camS (stkD (f.toks.take j) []) t).1]:=by rw[take_snoc ht,camF_append];rfl
   obtain⟨R,hR⟩:∃ R,camS (stkD (f.toks.take j) []) t=R:=⟨_,rfl⟩
   rw[hR] at cP es ec
   generalize hst:stkD (f.toks.take j) []=st at *
   generalize hcs:camF (f.toks.take j) []=cs at *
   obtain⟨rc,rs⟩:=R
   simp only at cP es ec
   have hES:Hid (stkD (f.toks.take (j+1)) []=rs/\camF (f.toks.take (j+1)) []=cs++[rc]):=⟨es,ec⟩
   have hcell:∀ (V:World) (tb:Nat) (s2:List Nat),Hs V w.heap.size h tb s2 cs vc->V.cell? ⟨h,1,none⟩=some vc:=fun V tb s2 hV=>by
    obtain⟨vo,h1,-⟩:=hV.c
    exact cell_at h1 1
   obtain⟨p,pI,pN,k1,LT⟩:∃ p:World->Prop,(∀ V,V.cell? ⟨h,1,none⟩=some vc->V.heap[wr.heap.size]?=W1.heap[wr.heap.size]?->p V)/\Nonempty (CW p)/\(∀ θ:CW p,θ.w.cell? ⟨h,1,none⟩=some vc)/\(∀ V,(∃ θ:CW p,V=θ.w)->(Instr.loadAt 47 (.pointer (some ⟨wr.heap.size,0,none⟩))).run Tryz.prog V = .ok (tkV t pc cc) V) :=
    ⟨fun V=>V.cell? ⟨h,1,none⟩=some vc/\V.heap[wr.heap.size]?=W1.heap[wr.heap.size]?,fun V h1 h2=>⟨h1,h2⟩,⟨⟨W1,hcell _ _ _ H1,rfl⟩⟩,fun θ=>θ.h.1,fun V hV=>by obtain⟨θ,rfl⟩:=hV;exact(hA.same θ.h.2).load⟩
   have vcT:vc.ownBlock≠some wr.heap.size:=fun e=>by
    obtain⟨vo,-,-,h3,-⟩:=hH.out.c
    have:=(h3.ltP _ e).2
    omega
   have p0:p W1.drew:=pI _ (hcell _ _ _ (H1.below (Below.refl _ _).drew)) rfl
   have GO:Hid (∀ w2,Hs w2 w.heap.size h wr.heap.size rs cs vc->Below w.heap.size W1.drew w2->w2.heap[wr.heap.size]?=W1.drew.heap[wr.heap.size]?->p w2/\p (w2.alloc (.cells #[.int .i64 (rc:Int)] 3))/\∃ v' w',(∀ ty,(Builtin.append_ #[38,38] ty #[vc,.slice (some ⟨w2.heap.size,0,none⟩) 1 1]).run Tryz.prog (w2.alloc (.cells #[.int .i64 (rc:Int)] 3)) = .ok v' w')/\((∃ pv cv nv,v' = .slice pv nv cv)/\p w'/\Hid (w'.cell? ⟨h,1,none⟩=some vc/\w'.frozen? ⟨h,1,none⟩=false/\Hs (w'.setCell ⟨h,1,none⟩ v') w.heap.size h (w'.setCell ⟨h,1,none⟩ v').heap.size rs (cs++[rc]) v'/\Below w.heap.size w (w'.setCell ⟨h,1,none⟩ v')))):=⟨fun w2 q1 q2 q3=>by
    have hl2:=q1.lt
    have c1:=hcell _ _ _ q1
    have hbh:=q1.b
    have hs2:W1.heap.size<=w2.heap.size:=q2.size
    have hb2:=bel1 w2 (.cells #[.int .i64 (rc:Int)] 3)
    obtain⟨vo,h1,h2,h3,h4,h5,h6,h7⟩:=q1.c
    obtain⟨v',w',a1,a2,a3,a4,a5⟩:=i_apP rc h3 hcl (Nat.le_trans hw1 hs2)
    have htl:wr.heap.size<w2.heap.size:=Nat.lt_of_lt_of_le htb hs2
    have e1:w'.heap[h]?=some (.cells #[vo,vc] 74):=(a4 h hl2 fun e=>h5 h e rfl).trans h1
    have hBw:Below w.heap.size w w2:=(hB.out.trans (hb1.mono hB.out.size)).drew.trans q2
    refine⟨pI _ c1 q3,pI _ ((hb2.cell (p:=⟨h,1,none⟩) hl2).trans c1) ((hb2.block _ htl).trans q3),v',w',a1,?_,pI _ (cell_at e1 1) ?_,⟨cell_at e1 1,frz_at e1,?_,?_⟩⟩
    ·obtain⟨pv,cv,rfl,-⟩:=a2.shape
     exact⟨pv,cv,_,rfl⟩
    ·exact(a4 _ htl fun e=>vcT e).trans q3
    ·refine Hs.any (Hs.setC (tb:=wr.heap.size) hbh e1 (h2.keepP fun k hk=>a4 k (h2.ltP k hk).2 fun e=>(h4 k hk).2 e) a2 (fun k hk=>⟨(h4 k hk).1,fun e=>?_⟩) (fun k hk=>?_) h6 h7) (Nat.le_refl _)
     ·rcases a5 k e with e|e
      ·exact(h4 k hk).2 e
      ·have:=(h2.ltP k hk).2;omega
     ·rcases a5 k hk with e|e
      ·exact h5 k e
      ·omega
    ·exact(hBw.trans a3).setCell (p:=⟨h,1,none⟩) hbh _⟩
   obtain⟨pv0,cv0,rfl⟩:∃ pv0 cv0,vc = .slice pv0 cs.length cv0:=by
    obtain⟨vo,-,-,h3,-⟩:=hH.out.c
    obtain⟨pv0,cv0,e,-⟩:=h3.shape
    exact⟨pv0,cv0,e⟩
   have cP':Hid (Calls Tryz.prog 37 #[.pointer (some ⟨h,0,none⟩),tkV t pc cc] W1.drew fun e w'=>∃ v,e = .returned v/\(v = .int .i64 (rc:Int)/\Hid (Hs w' w.heap.size h wr.heap.size rs cs (.slice pv0 cs.length cv0)/\Below w.heap.size W1.drew w'/\w'.heap[wr.heap.size]?=W1.drew.heap[wr.heap.size]?))):=⟨cP.mono fun e w' hP=>⟨_,hP.1,rfl,⟨hP.2⟩⟩⟩
   replace s1:=Hid.mk s1
   replace hA:=Hid.mk hA
   replace hz1:=Hid.mk hz1
   replace H1:=Hid.mk H1
   clear hT1 hTk cP hcell hed hsl hcl es ec hR hst hcs hop hsi htb hw1 vcT ht
   replace hb1:=Hid.mk hb1
   go_wp2_with (first
    | (guard_target =~ wpList _ _ _ (Oper.mk _ (Op.load 47 _) _ _ _ _::_) _ _;go_must (refine wpList_ld 47 _ rfl rfl _ _ rfl l1.out ?_);simp only[pts])
    | (guard_target =~ wpList _ _ _ (Oper.mk _ (Op.store 47 _ _) _ _ _ _::_) _ _;go_must (refine wpList_st 47 _ _ rfl rfl _ _ rfl rfl (s1.out _ rfl) ?_);simp only[pts]))
   refine wp_region_lw 12 (fun V=>∃ θ:CW p,V=θ.w) (by kernel_rfl) (by kernel_rfl) (fun _ _ d _ _ h=>by cases d<;>exact h) ⟨⟨_,p0⟩,rfl⟩ ?_
   repeat (first|(refine lw_ld LT rfl (by rfl) ?_;simp only[pts])|(refine lw_one rfl ?_;(first|go_big_quiet_skip|(go_big_quiet_want;go_big_quiet_op;go_big_quiet_on));refine wpQuiet_nil ?_))
   refine lw_call2 ent_pPass cP'.out rfl rfl (by rfl) (fun v w2 hR=>?_)
   obtain⟨rfl,hR⟩:=hR
   obtain⟨g1,g2,g3⟩:=GO.out w2 hR.out.1 hR.out.2.1 hR.out.2.2
   refine⟨⟨⟨_,g1⟩,rfl⟩,?_⟩
   simp only[pts]
   refine lw_bs1 (bs_int _ w2) ⟨⟨_,g2⟩,rfl⟩ rfl (by rfl) ?_
   simp only[pts]
   refine lw_ap g3 rfl rfl (by rfl) (fun v' w3 hP=>?_)
   obtain⟨⟨pv,cv,nv,rfl⟩,g4,hF⟩:=hP
   refine⟨⟨⟨_,g4⟩,rfl⟩,?_⟩
   simp only[pts]
   repeat (refine lw_one rfl ?_;(first|go_big_quiet_skip|(go_big_quiet_want;go_big_quiet_op;go_big_quiet_on));refine wpQuiet_nil ?_)
   refine lw_st (st_il hF.out.1 hF.out.2.1) rfl rfl (by rfl) ?_
   have hG:Hid _:=⟨hF.out.2.2⟩
   clear hF g1 g2 g3 g4 hR
   go_wp2_with fail
   go_roundw
   case rel=>exact⟨j+1,_,by omega,by go_num,⟨by rw[hES.out.1,hES.out.2];exact hG.out.1,hG.out.2⟩⟩
   case measure=>simp[RowKit.intOf];omega
  ·obtain rfl:j=f.toks.length:=by omega
   have d3:decide ((f.toks.length:Int)<f.toks.length)=false:=by simp
   have hF:=hH.out
   rw[List.take_length] at hF
   obtain⟨vo,h1,h2,h3,-⟩:=hF.c
   have c1:wr.cell? ⟨h,1,none⟩=some vc:=cell_at h1 1
   have h3':Hid _:=⟨h3⟩
   obtain⟨pv,cv,rfl,-⟩:=h3.shape
   clear h1 h2 h3 hF hlt hj
   go_wp2_with fail
   go_ret
   exact⟨_,rfl,h3'.out,hB.out⟩
end Go.Proofs.YtkcjdncchoohoaaGreatDoor
