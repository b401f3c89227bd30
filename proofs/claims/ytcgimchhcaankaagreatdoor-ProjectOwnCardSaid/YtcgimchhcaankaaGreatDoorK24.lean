import Derived.Test.YtcgimchhcaankaaGreatDoorK23
namespace Go.Proofs.YtcgimchhcaankaaGreatDoor
def stgO (l:List Tk) (s:Sc):Int:=if s.tk.op=0\/s.tk.op=4 then (if lastOp l s=4 then 1 else if lastOp l s=6 then 2 else 0) else if s.tk.op=10\/s.tk.op=12 then (if s.kids.length=0 then 0 else 1) else (s.kids.length:Int)
def mayD (xo stage op:Int):Bool :=
 if xo=0\/xo=4 then decide ((op=2/\stage=0)\/(op=4/\stage<=1)\/op=6)
 else if xo=2 then decide (stage=0)&&tyO op
 else if xo=8 then tyO op
 else if xo=10\/xo=12 then decide ((stage=0/\op=14)\/(0<stage/\op=15))
 else false
theorem last_par {l:List Tk} {i:Nat} {s:Sc} (h:ScOk l i s) (ho:s.tk.op=0\/s.tk.op=4):lastOp l s=0\/lastOp l s=2\/lastOp l s=4\/lastOp l s=6:=by
 unfold lastOp
 cases hk:s.kids.getLast? with
 | none=>exact .inl rfl
 | some k =>
  obtain⟨t,ht,hp⟩:=h.par ho k (List.mem_of_getLast? hk)
  dsimp only
  rw[ht]
  unfold ptO at hp
  have:=decT hp
  show t.op=0\/t.op=2\/t.op=4\/t.op=6
  omega
theorem may_doc {l:List Tk} {i:Nat} {s:Sc} {op:Int} (h:ScOk l i s) (he:edO op=false):mayD s.tk.op (stgO l s) op=mayB l s op:=by
 have hne:¬ op=s.tk.op+1:=fun e=>by rw[e,edO_succ h.beg] at he;cases he
 have hb:=h.beg
 unfold bgO at hb
 have hb:=decT hb
 rw[Bool.eq_iff_iff]
 unfold mayD mayB stgO
 by_cases h0:s.tk.op=0\/s.tk.op=4
 ·rw[if_pos h0,if_pos h0,if_pos h0]
  have hl:=last_par h h0
  unfold ptO
  simp only[decide_eq_true_eq,Bool.or_eq_true,Bool.and_eq_true]
  rcases hl with e|e|e|e<;>rw[e]<;>simp<;>omega
 rw[if_neg h0,if_neg h0,if_neg h0]
 by_cases h10:s.tk.op=10\/s.tk.op=12
 ·have n2:¬ s.tk.op=2:=by omega
  have n8:¬ s.tk.op=8:=by omega
  rw[if_neg n2,if_neg n2,if_neg n8,if_pos h10,if_pos h10,if_pos h10]
  by_cases hk:s.kids.length=0
  ·simp[hk]
  ·simp[hk,hne]
 rw[if_neg h10,if_neg h10,if_neg h10]
 by_cases h2:s.tk.op=2
 ·rw[if_pos h2,if_pos h2]
  simp only[decide_eq_true_eq,Bool.or_eq_true,Bool.and_eq_true]
  constructor
  ·rintro⟨h5,h6⟩;exact .inl ⟨by omega,h6⟩
  ·rintro(⟨h5,h6⟩|⟨_,h6⟩)
   ·exact⟨by omega,h6⟩
   ·exact absurd h6 hne
 rw[if_neg h2,if_neg h2]
 by_cases h8:s.tk.op=8
 ·rw[if_pos h8,if_pos h8]
  simp only[decide_eq_true_eq,Bool.or_eq_true]
  exact⟨.inl,fun e=>e.elim id (fun e=>absurd e hne)⟩
 ·rw[if_neg h8,if_neg h8]
  simp[hne]
open Go.ChangeShapes Go.WideShapes Go.ChangeAt Go.RowKit Go.Shelf Go.Maps
structure Od where
 at_:Nat
 stg:Int
 en:Int
 snc:Int
 row:Int
def odOf (l:List Tk) (s:Sc):Od:=⟨s.at_,stgO l s,s.e0,s.fld,s.row⟩
def odC (s:Od):List Value:=[.int .i64 (s.at_:Int),.int .i64 s.stg,.int .i64 s.en,.int .i64 s.snc,.int .i64 s.row]
def odCs (l:List Od):List Value:=l.flatMap odC
theorem odCs_length (l:List Od):(odCs l).length=l.length*5:=by
 induction l with
 | nil=>rfl
 | cons a r ih =>
  unfold odCs at ih ⊢
  rw[List.flatMap_cons,List.length_append,ih,List.length_cons]
  show 5+_=_
  omega
theorem odCs_append (a b:List Od):odCs (a++b)=odCs a++odCs b:=by unfold odCs;rw[List.flatMap_append]
structure OdC (w:World) (go k:Nat) (x:Od):Prop where
 c0:w.cell? ⟨go,k,none⟩=some (.int .i64 (x.at_:Int))
 c1:w.cell? ⟨go,k+1,none⟩=some (.int .i64 x.stg)
 c2:w.cell? ⟨go,k+2,none⟩=some (.int .i64 x.en)
 c3:w.cell? ⟨go,k+3,none⟩=some (.int .i64 x.snc)
 c4:w.cell? ⟨go,k+4,none⟩=some (.int .i64 x.row)
theorem OdC.same {w w':World} {go k:Nat} {x:Od} (h:OdC w go k x) (hb:w'.heap[go]?=w.heap[go]?):OdC w' go k x :=
 ⟨(cell_blk hb).trans h.c0,(cell_blk hb).trans h.c1,(cell_blk hb).trans h.c2,(cell_blk hb).trans h.c3,(cell_blk hb).trans h.c4⟩
structure OdR (w:World) (go cap:Nat) (l:List Od):Prop where
 ex:∃ cur:Array Value,w.heap[go]?=some (.cells cur 63 (0,0))/\l.length<=cap/\cap<=maxLen/\cur.size=cap*5/\cur.toList.take (l.length*5)=odCs l
theorem OdR.same {w w':World} {go cap:Nat} {l:List Od} (h:OdR w go cap l) (hb:w'.heap[go]?=w.heap[go]?):OdR w' go cap l:=by
 obtain⟨cur,h1,r⟩:=h.ex
 exact⟨cur,hb.trans h1,r⟩
theorem OdR.lt {w:World} {go cap:Nat} {l:List Od} (h:OdR w go cap l):go<w.heap.size:=by
 obtain⟨cur,h1,_⟩:=h.ex
 exact(Array.getElem?_eq_some_iff.1 h1).1
theorem OdR.cap {w:World} {go cap:Nat} {l:List Od} (h:OdR w go cap l):l.length<=cap:=by
 obtain⟨cur,_,h1,_⟩:=h.ex
 exact h1
theorem OdR.owns {w:World} {go cap:Nat} {l:List Od} (h:OdR w go cap l) {base:Nat} (hb:base<=go):w.ownsRow base 63 5 (.slice (some ⟨go,0,none⟩) l.length cap) l.length (odCs l):=by
 obtain⟨cur,h1,h2,h3,h4,h5⟩:=h.ex
 exact⟨odCs_length l,.inr ⟨go,cap,cur,rfl,hb,h1,h2,h3,h4,h5⟩⟩
theorem OdR.cell {w:World} {go cap:Nat} {l:List Od} (h:OdR w go cap l) {j:Nat} {u:Value} (hu:(odCs l)[j]?=some u):w.cell? ⟨go,j,none⟩=some u:=by
 obtain⟨cur,h1,h2,h3,h4,h5⟩:=h.ex
 rw[<- h5,List.getElem?_take] at hu
 split at hu
 ·simp only[World.cell?,h1]
  simpa using hu
 ·cases hu
theorem OdR.less {w:World} {go cap:Nat} {L M:List Od} (h:OdR w go cap (L++M)):OdR w go cap L:=by
 obtain⟨cur,h1,h2,h3,h4,h5⟩:=h.ex
 rw[List.length_append] at h2
 refine⟨cur,h1,by omega,h3,h4,?_⟩
 have:=congrArg (List.take (L.length*5)) h5
 rw[List.take_take,odCs_append,List.take_left' (odCs_length L)] at this
 rw[<- this,List.length_append]
 congr 1
 omega
theorem odCs_last (L:List Od) (x:Od) (j:Nat) (hj:j<5):(odCs (L++[x]))[L.length*5+j]?=(odC x)[j]?:=by
 rw[odCs_append,List.getElem?_append_right (by rw[odCs_length];omega),odCs_length]
 rw[show L.length*5+j-L.length*5=j by omega]
 unfold odCs
 rw[List.flatMap_cons,List.flatMap_nil,List.append_nil]
theorem OdR.last {w:World} {go cap:Nat} {L:List Od} {x:Od} (h:OdR w go cap (L++[x])):OdC w go (L.length*5) x :=
 have c:=fun j u (hj:j<5) (hu:(odC x)[j]?=some u)=>h.cell ((odCs_last L x j hj).trans hu)
 ⟨c 0 _ (by decide) rfl,c 1 _ (by decide) rfl,c 2 _ (by decide) rfl,c 3 _ (by decide) rfl,c 4 _ (by decide) rfl⟩
theorem OdR.at {w:World} {go cap:Nat} {l:List Od} (h:OdR w go cap l) {k:Nat} {x:Od} (hk:l[k]?=some x):OdC w go (k*5) x:=by
 obtain⟨h1,h2⟩:=List.getElem?_eq_some_iff.1 hk
 have e:l=(l.take k++[x])++l.drop (k+1):=by
  rw[<- take_at hk,List.take_append_drop]
 rw[e] at h
 have:=h.less.last
 rwa [List.length_take,Nat.min_eq_left (by omega)] at this
theorem OdR.set {w:World} {go cap:Nat} {L:List Od} {x x':Od} {j:Nat} {v:Value} (h:OdR w go cap (L++[x])) (hj:j<5) (hx:odC x'=(odC x).set j v):OdR (w.setCell ⟨go,L.length*5+j,none⟩ v) go cap (L++[x']):=by
 obtain⟨cur,h1,h2,h3,h4,h5⟩:=h.ex
 have hl:(L++[x]).length=(L++[x']).length:=by simp
 refine⟨cur.setIfInBounds (L.length*5+j) v,?_,by rw[<- hl];exact h2,h3,by rw[Array.size_setIfInBounds];exact h4,?_⟩
 ·show (w.heap.modify go _)[go]?=_
  rw[Array.getElem?_modify,if_pos rfl,h1]
  rfl
 ·rw[Array.toList_setIfInBounds,List.take_set,<- hl,h5,odCs_append,odCs_append,List.set_append_right _ _ (by rw[odCs_length];omega),odCs_length]
  rw[show L.length*5+j-L.length*5=j by omega]
  congr 1
  unfold odCs
  rw[List.flatMap_cons,List.flatMap_nil,List.append_nil,List.flatMap_cons,List.flatMap_nil,List.append_nil,hx]
theorem OdR.frz {w:World} {go cap:Nat} {l:List Od} (h:OdR w go cap l) (j:Nat):w.frozen? ⟨go,j,none⟩=false:=by
 obtain⟨cur,h1,_⟩:=h.ex
 simp[World.frozen?,h1]
def dsA (f:Fm) (pp:Option Addr) (cp:Nat) (vo vi:Value):Array Value:=#[.int .i64 f.ord,.int .i64 f.sch,.int .i64 f.ver,.int .i64 f.hsz,.int .i64 f.hb.p,.int .i64 f.hb.o,.int .i64 f.ht.p,.int .i64 f.ht.o,.int .i64 f.hs.p,.int .i64 f.hs.o,.int .i64 f.hv.p,.int .i64 f.hv.o,.slice pp f.toks.length cp,vo,vi]
def DsH (w:World) (B:Nat) (f:Fm) (pp:Option Addr) (cp:Nat) (vo vi:Value):Prop:=w.heap[B]?=some (.cells (dsA f pp cp vo vi) 59 (0,0))
section
variable {w:World} {B:Nat} {f:Fm} {pp:Option Addr} {cp:Nat} {vo vi:Value}
theorem DsH.lt (h:DsH w B f pp cp vo vi):B<w.heap.size:=(Array.getElem?_eq_some_iff.1 h).1
theorem DsH.cell (h:DsH w B f pp cp vo vi) (k:Nat):w.cell? ⟨B,k,none⟩=(dsA f pp cp vo vi)[k]?:=cell_at h k
theorem DsH.fm (h:DsH w B f pp cp vo vi):FmC w B 0 f pp cp:=⟨h.cell 0,h.cell 1,h.cell 2,h.cell 3,h.cell 4,h.cell 5,h.cell 6,h.cell 7,h.cell 8,h.cell 9,h.cell 10,h.cell 11,h.cell 12⟩
theorem DsH.c12 (h:DsH w B f pp cp vo vi):w.cell? ⟨B,12,none⟩=some (.slice pp f.toks.length cp):=h.cell 12
theorem DsH.c13 (h:DsH w B f pp cp vo vi):w.cell? ⟨B,13,none⟩=some vo:=h.cell 13
theorem DsH.c14 (h:DsH w B f pp cp vo vi):w.cell? ⟨B,14,none⟩=some vi:=h.cell 14
theorem DsH.frz (h:DsH w B f pp cp vo vi) (k:Nat):w.frozen? ⟨B,k,none⟩=false:=by
 unfold DsH at h
 simp[World.frozen?,h]
theorem DsH.same {w':World} (h:DsH w B f pp cp vo vi) (hb:w'.heap[B]?=w.heap[B]?):DsH w' B f pp cp vo vi:=hb.trans h
theorem DsH.put (h:DsH w B f pp cp vo vi) (k:Nat) (v:Value):(w.setCell ⟨B,k,none⟩ v).heap[B]?=some (.cells ((dsA f pp cp vo vi).setIfInBounds k v) 59 (0,0)):=by
 show (w.heap.modify B _)[B]?=_
 unfold DsH at h
 rw[Array.getElem?_modify,if_pos rfl,h]
 rfl
theorem DsH.setO (h:DsH w B f pp cp vo vi) (v:Value):DsH (w.setCell ⟨B,13,none⟩ v) B f pp cp v vi:=h.put 13 v
theorem DsH.setI (h:DsH w B f pp cp vo vi) (v:Value):DsH (w.setCell ⟨B,14,none⟩ v) B f pp cp vo v:=h.put 14 v
end
def idC (l:List Int):List Value:=l.map (Value.int .i64 ·)
structure Df where
 B:Nat
 go:Nat
 cap:Nat
 g:Nat
 o:Nat
 cp:Nat
 H:Nat
 i:Nat
structure Dap (c:Df) (vi:Value):Prop where
 g:c.g<c.H
 B:c.H<=c.B
 go:c.H<=c.go
 Bo:c.B≠c.go
 iB:vi.ownBlock≠some c.B
 io:vi.ownBlock≠some c.go
structure Dt (w:World) (c:Df) (f:Fm) (L:List Od) (x:Od) (xt t:Tk) (ids:List Int) (vi:Value):Prop where
 ds:DsH w c.B f (some ⟨c.g,c.o,none⟩) c.cp (.slice (some ⟨c.go,0,none⟩) (L.length+1) c.cap) vi
 op:OdR w c.go c.cap (L++[x])
 ir:w.ownsRow c.H 3 1 vi ids.length (idC ids)
 tl:TkL w (some ⟨c.g,c.o,none⟩) c.H f.toks
 hx:f.toks[x.at_]?=some xt
 ht:f.toks[c.i]?=some t
 ap:Dap c vi
 sz:c.H<=w.heap.size
 ln:L.length<1000000000000
section
variable {w w':World} {c:Df} {f:Fm} {L:List Od} {x x':Od} {xt t:Tk} {ids:List Int} {vi:Value}
theorem Dt.lg (h:Dt w c f L x xt t ids vi):c.g<w.heap.size:=Nat.lt_of_lt_of_le h.ap.g h.sz
theorem Dt.ll (h:Dt w c f L x xt t ids vi):f.toks.length<=733007751850:=by have:=h.tl.len;omega
theorem Dt.il (h:Dt w c f L x xt t ids vi):c.i<f.toks.length:=(List.getElem?_eq_some_iff.1 h.ht).1
theorem Dt.xl (h:Dt w c f L x xt t ids vi):x.at_<f.toks.length:=(List.getElem?_eq_some_iff.1 h.hx).1
theorem Dt.below (h:Dt w c f L x xt t ids vi) (hb:Below w.heap.size w w'):Dt w' c f L x xt t ids vi :=
 ⟨h.ds.same (hb.block _ h.ds.lt),h.op.same (hb.block _ h.op.lt),own_alloc2 h.ir hb,h.tl.below (hb.mono h.sz),h.hx,h.ht,h.ap,Nat.le_trans h.sz hb.size,h.ln⟩
theorem Dt.tk (h:Dt w c f L x xt t ids vi):∃ pc cc,TkC w c.g (c.o+c.i*21) t pc cc/\URow w pc c.H t.cst/\t.cst.length<=cc/\TkOk t:=by
 obtain⟨g,o,pc,cc,e,_,h1,h2,h3,h4⟩:=h.tl.at h.ht
 cases e
 exact⟨pc,cc,h1,h2,h3,h4⟩
theorem Dt.xk (h:Dt w c f L x xt t ids vi):∃ pc cc,TkC w c.g (c.o+x.at_*21) xt pc cc/\TkOk xt:=by
 obtain⟨g,o,pc,cc,e,_,h1,_,_,h4⟩:=h.tl.at h.hx
 cases e
 exact⟨pc,cc,h1,h4⟩
theorem Dt.sc (h:Dt w c f L x xt t ids vi):OdC w c.go (L.length*5) x:=h.op.last
theorem Dt.wrote (h:Dt w c f L x xt t ids vi) {j:Nat} {v:Value} (hj:j<5) (hx:odC x'=(odC x).set j v) (ha:x'.at_=x.at_):Dt (w.setCell ⟨c.go,L.length*5+j,none⟩ v) c f L x' xt t ids vi:=by
 have hb:Kb [c.go] w (w.setCell ⟨c.go,L.length*5+j,none⟩ v):=(Kb.refl _ _).set (List.mem_singleton.2 rfl) v
 have a:=h.ap
 have nl:∀ k,k<c.H->k∉[c.go]:=fun k hk e=>by have:=a.go;have:=List.mem_singleton.1 e;omega
 refine⟨h.ds.same (hb.block _ h.ds.lt (notin1 a.Bo)),h.op.set hj hx,?_,⟨h.tl.row.same fun k hk=>hb.block k (Nat.lt_of_lt_of_le hk h.sz) (nl k hk),h.tl.len,h.tl.ok⟩,by rw[ha];exact h.hx,h.ht,h.ap,Nat.le_trans h.sz hb.size,h.ln⟩
 refine⟨h.ir.1,?_⟩
 rcases h.ir.2 with h0|⟨g,cap,cur,e,hb',hg,r⟩
 ·exact .inl h0
 ·refine .inr ⟨g,cap,cur,e,hb',(hb.block g (Array.getElem?_eq_some_iff.1 hg).1 (notin1 fun e'=>?_)).trans hg,r⟩
  apply a.io
  rw[e,e']
  rfl
end
abbrev sp0:Sp:=⟨0,0⟩
def maskD (t:Tk):Tk :=
 if t.op=0 then ⟨t.op,t.name,t.id,0,0,t.since,0,0,0,0,0,0,[],0,t.blk,t.full,sp0,sp0,t.pair⟩ else
 if t.op=4 then ⟨t.op,t.name,t.id,0,t.siz,t.since,0,0,0,0,0,0,[],0,t.blk,t.full,t.a,t.b,t.pair⟩ else
 if t.op=2 then ⟨t.op,t.name,t.id,t.off,t.siz,t.since,0,0,t.pres,0,0,0,t.cst,0,0,0,sp0,sp0,t.pair⟩ else
 if t.op=6 then ⟨t.op,t.name,t.id,0,t.siz,t.since,t.prim,0,0,0,0,0,[],0,0,0,t.a,sp0,t.pair⟩ else
 if t.op=8 then ⟨t.op,t.name,0,t.off,t.siz,0,0,0,0,0,0,0,[],0,0,0,sp0,sp0,t.pair⟩ else
 if t.op=10\/t.op=12 then ⟨t.op,t.name,0,t.off,t.siz,0,0,0,t.pres,0,0,0,[],0,0,0,sp0,sp0,t.pair⟩ else
 if t.op=14 then ⟨t.op,t.name,0,t.off,t.siz,0,t.prim,t.len,t.pres,t.nul,t.lo,t.hi,t.cst,0,0,0,sp0,sp0,t.pair⟩ else
 if t.op=15 then ⟨t.op,t.name,0,0,0,t.since,0,0,0,0,0,0,[],t.val,0,0,sp0,sp0,t.pair⟩ else
 ⟨t.op,t.name,0,0,0,0,0,0,0,0,0,0,[],0,0,0,sp0,sp0,t.pair⟩
theorem maskD_iff (t:Tk):maskD t=t↔plainB t=true:=by
 obtain⟨op,nm,id,off,siz,si,pr,len,ps,nul,lo,hi,cst,val,blk,full,⟨ap,ao⟩,⟨bp,bo⟩,pair⟩:=t
 unfold maskD plainB nzs mays
 simp only
 by_cases h0:op=0
 ·subst h0;simp[subB];constructor<;>intro h<;>simp_all<;>(try omega)
 by_cases h4:op=4
 ·subst h4;simp[subB];constructor<;>intro h<;>simp_all<;>(try omega)
 by_cases h2:op=2
 ·subst h2;simp[subB];constructor<;>intro h<;>simp_all<;>(try omega)
 by_cases h6:op=6
 ·subst h6;simp[subB];constructor<;>intro h<;>simp_all<;>(try omega)
 by_cases h8:op=8
 ·subst h8;simp[subB];constructor<;>intro h<;>simp_all<;>(try omega)
 by_cases h10:op=10\/op=12
 ·rcases h10 with h|h<;>· subst h;simp[subB];constructor<;>intro h<;>simp_all<;>(try omega)
 by_cases h14:op=14
 ·subst h14;simp[subB];constructor<;>intro h<;>simp_all<;>(try omega)
 by_cases h15:op=15
 ·subst h15;simp[subB];constructor<;>intro h<;>simp_all<;>(try omega)
 simp only[h0,h4,h2,h6,h8,h10,h14,h15,if_false]
 simp[subB]
 constructor<;>intro h<;>simp_all<;>(try omega)
def fldR (f:Fm) (i:Nat) (x:Sc) (t:Tk):Bool:=bet t.since x.fld f.ver&&(if t.pres=0 then decide (t.since=x.tk.since)&&inB f.toks i x t else if t.pres=1 then inB f.toks i x t else if t.pres=2 then decide (t.off=0/\t.siz=0/\t.cst.length≠0) else false)
theorem fld_split (f:Fm) (ids:List Int) (i:Nat) (x:Sc) (t:Tk):fldB f ids i x t=(newB f.toks ids x t&&fldR f i x t):=by unfold fldB fldR;rw[Bool.and_assoc]
theorem fldR_iff {f:Fm} {i:Nat} {x:Sc} {t u:Tk} (he:0<=x.e0) (hf:x.tk.since<=x.fld) (hb:0<=x.tk.blk) (hu:f.toks[i+1]?=some u):fldR f i x t=true ↔
  (x.tk.since<=t.since/\x.fld<=t.since/\t.since<=f.ver/\0<=t.pres/\t.pres<=2/\(t.pres=0->t.since=x.tk.since))/\((t.pres=2/\t.off=0/\t.siz=0/\0<t.cst.length)\/(t.pres≠2/\t.cst.length=0/\0<=t.siz/\0<=t.off/\(t.siz=0->t.off=0)/\t.off<=x.tk.blk/\t.siz<=x.tk.blk-t.off/\u.siz=t.siz/\(0<t.siz->x.e0<=t.off))):=by
 unfold fldR inB bet
 rw[hu]
 generalize t.cst.length=n
 by_cases h0:t.pres=0
 ·by_cases hz:t.siz=0<;>simp[h0,hz]<;>omega
 by_cases h1:t.pres=1
 ·by_cases hz:t.siz=0<;>simp[h1,hz]<;>omega
 by_cases h2:t.pres=2
 ·simp only[h2,if_true]
  simp
  omega
 ·simp[h0,h1,h2]
  omega
def grpR (f:Fm) (o:List Sc) (x:Sc) (t:Tk):Bool:=rowB f x t&&(blkB t&&bet t.siz 1 65535)&&(lieB t.a t.siz&&lieB t.b t.siz&&aptB t.a t.b&&telB t.a t.full&&decide (depB 4 o<8))
theorem apt_comm (a b:Sp):aptB a b=aptB b a:=by unfold aptB;rw[Bool.eq_iff_iff];simp;omega
theorem grp_split (f:Fm) (o:List Sc) (ids:List Int) (x:Sc) (t:Tk):grpB f o ids x t=(newB f.toks ids x t&&grpR f o x t):=by
 unfold grpB grpR
 rw[apt_comm t.a t.b,Bool.eq_iff_iff]
 simp only[Bool.and_eq_true]
 constructor
 ·rintro⟨⟨⟨⟨⟨⟨h1,h2⟩,h3⟩,h4⟩,h5⟩,h6,h7,h8⟩,h9⟩;exact⟨h2,⟨h3,h4,h5⟩,⟨⟨⟨h6,h7⟩,h8⟩,h9⟩,h1⟩
 ·rintro⟨h2,⟨h3,h4,h5⟩,⟨⟨⟨h6,h7⟩,h8⟩,h9⟩,h1⟩;exact⟨⟨⟨⟨⟨⟨h1,h2⟩,h3⟩,h4⟩,h5⟩,h6,h7,h8⟩,h9⟩
def datR (f:Fm) (x:Sc) (t:Tk):Bool:=rowB f x t&&(decide (t.a.o=0)&&lieB t.a 4&&decide (t.siz=sz t.a.p)&&decide (t.prim=0\/t.prim=5))
theorem sz_num {p:Int} (h:numB p=true):0<sz p/\sz p<=4:=by
 unfold numB at h
 rcases decT h with rfl|rfl|rfl<;>decide
theorem dat_split (f:Fm) (ids:List Int) (x:Sc) (t:Tk):datB f ids x t=(newB f.toks ids x t&&datR f x t):=by
 unfold datB datR lieB
 rw[Bool.eq_iff_iff]
 simp only[Bool.and_eq_true,decide_eq_true_eq]
 constructor
 ·rintro⟨⟨⟨⟨⟨h1,h2⟩,h3⟩,h4⟩,h5⟩,h6⟩
  have:=sz_num h4
  exact⟨h1,h2,⟨⟨h3,h4,by omega,by omega⟩,h5⟩,h6⟩
 ·rintro⟨h1,h2,⟨⟨h3,h4,_⟩,h5⟩,h6⟩
  exact⟨⟨⟨⟨⟨h1,h2⟩,h3⟩,h4⟩,h5⟩,h6⟩
theorem rowB_iff {f:Fm} {x:Sc} {t:Tk} (hr:x.tk.since<=x.row):rowB f x t=true↔((x.tk.op=4->t.since=x.tk.since)/\(x.tk.op≠4->x.tk.since<=t.since/\x.row<=t.since/\t.since<=f.ver)):=by
 unfold rowB bet
 by_cases h:x.tk.op=4
 ·simp[h]
 ·simp[h];omega
theorem blkB_iff {t:Tk}:(blkB t&&bet t.siz 1 65535)=true↔(1<=t.siz/\t.siz<=65535/\0<=t.blk/\t.blk<=t.full/\t.full<=65535):=by
 unfold blkB bet
 simp
 omega
theorem plcB_iff {x:Sc} {t:Tk} (ho:x.tk.op=2\/x.tk.op=8\/x.tk.op=10\/x.tk.op=12):plcB x t=true↔(0<=t.siz/\t.siz<=65535/\0<=t.pres/\t.pres<=2)/\(x.tk.op=2->t.off=0) /\
  (x.tk.op=10\/x.tk.op=12->t.off=x.tk.off/\t.siz=x.tk.siz/\t.pres=x.tk.pres/\t.len=1/\(x.tk.op=10->t.prim≠9/\t.prim≠10)/\(x.tk.op=12->5<=t.prim/\t.prim<=8)) /\
  (x.tk.op=8->x.tk.off<=t.off/\t.off<=x.tk.off+x.tk.siz/\t.siz<=x.tk.off+x.tk.siz-t.off/\(0<t.siz->x.e0<=t.off)):=by
 unfold plcB codB memB bet
 rcases ho with h|h|h|h<;>simp[h]<;>omega
def encR (t:Tk):Bool:=bet t.len 1 65535&&(fitsP t.prim t.nul&&fitsP t.prim t.lo&&fitsP t.prim t.hi)&&(if t.pres=2 then decide (t.siz=0)&&decide ((t.cst.length:Int)=t.len)&&t.cst.all (fitsP t.prim) else decide (t.siz=t.len*sz t.prim)&&decide (t.cst.length=0))
theorem enc_split (x:Sc) (t:Tk):encB x t=(plcB x t&&encR t):=by unfold encB encR;simp only[Bool.and_assoc]
theorem nameIn_no {l:List Tk} {ks:List Nat} {s:ByteArray}:nameIn l ks s=false↔∀ k∈ks,∀ u,l[k]?=some u->u.name≠s:=by
 unfold nameIn
 rw[List.any_eq_false]
 constructor
 ·intro h k hk u hu e
  have:=h k hk
  rw[hu] at this
  simp[e] at this
 ·intro h k hk
  cases hu:l[k]? with
  | none=>simp
  | some u=>simpa using h k hk u hu
theorem valIn_no {l:List Tk} {ks:List Nat} {s:Int}:valIn l ks s=false↔∀ k∈ks,∀ u,l[k]?=some u->u.val≠s:=by
 unfold valIn
 rw[List.any_eq_false]
 constructor
 ·intro h k hk u hu e
  have:=h k hk
  rw[hu] at this
  simp[e] at this
 ·intro h k hk
  cases hu:l[k]? with
  | none=>simp
  | some u=>simpa using h k hk u hu
theorem cho_no {l:List Tk} {x:Sc} {i:Nat} {t:Tk} (hk:x.kids=List.range' (x.at_+1) (i-(x.at_+1))):(nameIn l x.kids.tail t.name=false/\valIn l x.kids.tail t.val=false)↔∀ k,x.at_+2<=k->k<i->∀ u,l[k]?=some u->¬ (u.name=t.name\/u.val=t.val):=by
 have e:x.kids.tail=List.range' (x.at_+2) (i-(x.at_+2)):=by
  rw[hk]
  by_cases h:x.at_+1<i
  ·rw[show i-(x.at_+1)=(i-(x.at_+2))+1 by omega,List.range'_succ]
   rfl
  ·rw[show i-(x.at_+1)=0 by omega,show i-(x.at_+2)=0 by omega]
   rfl
 rw[nameIn_no,valIn_no,e]
 constructor
 ·rintro⟨h1,h2⟩ k hk1 hk2 u hu
  have hm:k∈List.range' (x.at_+2) (i-(x.at_+2)):=List.mem_range'_1.2 (by omega)
  exact fun e=>e.elim (h1 k hm u hu) (h2 k hm u hu)
 ·intro h
  refine⟨fun k hm u hu e=>?_,fun k hm u hu e=>?_⟩
  ·have:=List.mem_range'_1.1 hm
   exact h k (by omega) (by omega) u hu (.inl e)
  ·have:=List.mem_range'_1.1 hm
   exact h k (by omega) (by omega) u hu (.inr e)
theorem stg_met {l:List Tk} {i:Nat} {x:Sc} {t:Tk} (hx:ScOk l i x) (ht:l[i]?=some t) (hm:mayB l x t.op=true) (he:edO t.op=false) :
  stgO l (metX x i t)=if t.op=4 then 1 else if t.op=6 then 2 else if tyO t.op then stgO l x+1 else stgO l x:=by
 have hl:lastOp l (metX x i t)=t.op:=by unfold lastOp metX;simp[ht]
 have hk:(metX x i t).kids=x.kids++[i]:=rfl
 have htk:(metX x i t).tk=x.tk:=rfl
 have h2:=may_typ hm he hx.beg
 unfold stgO
 rw[hl,hk,htk]
 rcases h2 with ⟨h0,hp,hle⟩|⟨h0,hz,hty⟩|⟨h0,hty⟩|⟨h0,⟨hz,h14⟩|⟨hz,h15⟩⟩
 ·rw[if_pos h0,if_pos h0]
  unfold ptO at hp
  have hp:=decT hp
  have hll:=last_par hx h0
  rcases hp with e|e|e
  ·rw[e]
   have:lastOp l x=0\/lastOp l x=2:=by omega
   rcases this with e|e<;>rw[e]<;>rfl
  ·rw[e];rfl
  ·rw[e];rfl
 ·have hy:=hty
  unfold tyO at hty
  have hty:=decT hty
  have a1:¬ (x.tk.op=0\/x.tk.op=4):=by omega
  have a2:¬ (x.tk.op=10\/x.tk.op=12):=by omega
  have a3:¬ t.op=4:=by omega
  have a4:¬ t.op=6:=by omega
  rw[if_neg a1,if_neg a2,if_neg a3,if_neg a4,if_pos hy,if_neg a1,if_neg a2]
  simp
 ·have hy:=hty
  unfold tyO at hty
  have hty:=decT hty
  have a1:¬ (x.tk.op=0\/x.tk.op=4):=by omega
  have a2:¬ (x.tk.op=10\/x.tk.op=12):=by omega
  have a3:¬ t.op=4:=by omega
  have a4:¬ t.op=6:=by omega
  rw[if_neg a1,if_neg a2,if_neg a3,if_neg a4,if_pos hy,if_neg a1,if_neg a2]
  simp
 ·have a1:¬ (x.tk.op=0\/x.tk.op=4):=by omega
  rw[h14,if_neg a1,if_pos h0,if_neg (by simp),if_neg (by decide),if_neg (by decide),if_pos (by decide),if_neg a1,if_pos h0]
  simp[hz]
 ·have a1:¬ (x.tk.op=0\/x.tk.op=4):=by omega
  rw[h15,if_neg a1,if_pos h0,if_neg (by simp),if_neg (by decide),if_neg (by decide),if_neg (by decide),if_neg a1,if_pos h0]
  simp[hz]
theorem ld_new (w:World) (t:Tk) (pc:Option Addr) (cc:Nat):∃ W:World,(∀ z:Array Value,z.size=21->(Instr.storeAt 40 (.pointer (some ⟨w.heap.size,0,none⟩)) (tkV t pc cc)).run Tryz.prog (w.alloc (.cells z 40)) = .ok () W)/\TkC W w.heap.size 0 t pc cc/\Below w.heap.size w W/\W.heap.size=w.heap.size+1 :=
 ⟨w.alloc (tkO t pc cc),fun z hz=>st_new w z hz t pc cc,tk_of (heap_al _ _),bel1 _ _,World.size_alloc _ _⟩
theorem own_tk {w W:World} {g:Nat} {t:Tk} {pc:Option Addr} {cc:Nat} (h:TkC w g 0 t pc cc) (hg:g<w.heap.size) (hb:Below w.heap.size w W):TkC W g 0 t pc cc:=h.below hg hb
theorem Dt.at {w:World} {c:Df} {f:Fm} {L:List Od} {x:Od} {xt t:Tk} {ids:List Int} {vi:Value} (h:Dt w c f L x xt t ids vi) {k:Nat} {u:Tk} (hu:f.toks[k]?=some u):∃ pc cc,TkC w c.g (c.o+k*21) u pc cc/\URow w pc c.H u.cst/\u.cst.length<=cc/\TkOk u:=by
 obtain⟨g,o,pc,cc,e,_,h1,h2,h3,h4⟩:=h.tl.at hu
 cases e
 exact⟨pc,cc,h1,h2,h3,h4⟩
structure D0 (w:World) (c:Df) (f:Fm) (t:Tk) (vo vi:Value):Prop where
 ds:DsH w c.B f (some ⟨c.g,c.o,none⟩) c.cp vo vi
 tl:TkL w (some ⟨c.g,c.o,none⟩) c.H f.toks
 ht:f.toks[c.i]?=some t
 lg:c.g<w.heap.size
 sz:c.H<=w.heap.size
section
variable {w w':World} {c:Df} {f:Fm} {t:Tk} {vo vi:Value}
theorem D0.ll (h:D0 w c f t vo vi):f.toks.length<=733007751850:=by have:=h.tl.len;omega
theorem D0.il (h:D0 w c f t vo vi):c.i<f.toks.length:=(List.getElem?_eq_some_iff.1 h.ht).1
theorem D0.below (h:D0 w c f t vo vi) (hb:Below w.heap.size w w'):D0 w' c f t vo vi :=
 ⟨h.ds.same (hb.block _ h.ds.lt),h.tl.below (hb.mono h.sz),h.ht,Nat.lt_of_lt_of_le h.lg hb.size,Nat.le_trans h.sz hb.size⟩
theorem D0.at (h:D0 w c f t vo vi) {k:Nat} {u:Tk} (hu:f.toks[k]?=some u):∃ pc cc,TkC w c.g (c.o+k*21) u pc cc/\URow w pc w.heap.size u.cst/\u.cst.length<=cc/\TkOk u:=by
 obtain⟨g,o,pc,cc,e,_,h1,h2,h3,h4⟩:=h.tl.at hu
 cases e
 exact⟨pc,cc,h1,h2.mono h.sz,h3,h4⟩
theorem D0.tk (h:D0 w c f t vo vi):∃ pc cc,TkC w c.g (c.o+c.i*21) t pc cc/\URow w pc w.heap.size t.cst/\t.cst.length<=cc/\TkOk t:=h.at h.ht
theorem Dt.d0 {L:List Od} {x:Od} {xt:Tk} {ids:List Int} (h:Dt w c f L x xt t ids vi):D0 w c f t (.slice (some ⟨c.go,0,none⟩) (L.length+1) c.cap) vi:=⟨h.ds,h.tl,h.ht,h.lg,h.sz⟩
end
theorem bgO_i64 {op:Int} (h:bgO op=true):IntKind.i64.wrap (op+1)=op+1:=by
 unfold bgO at h
 have:=decT h
 rw[IntKind.wrap_i64]
 omega
theorem lx_ld {P:Program} {ops:Array Oper} {C:World->Prop} {Q:Exit->Act->World->Prop} {d:Option Tmp} {t ty:TypeId} {x:Operand} {ps:String} {af:Array Edge} {gd:Option (Nat×Bool)} {r:List Oper} {a:Act} {w:World} {p v:Value}
  (hl:∀ W,C W->(Instr.loadAt t p).run P W = .ok v W) (hx:a.eval x=p) (hw:Region.wanted ⟨d,.load t x,ty,ps,af,gd⟩ (yielded ops a.tmps)=true) (h:Lx P ops C Q r (a.put d v) w):Lx P ops C Q (⟨d,.load t x,ty,ps,af,gd⟩::r) a w :=
 lx_read hw rfl fun K hK=>⟨v,fun W hW=>by
  unfold Oper.quietAt execOp
  simp only[hx,hl W hW,Sem.run_bind,Result.andThen_ok,Sem.run_pure]
  exact⟨rfl,rfl⟩,hK _ h⟩
theorem lx_st {P:Program} {ops:Array Oper} {C:World->Prop} {Q:Exit->Act->World->Prop} {d:Option Tmp} {t ty:TypeId} {x y:Operand} {ps:String} {af:Array Edge} {gd:Option (Nat×Bool)} {r:List Oper} {a:Act} {w w':World} {p v:Value}
  (hr:(Instr.storeAt t p v).run P w = .ok () w') (hC:C w') (hx:a.eval x=p) (hy:a.eval y=v) (hw:Region.wanted ⟨d,.store t x y,ty,ps,af,gd⟩ (yielded ops a.tmps)=true) (h:Lx P ops C Q r (a.put d undef) w'):Lx P ops C Q (⟨d,.store t x y,ty,ps,af,gd⟩::r) a w :=
 lx_act hw rfl fun K hK=>by
  unfold Oper.wp execOp
  simp only[hx,hy,hr,Sem.run_bind,Result.andThen_ok]
  exact hK _ _ hC h
theorem clsT (wr:World):∃ p:World->Prop,p wr.drew/\(∀ W,p W->Below wr.heap.size wr W)/\(∀ W,Below wr.heap.size wr W->p W)/\Nonempty (CW p)/\(∀ (g o:Nat),g<wr.heap.size->∀ θ:CW p,θ.w.cell? ⟨g,o,none⟩=wr.cell? ⟨g,o,none⟩) /\
  (∀ (g o:Nat) (t:Tk) (pc:Option Addr) (cc:Nat),g<wr.heap.size->TkC wr g o t pc cc->∀ W,(∃ θ:CW p,W=θ.w)->(Instr.loadAt 40 (.pointer (some ⟨g,o,none⟩))).run Tryz.prog W = .ok (tkV t pc cc) W) /\
  (∀ (f:FuncId) (ag:Array Value) (v:Value),(∀ W,Below wr.heap.size wr W->Calls Tryz.prog f ag W fun e w'=>e = .returned v/\Below W.heap.size W w')->∀ W,p W->Calls Tryz.prog f ag W fun e w'=>e = .returned v/\p w') :=
 ⟨Below wr.heap.size wr,drw (Below.refl _ _),fun _ h=>h,fun _ h=>h,⟨⟨_,Below.refl _ _⟩⟩,fun g o hg θ=>θ.h.cell (p:=⟨g,o,none⟩) hg,fun g o t pc cc hg h=>by rintro _ ⟨θ,rfl⟩;exact(h.below hg θ.h).load,fun _ _ _ h=>callB (Nat.le_refl _) h⟩
abbrev odV (x:Od):Value:=.agg #[.int .i64 (x.at_:Int),.int .i64 x.stg,.int .i64 x.en,.int .i64 x.snc,.int .i64 x.row]
theorem infoOd:(Tryz.prog.info? 63).map (·.size)=some 5:=by kernel_rfl
theorem odC_one (x:Od):∀ u∈odC x,u.oneCell'=true:=by
 intro u hu
 simp only[odC,List.mem_cons,List.not_mem_nil,or_false] at hu
 rcases hu with rfl|rfl|rfl|rfl|rfl<;>rfl
theorem od_new (w:World) (x:Od):∃ W:World,(∀ z:Array Value,z.size=5->(Instr.storeAt 63 (.pointer (some ⟨w.heap.size,0,none⟩)) (odV x)).run Tryz.prog (w.alloc (.cells z 63)) = .ok () W)/\OdC W w.heap.size 0 x/\Below w.heap.size w W/\W.heap.size=w.heap.size+1 :=
 ⟨w.alloc (.cells (odC x).toArray 63),fun z hz=>run_storeAt_new w 63 z (odC x).toArray infoOd hz (all_oneCell_toArray (odC_one x)),
  have hh:=fun k=>cell_at (heap_al w (.cells (odC x).toArray 63)) k
  ⟨hh 0,hh 1,hh 2,hh 3,hh 4⟩,bel1 _ _,World.size_alloc _ _⟩
end Go.Proofs.YtcgimchhcaankaaGreatDoor
