import Derived.Test.YtjlbcdnkglaheaaGreatDoorK04
import Derived.Deep.AppendSrc
namespace Go.Proofs.YtjlbcdnkglaheaaGreatDoor
open Go.ChangeShapes Go.WideShapes Go.ChangeAt Go.RowKit Go.Shelf
structure Hid (p:Prop):Prop where
 out:p
abbrev tkV (t:Tk) (pc:Option Addr) (cc:Nat):Value:=.agg #[.int .i64 t.op,.string t.name,.int .i64 t.id,.int .i64 t.off,.int .i64 t.siz,.int .i64 t.since,.int .i64 t.prim,.int .i64 t.len,.int .i64 t.pres,.int .u64 t.nul,.int .u64 t.lo,.int .u64 t.hi,.slice pc t.cst.length cc,.int .u64 t.val,.int .i64 t.blk,.int .i64 t.full,.int .i64 t.a.p,.int .i64 t.a.o,.int .i64 t.b.p,.int .i64 t.b.o,.int .i64 t.pair]
def tkC (t:Tk) (pc:Option Addr) (cc:Nat):List Value:=[.int .i64 t.op,.string t.name,.int .i64 t.id,.int .i64 t.off,.int .i64 t.siz,.int .i64 t.since,.int .i64 t.prim,.int .i64 t.len,.int .i64 t.pres,.int .u64 t.nul,.int .u64 t.lo,.int .u64 t.hi,.slice pc t.cst.length cc,.int .u64 t.val,.int .i64 t.blk,.int .i64 t.full,.int .i64 t.a.p,.int .i64 t.a.o,.int .i64 t.b.p,.int .i64 t.b.o,.int .i64 t.pair]
structure URow (w:World) (p:Option Addr) (H:Nat) (l:List Int):Prop where
 c:∀ (i:Nat) (t:Int),l[i]?=some t->∃ g o,p=some ⟨g,o,none⟩/\g<H/\w.cell? ⟨g,o+i,none⟩=some (.int .u64 t)
theorem cell_blk {w w':World} {g o:Nat} (hb:w'.heap[g]?=w.heap[g]?):w'.cell? ⟨g,o,none⟩=w.cell? ⟨g,o,none⟩:=by simp only[World.cell?,hb]
theorem URow.same {w w':World} {p:Option Addr} {H:Nat} {l:List Int} (h:URow w p H l) (hb:∀ k,k<H->w'.heap[k]?=w.heap[k]?):URow w' p H l :=
 ⟨fun i t ht=>by
  obtain⟨g,o,e,hg,h0⟩:=h.c i t ht
  exact⟨g,o,e,hg,(cell_blk (hb g hg)).trans h0⟩⟩
theorem URow.mono {w:World} {p:Option Addr} {H H':Nat} {l:List Int} (h:URow w p H l) (hH:H<=H'):URow w p H' l :=
 ⟨fun i t ht=>by obtain⟨g,o,e,hg,r⟩:=h.c i t ht;exact⟨g,o,e,by omega,r⟩⟩
theorem URow.below {w w':World} {p:Option Addr} {H:Nat} {l:List Int} (h:URow w p H l) (hb:Below H w w'):URow w' p H l:=h.same fun k hk=>hb.block k hk
theorem URow.nil (w:World) (p:Option Addr) (H:Nat):URow w p H []:=⟨fun i t ht=>by cases ht⟩
structure TkC (w:World) (g o:Nat) (t:Tk) (pc:Option Addr) (cc:Nat):Prop where
 c0:w.cell? ⟨g,o,none⟩=some (.int .i64 t.op)
 c1:w.cell? ⟨g,o+1,none⟩=some (.string t.name)
 c2:w.cell? ⟨g,o+2,none⟩=some (.int .i64 t.id)
 c3:w.cell? ⟨g,o+3,none⟩=some (.int .i64 t.off)
 c4:w.cell? ⟨g,o+4,none⟩=some (.int .i64 t.siz)
 c5:w.cell? ⟨g,o+5,none⟩=some (.int .i64 t.since)
 c6:w.cell? ⟨g,o+6,none⟩=some (.int .i64 t.prim)
 c7:w.cell? ⟨g,o+7,none⟩=some (.int .i64 t.len)
 c8:w.cell? ⟨g,o+8,none⟩=some (.int .i64 t.pres)
 c9:w.cell? ⟨g,o+9,none⟩=some (.int .u64 t.nul)
 c10:w.cell? ⟨g,o+10,none⟩=some (.int .u64 t.lo)
 c11:w.cell? ⟨g,o+11,none⟩=some (.int .u64 t.hi)
 c12:w.cell? ⟨g,o+12,none⟩=some (.slice pc t.cst.length cc)
 c13:w.cell? ⟨g,o+13,none⟩=some (.int .u64 t.val)
 c14:w.cell? ⟨g,o+14,none⟩=some (.int .i64 t.blk)
 c15:w.cell? ⟨g,o+15,none⟩=some (.int .i64 t.full)
 c16:w.cell? ⟨g,o+16,none⟩=some (.int .i64 t.a.p)
 c17:w.cell? ⟨g,o+17,none⟩=some (.int .i64 t.a.o)
 c18:w.cell? ⟨g,o+18,none⟩=some (.int .i64 t.b.p)
 c19:w.cell? ⟨g,o+19,none⟩=some (.int .i64 t.b.o)
 c20:w.cell? ⟨g,o+20,none⟩=some (.int .i64 t.pair)
theorem TkC.same {w w':World} {g o:Nat} {t:Tk} {pc:Option Addr} {cc:Nat} (h:TkC w g o t pc cc) (hb:w'.heap[g]?=w.heap[g]?):TkC w' g o t pc cc :=
 ⟨(cell_blk hb).trans h.c0,(cell_blk hb).trans h.c1,(cell_blk hb).trans h.c2,(cell_blk hb).trans h.c3,(cell_blk hb).trans h.c4,(cell_blk hb).trans h.c5,(cell_blk hb).trans h.c6,(cell_blk hb).trans h.c7,(cell_blk hb).trans h.c8,(cell_blk hb).trans h.c9,(cell_blk hb).trans h.c10,(cell_blk hb).trans h.c11,(cell_blk hb).trans h.c12,(cell_blk hb).trans h.c13,(cell_blk hb).trans h.c14,(cell_blk hb).trans h.c15,(cell_blk hb).trans h.c16,(cell_blk hb).trans h.c17,(cell_blk hb).trans h.c18,(cell_blk hb).trans h.c19,(cell_blk hb).trans h.c20⟩
theorem tkC_of {w:World} {g o:Nat} {t:Tk} {pc:Option Addr} {cc:Nat} (h:∀ (j:Nat) (u:Value),(tkC t pc cc)[j]?=some u->w.cell? ⟨g,o+j,none⟩=some u):TkC w g o t pc cc :=
 ⟨h 0 _ rfl,h 1 _ rfl,h 2 _ rfl,h 3 _ rfl,h 4 _ rfl,h 5 _ rfl,h 6 _ rfl,h 7 _ rfl,h 8 _ rfl,h 9 _ rfl,h 10 _ rfl,h 11 _ rfl,h 12 _ rfl,h 13 _ rfl,h 14 _ rfl,h 15 _ rfl,h 16 _ rfl,h 17 _ rfl,h 18 _ rfl,h 19 _ rfl,h 20 _ rfl⟩
structure TkRow (w:World) (pp:Option Addr) (H:Nat) (l:List Tk):Prop where
 c:∀ (i:Nat) (t:Tk),l[i]?=some t->∃ g o pc cc,pp=some ⟨g,o,none⟩/\g<H/\TkC w g (o+i*21) t pc cc/\URow w pc H t.cst/\t.cst.length<=cc
theorem TkRow.same {w w':World} {pp:Option Addr} {H:Nat} {l:List Tk} (h:TkRow w pp H l) (hb:∀ k,k<H->w'.heap[k]?=w.heap[k]?):TkRow w' pp H l :=
 ⟨fun i t ht=>by
  obtain⟨g,o,pc,cc,e,hg,h0,h1,h2⟩:=h.c i t ht
  exact⟨g,o,pc,cc,e,hg,h0.same (hb g hg),h1.same hb,h2⟩⟩
theorem TkRow.below {w w':World} {pp:Option Addr} {H:Nat} {l:List Tk} (h:TkRow w pp H l) (hb:Below H w w'):TkRow w' pp H l:=h.same fun k hk=>hb.block k hk
theorem TkRow.mono {w:World} {pp:Option Addr} {H H':Nat} {l:List Tk} (h:TkRow w pp H l) (hH:H<=H'):TkRow w pp H' l :=
 ⟨fun i t ht=>by obtain⟨g,o,pc,cc,e,hg,h0,h1,h2⟩:=h.c i t ht;exact⟨g,o,pc,cc,e,by omega,h0,h1.mono hH,h2⟩⟩
structure TkOk (t:Tk):Prop where
 op:i64ok t.op
 name:t.name.size<=281474976710656
 id:i64ok t.id
 off:i64ok t.off
 siz:i64ok t.siz
 since:i64ok t.since
 prim:i64ok t.prim
 len:i64ok t.len
 pres:i64ok t.pres
 nul:u64ok t.nul
 lo:u64ok t.lo
 hi:u64ok t.hi
 cst:t.cst.length*8<=140737488355328
 cs:∀ x∈t.cst,u64ok x
 val:u64ok t.val
 blk:i64ok t.blk
 full:i64ok t.full
 ap:i64ok t.a.p
 ao:i64ok t.a.o
 bp:i64ok t.b.p
 bo:i64ok t.b.o
 pair:i64ok t.pair
structure TkL (w:World) (pp:Option Addr) (H:Nat) (l:List Tk):Prop where
 row:TkRow w pp H l
 len:l.length*192<=140737488355328
 ok:∀ t∈l,TkOk t
theorem TkL.below {w w':World} {pp:Option Addr} {H:Nat} {l:List Tk} (h:TkL w pp H l) (hb:Below H w w'):TkL w' pp H l:=⟨h.row.below hb,h.len,h.ok⟩
theorem TkL.mono {w:World} {pp:Option Addr} {H H':Nat} {l:List Tk} (h:TkL w pp H l) (hH:H<=H'):TkL w pp H' l:=⟨h.row.mono hH,h.len,h.ok⟩
theorem TkL.at {w:World} {pp:Option Addr} {H:Nat} {l:List Tk} (h:TkL w pp H l) {i:Nat} {t:Tk} (hi:l[i]?=some t):∃ g o pc cc,pp=some ⟨g,o,none⟩/\g<H/\TkC w g (o+i*21) t pc cc/\URow w pc H t.cst/\t.cst.length<=cc/\TkOk t:=by
 obtain⟨g,o,pc,cc,e,hg,h0,h1,h2⟩:=h.row.c i t hi
 exact⟨g,o,pc,cc,e,hg,h0,h1,h2,h.ok t (List.mem_of_getElem? hi)⟩
abbrev fmV (f:Fm) (pp:Option Addr) (cp:Nat):Value:=.agg #[.int .i64 f.ord,.int .i64 f.sch,.int .i64 f.ver,.int .i64 f.hsz,.int .i64 f.hb.p,.int .i64 f.hb.o,.int .i64 f.ht.p,.int .i64 f.ht.o,.int .i64 f.hs.p,.int .i64 f.hs.o,.int .i64 f.hv.p,.int .i64 f.hv.o,.slice pp f.toks.length cp]
abbrev fmO (f:Fm) (pp:Option Addr) (cp:Nat):Obj:=.cells #[.int .i64 f.ord,.int .i64 f.sch,.int .i64 f.ver,.int .i64 f.hsz,.int .i64 f.hb.p,.int .i64 f.hb.o,.int .i64 f.ht.p,.int .i64 f.ht.o,.int .i64 f.hs.p,.int .i64 f.hs.o,.int .i64 f.hv.p,.int .i64 f.hv.o,.slice pp f.toks.length cp] 30
structure FmC (w:World) (g o:Nat) (f:Fm) (pp:Option Addr) (cp:Nat):Prop where
 c0:w.cell? ⟨g,o,none⟩=some (.int .i64 f.ord)
 c1:w.cell? ⟨g,o+1,none⟩=some (.int .i64 f.sch)
 c2:w.cell? ⟨g,o+2,none⟩=some (.int .i64 f.ver)
 c3:w.cell? ⟨g,o+3,none⟩=some (.int .i64 f.hsz)
 c4:w.cell? ⟨g,o+4,none⟩=some (.int .i64 f.hb.p)
 c5:w.cell? ⟨g,o+5,none⟩=some (.int .i64 f.hb.o)
 c6:w.cell? ⟨g,o+6,none⟩=some (.int .i64 f.ht.p)
 c7:w.cell? ⟨g,o+7,none⟩=some (.int .i64 f.ht.o)
 c8:w.cell? ⟨g,o+8,none⟩=some (.int .i64 f.hs.p)
 c9:w.cell? ⟨g,o+9,none⟩=some (.int .i64 f.hs.o)
 c10:w.cell? ⟨g,o+10,none⟩=some (.int .i64 f.hv.p)
 c11:w.cell? ⟨g,o+11,none⟩=some (.int .i64 f.hv.o)
 c12:w.cell? ⟨g,o+12,none⟩=some (.slice pp f.toks.length cp)
theorem FmC.same {w w':World} {g o:Nat} {f:Fm} {pp:Option Addr} {cp:Nat} (h:FmC w g o f pp cp) (hb:w'.heap[g]?=w.heap[g]?):FmC w' g o f pp cp :=
 ⟨(cell_blk hb).trans h.c0,(cell_blk hb).trans h.c1,(cell_blk hb).trans h.c2,(cell_blk hb).trans h.c3,(cell_blk hb).trans h.c4,(cell_blk hb).trans h.c5,(cell_blk hb).trans h.c6,(cell_blk hb).trans h.c7,(cell_blk hb).trans h.c8,(cell_blk hb).trans h.c9,(cell_blk hb).trans h.c10,(cell_blk hb).trans h.c11,(cell_blk hb).trans h.c12⟩
theorem FmC.below {w w':World} {g o B:Nat} {f:Fm} {pp:Option Addr} {cp:Nat} (h:FmC w g o f pp cp) (hg:g<B) (hb:Below B w w'):FmC w' g o f pp cp:=h.same (hb.block g hg)
theorem TkC.below {w w':World} {g o B:Nat} {t:Tk} {pc:Option Addr} {cc:Nat} (h:TkC w g o t pc cc) (hg:g<B) (hb:Below B w w'):TkC w' g o t pc cc:=h.same (hb.block g hg)
structure SpOk (s:Sp):Prop where
 p:i64ok s.p
 o:i64ok s.o
structure FmOk (f:Fm):Prop where
 ord:i64ok f.ord
 sch:i64ok f.sch
 ver:i64ok f.ver
 hsz:i64ok f.hsz
 hb:SpOk f.hb
 ht:SpOk f.ht
 hs:SpOk f.hs
 hv:SpOk f.hv
theorem fm_new (w:World) (f:Fm) (pp:Option Addr) (cp:Nat):FmC (w.alloc (fmO f pp cp)) w.heap.size 0 f pp cp :=
 ⟨cell_at (heap_al _ _) 0,cell_at (heap_al _ _) 1,cell_at (heap_al _ _) 2,cell_at (heap_al _ _) 3,cell_at (heap_al _ _) 4,cell_at (heap_al _ _) 5,cell_at (heap_al _ _) 6,cell_at (heap_al _ _) 7,cell_at (heap_al _ _) 8,cell_at (heap_al _ _) 9,cell_at (heap_al _ _) 10,cell_at (heap_al _ _) 11,cell_at (heap_al _ _) 12⟩
open Go.Maps
theorem laidOut:laidOutB Tryz.prog=true:=by kernel_rfl
theorem lawI:Keyed Tryz.prog 3:=int_keyed Tryz.underlying3
theorem lawN:Keyed Tryz.prog 205:=Keyed.of_law (deep_law_laid laidOut (m:=3) (by omega) (of_decide_eq_true (by kernel_rfl)) (by kernel_rfl) (by kernel_rfl))
theorem lawV:Keyed Tryz.prog 191:=Keyed.of_law (deep_law_laid laidOut (m:=3) (by omega) (of_decide_eq_true (by kernel_rfl)) (by kernel_rfl) (by kernel_rfl))
theorem zeroI (w:World):(zeroValue 3).run Tryz.prog w = .ok (.int .i64 0) w:=by kernel_rfl
def MHas (W:World) (k:TypeId) (m n:Nat) (hs:Value->Prop):Prop:=∃ D:DataW Unit,W.ownsMap Tryz.prog k (plainElem Tryz.prog 3) m n D/\∀ v kl,keyOf Tryz.prog k v=some kl->(Maps.has D kl=true↔hs v)
theorem MHas.same {W W':World} {k:TypeId} {m n:Nat} {hs:Value->Prop} (h:MHas W k m n hs) (hb:W'.heap[m]?=W.heap[m]?):MHas W' k m n hs:=by
 obtain⟨D,⟨es,ck,e,r⟩,h2⟩:=h
 exact⟨D,⟨es,ck,hb.trans e,r⟩,h2⟩
theorem MHas.lt {W:World} {k:TypeId} {m n:Nat} {hs:Value->Prop} (h:MHas W k m n hs):m<W.heap.size:=by
 obtain⟨D,h1,h2⟩:=h
 exact h1.lt
theorem has_nil (kl:Lit):Maps.has (DataW.map []:DataW Unit) kl=false:=rfl
theorem MHas.made (w:World) (k:TypeId):MHas (w.alloc (.map #[] 0)) k w.heap.size 0 (fun _=>False) :=
 ⟨_,World.ownsMap_made w _ _ _,fun v kl _=>by rw[has_nil];simp⟩
theorem MHas.put {W W':World} {k:TypeId} {m n:Nat} {hs:Value->Prop} (K:Keyed Tryz.prog k) {D:DataW Unit} (hD:W.ownsMap Tryz.prog k (plainElem Tryz.prog 3) m n D) (h:∀ v kl,keyOf Tryz.prog k v=some kl->(Maps.has D kl=true↔hs v)) {v0:Value} {k0:Lit} (hk:keyOf Tryz.prog k v0=some k0) {d:DataW Unit} (h':W'.ownsMap Tryz.prog k (plainElem Tryz.prog 3) m (n+1) (D.put k0 d)) :
  MHas W' k m (n+1) (fun v=>v=v0\/hs v):=by
 refine⟨_,h',fun v kl hv=>?_⟩
 by_cases e:kl=k0
 ·subst e
  rw[has_put_same hD.isMap (K.key hk)]
  have:=K.inj hv hk
  simp[this]
 ·rw[has_put_other e,h v kl hv]
  constructor
  ·exact .inr
  ·rintro(rfl|h)
   ·rw[hk] at hv;cases hv;exact absurd rfl e
   ·exact h
theorem isNewI_any (m n:Nat) (x i:Int) (hs:Value->Prop) (b:Bool) (w:World) (hM:MHas w 3 m n hs) (hn:n<17592186044416) (hx:i64ok x) (hi:i64ok i) (hb:b=true↔¬ hs (.int .i64 x)) :
  Calls Tryz.prog 126 #[.map (some m),.int .i64 x,.int .i64 i] w fun r w'=>r = .returned (.bool b)/\MHas w' 3 m (n+1) (fun v=>v = .int .i64 x\/hs v)/\w.grownBy w' (some m):=by
 obtain⟨D,hD,hh⟩:=hM
 have hkey:keyOf Tryz.prog 3 (.int .i64 x)=some (.int .i64 x):=keyOf_int_mk Tryz.underlying3 (WalkArith.wf_i64 hx)
 have e:Maps.has D (.int .i64 x) = !b:=by
  have:=hh _ _ hkey
  cases b<;>simp_all
 go_enter Tryz.func126,Tryz.ntmps126
 go_wp2_with (first|(at_lookup;refine wpList_lookup_own_ok_int _ rfl _ _ 130 rfl 3 3 .i64 lawI Tryz.underlying130 Tryz.underlying3 (zeroI _) m n D rfl hD _ _ rfl hkey ?_;intro c hat hwc)|(at_mapUpdate;refine wpList_mapUpdate_own _ rfl _ _ _ 130 rfl 3 3 lawI Tryz.underlying130 _ m n D rfl hD (by unfold maxLen;omega) _ _ _ rfl rfl hkey _ [] (plainElem_int Tryz.underlying3 (WalkArith.wf_i64 hi)) ?_;intro w1 hown1 hturn1))
 go_ret
 exact⟨rfl,MHas.put lawI hD hh hkey hown1,hturn1⟩
theorem tySize:∃ m,Tryz.prog.types.size=m+1:=⟨Tryz.prog.types.size-1,by kernel_rfl⟩
theorem ktN:Tryz.prog.keyType 205=true:=by kernel_rfl
theorem ktV:Tryz.prog.keyType 191=true:=by kernel_rfl
theorem clN:Tryz.prog.cellsOf 205=2:=by kernel_rfl
theorem clV:Tryz.prog.cellsOf 191=2:=by kernel_rfl
theorem clI:Tryz.prog.cellsOf 3=1:=by kernel_rfl
theorem clS:Tryz.prog.cellsOf 9=1:=by kernel_rfl
theorem clU:Tryz.prog.cellsOf 49=1:=by kernel_rfl
theorem keyN (a:Int) (s:ByteArray) (ha:i64ok a) (hs:s.size<=maxLen):∃ kl,keyOf Tryz.prog 205 (.agg #[.int .i64 a,.string s])=some kl:=by
 obtain⟨m,hm⟩:=tySize
 have wa:(Lit.int .i64 a).wf=true:=WalkArith.wf_i64 ha
 have hf:(Value.agg #[.int .i64 a,.string s]).formed Tryz.prog 205=true:=by simp[Value.formed,Tryz.underlying205,clN]
 unfold keyOf
 rw[Tryz.underlying205]
 simp only[ktN,hf,Bool.and_self,if_true,Value.cells]
 rw[hm]
 simp[Program.keyLits,Tryz.underlying205,Tryz.underlying3,Tryz.underlying9,clN,clI,clS,wa,hs]
theorem keyV (a b:Int) (ha:i64ok a) (hb:u64ok b):∃ kl,keyOf Tryz.prog 191 (.agg #[.int .i64 a,.int .u64 b])=some kl:=by
 obtain⟨m,hm⟩:=tySize
 have wa:(Lit.int .i64 a).wf=true:=WalkArith.wf_i64 ha
 have wb:(Lit.int .u64 b).wf=true:=WalkArith.wf_u64 hb
 have hf:(Value.agg #[.int .i64 a,.int .u64 b]).formed Tryz.prog 191=true:=by simp[Value.formed,Tryz.underlying191,clV]
 unfold keyOf
 rw[Tryz.underlying191]
 simp only[ktV,hf,Bool.and_self,if_true,Value.cells]
 rw[hm]
 simp[Program.keyLits,Tryz.underlying191,Tryz.underlying3,Tryz.underlying49,clV,clI,clU,wa,wb]
theorem isNewN_any (m n:Nat) (a i:Int) (s:ByteArray) (hs:Value->Prop) (b:Bool) (w:World) (hM:MHas w 205 m n hs) (hn:n<17592186044416) (ha:i64ok a) (hl:s.size<=maxLen) (hi:i64ok i) (hb:b=true↔¬ hs (.agg #[.int .i64 a,.string s])) :
  Calls Tryz.prog 127 #[.map (some m),.agg #[.int .i64 a,.string s],.int .i64 i] w fun r w'=>r = .returned (.bool b)/\MHas w' 205 m (n+1) (fun v=>v = .agg #[.int .i64 a,.string s]\/hs v)/\w.grownBy w' (some m):=by
 obtain⟨D,hD,hh⟩:=hM
 obtain⟨kl,hkey⟩:=keyN a s ha hl
 have e:Maps.has D kl = !b:=by
  have:=hh _ _ hkey
  cases b<;>simp_all
 go_enter Tryz.func127,Tryz.ntmps127
 go_wp2_with (first|(at_lookup;refine wpList_lookup_own_ok_int _ rfl _ _ 131 rfl 205 3 .i64 lawN Tryz.underlying131 Tryz.underlying3 (zeroI _) m n D rfl (hD.alloc _) _ _ rfl hkey ?_;intro c hat hwc)|(at_mapUpdate;refine wpList_mapUpdate_own _ rfl _ _ _ 131 rfl 205 3 lawN Tryz.underlying131 _ m n D rfl (hD.alloc _) (by unfold maxLen;omega) _ _ _ rfl rfl hkey _ [] (plainElem_int Tryz.underlying3 (WalkArith.wf_i64 hi)) ?_;intro w1 hown1 hturn1))
 go_ret
 exact⟨rfl,MHas.put lawN hD hh hkey hown1,(World.grownBy_alloc w _ _).trans hturn1⟩
theorem isNewV_any (m n:Nat) (a i x:Int) (hs:Value->Prop) (b:Bool) (w:World) (hM:MHas w 191 m n hs) (hn:n<17592186044416) (ha:i64ok a) (hx:u64ok x) (hi:i64ok i) (hb:b=true↔¬ hs (.agg #[.int .i64 a,.int .u64 x])) :
  Calls Tryz.prog 117 #[.map (some m),.agg #[.int .i64 a,.int .u64 x],.int .i64 i] w fun r w'=>r = .returned (.bool b)/\MHas w' 191 m (n+1) (fun v=>v = .agg #[.int .i64 a,.int .u64 x]\/hs v)/\w.grownBy w' (some m):=by
 obtain⟨D,hD,hh⟩:=hM
 obtain⟨kl,hkey⟩:=keyV a x ha hx
 have e:Maps.has D kl = !b:=by
  have:=hh _ _ hkey
  cases b<;>simp_all
 go_enter Tryz.func117,Tryz.ntmps117
 go_wp2_with (first|(at_lookup;refine wpList_lookup_own_ok_int _ rfl _ _ 132 rfl 191 3 .i64 lawV Tryz.underlying132 Tryz.underlying3 (zeroI _) m n D rfl (hD.alloc _) _ _ rfl hkey ?_;intro c hat hwc)|(at_mapUpdate;refine wpList_mapUpdate_own _ rfl _ _ _ 132 rfl 191 3 lawV Tryz.underlying132 _ m n D rfl (hD.alloc _) (by unfold maxLen;omega) _ _ _ rfl rfl hkey _ [] (plainElem_int Tryz.underlying3 (WalkArith.wf_i64 hi)) ?_;intro w1 hown1 hturn1))
 go_ret
 exact⟨rfl,MHas.put lawV hD hh hkey hown1,(World.grownBy_alloc w _ _).trans hturn1⟩
structure Kb (E:List Nat) (w W:World):Prop where
 os:W.os=w.os
 tape:W.tape=w.tape
 output:W.output=w.output
 size:w.heap.size<=W.heap.size
 block:∀ k,k<w.heap.size->k∉E->W.heap[k]?=w.heap[k]?
theorem Kb.refl (E:List Nat) (w:World):Kb E w w:=⟨rfl,rfl,rfl,Nat.le_refl _,fun _ _ _=>rfl⟩
theorem Kb.trans {E:List Nat} {a b c:World} (h:Kb E a b) (h':Kb E b c):Kb E a c :=
 ⟨h'.os.trans h.os,h'.tape.trans h.tape,h'.output.trans h.output,Nat.le_trans h.size h'.size,fun k hk he=>(h'.block k (Nat.lt_of_lt_of_le hk h.size) he).trans (h.block k hk he)⟩
theorem Kb.mono {E E':List Nat} {a b:World} (h:Kb E a b) (hE:∀ x∈E,x∈E'):Kb E' a b:=⟨h.os,h.tape,h.output,h.size,fun k hk he=>h.block k hk fun hx=>he (hE k hx)⟩
theorem Kb.of_below {E:List Nat} {a b:World} (h:Below a.heap.size a b):Kb E a b:=⟨h.os,h.tape,h.output,h.size,fun k hk _=>h.block k hk⟩
theorem Kb.of_grown {E:List Nat} {a b:World} {m:Nat} (h:a.grownBy b (some m)) (hm:m∈E):Kb E a b:=⟨h.os,h.tape,h.output,h.size,fun k hk he=>h.block k hk fun e=>he (by cases e;exact hm)⟩
theorem Kb.drew {E:List Nat} {a b:World} (h:Kb E a b):Kb E a b.drew:=⟨h.os,h.tape,h.output,h.size,h.block⟩
theorem Kb.alloc {E:List Nat} {a b:World} (h:Kb E a b) (o:Obj):Kb E a (b.alloc o):=h.trans (Kb.of_below (bel1 _ _))
theorem Kb.set {E:List Nat} {a b:World} (h:Kb E a b) {g o:Nat} (hg:g∈E) (v:Value):Kb E a (b.setCell ⟨g,o,none⟩ v):=by
 refine⟨h.os,h.tape,h.output,?_,fun k hk he=>?_⟩
 ·show a.heap.size<=(b.heap.modify g _).size
  rw[Array.size_modify];exact h.size
 ·show (b.heap.modify g _)[k]?=_
  rw[Array.getElem?_modify,if_neg (fun e=>he (by subst e;exact hg))]
  exact h.block k hk he
theorem Kb.below {E:List Nat} {a b:World} {B:Nat} (h:Kb E a b) (hB:B<=a.heap.size) (hE:∀ x∈E,B<=x):Below B a b:=⟨h.os,h.tape,h.output,h.size,fun k hk=>h.block k (by omega) fun hx=>by have:=hE k hx;omega⟩
theorem Kb.cell {E:List Nat} {a b:World} (h:Kb E a b) {g o:Nat} (hg:g<a.heap.size) (hE:g∉E):b.cell? ⟨g,o,none⟩=a.cell? ⟨g,o,none⟩:=cell_blk (h.block g hg hE)
theorem Kb0 {w W:World} (h:Kb [] w W):Below w.heap.size w W:=⟨h.os,h.tape,h.output,h.size,fun k hk=>h.block k hk List.not_mem_nil⟩
theorem tdr1 {B:Nat} {a w:World} (h:Below B a w):Below B a w.drew:=⟨h.os,h.tape,h.output,h.size,h.block⟩
structure Sv where
 at_:Nat
 cnt:Int
 last:Int
 fld:Int
 row:Int
 en:Int
 cod:Int
def svC (g o:Nat) (s:Sv):List Value:=[.pointer (some ⟨g,o+s.at_*21,none⟩),.int .i64 (s.at_:Int),.int .i64 s.cnt,.int .i64 s.last,.int .i64 s.fld,.int .i64 s.row,.int .i64 s.en,.int .i64 s.cod]
def svCs (g o:Nat) (l:List Sv):List Value:=l.flatMap (svC g o)
theorem svCs_length (g o:Nat) (l:List Sv):(svCs g o l).length=l.length*8:=by
 induction l with
 | nil=>rfl
 | cons a r ih =>
  unfold svCs at ih ⊢
  rw[List.flatMap_cons,List.length_append,ih,List.length_cons]
  show 8+_=_
  omega
theorem svCs_append (g o:Nat) (a b:List Sv):svCs g o (a++b)=svCs g o a++svCs g o b:=by unfold svCs;rw[List.flatMap_append]
structure ScC (w:World) (g o go k:Nat) (x:Sv):Prop where
 c0:w.cell? ⟨go,k,none⟩=some (.pointer (some ⟨g,o+x.at_*21,none⟩))
 c1:w.cell? ⟨go,k+1,none⟩=some (.int .i64 (x.at_:Int))
 c2:w.cell? ⟨go,k+2,none⟩=some (.int .i64 x.cnt)
 c3:w.cell? ⟨go,k+3,none⟩=some (.int .i64 x.last)
 c4:w.cell? ⟨go,k+4,none⟩=some (.int .i64 x.fld)
 c5:w.cell? ⟨go,k+5,none⟩=some (.int .i64 x.row)
 c6:w.cell? ⟨go,k+6,none⟩=some (.int .i64 x.en)
 c7:w.cell? ⟨go,k+7,none⟩=some (.int .i64 x.cod)
structure OpR (w:World) (g o go cap:Nat) (l:List Sv):Prop where
 ex:∃ cur:Array Value,w.heap[go]?=some (.cells cur 164 (0,0))/\l.length<=cap/\cap<=maxLen/\cur.size=cap*8/\cur.toList.take (l.length*8)=svCs g o l
theorem OpR.same {w w':World} {g o go cap:Nat} {l:List Sv} (h:OpR w g o go cap l) (hb:w'.heap[go]?=w.heap[go]?):OpR w' g o go cap l:=by
 obtain⟨cur,h1,r⟩:=h.ex
 exact⟨cur,hb.trans h1,r⟩
theorem OpR.lt {w:World} {g o go cap:Nat} {l:List Sv} (h:OpR w g o go cap l):go<w.heap.size:=by
 obtain⟨cur,h1,_⟩:=h.ex
 exact(Array.getElem?_eq_some_iff.1 h1).1
theorem OpR.owns {w:World} {g o go cap:Nat} {l:List Sv} (h:OpR w g o go cap l) {base:Nat} (hb:base<=go):w.ownsRow base 164 8 (.slice (some ⟨go,0,none⟩) l.length cap) l.length (svCs g o l):=by
 obtain⟨cur,h1,h2,h3,h4,h5⟩:=h.ex
 exact⟨svCs_length g o l,.inr ⟨go,cap,cur,rfl,hb,h1,h2,h3,h4,h5⟩⟩
theorem OpR.cell {w:World} {g o go cap:Nat} {l:List Sv} (h:OpR w g o go cap l) {j:Nat} {u:Value} (hu:(svCs g o l)[j]?=some u):w.cell? ⟨go,j,none⟩=some u:=by
 obtain⟨cur,h1,h2,h3,h4,h5⟩:=h.ex
 rw[<- h5,List.getElem?_take] at hu
 split at hu
 ·simp only[World.cell?,h1]
  simpa using hu
 ·cases hu
theorem svCs_last (g o:Nat) (L:List Sv) (x:Sv) (j:Nat) (hj:j<8):(svCs g o (L++[x]))[L.length*8+j]?=(svC g o x)[j]?:=by
 rw[svCs_append,List.getElem?_append_right (by rw[svCs_length];omega),svCs_length]
 rw[show L.length*8+j-L.length*8=j by omega]
 unfold svCs
 rw[List.flatMap_cons,List.flatMap_nil,List.append_nil]
theorem OpR.last {w:World} {g o go cap:Nat} {L:List Sv} {x:Sv} (h:OpR w g o go cap (L++[x])):ScC w g o go (L.length*8) x :=
 have c:=fun j u (hj:j<8) (hu:(svC g o x)[j]?=some u)=>h.cell ((svCs_last g o L x j hj).trans hu)
 ⟨c 0 _ (by decide) rfl,c 1 _ (by decide) rfl,c 2 _ (by decide) rfl,c 3 _ (by decide) rfl,c 4 _ (by decide) rfl,c 5 _ (by decide) rfl,c 6 _ (by decide) rfl,c 7 _ (by decide) rfl⟩
theorem OpR.set {w:World} {g o go cap:Nat} {L:List Sv} {x x':Sv} {j:Nat} {v:Value} (h:OpR w g o go cap (L++[x])) (hj:j<8) (hx:svC g o x'=(svC g o x).set j v):OpR (w.setCell ⟨go,L.length*8+j,none⟩ v) g o go cap (L++[x']):=by
 obtain⟨cur,h1,h2,h3,h4,h5⟩:=h.ex
 have hl:(L++[x]).length=(L++[x']).length:=by simp
 have hx8:(svC g o x).length=8:=rfl
 refine⟨cur.setIfInBounds (L.length*8+j) v,?_,by rw[<- hl];exact h2,h3,by rw[Array.size_setIfInBounds];exact h4,?_⟩
 ·show (w.heap.modify go _)[go]?=_
  rw[Array.getElem?_modify,if_pos rfl,h1]
  rfl
 ·rw[Array.toList_setIfInBounds,List.take_set,<- hl,h5,svCs_append,svCs_append,List.set_append_right _ _ (by rw[svCs_length];omega),svCs_length]
  rw[show L.length*8+j-L.length*8=j by omega]
  congr 1
  unfold svCs
  rw[List.flatMap_cons,List.flatMap_nil,List.append_nil,List.flatMap_cons,List.flatMap_nil,List.append_nil,hx]
theorem tdr {B n:Nat} {a w:World} (h:Below B a w):Below B a (w.drewN n):=⟨h.os,h.tape,h.output,h.size,h.block⟩
theorem top_any (B go n cap:Nat) (w:World) (hc:w.cell? ⟨B,0,none⟩=some (.slice (some ⟨go,0,none⟩) (n+1) cap)) (hn:n<1000000000000) :
  Calls Tryz.prog 92 #[.pointer (some ⟨B,0,none⟩)] w fun r w'=>r = .returned (.pointer (some ⟨go,n*8,none⟩))/\Below w.heap.size w w':=by
 have e1:((n+1:Nat):Int)-1=(n:Int):=by omega
 have e2:(n:Int)<((n+1:Nat):Int):=by omega
 go_enter Tryz.func92,Tryz.ntmps92
 go_wp2_with fail
 go_quiet (fail)
 go_wp2_with fail
 go_ret
 exact⟨rfl,tdr (Below.refl _ _)⟩
theorem isEmpty_any (B n cap:Nat) (p:Option Addr) (w:World) (hc:w.cell? ⟨B,0,none⟩=some (.slice p n cap)) :
  Calls Tryz.prog 91 #[.pointer (some ⟨B,0,none⟩)] w fun r w'=>r = .returned (.bool (decide (n=0)))/\w'=w:=by
 go_enter Tryz.func91,Tryz.ntmps91
 go_wp2_with fail
 go_ret
 exact⟨rb (by rw[Bool.eq_iff_iff];simp),rfl⟩
structure CkC (w:World) (B gf:Nat) (op:Value) (i:Int) (rl:Value) (m1 m2 m3:Nat) (dep:Nat->Int) (wh:Bool):Prop where
 lt:B<w.heap.size
 c0:w.cell? ⟨B,0,none⟩=some op
 c1:w.cell? ⟨B,1,none⟩=some (.pointer (some ⟨gf,0,none⟩))
 c2:w.cell? ⟨B,2,none⟩=some (.int .i64 i)
 c3:w.cell? ⟨B,3,none⟩=some rl
 cd:∀ q,q<16->w.cell? ⟨B,4+q,none⟩=some (.int .i64 (dep q))
 c20:w.cell? ⟨B,20,none⟩=some (.map (some m1))
 c21:w.cell? ⟨B,21,none⟩=some (.map (some m2))
 c22:w.cell? ⟨B,22,none⟩=some (.map (some m3))
 c23:w.cell? ⟨B,23,none⟩=some (.bool wh)
theorem CkC.same {w w':World} {B gf:Nat} {op:Value} {i:Int} {rl:Value} {m1 m2 m3:Nat} {dep:Nat->Int} {wh:Bool} (h:CkC w B gf op i rl m1 m2 m3 dep wh) (hs:w.heap.size<=w'.heap.size) (hb:w'.heap[B]?=w.heap[B]?):CkC w' B gf op i rl m1 m2 m3 dep wh :=
 ⟨Nat.lt_of_lt_of_le h.lt hs,(cell_blk hb).trans h.c0,(cell_blk hb).trans h.c1,(cell_blk hb).trans h.c2,(cell_blk hb).trans h.c3,fun q hq=>(cell_blk hb).trans (h.cd q hq),(cell_blk hb).trans h.c20,(cell_blk hb).trans h.c21,(cell_blk hb).trans h.c22,(cell_blk hb).trans h.c23⟩
theorem ScC.same {w w':World} {g o go k:Nat} {x:Sv} (h:ScC w g o go k x) (hb:w'.heap[go]?=w.heap[go]?):ScC w' g o go k x :=
 ⟨(cell_blk hb).trans h.c0,(cell_blk hb).trans h.c1,(cell_blk hb).trans h.c2,(cell_blk hb).trans h.c3,(cell_blk hb).trans h.c4,(cell_blk hb).trans h.c5,(cell_blk hb).trans h.c6,(cell_blk hb).trans h.c7⟩
theorem lawS:Keyed Tryz.prog 9:=string_keyed Tryz.underlying9
theorem zeroU (w:World):(zeroValue 175).run Tryz.prog w = .ok (.agg #[]) w:=by kernel_rfl
theorem keyS (s:ByteArray) (hs:s.size<=maxLen):keyOf Tryz.prog 9 (.string s)=some (.string s.data.toList):=by
 exact Go.WideMaps.keyOf_string_mk Tryz.underlying9 hs
def SHas (W:World) (m n:Nat) (hs:ByteArray->Prop):Prop:=∃ D:DataW Unit,W.ownsMap Tryz.prog 9 unitElem m n D/\∀ s:ByteArray,s.size<=maxLen->(Maps.has D (.string s.data.toList)=true↔hs s)
theorem SHas.same {W W':World} {m n:Nat} {hs:ByteArray->Prop} (h:SHas W m n hs) (hb:W'.heap[m]?=W.heap[m]?):SHas W' m n hs:=by
 obtain⟨D,⟨es,ck,e,r⟩,h2⟩:=h
 exact⟨D,⟨es,ck,hb.trans e,r⟩,h2⟩
theorem SHas.made (w:World):SHas (w.alloc (.map #[] 0)) w.heap.size 0 (fun _=>False) :=
 ⟨_,World.ownsMap_made w _ _ _,fun s _=>by rw[has_nil];simp⟩
theorem ba_inj {a b:ByteArray} (h:a.data.toList=b.data.toList):a=b:=ByteArray.ext (Array.toList_inj.1 h)
theorem SHas.put {W W':World} {m n:Nat} {hs:ByteArray->Prop} {D:DataW Unit} (hD:W.ownsMap Tryz.prog 9 unitElem m n D) (h:∀ s:ByteArray,s.size<=maxLen->(Maps.has D (.string s.data.toList)=true↔hs s)) {s0:ByteArray} (hs0:s0.size<=maxLen) {d:DataW Unit} (h':W'.ownsMap Tryz.prog 9 unitElem m (n+1) (D.put (.string s0.data.toList) d)) :
  SHas W' m (n+1) (fun s=>s=s0\/hs s):=by
 refine⟨_,h',fun s hs=>?_⟩
 by_cases e:s=s0
 ·subst e
  rw[has_put_same hD.isMap (lawS.key (keyS s hs))]
  simp
 ·rw[has_put_other (fun e'=>e (ba_inj (by injection e'))),h s hs]
  simp[e]
def PtC (l:List Tk) (W:World) (lo hi:Nat):Nat->Nat->Nat->Prop
 | 0,_,_=>False
 | d+1,g,p=>(lo<=g/\g<hi)/\∃ (m k:Nat) (v:Value) (gs:List Nat),W.heap[g]?=some (.cells #[.int .i64 (knd (opAt l p)),.string (nmAt l p),.int .i64 (p:Int),.int .u64 (gmax (bpAt l p)),.map (some m),v] 173) /\
  (lo<=m/\m<hi/\SHas W m k (fun s=>∃ i∈fldZ l p,nmAt l i=s))/\(∀ r,v.ownBlock=some r->r<hi)/\W.ownsRow lo 113 1 v gs.length (gs.map fun g=>Value.pointer (some ⟨g,0,none⟩)) /\
  gs.length=(rowZ l p).length/\∀ (j g' q:Nat),gs[j]?=some g'->(rowZ l p)[j]?=some q->PtC l W lo hi d g' q
theorem own_keepP {W W':World} {base:Nat} {e:TypeId} {s:Nat} {v:Value} {n:Nat} {xs:List Value} (h:W.ownsRow base e s v n xs) (hb:∀ k,v.ownBlock=some k->W'.heap[k]?=W.heap[k]?):W'.ownsRow base e s v n xs:=by
 refine⟨h.1,?_⟩
 rcases h.2 with h0|⟨g,cap,cur,rfl,hb',hg,r⟩
 ·exact .inl h0
 ·exact .inr ⟨g,cap,cur,rfl,hb',(hb g rfl).trans hg,r⟩
theorem PtC.same {l:List Tk} {W W':World} {lo hi:Nat} (hb:∀ k,lo<=k->k<hi->W'.heap[k]?=W.heap[k]?):∀ {d g p:Nat},PtC l W lo hi d g p->PtC l W' lo hi d g p
 | 0,_,_,h=>h.elim
 | _+1,g,_,⟨hg,m,k,v,gs,h1,⟨h2,h3,h4⟩,h5,h6,h7,h8⟩ =>
  ⟨hg,m,k,v,gs,(hb g hg.1 hg.2).trans h1,⟨h2,h3,h4.same (hb m h2 h3)⟩,h5,own_keepP h6 (fun r hr=>hb r (h6.lt r hr).1 (h5 r hr)),h7,fun j g' q e1 e2=>PtC.same hb (h8 j g' q e1 e2)⟩
theorem PtC.mono {l:List Tk} {W:World} {lo lo' hi hi':Nat} (hl:lo'<=lo) (hh:hi<=hi'):∀ {d g p:Nat},PtC l W lo hi d g p->PtC l W lo' hi' d g p
 | 0,_,_,h=>h.elim
 | _+1,_,_,⟨hg,m,k,v,gs,h1,⟨h2,h3,h4⟩,h5,h6,h7,h8⟩ =>
  ⟨⟨by omega,by omega⟩,m,k,v,gs,h1,⟨by omega,by omega,h4⟩,fun r hr=>by have:=h5 r hr;omega,own_lower h6 hl,h7,fun j g' q e1 e2=>PtC.mono hl hh (h8 j g' q e1 e2)⟩
def PtA (l:List Tk) (W:World) (lo hi g p:Nat):Prop:=∃ d,PtC l W lo hi d g p
theorem PtA.same {l:List Tk} {W W':World} {lo hi g p:Nat} (h:PtA l W lo hi g p) (hb:∀ k,lo<=k->k<hi->W'.heap[k]?=W.heap[k]?):PtA l W' lo hi g p:=⟨h.choose,PtC.same hb h.choose_spec⟩
def lvC (g:Nat) (x:Lv):List Value:=[.pointer (some ⟨g,0,none⟩),.int .i64 x.left,.bool x.begun,.int .i64 (x.come:Int)]
def lvCs:List (Nat×Lv)->List Value
 | []=>[]
 | y::r=>lvC y.1 y.2++lvCs r
theorem lvCs_append (a b:List (Nat×Lv)):lvCs (a++b)=lvCs a++lvCs b:=by
 induction a with
 | nil=>rfl
 | cons x a ih=>rw[List.cons_append,lvCs,lvCs,ih,List.append_assoc]
theorem lvCs_length (a:List (Nat×Lv)):(lvCs a).length=a.length*4:=by
 induction a with
 | nil=>rfl
 | cons x a ih=>rw[lvCs,List.length_append,ih,List.length_cons];show 4+_=_;omega
theorem lvCs_one (a:List (Nat×Lv)):∀ u∈lvCs a,u.oneCell'=true:=by
 induction a with
 | nil=>intro u hu;cases hu
 | cons x a ih =>
  intro u hu
  rcases List.mem_append.1 hu with h|h
  ·simp only[lvC,List.mem_cons,List.not_mem_nil,or_false] at h
   rcases h with rfl|rfl|rfl|rfl<;>rfl
  ·exact ih u h
def Op4 (W:World) (go cap:Nat) (zs:List (Nat×Lv)):Prop:=∃ cur:Array Value,W.heap[go]?=some (.cells cur 115)/\zs.length<=cap/\cap<=maxLen/\cur.size=cap*4/\cur.toList.take (zs.length*4)=lvCs zs
theorem Op4.same {W W':World} {go cap:Nat} {zs:List (Nat×Lv)} (h:Op4 W go cap zs) (hb:W'.heap[go]?=W.heap[go]?):Op4 W' go cap zs:=by
 obtain⟨cur,h1,h2⟩:=h
 exact⟨cur,hb.trans h1,h2⟩
theorem Op4.lt {W:World} {go cap:Nat} {zs:List (Nat×Lv)} (h:Op4 W go cap zs):go<W.heap.size:=by
 obtain⟨cur,h1,_⟩:=h
 exact(Array.getElem?_eq_some_iff.1 h1).1
theorem lvCs_get:∀ (zs:List (Nat×Lv)) (i:Nat) (y:Nat×Lv) (ys:List Value),zs[i]?=some y->∀ j,j<4->(lvCs zs++ys)[i*4+j]?=(lvC y.1 y.2)[j]?
 | [],_,_,_,h,_,_=>by cases h
 | a::r,0,y,ys,h,j,hj=>by
  cases h
  rw[lvCs,List.append_assoc,List.getElem?_append_left (by show 0*4+j<4;omega),Nat.zero_mul,Nat.zero_add]
 | a::r,i+1,y,ys,h,j,hj=>by
  have ih:=lvCs_get r i y ys h j hj
  have hl:(lvC a.1 a.2).length=4:=rfl
  rw[lvCs,List.append_assoc,List.getElem?_append_right (by omega),hl,<- ih]
  congr 1
  omega
theorem Op4.at {W:World} {go cap:Nat} {zs:List (Nat×Lv)} (h:Op4 W go cap zs) {i:Nat} {y:Nat×Lv} (hy:zs[i]?=some y) (j:Nat) (hj:j<4):W.cell? ⟨go,i*4+j,none⟩=(lvC y.1 y.2)[j]?:=by
 obtain⟨cur,h1,h2,h3,h4,h5⟩:=h
 have hi:=(List.getElem?_eq_some_iff.1 hy).1
 have e:=lvCs_get zs i y [] hy j hj
 rw[List.append_nil,<- h5,List.getElem?_take,if_pos (by omega),Array.getElem?_toList] at e
 rw[cell_at h1]
 exact e
structure SM (W:World) (a go cap k:Nat) (zs:List (Nat×Lv)) (ent:Int):Prop where
 c:W.heap[a]?=some (.cells #[.slice (some ⟨go,0,none⟩) k cap,.int .i64 ent] 103)
 o:Op4 W go cap zs
 kl:k<=zs.length
 k1:0<k
 ne:a≠go
 zl:zs.length<=1000000
theorem SM.same {W W':World} {a go cap k:Nat} {zs:List (Nat×Lv)} {ent:Int} (h:SM W a go cap k zs ent) (h1:W'.heap[a]?=W.heap[a]?) (h2:W'.heap[go]?=W.heap[go]?):SM W' a go cap k zs ent:=⟨h1.trans h.c,h.o.same h2,h.kl,h.k1,h.ne,h.zl⟩
theorem SM.lt {W:World} {a go cap k:Nat} {zs:List (Nat×Lv)} {ent:Int} (h:SM W a go cap k zs ent):a<W.heap.size/\go<W.heap.size:=⟨(Array.getElem?_eq_some_iff.1 h.c).1,h.o.lt⟩
theorem SM.below {W W':World} {a go cap k:Nat} {zs:List (Nat×Lv)} {ent:Int} (h:SM W a go cap k zs ent) (hb:Below W.heap.size W W'):SM W' a go cap k zs ent:=h.same (hb.block _ h.lt.1) (hb.block _ h.lt.2)
theorem SM.c0 {W:World} {a go cap k:Nat} {zs:List (Nat×Lv)} {ent:Int} (h:SM W a go cap k zs ent):W.cell? ⟨a,0,none⟩=some (.slice (some ⟨go,0,none⟩) k cap):=cell_at h.c 0
theorem SM.c1 {W:World} {a go cap k:Nat} {zs:List (Nat×Lv)} {ent:Int} (h:SM W a go cap k zs ent):W.cell? ⟨a,1,none⟩=some (.int .i64 ent):=cell_at h.c 1
abbrev lvV (g:Nat) (x:Lv):Value:=.agg #[.pointer (some ⟨g,0,none⟩),.int .i64 x.left,.bool x.begun,.int .i64 (x.come:Int)]
abbrev lvO (g:Nat) (x:Lv):Obj:=.cells #[.pointer (some ⟨g,0,none⟩),.int .i64 x.left,.bool x.begun,.int .i64 (x.come:Int)] 115
theorem PtA.row {l:List Tk} {W:World} {lo hi g p:Nat} (h:PtA l W lo hi g p):∃ (m k:Nat) (pr:Option Addr) (cr:Nat),W.heap[g]?=some (.cells #[.int .i64 (knd (opAt l p)),.string (nmAt l p),.int .i64 (p:Int),.int .u64 (gmax (bpAt l p)),.map (some m),.slice pr (rowZ l p).length cr] 173)/\SHas W m k (fun s=>∃ i∈fldZ l p,nmAt l i=s) /\
  ∀ (j q:Nat),(rowZ l p)[j]?=some q->∃ r g',pr=some ⟨r,0,none⟩/\W.cell? ⟨r,j,none⟩=some (.pointer (some ⟨g',0,none⟩))/\PtA l W lo hi g' q:=by
 obtain⟨d,h⟩:=h
 cases d with
 | zero=>exact h.elim
 | succ d =>
  obtain⟨hg,m,k,v,gs,h1,⟨h2,h3,h4⟩,h5,h6,h7,h8⟩:=h
  rcases h6.2 with ⟨hv,hn⟩|⟨r,cap,cur,hv,_,hr,hc,_,hs,ht⟩
  ·refine⟨m,k,none,0,by rw[h1,hv,<- h7,hn],h4,fun j q hq=>?_⟩
   have:=(List.getElem?_eq_some_iff.1 hq).1
   omega
  ·refine⟨m,k,some ⟨r,0,none⟩,cap,by rw[h1,hv,<- h7],h4,fun j q hq=>?_⟩
   have hj:=(List.getElem?_eq_some_iff.1 hq).1
   obtain⟨g',hg'⟩:∃ g',gs[j]?=some g':=⟨gs[j]'(by omega),List.getElem?_eq_getElem (by omega)⟩
   refine⟨r,g',rfl,?_,d,h8 j g' q hg' hq⟩
   have e:(gs.map fun g=>Value.pointer (some ⟨g,0,none⟩))[j]?=some (.pointer (some ⟨g',0,none⟩)):=by rw[List.getElem?_map,hg'];rfl
   rw[<- ht,List.getElem?_take] at e
   split at e
   ·rw[cell_at hr,<- e,Array.getElem?_toList]
   ·cases e
end Go.Proofs.YtjlbcdnkglaheaaGreatDoor
