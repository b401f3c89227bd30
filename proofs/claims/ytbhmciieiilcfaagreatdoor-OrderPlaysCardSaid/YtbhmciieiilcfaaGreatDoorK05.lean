import Derived.Test.YtbhmciieiilcfaaGreatDoorK04
import Derived.Deep.WholeRow
namespace Go.Proofs.YtbhmciieiilcfaaGreatDoor
set_option maxRecDepth 1000000
set_option maxHeartbeats 16000000
open Go.ChangeShapes Go.WideShapes Go.ChangeAt Go.RowKit Go.Shelf Go.Maps
variable {P:Program} {W W' a w:World} {cap cc cp g go i k n o p:Nat} {d:DL} {f:Fm} {ks:List Nat} {l:List Tk} {pc pp:Option Addr} {rest:List Oper} {t u:Tk} {zs:List DL}
abbrev tkO (t:Tk) (pc:Option Addr) (cc:Nat):Obj:=.cells (tkC t pc cc).toArray 83
theorem bdN {B:Nat} (h:Below B a w) (n:Nat):Below B a (w.drewN n):=⟨h.os,h.tape,h.output,h.size,h.block⟩
theorem two_b (w:World) (A B:Obj):Below w.heap.size w ((w.alloc A).alloc B):=(bel1 w A).alloc (by simp) B
theorem two_1 (w:World) (A B:Obj):((w.alloc A).alloc B).heap[w.heap.size]?=some A:=by
 show ((w.heap.push A).push B)[w.heap.size]?=_
 rw[Array.getElem?_push,if_neg (by simp),Array.getElem?_push,if_pos rfl]
theorem two_2 (w:World) (A B:Obj):((w.alloc A).alloc B).heap[w.heap.size+1]?=some B:=by
 show ((w.heap.push A).push B)[w.heap.size+1]?=_
 rw[Array.getElem?_push,if_pos (by simp)]
theorem tk_of (h:w.heap[g]?=some (tkO t pc cc)):TkC w g 0 t pc cc :=
 tkC_of fun j u hu=>by
  rw[Nat.zero_add,cell_at h j,List.getElem?_toArray]
  exact hu
theorem wpList_ld {ops:Array Oper} {Q:Exit->Act->World->Prop} {a:Act} {o:Oper} (ty:TypeId) (x:Operand) (ho:o.op = .load ty x)
  (hw:Region.wanted o (yielded ops a.tmps)=true) (p v:Value) (hx:a.eval x=p) (hr:(Instr.loadAt ty p).run P w = .ok v w) (h:wpList P ops Q rest (a.put o.dst v) w):wpList P ops Q (o::rest) a w:=by
 refine wpList_step fun K hK=>?_
 rw[if_pos hw]
 unfold Oper.wp execOp
 simp only[ho,hx,hr,Sem.run_bind,Result.andThen_ok]
 exact hK _ _ h
theorem tk_range (h:TkC w g o t pc cc):w.rangeAt g o (tkC t pc cc):=by
 intro j v hv
 have hj:j<21:=(List.getElem?_eq_some_iff.1 hv).1
 have h21:j=0\/j=1\/j=2\/j=3\/j=4\/j=5\/j=6\/j=7\/j=8\/j=9\/j=10\/j=11\/j=12\/j=13\/j=14\/j=15\/j=16\/j=17\/j=18\/j=19\/j=20:=by omega
 rcases h21 with rfl|rfl|rfl|rfl|rfl|rfl|rfl|rfl|rfl|rfl|rfl|rfl|rfl|rfl|rfl|rfl|rfl|rfl|rfl|rfl|rfl<;>cases Option.some.inj hv
 ·exact h.c0
 ·exact h.c1
 ·exact h.c2
 ·exact h.c3
 ·exact h.c4
 ·exact h.c5
 ·exact h.c6
 ·exact h.c7
 ·exact h.c8
 ·exact h.c9
 ·exact h.c10
 ·exact h.c11
 ·exact h.c12
 ·exact h.c13
 ·exact h.c14
 ·exact h.c15
 ·exact h.c16
 ·exact h.c17
 ·exact h.c18
 ·exact h.c19
 ·exact h.c20
theorem infoTk:(Tryz.prog.info? 83).map (·.size)=some 21:=by kernel_rfl
theorem undTk:∃ d,Tryz.prog.underlying 83=some d/\d.isRow=true:=⟨_,Tryz.underlying83,rfl⟩
theorem TkC.load (h:TkC w g o t pc cc):(Instr.loadAt 83 (.pointer (some ⟨g,o,none⟩))).run Tryz.prog w = .ok (tkV t pc cc) w:=by
 obtain⟨d,hu,hd⟩:=undTk
 exact run_loadAt_mid w g o 83 (tkC t pc cc) d (tk_range h) hu hd infoTk
theorem wpList_st {ops:Array Oper} {Q:Exit->Act->World->Prop} {a:Act} {w':World} {o:Oper} (ty:TypeId) (x y:Operand) (ho:o.op = .store ty x y)
  (hw:Region.wanted o (yielded ops a.tmps)=true) (p v:Value) (hx:a.eval x=p) (hy:a.eval y=v) (hr:(Instr.storeAt ty p v).run P w = .ok () w') (h:wpList P ops Q rest (a.put o.dst undef) w'):wpList P ops Q (o::rest) a w:=by
 refine wpList_step fun K hK=>?_
 rw[if_pos hw]
 unfold Oper.wp execOp
 simp only[ho,hx,hy,hr,Sem.run_bind,Result.andThen_ok]
 exact hK _ _ h
theorem tkC_one (t:Tk) (pc:Option Addr) (cc:Nat):∀ u∈tkC t pc cc,u.oneCell'=true:=by
 intro u hu
 simp only[tkC,List.mem_cons,List.not_mem_nil,or_false] at hu
 rcases hu with rfl|rfl|rfl|rfl|rfl|rfl|rfl|rfl|rfl|rfl|rfl|rfl|rfl|rfl|rfl|rfl|rfl|rfl|rfl|rfl|rfl<;>rfl
theorem st_new (w:World) (z:Array Value) (hz:z.size=21) (t:Tk) (pc:Option Addr) (cc:Nat):(Instr.storeAt 83 (.pointer (some ⟨w.heap.size,0,none⟩)) (tkV t pc cc)).run Tryz.prog (w.alloc (.cells z 83)) = .ok () (w.alloc (tkO t pc cc)) :=
 run_storeAt_new w 83 z (tkC t pc cc).toArray infoTk hz (all_oneCell_toArray (tkC_one t pc cc))
theorem ba_eq {a b:ByteArray}:a=b↔a.toList=b.toList:=by
 constructor
 ·intro e;rw[e]
 ·intro e
  rw[ByteArray.toList_eq,ByteArray.toList_eq] at e
  exact ByteArray.ext (Array.toList_inj.1 e)
theorem tk_eq:t=u↔t.cst=u.cst/\t.op=u.op/\t.name.toList=u.name.toList/\t.id=u.id/\t.off=u.off/\t.siz=u.siz/\t.since=u.since/\t.prim=u.prim/\t.len=u.len/\t.pres=u.pres/\t.nul=u.nul/\t.lo=u.lo/\t.hi=u.hi/\t.val=u.val/\t.blk=u.blk/\t.full=u.full/\t.a.p=u.a.p/\t.a.o=u.a.o/\t.b.p=u.b.p/\t.b.o=u.b.o/\t.pair=u.pair:=by
 rw[<- ba_eq]
 obtain⟨op1,nm1,id1,of1,sz1,si1,pr1,ln1,ps1,nu1,lo1,hi1,cs1,vl1,bk1,fl1,⟨ap1,ao1⟩,⟨bp1,bo1⟩,pa1⟩:=t
 obtain⟨op2,nm2,id2,of2,sz2,si2,pr2,ln2,ps2,nu2,lo2,hi2,cs2,vl2,bk2,fl2,⟨ap2,ao2⟩,⟨bp2,bo2⟩,pa2⟩:=u
 simp only[Tk.mk.injEq,Sp.mk.injEq]
 constructor
 ·rintro⟨rfl,rfl,rfl,rfl,rfl,rfl,rfl,rfl,rfl,rfl,rfl,rfl,rfl,rfl,rfl,rfl,⟨rfl,rfl⟩,⟨rfl,rfl⟩,rfl⟩;exact⟨rfl,rfl,rfl,rfl,rfl,rfl,rfl,rfl,rfl,rfl,rfl,rfl,rfl,rfl,rfl,rfl,rfl,rfl,rfl,rfl,rfl⟩
 ·rintro⟨rfl,rfl,rfl,rfl,rfl,rfl,rfl,rfl,rfl,rfl,rfl,rfl,rfl,rfl,rfl,rfl,rfl,rfl,rfl,rfl,rfl⟩;exact⟨rfl,rfl,rfl,rfl,rfl,rfl,rfl,rfl,rfl,rfl,rfl,rfl,rfl,rfl,rfl,rfl,⟨rfl,rfl⟩,⟨rfl,rfl⟩,rfl⟩
theorem refSameTk_any (t u:Tk) (p1 p2:Option Addr) (c1 c2:Nat) (w:World) (h1:URow w p1 w.heap.size t.cst) (h2:URow w p2 w.heap.size u.cst) (hs:t.cst.length*8<=140737488355328):Calls Tryz.prog 78 #[tkV t p1 c1,tkV u p2 c2] w fun r w'=>Ans r (t=u)/\Below w.heap.size w w':=by
 have hA:=tk_of (two_1 w (tkO t p1 c1) (tkO u p2 c2))
 have hC:=tk_of (two_2 w (tkO t p1 c1) (tkO u p2 c2))
 have HB:Hid (Below w.heap.size w ((w.alloc (tkO t p1 c1)).alloc (tkO u p2 c2))):=⟨two_b w _ _⟩
 have HS:Hid (w.heap.size+1<((w.alloc (tkO t p1 c1)).alloc (tkO u p2 c2)).heap.size):=⟨by simp⟩
 replace h1:=(h1.below HB.out).mono HB.out.size
 replace h2:=(h2.below HB.out).mono HB.out.size
 simp only[tkO,tkC] at hA hC HB HS h1 h2
 generalize hW:(w.alloc (.cells [Value.int .i64 t.op,.string t.name,.int .i64 t.id,.int .i64 t.off,.int .i64 t.siz,.int .i64 t.since,.int .i64 t.prim,.int .i64 t.len,.int .i64 t.pres,.int .u64 t.nul,.int .u64 t.lo,.int .u64 t.hi,.slice p1 t.cst.length c1,.int .u64 t.val,.int .i64 t.blk,.int .i64 t.full,.int .i64 t.a.p,.int .i64 t.a.o,.int .i64 t.b.p,.int .i64 t.b.o,.int .i64 t.pair].toArray 83)).alloc _=W at hA hC HB HS h1 h2
 have a12:W.cell? ⟨w.heap.size,12,none⟩=some (.slice p1 t.cst.length c1):=hA.c12
 have b12:W.cell? ⟨w.heap.size+1,12,none⟩=some (.slice p2 u.cst.length c2):=hC.c12
 replace hA:Hid (TkC W w.heap.size 0 t p1 c1):=⟨hA⟩
 replace hC:Hid (TkC W (w.heap.size+1) 0 u p2 c2):=⟨hC⟩
 by_cases hlm:t.cst.length=u.cst.length
 ·have b1:((t.cst.length:Int) != (u.cst.length:Int))=false:=by simp[hlm]
  have HL:Hid (t.cst.length=u.cst.length):=⟨hlm⟩
  clear hlm
  go_enter Tryz.func78,Tryz.ntmps78
  go_wp2_with fail
  clear b1
  go_loopw [5] (fun i wr=>∃ j:Nat,j<=t.cst.length/\i = .int .i64 j/\Below W.heap.size W wr/\Hid (t.cst=u.cst↔t.cst.drop j=u.cst.drop j)) (fun i _=>t.cst.length-(RowKit.intOf i).toNat)
  case atStart=>exact⟨0,Nat.zero_le _,rfl,Below.refl _ _,⟨Iff.rfl⟩⟩
  case round =>
   clear a12 b12 hW
   obtain⟨j,hj,rfl,hB,hq⟩:=hrel
   have kA:=hA.out.below (Nat.lt_of_succ_lt HS.out) hB
   have kC:=hC.out.below HS.out hB
   have a12:wr.cell? ⟨w.heap.size,12,none⟩=some (.slice p1 t.cst.length c1):=kA.c12
   have b12:wr.cell? ⟨w.heap.size+1,12,none⟩=some (.slice p2 u.cst.length c2):=kC.c12
   by_cases hlt:j<t.cst.length
   ·obtain⟨a,hx⟩:∃ a,t.cst[j]?=some a:=⟨t.cst[j],List.getElem?_eq_getElem hlt⟩
    obtain⟨b,hy⟩:∃ b,u.cst[j]?=some b:=⟨u.cst[j]'(by have:=HL.out;omega),List.getElem?_eq_getElem (by have:=HL.out;omega)⟩
    obtain⟨g,o,rfl,hg,q0⟩:=h1.c j a hx
    obtain⟨g2,o2,rfl,hg2,k0⟩:=h2.c j b hy
    replace q0:=(hB.cell (p:=⟨g,_,none⟩) hg).trans q0
    replace k0:=(hB.cell (p:=⟨g2,_,none⟩) hg2).trans k0
    have hlti:(j:Int)<t.cst.length:=by omega
    have hltm:(j:Int)<u.cst.length:=by have:=HL.out;omega
    have hd:Hid (t.cst=u.cst↔a=b/\t.cst.drop (j+1)=u.cst.drop (j+1)):=⟨by rw[hq.out,drop_at hx,drop_at hy,List.cons.injEq]⟩
    clear hq hx hy kA kC h1 h2
    by_cases hab:a=b
    ·have z:(a != b)=false:=by simp[hab]
     have HX:Hid (t.cst=u.cst↔t.cst.drop (j+1)=u.cst.drop (j+1)):=⟨by rw[hd.out];simp[hab]⟩
     clear hab hd
     go_wp2_with fail
     go_quiet (fail)
     go_wp2_with fail
     go_roundw
     case rel=>exact⟨j+1,by omega,by go_num,bdN hB _,HX⟩
     case measure=>simp[RowKit.intOf];omega
    ·have z:(a != b)=true:=by simp[hab]
     have HX:Hid (¬ t=u):=⟨fun e=>hab (hd.out.1 (by rw[e])).1⟩
     clear hab hd
     go_wp2_with fail
     go_quiet (fail)
     go_wp2_with fail
     go_ret
     exact⟨Ans.no HX.out,bdN (HB.out.trans (hB.mono HB.out.size)) _⟩
   ·obtain rfl:j=t.cst.length:=by omega
    have HX:Hid (t.cst=u.cst):=⟨by rw[hq.out,List.drop_length,HL.out,List.drop_length]⟩
    clear hq
    have a0:wr.cell? ⟨w.heap.size,0,none⟩=some (.int .i64 t.op):=kA.c0
    have a1:wr.cell? ⟨w.heap.size,1,none⟩=some (.string t.name):=kA.c1
    have a2:wr.cell? ⟨w.heap.size,2,none⟩=some (.int .i64 t.id):=kA.c2
    have a3:wr.cell? ⟨w.heap.size,3,none⟩=some (.int .i64 t.off):=kA.c3
    have a4:wr.cell? ⟨w.heap.size,4,none⟩=some (.int .i64 t.siz):=kA.c4
    have a5:wr.cell? ⟨w.heap.size,5,none⟩=some (.int .i64 t.since):=kA.c5
    have a6:wr.cell? ⟨w.heap.size,6,none⟩=some (.int .i64 t.prim):=kA.c6
    have a7:wr.cell? ⟨w.heap.size,7,none⟩=some (.int .i64 t.len):=kA.c7
    have a8:wr.cell? ⟨w.heap.size,8,none⟩=some (.int .i64 t.pres):=kA.c8
    have a9:wr.cell? ⟨w.heap.size,9,none⟩=some (.int .u64 t.nul):=kA.c9
    have a10:wr.cell? ⟨w.heap.size,10,none⟩=some (.int .u64 t.lo):=kA.c10
    have a11:wr.cell? ⟨w.heap.size,11,none⟩=some (.int .u64 t.hi):=kA.c11
    have a12:wr.cell? ⟨w.heap.size,12,none⟩=some (.slice p1 t.cst.length c1):=kA.c12
    have a13:wr.cell? ⟨w.heap.size,13,none⟩=some (.int .u64 t.val):=kA.c13
    have a14:wr.cell? ⟨w.heap.size,14,none⟩=some (.int .i64 t.blk):=kA.c14
    have a15:wr.cell? ⟨w.heap.size,15,none⟩=some (.int .i64 t.full):=kA.c15
    have a16:wr.cell? ⟨w.heap.size,16,none⟩=some (.int .i64 t.a.p):=kA.c16
    have a17:wr.cell? ⟨w.heap.size,17,none⟩=some (.int .i64 t.a.o):=kA.c17
    have a18:wr.cell? ⟨w.heap.size,18,none⟩=some (.int .i64 t.b.p):=kA.c18
    have a19:wr.cell? ⟨w.heap.size,19,none⟩=some (.int .i64 t.b.o):=kA.c19
    have a20:wr.cell? ⟨w.heap.size,20,none⟩=some (.int .i64 t.pair):=kA.c20
    have b0:wr.cell? ⟨w.heap.size+1,0,none⟩=some (.int .i64 u.op):=kC.c0
    have b1:wr.cell? ⟨w.heap.size+1,1,none⟩=some (.string u.name):=kC.c1
    have b2:wr.cell? ⟨w.heap.size+1,2,none⟩=some (.int .i64 u.id):=kC.c2
    have b3:wr.cell? ⟨w.heap.size+1,3,none⟩=some (.int .i64 u.off):=kC.c3
    have b4:wr.cell? ⟨w.heap.size+1,4,none⟩=some (.int .i64 u.siz):=kC.c4
    have b5:wr.cell? ⟨w.heap.size+1,5,none⟩=some (.int .i64 u.since):=kC.c5
    have b6:wr.cell? ⟨w.heap.size+1,6,none⟩=some (.int .i64 u.prim):=kC.c6
    have b7:wr.cell? ⟨w.heap.size+1,7,none⟩=some (.int .i64 u.len):=kC.c7
    have b8:wr.cell? ⟨w.heap.size+1,8,none⟩=some (.int .i64 u.pres):=kC.c8
    have b9:wr.cell? ⟨w.heap.size+1,9,none⟩=some (.int .u64 u.nul):=kC.c9
    have b10:wr.cell? ⟨w.heap.size+1,10,none⟩=some (.int .u64 u.lo):=kC.c10
    have b11:wr.cell? ⟨w.heap.size+1,11,none⟩=some (.int .u64 u.hi):=kC.c11
    have b12:wr.cell? ⟨w.heap.size+1,12,none⟩=some (.slice p2 u.cst.length c2):=kC.c12
    have b13:wr.cell? ⟨w.heap.size+1,13,none⟩=some (.int .u64 u.val):=kC.c13
    have b14:wr.cell? ⟨w.heap.size+1,14,none⟩=some (.int .i64 u.blk):=kC.c14
    have b15:wr.cell? ⟨w.heap.size+1,15,none⟩=some (.int .i64 u.full):=kC.c15
    have b16:wr.cell? ⟨w.heap.size+1,16,none⟩=some (.int .i64 u.a.p):=kC.c16
    have b17:wr.cell? ⟨w.heap.size+1,17,none⟩=some (.int .i64 u.a.o):=kC.c17
    have b18:wr.cell? ⟨w.heap.size+1,18,none⟩=some (.int .i64 u.b.p):=kC.c18
    have b19:wr.cell? ⟨w.heap.size+1,19,none⟩=some (.int .i64 u.b.o):=kC.c19
    have b20:wr.cell? ⟨w.heap.size+1,20,none⟩=some (.int .i64 u.pair):=kC.c20
    clear kA kC h1 h2
    have HW:Hid (Below w.heap.size w wr):=⟨HB.out.trans (hB.mono HB.out.size)⟩
    go_wp2_with fail
    all_goals (go_ret;refine⟨⟨_,rfl,?_⟩,HW.out⟩;rw[tk_eq];have HX:=HX.out;first|(simp[*];done)|(simp only[bne_iff_ne,ne_eq,bne_eq_false_iff_eq] at *;simp[*]))
 ·have b1:((t.cst.length:Int) != (u.cst.length:Int))=true:=by simp;omega
  have HX:Hid (¬ t=u):=⟨fun e=>hlm (by rw[e])⟩
  clear hlm
  go_enter Tryz.func78,Tryz.ntmps78
  go_wp2_with fail
  go_ret
  exact⟨Ans.no HX.out,HB.out⟩
def dlC (d:DL):List Value:=[.int .i64 (d.at_:Int),.int .i64 (d.next:Int),.int .i64 d.left,.bool d.block]
def dlCs:List DL->List Value
 | []=>[]
 | d::r=>dlC d++dlCs r
theorem dlCs_append (a b:List DL):dlCs (a++b)=dlCs a++dlCs b:=by
 induction a with
 | nil=>rfl
 | cons x a ih=>rw[List.cons_append,dlCs,dlCs,ih,List.append_assoc]
theorem dlCs_length (a:List DL):(dlCs a).length=a.length*4:=by
 induction a with
 | nil=>rfl
 | cons x a ih=>rw[dlCs,List.length_append,ih,List.length_cons];show 4+_=_;omega
theorem dlCs_one (a:List DL):∀ u∈dlCs a,u.oneCell'=true:=by
 induction a with
 | nil=>intro u hu;cases hu
 | cons x a ih =>
  intro u hu
  rcases List.mem_append.1 hu with h|h
  ·simp only[dlC,List.mem_cons,List.not_mem_nil,or_false] at h
   rcases h with rfl|rfl|rfl|rfl<;>rfl
  ·exact ih u h
def DOp (W:World) (go cap:Nat) (zs:List DL):Prop:=∃ cur:Array Value,W.heap[go]?=some (.cells cur 55)/\zs.length<=cap/\cap<=maxLen/\cur.size=cap*4/\cur.toList.take (zs.length*4)=dlCs zs
theorem DOp.same (h:DOp W go cap zs) (hb:W'.heap[go]?=W.heap[go]?):DOp W' go cap zs:=by
 obtain⟨cur,h1,h2⟩:=h
 exact⟨cur,hb.trans h1,h2⟩
theorem DOp.lt (h:DOp W go cap zs):go<W.heap.size:=by
 obtain⟨cur,h1,_⟩:=h
 exact(Array.getElem?_eq_some_iff.1 h1).1
theorem DOp.frz (h:DOp W go cap zs) (i:Nat):W.frozen? ⟨go,i,none⟩=false:=by
 obtain⟨cur,h1,_⟩:=h
 simp[World.frozen?,h1]
theorem dlCs_get:∀ (zs:List DL) (i:Nat) (d:DL) (ys:List Value),zs[i]?=some d->∀ j,j<4->(dlCs zs++ys)[i*4+j]?=(dlC d)[j]?
 | [],_,_,_,h,_,_=>by cases h
 | a::r,0,y,ys,h,j,hj=>by
  cases h
  rw[dlCs,List.append_assoc,List.getElem?_append_left (by show 0*4+j<4;omega),Nat.zero_mul,Nat.zero_add]
 | a::r,i+1,y,ys,h,j,hj=>by
  have ih:=dlCs_get r i y ys h j hj
  have hl:(dlC a).length=4:=rfl
  rw[dlCs,List.append_assoc,List.getElem?_append_right (by omega),hl,<- ih]
  congr 1
  omega
theorem DOp.at (h:DOp W go cap zs) (hy:zs[i]?=some d) (j:Nat) (hj:j<4):W.cell? ⟨go,i*4+j,none⟩=(dlC d)[j]?:=by
 obtain⟨cur,h1,h2,h3,h4,h5⟩:=h
 have hi:=(List.getElem?_eq_some_iff.1 hy).1
 have e:=dlCs_get zs i d [] hy j hj
 rw[List.append_nil,<- h5,List.getElem?_take,if_pos (by omega),Array.getElem?_toList] at e
 rw[cell_at h1]
 exact e
theorem dlCs_take:∀ (zs:List DL) (k:Nat),(dlCs zs).take (k*4)=dlCs (zs.take k)
 | [],k=>by simp[dlCs]
 | z::zs,0=>by simp[dlCs]
 | z::zs,k+1=>by
  have hl:(dlC z).length=4:=rfl
  rw[List.take_succ_cons,dlCs,dlCs,List.take_append,hl,List.take_of_length_le (by rw[hl];omega),show (k+1)*4-4=k*4 by omega,dlCs_take zs k]
theorem DOp.front (h:DOp W go cap zs) (k:Nat):DOp W go cap (zs.take k):=by
 obtain⟨cur,h1,h2,h3,h4,h5⟩:=h
 refine⟨cur,h1,by rw[List.length_take];omega,h3,h4,?_⟩
 rw[List.length_take,<- dlCs_take,<- h5,List.take_take]
 rcases Nat.le_total k zs.length with h|h
 ·rw[Nat.min_eq_left h,Nat.min_eq_left (by omega)]
 ·rw[Nat.min_eq_right h,Nat.min_eq_right (by omega)]
theorem DOp.set (h:DOp W go cap zs) {d':DL} (hy:zs[i]?=some d) (j:Nat) (v:Value) (hj4:j<4) (hj:(dlC d).set j v=dlC d'):DOp (W.setCell ⟨go,i*4+j,none⟩ v) go cap (zs.set i d'):=by
 obtain⟨cur,h1,h2,h3,h4,h5⟩:=h
 have hi:=(List.getElem?_eq_some_iff.1 hy).1
 refine⟨cur.setIfInBounds (i*4+j) v,?_,by rw[List.length_set];exact h2,h3,by rw[Array.size_setIfInBounds];exact h4,?_⟩
 ·show (W.heap.modify go _)[go]?=_
  rw[Array.getElem?_modify,if_pos rfl,h1]
  rfl
 ·rw[List.length_set,Array.toList_setIfInBounds,List.take_set,h5]
  clear h1 h2 h3 h4 h5
  induction zs generalizing i with
  | nil=>cases hy
  | cons z zs ih =>
   cases i with
   | zero =>
    cases hy
    rw[List.set_cons_zero,dlCs,dlCs,Nat.zero_mul,Nat.zero_add,<- hj]
    rw[List.set_append_left _ _ (by show j<4;exact hj4)]
   | succ i =>
    have hl:(dlC z).length=4:=rfl
    rw[List.set_cons_succ,dlCs,dlCs,List.set_append_right _ _ (by rw[hl];omega),hl,show (i+1)*4+j-4=i*4+j by omega,ih hy (by simpa using hi)]
def noF (l:List Tk) (ks:List Nat):List Nat:=ks.filter fun i=>!decide (opAt l i=2)
theorem noF_yes (hu:l[k]?=some u) (h:(u.op==2)=false):noF l (ks++[k])=noF l ks++[k]:=by
 have h2:¬ u.op=2:=by simpa using h
 unfold noF
 rw[List.filter_append]
 congr 1
 simp[opAt_some hu,h2]
theorem noF_no (hu:l[k]?=some u) (h:(u.op==2)=true):noF l (ks++[k])=noF l ks:=by
 have h2:u.op=2:=by simpa using h
 unfold noF
 rw[List.filter_append]
 simp[opAt_some hu,h2]
theorem noF_le (l:List Tk) (ks:List Nat):(noF l ks).length<=ks.length:=List.length_filter_le _ _
theorem refRow_any (f:Fm) (b n:Nat) (t:Tk) (ks:List Nat) (pp:Option Addr) (cp:Nat) (w:World) (tl:TkL w pp w.heap.size f.toks) (hg:Bgn f.toks b n t ks) :
  Calls Tryz.prog 51 #[fmV f pp cp,.int .i64 (b:Int)] w fun r w'=>∃ v,r = .returned v/\NRow w' w.heap.size v (rowZ f.toks b)/\Below w.heap.size w w':=by
 have hrow:rowZ f.toks b=noF f.toks ks:=by unfold rowZ;rw[hg.kids];rfl
 rw[hrow]
 obtain⟨ht,hn,hnl,hbn,hk,hkn,hks⟩:=hg
 have hil:=(List.getElem?_eq_some_iff.1 ht).1
 have hF:=fm_new w f pp cp
 have HB:Below w.heap.size w (w.alloc (fmO f pp cp)):=nbel _ _
 have HS:(w.alloc (fmO f pp cp)).heap.size=w.heap.size+1:=World.size_alloc _ _
 generalize hW:w.alloc (fmO f pp cp)=W at hF HB HS
 simp only[fmO] at hW
 obtain⟨g,o,_,_,rfl,hg,_⟩:=tl.at ht
 have hili:(b:Int)<f.toks.length:=by omega
 have hT:Hid (∀ W',Below w.heap.size w W'->∀ k u,f.toks[k]?=some u->∃ pc cc,TkC W' g (o+k*21) u pc cc):=⟨fun W' hb k u hu=>by
  obtain⟨g',o',pc,cc,e,_,h1,_⟩:=(tl.below hb).at hu
  cases e
  exact⟨pc,cc,h1⟩⟩
 have hY:Hid (∀ W',Below W.heap.size W W'->FmC W' w.heap.size 0 f (some ⟨g,o,none⟩) cp):=⟨fun W' hb=>hF.below (by omega) hb⟩
 have hll:f.toks.length<=733007751850:=by have:=tl.len;omega
 have hw1:IntKind.i64.wrap ((b:Int)+1)=(b:Int)+1:=by rw[IntKind.wrap_i64];omega
 replace HB:=Hid.mk HB
 replace HS:=Hid.mk HS
 have hkl:Hid (ks.length<=n):=⟨rise_length hks fun k hk=>(hkn k hk).2⟩
 replace hks:=Hid.mk hks
 clear hF hrow
 go_enter Tryz.func51,Tryz.ntmps51
 go_wp2_with fail
 go_loopw [6,5] (fun q6 q5 wr=>∃ (k:Nat) (ks1 ks2:List Nat),q6 = .int .i64 k/\k<=n/\Hid (ks=ks1++ks2/\Chn f.toks k ks2 n)/\Hid (NRow wr W.heap.size q5 (noF f.toks ks1))/\Hid (Below W.heap.size W wr)) (fun q6 _ _=>n-(RowKit.intOf q6).toNat)
 case atStart=>exact⟨b+1,[],ks,by go_num,hbn,⟨rfl,hk⟩,⟨NRow.nil _ _⟩,⟨Below.refl _ _⟩⟩
 case round =>
  obtain⟨k,ks1,ks2,rfl,hkn',hC,hI,hB⟩:=hrel
  have y12:=(hY.out _ hB.out).c12
  simp only[Nat.zero_add] at y12
  have hBw:=HB.out.trans (hB.out.mono HB.out.size)
  obtain⟨pc,cc,hTt⟩:=hT.out wr hBw b t ht
  have z20:=hTt.c20
  rw[hn] at z20
  have hn':Hid _:=⟨hn⟩
  clear hTt hn
  cases ks2 with
  | nil =>
   obtain⟨e1,e2⟩:=hC.out
   obtain rfl:k=n:=e2
   have hI2:=hI.out.low (base':=w.heap.size) (by have:=HS.out;omega)
   have e3:ks1=ks:=by rw[e1,List.append_nil]
   rw[e3] at hI2
   replace hI2:=Hid.mk hI2
   replace hBw:=Hid.mk hBw
   clear hC e1 e3
   go_wp2_with fail
   go_ret
   exact⟨_,rfl,hI2.out,hBw.out⟩
  | cons k' r =>
   obtain⟨e1,rfl,u,m,hu,hum,hC2⟩:=hC.out
   have hkm:=hkn k (by rw[e1];simp)
   have hlt:(k:Int)<n:=by omega
   have hkf:(k:Int)<f.toks.length:=by omega
   have hmn:m<n/\k<=m:=by
    cases r with
    | nil=>have:m+1=n:=hC2;omega
    | cons k2 r2 =>
     obtain rfl:m+1=k2:=hC2.1
     have h1:=hkn (m+1) (by rw[e1];simp)
     have h2:=hks.out
     rw[e1,List.pairwise_append,List.pairwise_cons] at h2
     have:=h2.2.1.1 (m+1) (by simp)
     omega
   have hrl:(noF f.toks ks1).length+1<=977343669134:=by
    have h1:=hkl.out
    rw[e1,List.length_append,List.length_cons] at h1
    have:=noF_le f.toks ks1
    omega
   have e1':Hid (ks=(ks1++[k])++r):=⟨by rw[e1];simp⟩
   replace hC2:=Hid.mk hC2
   replace hBw:=Hid.mk hBw
   obtain⟨pu,cu,hTu⟩:=hT.out wr hBw.out k u hu
   have u20:=hTu.c20
   have u0:=hTu.c0
   rw[hum] at u20
   clear hC hTu hum e1
   have hw2:IntKind.i64.wrap ((m:Int)+1)=(m:Int)+1:=by rw[IntKind.wrap_i64];omega
   cases h2:(u.op==2) with
   | true =>
    have h2':(u.op != 2)=false:=by rw[bne,h2];rfl
    have hI2:Hid (NRow wr W.heap.size _ (noF f.toks (ks1++[k]))):=⟨by rw[noF_no hu h2];exact hI.out⟩
    clear h2 hu hrl
    go_wp2_with fail
    go_roundw
    case rel=>exact⟨m+1,ks1++[k],r,by go_num,by omega,⟨e1'.out,hC2.out⟩,⟨hI2.out⟩,⟨hB.out⟩⟩
    case measure=>simp[RowKit.intOf];omega
   | false =>
    have h2':(u.op != 2)=true:=by rw[bne,h2];rfl
    have hap:Hid _:=⟨n_ap k hI.out hrl (Nat.le_trans (Nat.le_refl _) hB.out.size)⟩
    rw[<- noF_yes hu h2] at hap
    have G:Hid (∀ W',Below W.heap.size wr W'->W'.cell? ⟨w.heap.size,12,none⟩=some (.slice (some ⟨g,o,none⟩) f.toks.length cp)/\W'.cell? ⟨g,o+k*21+20,none⟩=some (.int .i64 (m:Int))):=⟨fun W' hb'=>⟨(hb'.cell (p:=⟨w.heap.size,12,none⟩) (by have:=HS.out;show w.heap.size<W.heap.size;omega)).trans y12,(hb'.cell (p:=⟨g,o+k*21+20,none⟩) (by have:=HS.out;show g<W.heap.size;omega)).trans u20⟩⟩
    clear h2 hu hrl
    go_wp2_with (at_builtin;go_must (refine(ap_step (by rfl) _ _ _ _ (by rfl) _ _ (by rfl) (by rfl) _ hap.out ?_));rintro v' w' ⟨q1,q2⟩;obtain⟨y12',u20'⟩:=G.out w' q2;replace q1:=Hid.mk q1;replace q2:=Hid.mk q2)
    go_roundw
    case rel=>exact⟨m+1,ks1++[k],r,by go_num,by omega,⟨e1'.out,hC2.out⟩,⟨q1.out⟩,⟨hB.out.trans q2.out⟩⟩
    case measure=>simp[RowKit.intOf];omega
theorem called_iff (ht:l[p]?=some t) (hn:t.pair=(n:Int)):calledB l p=(!(t.pres==2) && !(lvF l (p+1) (n-(p+1))).isEmpty):=by
 unfold calledB
 simp only[ht,hn,Int.toNat_natCast]
 rfl
theorem refBytes_any (f:Fm) (p n:Nat) (t:Tk) (pp:Option Addr) (cp:Nat) (w:World) (tl:TkL w pp w.heap.size f.toks) (ht:f.toks[p]?=some t) (hn:t.pair=(n:Int)) (hpn:p<n) (hnl:n<f.toks.length) :
  Calls Tryz.prog 103 #[fmV f pp cp,.int .i64 (p:Int)] w fun r w'=>r = .returned (.bool (calledB f.toks p))/\Below w.heap.size w w':=by
 rw[called_iff ht hn]
 have hF:=fm_new w f pp cp
 have HB:Below w.heap.size w (w.alloc (fmO f pp cp)):=nbel _ _
 have HS:(w.alloc (fmO f pp cp)).heap.size=w.heap.size+1:=World.size_alloc _ _
 generalize hW:w.alloc (fmO f pp cp)=W at hF HB HS
 simp only[fmO] at hW
 obtain⟨g,o,_,_,rfl,hg,_⟩:=tl.at ht
 have hili:(p:Int)<f.toks.length:=by omega
 have hT:Hid (∀ W',Below w.heap.size w W'->∀ k u,f.toks[k]?=some u->∃ pc cc,TkC W' g (o+k*21) u pc cc):=⟨fun W' hb k u hu=>by
  obtain⟨g',o',pc,cc,e,_,h1,_⟩:=(tl.below hb).at hu
  cases e
  exact⟨pc,cc,h1⟩⟩
 have hY:Hid (∀ W',Below W.heap.size W W'->FmC W' w.heap.size 0 f (some ⟨g,o,none⟩) cp):=⟨fun W' hb=>hF.below (by omega) hb⟩
 have hll:f.toks.length<=733007751850:=by have:=tl.len;omega
 have hw1:IntKind.i64.wrap ((p:Int)+1)=(p:Int)+1:=by rw[IntKind.wrap_i64];omega
 replace HB:=Hid.mk HB
 replace HS:=Hid.mk HS
 generalize hrv:(!(t.pres==2) && !(lvF f.toks (p+1) (n-(p+1))).isEmpty)=rv
 replace hrv:=Hid.mk hrv
 clear hF
 go_enter Tryz.func103,Tryz.ntmps103
 go_wp2_with fail
 go_loopw [5] (fun q wr=>∃ k:Nat,p+1<=k/\k<=n/\q = .int .i64 (k:Int)/\Hid (Below W.heap.size W wr)/\Hid ((t.pres==2)=false->lvF f.toks (p+1) (n-(p+1))=lvF f.toks k (n-k))) (fun q _=>n-(RowKit.intOf q).toNat)
 case atStart=>exact⟨p+1,Nat.le_refl _,by omega,by go_num,⟨Below.refl _ _⟩,⟨fun _=>rfl⟩⟩
 case round =>
  obtain⟨k,hk1,hk2,rfl,hB,hC⟩:=hrel
  have y12:=(hY.out _ hB.out).c12
  simp only[Nat.zero_add] at y12
  have hBw:=HB.out.trans (hB.out.mono HB.out.size)
  obtain⟨pc,cc,hTt⟩:=hT.out wr hBw p t ht
  have z20:=hTt.c20
  have z8:=hTt.c8
  rw[hn] at z20
  have hn':Hid _:=⟨hn⟩
  clear hTt hn
  by_cases hlt:k<n
  ·have hlti:(k:Int)<n:=by omega
   have hkl:(k:Int)<f.toks.length:=by omega
   obtain⟨u,hu⟩:∃ u,f.toks[k]?=some u:=⟨f.toks[k]'(by omega),List.getElem?_eq_getElem (by omega)⟩
   obtain⟨pu,cu,hTu⟩:=hT.out wr hBw k u hu
   have L1:=hTu.load
   have S1:=fun z hz=>st_new wr z hz u pu cu
   have T1:=tk_of (heap_al wr (tkO u pu cu))
   have u0:=T1.c0
   have u8:=T1.c8
   simp only[Nat.zero_add] at u8
   have NB:=bel1 wr (tkO u pu cu)
   have y12':=(NB.cell (p:=⟨w.heap.size,12,none⟩) (by have:=HS.out;have:=hB.out.size;show w.heap.size<wr.heap.size;omega)).trans y12
   have z8':=(NB.cell (p:=⟨g,o+p*21+8,none⟩) (by have:=hBw.size;show g<wr.heap.size;omega)).trans z8
   have hB2:Hid (Below W.heap.size W (wr.alloc (tkO u pu cu))):=⟨hB.out.trans (NB.mono hB.out.size)⟩
   have hw2:IntKind.i64.wrap ((k:Int)+1)=(k:Int)+1:=by rw[IntKind.wrap_i64];omega
   have hBw2:Hid (Below w.heap.size w (wr.alloc (tkO u pu cu))):=⟨hBw.trans (NB.mono hBw.size)⟩
   generalize hV:wr.alloc (tkO u pu cu)=V at *
   clear hTu T1 NB hBw
   have go_on:Hid (lvB u=false\/(t.pres==2)=true->((t.pres==2)=false->lvF f.toks (p+1) (n-(p+1))=lvF f.toks (k+1) (n-(k+1)))):=⟨fun h hp=>by
    rcases h with h|h
    ·rw[hC.out hp,show n-k=(n-(k+1))+1 by omega,lvF_no hu h]
    ·rw[h] at hp;cases hp⟩
   cases hp:(t.pres==2) with
   | true =>
    have hp':(t.pres != 2)=false:=by rw[bne,hp];rfl
    have hC2:=go_on.out (.inr hp)
    rw[hp] at hC2
    have hC3:Hid _:=⟨hC2⟩
    clear hC2 go_on hC hu hp
    go_wp2_with (first
     | (guard_target =~ wpList _ _ _ (Oper.mk _ (Op.load 83 _) _ _ _ _::_) _ _;go_must (refine wpList_ld 83 _ rfl rfl _ _ rfl L1 ?_);simp only[pts])
     | (guard_target =~ wpList _ _ _ (Oper.mk _ (Op.store 83 _ _) _ _ _ _::_) _ _;go_must (refine wpList_st 83 _ _ rfl rfl _ _ rfl rfl (S1 _ rfl) ?_);simp only[pts]))
    exact⟨⟨k+1,by omega,by omega,by go_num,⟨hB2.out⟩,⟨hC3.out⟩⟩,by simp[RowKit.intOf];omega⟩
   | false =>
    have hp':(t.pres != 2)=true:=by rw[bne,hp];rfl
    cases hlv:lvB u with
    | true =>
     have hlv':u.op=14/\¬ u.pres=2:=of_decide_eq_true hlv
     have c2:(u.op==14)=true:=by simp[hlv'.1]
     have c3:(u.pres != 2)=true:=by simp[hlv'.2]
     have hr:rv=true:=by
      rw[<- hrv.out,hp,hC.out hp,show n-k=(n-(k+1))+1 by omega,lvF_yes hu hlv]
      rfl
     subst hr
     clear hlv' hlv go_on hC hu hp hrv
     go_wp2_with (first
      | (guard_target =~ wpList _ _ _ (Oper.mk _ (Op.load 83 _) _ _ _ _::_) _ _;go_must (refine wpList_ld 83 _ rfl rfl _ _ rfl L1 ?_);simp only[pts])
      | (guard_target =~ wpList _ _ _ (Oper.mk _ (Op.store 83 _ _) _ _ _ _::_) _ _;go_must (refine wpList_st 83 _ _ rfl rfl _ _ rfl rfl (S1 _ rfl) ?_);simp only[pts]))
     go_ret
     exact⟨rfl,hBw2.out⟩
    | false =>
     have hC2:=go_on.out (.inl hlv)
     rw[hp] at hC2
     have hC3:Hid _:=⟨hC2⟩
     have hlv':¬ (u.op=14/\¬ u.pres=2):=of_decide_eq_false hlv
     by_cases h14:u.op=14
     ·have c2:(u.op==14)=true:=by simp[h14]
      have c3:(u.pres != 2)=false:=by simp;omega
      clear hlv' hlv go_on hC hu hp h14 hC2
      go_wp2_with (first
       | (guard_target =~ wpList _ _ _ (Oper.mk _ (Op.load 83 _) _ _ _ _::_) _ _;go_must (refine wpList_ld 83 _ rfl rfl _ _ rfl L1 ?_);simp only[pts])
       | (guard_target =~ wpList _ _ _ (Oper.mk _ (Op.store 83 _ _) _ _ _ _::_) _ _;go_must (refine wpList_st 83 _ _ rfl rfl _ _ rfl rfl (S1 _ rfl) ?_);simp only[pts]))
      exact⟨⟨k+1,by omega,by omega,by go_num,⟨hB2.out⟩,⟨fun _=>hC3.out rfl⟩⟩,by simp[RowKit.intOf];omega⟩
     ·have c2:(u.op==14)=false:=beq_eq_false_iff_ne.2 h14
      clear hlv' hlv go_on hC hu hp h14 hC2
      go_wp2_with (first
       | (guard_target =~ wpList _ _ _ (Oper.mk _ (Op.load 83 _) _ _ _ _::_) _ _;go_must (refine wpList_ld 83 _ rfl rfl _ _ rfl L1 ?_);simp only[pts])
       | (guard_target =~ wpList _ _ _ (Oper.mk _ (Op.store 83 _ _) _ _ _ _::_) _ _;go_must (refine wpList_st 83 _ _ rfl rfl _ _ rfl rfl (S1 _ rfl) ?_);simp only[pts]))
      exact⟨⟨k+1,by omega,by omega,by go_num,⟨hB2.out⟩,⟨fun _=>hC3.out rfl⟩⟩,by simp[RowKit.intOf];omega⟩
  ·obtain rfl:k=n:=by omega
   have hr:rv=false:=by
    rw[<- hrv.out]
    cases hp:(t.pres==2) with
    | true=>rfl
    | false=>rw[hC.out hp,Nat.sub_self];rfl
   subst hr
   replace hBw:=Hid.mk hBw
   clear hC hrv
   go_wp2_with fail
   go_ret
   exact⟨rfl,hBw.out⟩
def calF (l:List Tk) (nm:ByteArray) (ks:List Nat):Bool:=ks.any fun i=>decide (opAt l i=2)&&decide (nmAt l i=nm)&&calledB l i
theorem callD_eq {b:Nat} (hg:Bgn l b n t ks) (nm:ByteArray):callD l b nm=calF l nm ks:=by
 unfold callD calF fldZ
 rw[hg.kids,List.any_filter]
 congr 1
 funext i
 cases decide (opAt l i=2)<;>cases calledB l i<;>cases decide (nmAt l i=nm)<;>rfl
theorem calF_cons {nm:ByteArray} (hu:l[k]?=some u):calF l nm (k::ks)=((decide (u.op=2)&&decide (u.name=nm)&&calledB l k)||calF l nm ks):=by
 unfold calF
 rw[List.any_cons,opAt_some hu,nmAt_some hu]
theorem fm_range (h:FmC w g o f pp cp):w.rangeAt g o [.int .i64 f.ord,.int .i64 f.sch,.int .i64 f.ver,.int .i64 f.hsz,.int .i64 f.hb.p,.int .i64 f.hb.o,.int .i64 f.ht.p,.int .i64 f.ht.o,.int .i64 f.hs.p,.int .i64 f.hs.o,.int .i64 f.hv.p,.int .i64 f.hv.o,.slice pp f.toks.length cp]:=by
 intro j v hv
 have hj:j<13:=(List.getElem?_eq_some_iff.1 hv).1
 have hc:j=0\/j=1\/j=2\/j=3\/j=4\/j=5\/j=6\/j=7\/j=8\/j=9\/j=10\/j=11\/j=12:=by omega
 rcases hc with rfl|rfl|rfl|rfl|rfl|rfl|rfl|rfl|rfl|rfl|rfl|rfl|rfl<;>cases Option.some.inj hv
 ·exact h.c0
 ·exact h.c1
 ·exact h.c2
 ·exact h.c3
 ·exact h.c4
 ·exact h.c5
 ·exact h.c6
 ·exact h.c7
 ·exact h.c8
 ·exact h.c9
 ·exact h.c10
 ·exact h.c11
 ·exact h.c12
theorem infoFm:(Tryz.prog.info? 30).map (·.size)=some 13:=by kernel_rfl
theorem undFm:∃ d,Tryz.prog.underlying 30=some d/\d.isRow=true:=⟨_,Tryz.underlying30,rfl⟩
theorem FmC.load (h:FmC w g o f pp cp):(Instr.loadAt 30 (.pointer (some ⟨g,o,none⟩))).run Tryz.prog w = .ok (fmV f pp cp) w:=by
 obtain⟨d,hu,hd⟩:=undFm
 exact run_loadAt_mid w g o 30 _ d (fm_range h) hu hd infoFm
theorem refCalled_any (f:Fm) (hz:chkZ f=none) (b n:Nat) (t:Tk) (ks:List Nat) (nm:ByteArray) (pp:Option Addr) (cp:Nat) (w:World) (tl:TkL w pp w.heap.size f.toks) (hg:Bgn f.toks b n t ks) :
  Calls Tryz.prog 77 #[fmV f pp cp,.int .i64 (b:Int),.string nm] w fun r w'=>(∃ i:Nat,r = .returned (.int .i64 (i:Int))/\decide (0<(i:Int))=callD f.toks b nm)/\Below w.heap.size w w':=by
 rw[callD_eq hg]
 obtain⟨ht,hn,hnl,hbn,hk,hkn,hks⟩:=hg
 have hF:=fm_new w f pp cp
 have HB:Below w.heap.size w (w.alloc (fmO f pp cp)):=nbel _ _
 have HS:(w.alloc (fmO f pp cp)).heap.size=w.heap.size+1:=World.size_alloc _ _
 generalize hW:w.alloc (fmO f pp cp)=W at hF HB HS
 simp only[fmO] at hW
 obtain⟨g,o,_,_,rfl,hg,_⟩:=tl.at ht
 have hili:(b:Int)<f.toks.length:=by omega
 have hT:Hid (∀ W',Below w.heap.size w W'->∀ k u,f.toks[k]?=some u->∃ pc cc,TkC W' g (o+k*21) u pc cc):=⟨fun W' hb k u hu=>by
  obtain⟨g',o',pc,cc,e,_,h1,_⟩:=(tl.below hb).at hu
  cases e
  exact⟨pc,cc,h1⟩⟩
 have hBy:Hid (∀ W',Below w.heap.size w W'->∀ (k:Nat) (u:Tk) (m:Nat),f.toks[k]?=some u->u.op=2->u.pair=(m:Int)->Calls Tryz.prog 103 #[fmV f (some ⟨g,o,none⟩) cp,.int .i64 (k:Int)] W' fun r w'=>r = .returned (.bool (calledB f.toks k))/\Below W'.heap.size W' w'):=⟨fun W' hb k u m hu h2 hm=>by
  obtain⟨n',ks',hb'⟩:=bgn_of hz hu (by rw[h2];rfl)
  have e:n'=m:=by have:=hb'.en;rw[hm] at this;omega
  subst e
  exact refBytes_any f k n' u _ cp W' ((tl.below hb).mono hb.size) hu hm hb'.bn hb'.nl⟩
 have hY:Hid (∀ W',Below W.heap.size W W'->FmC W' w.heap.size 0 f (some ⟨g,o,none⟩) cp):=⟨fun W' hb=>hF.below (by omega) hb⟩
 have hll:f.toks.length<=733007751850:=by have:=tl.len;omega
 have hw1:IntKind.i64.wrap ((b:Int)+1)=(b:Int)+1:=by rw[IntKind.wrap_i64];omega
 replace HB:=Hid.mk HB
 replace HS:=Hid.mk HS
 replace hks:=Hid.mk hks
 generalize hrv:calF f.toks nm ks=rv
 replace hrv:=Hid.mk hrv
 clear hF hz tl
 go_enter Tryz.func77,Tryz.ntmps77
 go_wp2_with fail
 go_loopw [7] (fun q7 wr=>∃ (k:Nat) (ks1 ks2:List Nat),q7 = .int .i64 k/\k<=n/\Hid (ks=ks1++ks2/\Chn f.toks k ks2 n)/\Hid (calF f.toks nm ks2=rv)/\Hid (Below W.heap.size W wr)) (fun q7 _=>n-(RowKit.intOf q7).toNat)
 case atStart=>exact⟨b+1,[],ks,by go_num,hbn,⟨rfl,hk⟩,⟨hrv.out⟩,⟨Below.refl _ _⟩⟩
 case round =>
  obtain⟨k,ks1,ks2,rfl,hkn',hC,hI,hB⟩:=hrel
  have y12:=(hY.out _ hB.out).c12
  simp only[Nat.zero_add] at y12
  have hBw:=HB.out.trans (hB.out.mono HB.out.size)
  obtain⟨pc,cc,hTt⟩:=hT.out wr hBw b t ht
  have z20:=hTt.c20
  rw[hn] at z20
  have hn':Hid _:=⟨hn⟩
  clear hTt hn
  cases ks2 with
  | nil =>
   obtain⟨e1,e2⟩:=hC.out
   obtain rfl:k=n:=e2
   have hr:rv=false:=hI.out.symm
   subst hr
   replace hBw:=Hid.mk hBw
   clear hC e1 hrv hI
   go_wp2_with fail
   go_ret
   exact⟨⟨0,rfl,rfl⟩,hBw.out⟩
  | cons k' r =>
   obtain⟨e1,rfl,u,m,hu,hum,hC2⟩:=hC.out
   have hkm:=hkn k (by rw[e1];simp)
   have hlt:(k:Int)<n:=by omega
   have hkf:(k:Int)<f.toks.length:=by omega
   have hmn:m<n/\k<=m:=by
    cases r with
    | nil=>have:m+1=n:=hC2;omega
    | cons k2 r2 =>
     obtain rfl:m+1=k2:=hC2.1
     have h1:=hkn (m+1) (by rw[e1];simp)
     have h2:=hks.out
     rw[e1,List.pairwise_append,List.pairwise_cons] at h2
     have:=h2.2.1.1 (m+1) (by simp)
     omega
   have e1':Hid (ks=(ks1++[k])++r):=⟨by rw[e1];simp⟩
   replace hC2:=Hid.mk hC2
   have LF:=(hY.out _ hB.out).load
   have BY:=fun h=>hBy.out wr hBw k u m hu h hum
   replace hBw:=Hid.mk hBw
   obtain⟨pu,cu,hTu⟩:=hT.out wr hBw.out k u hu
   have u20:=hTu.c20
   have u0:=hTu.c0
   have u1:=hTu.c1
   rw[hum] at u20
   have hI':=hI.out
   rw[calF_cons hu] at hI'
   clear hC hTu hum e1 hI
   have hw2:IntKind.i64.wrap ((m:Int)+1)=(m:Int)+1:=by rw[IntKind.wrap_i64];omega
   have G:Hid (∀ W',Below wr.heap.size wr W'->W'.cell? ⟨w.heap.size,12,none⟩=some (.slice (some ⟨g,o,none⟩) f.toks.length cp)/\W'.cell? ⟨g,o+k*21+20,none⟩=some (.int .i64 (m:Int))):=⟨fun W' hb'=>⟨(hb'.cell (p:=⟨w.heap.size,12,none⟩) (by have:=HS.out;have:=hB.out.size;show w.heap.size<wr.heap.size;omega)).trans y12,(hb'.cell (p:=⟨g,o+k*21+20,none⟩) (by have:=hBw.out.size;show g<wr.heap.size;omega)).trans u20⟩⟩
   by_cases h2:u.op=2
   ·have c2:(u.op==2)=true:=by simp[h2]
    have BY2:=BY h2
    by_cases h3:u.name=nm
    ·have c3:(u.name.toList==nm.toList)=true:=by rw[h3];simp
     have hI2:Hid ((calledB f.toks k||calF f.toks nm r)=rv):=⟨by rw[<- hI'];simp[h2,h3]⟩
     clear h2 h3 hu BY hI'
     generalize calledB f.toks k=cb at BY2 hI2
     cases cb with
     | true =>
      have hr:rv=true:=by rw[<- hI2.out];rfl
      subst hr
      go_wp2_with (first
       | (go_at_call 103;refine BY2.mono ?_;rintro _ w1 ⟨rfl,hb1⟩;replace hb1:=Hid.mk hb1)
       | (guard_target =~ wpList _ _ _ (Oper.mk _ (Op.load 30 _) _ _ _ _::_) _ _;go_must (refine wpList_ld 30 _ rfl rfl _ _ rfl LF ?_);simp only[pts]))
      go_ret
      exact⟨⟨k,rfl,by simp;omega⟩,hBw.out.trans (hb1.out.mono hBw.out.size)⟩
     | false =>
      have hI3:Hid (calF f.toks nm r=rv):=⟨by rw[<- hI2.out];rfl⟩
      go_wp2_with (first
       | (go_at_call 103;refine BY2.mono ?_;rintro _ w1 ⟨rfl,hb1⟩;obtain⟨y12',u20'⟩:=G.out w1 hb1;replace hb1:=Hid.mk hb1)
       | (guard_target =~ wpList _ _ _ (Oper.mk _ (Op.load 30 _) _ _ _ _::_) _ _;go_must (refine wpList_ld 30 _ rfl rfl _ _ rfl LF ?_);simp only[pts]))
      exact⟨⟨m+1,ks1++[k],r,by go_num,by omega,⟨e1'.out,hC2.out⟩,⟨hI3.out⟩,⟨hB.out.trans (hb1.out.mono hB.out.size)⟩⟩,by simp[RowKit.intOf];omega⟩
    ·have c3:(u.name.toList==nm.toList)=false:=by simp[<- ba_eq,h3]
     have hI2:Hid (calF f.toks nm r=rv):=⟨by rw[<- hI'];simp[h3]⟩
     clear h2 h3 hu BY hI' BY2
     go_wp2_with fail
     exact⟨⟨m+1,ks1++[k],r,by go_num,by omega,⟨e1'.out,hC2.out⟩,⟨hI2.out⟩,⟨hB.out⟩⟩,by simp[RowKit.intOf];omega⟩
   ·have c2:(u.op==2)=false:=beq_eq_false_iff_ne.2 h2
    have hI2:Hid (calF f.toks nm r=rv):=⟨by rw[<- hI'];simp[h2]⟩
    clear h2 hu BY hI'
    go_wp2_with fail
    exact⟨⟨m+1,ks1++[k],r,by go_num,by omega,⟨e1'.out,hC2.out⟩,⟨hI2.out⟩,⟨hB.out⟩⟩,by simp[RowKit.intOf];omega⟩
theorem kbdr {E:List Nat} (h:Kb E a w):Kb E a w.drew:=⟨h.os,h.tape,h.output,h.size,h.block⟩
theorem otop_any (B go n cap:Nat) (w:World) (hc:w.cell? ⟨B,0,none⟩=some (.slice (some ⟨go,0,none⟩) (n+1) cap)) (hn:n<1000000000000) :
  Calls Tryz.prog 24 #[.pointer (some ⟨B,0,none⟩)] w fun r w'=>r = .returned (.pointer (some ⟨go,n*4,none⟩))/\Below w.heap.size w w':=by
 have e1:((n+1:Nat):Int)-1=(n:Int):=by omega
 have e2:(n:Int)<((n+1:Nat):Int):=by omega
 go_enter Tryz.func24,Tryz.ntmps24
 go_wp2_with fail
 go_quiet (fail)
 go_wp2_with fail
 go_ret
 exact⟨rfl,tdr (Below.refl _ _)⟩
theorem opop_any (B go n cap:Nat) (ent:Int) (w:World) (hc:w.heap[B]?=some (.cells #[.slice (some ⟨go,0,none⟩) (n+1) cap,.int .i64 ent] 60)) (hn:n<1000000000000) (hcap:n+1<=cap) :
  Calls Tryz.prog 48 #[.pointer (some ⟨B,0,none⟩)] w fun r w'=>r = .returned (.tuple #[])/\w'.heap[B]?=some (.cells #[.slice (some ⟨go,0,none⟩) n cap,.int .i64 ent] 60)/\Kb [B] w w':=by
 have b0:w.cell? ⟨B,0,none⟩=some (.slice (some ⟨go,0,none⟩) (n+1) cap):=cell_at hc 0
 have fz:w.frozen? ⟨B,0,none⟩=false:=by simp[World.frozen?,hc]
 have e1:((n+1:Nat):Int)-1=(n:Int):=by omega
 have e3:(n:Int)<=cap:=by omega
 have hset:Hid (∀ W:World,W.heap[B]?=w.heap[B]?->(W.setCell ⟨B,0,none⟩ (.slice (some ⟨go,0,none⟩) n cap)).heap[B]?=some (.cells #[.slice (some ⟨go,0,none⟩) n cap,.int .i64 ent] 60)):=⟨fun W hW=>by
  have e:(W.setCell ⟨B,0,none⟩ (.slice (some ⟨go,0,none⟩) n cap)).heap=W.heap.modify B (fun o=>match o with
   | .cells cs t f=>.cells (cs.setIfInBounds 0 (.slice (some ⟨go,0,none⟩) n cap)) t f
   | o=>o):=rfl
  rw[e,Array.getElem?_modify,if_pos rfl,hW,hc]
  rfl⟩
 have hk:Hid (Kb [B] w (w.setCell ⟨B,0,none⟩ (.slice (some ⟨go,0,none⟩) n cap)).drew):=⟨kbdr ((Kb.of_below (Below.refl _ _)).set (List.mem_singleton.2 rfl) _)⟩
 clear hc
 go_enter Tryz.func48,Tryz.ntmps48
 go_region
 go_wp2_with fail
 exact bodyPost_end (v:=.tuple #[]) (results_none (by rfl) _ _ _) rfl ⟨rfl,hset.out w rfl,hk.out⟩
structure RwC (W:World) (g n:Nat):Prop where
 c:∃ pr cr,W.cell? ⟨g,5,none⟩=some (.slice pr n cr)
 lt:g<W.heap.size
theorem RwC.below (h:RwC W g n) (hb:Below W.heap.size W W'):RwC W' g n:=by
 obtain⟨pr,cr,e⟩:=h.c
 exact⟨⟨pr,cr,(hb.cell (p:=⟨g,5,none⟩) h.lt).trans e⟩,Nat.lt_of_lt_of_le h.lt hb.size⟩
theorem PtA.rw {lo hi:Nat} (h:PtA l W lo hi g p):RwC W g (rowZ l p).length:=by
 obtain⟨m,k,pr,cr,h1,_⟩:=h.row
 exact⟨⟨pr,cr,cell_at h1 5⟩,(Array.getElem?_eq_some_iff.1 h1).1⟩
theorem lvc_new (w:World) (g:Nat) (x:Lv):(w.alloc (lvO g x)).cell? ⟨w.heap.size,0,none⟩=some (.pointer (some ⟨g,0,none⟩))/\(w.alloc (lvO g x)).cell? ⟨w.heap.size,1,none⟩=some (.int .i64 x.left)/\(w.alloc (lvO g x)).cell? ⟨w.heap.size,2,none⟩=some (.bool x.begun)/\(w.alloc (lvO g x)).cell? ⟨w.heap.size,3,none⟩=some (.int .i64 (x.come:Int)) :=
 ⟨cell_at (heap_al _ _) 0,cell_at (heap_al _ _) 1,cell_at (heap_al _ _) 2,cell_at (heap_al _ _) 3⟩
theorem isWhole_any (l:List Tk) (g:Nat) (x:Lv) (w:World) (hr:RwC w g (rowZ l x.p).length) :
  Calls Tryz.prog 75 #[lvV g x] w fun r w'=>r = .returned (.bool (wholeB l x))/\Below w.heap.size w w':=by
 obtain⟨xp,xl,xb,xc⟩:=x
 have hb:=bel1 w (lvO g ⟨xp,xl,xb,xc⟩)
 obtain⟨pr,cr,e5⟩:=(hr.below hb).c
 obtain⟨c0,c1,c2,c3⟩:=lvc_new w g ⟨xp,xl,xb,xc⟩
 have hB:Hid (Below w.heap.size w (w.alloc (lvO g ⟨xp,xl,xb,xc⟩))):=⟨hb⟩
 unfold wholeB
 simp only at e5 c0 c1 c2 c3 ⊢
 generalize (rowZ l xp).length=N at e5
 generalize hW:w.alloc (lvO g ⟨xp,xl,xb,xc⟩)=W at e5 c0 c1 c2 c3 hB
 simp only[lvO] at hW
 clear hr hb
 cases xb with
 | false =>
  go_enter Tryz.func75,Tryz.ntmps75
  go_wp2_with fail
  go_quiet (fail)
  go_wp2_with fail
  go_ret
  exact⟨rfl,tdr hB.out⟩
 | true =>
  by_cases hN:xc=N
  ·have b1:((xc:Int)==(N:Int))=true:=by simp[hN]
   have HB:Hid (decide (xc=N)=true):=⟨by simp[hN]⟩
   clear hN
   go_enter Tryz.func75,Tryz.ntmps75
   go_wp2_with fail
   go_quiet (fail)
   go_wp2_with fail
   go_ret
   exact⟨rb (by rw[HB.out];rfl),tdr hB.out⟩
  ·have b1:((xc:Int)==(N:Int))=false:=by simp;omega
   have HB:Hid (decide (xc=N)=false):=⟨by simp[hN]⟩
   clear hN
   go_enter Tryz.func75,Tryz.ntmps75
   go_wp2_with fail
   go_quiet (fail)
   go_wp2_with fail
   go_ret
   exact⟨rb (by rw[HB.out];rfl),tdr hB.out⟩
end Go.Proofs.YtbhmciieiilcfaaGreatDoor
