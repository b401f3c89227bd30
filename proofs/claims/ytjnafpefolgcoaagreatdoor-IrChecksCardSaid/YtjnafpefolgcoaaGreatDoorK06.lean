import Derived.Test.YtjnafpefolgcoaaGreatDoorK05
import Derived.Deep.WholeRow
import Derived.Lib.ItoaMem
namespace Go.Proofs.YtjnafpefolgcoaaGreatDoor
set_option maxRecDepth 1000000
set_option maxHeartbeats 16000000
open Go.ChangeShapes Go.WideShapes Go.ChangeAt Go.RowKit Go.Shelf Go.Maps
abbrev tkO (t:Tk) (pc:Option Addr) (cc:Nat):Obj:=.cells (tkC t pc cc).toArray 53
theorem bdN {B:Nat} {a w:World} (h:Below B a w) (n:Nat):Below B a (w.drewN n):=⟨h.os,h.tape,h.output,h.size,h.block⟩
theorem two_b (w:World) (A B:Obj):Below w.heap.size w ((w.alloc A).alloc B):=(bel1 w A).alloc (by simp) B
theorem two_1 (w:World) (A B:Obj):((w.alloc A).alloc B).heap[w.heap.size]?=some A:=by
 show ((w.heap.push A).push B)[w.heap.size]?=_
 rw[Array.getElem?_push,if_neg (by simp),Array.getElem?_push,if_pos rfl]
theorem two_2 (w:World) (A B:Obj):((w.alloc A).alloc B).heap[w.heap.size+1]?=some B:=by
 show ((w.heap.push A).push B)[w.heap.size+1]?=_
 rw[Array.getElem?_push,if_pos (by simp)]
theorem tk_of {w:World} {g:Nat} {t:Tk} {pc:Option Addr} {cc:Nat} (h:w.heap[g]?=some (tkO t pc cc)):TkC w g 0 t pc cc :=
 tkC_of fun j u hu=>by
  rw[Nat.zero_add,cell_at h j,List.getElem?_toArray]
  exact hu
theorem wpList_ld {P:Program} {ops:Array Oper} {Q:Exit->Act->World->Prop} {a:Act} {w:World} {rest:List Oper} {o:Oper} (ty:TypeId) (x:Operand) (ho:o.op = .load ty x)
  (hw:Region.wanted o (yielded ops a.tmps)=true) (p v:Value) (hx:a.eval x=p) (hr:(Instr.loadAt ty p).run P w = .ok v w) (h:wpList P ops Q rest (a.put o.dst v) w):wpList P ops Q (o::rest) a w:=by
 refine wpList_step fun K hK=>?_
 rw[if_pos hw]
 unfold Oper.wp execOp
 simp only[ho,hx,hr,Sem.run_bind,Result.andThen_ok]
 exact hK _ _ h
theorem tk_range {w:World} {g o:Nat} {t:Tk} {pc:Option Addr} {cc:Nat} (h:TkC w g o t pc cc):w.rangeAt g o (tkC t pc cc):=by
 intro j v hv
 have hj:j<21:=(List.getElem?_eq_some_iff.1 hv).1
 have h21:j=0\/j=1\/j=2\/j=3\/j=4\/j=5\/j=6\/j=7\/j=8\/j=9\/j=10\/j=11\/j=12\/j=13\/j=14\/j=15\/j=16\/j=17\/j=18\/j=19\/j=20:=by omega
 rcases h21 with rfl|rfl|rfl|rfl|rfl|rfl|rfl|rfl|rfl|rfl|rfl|rfl|rfl|rfl|rfl|rfl|rfl|rfl|rfl|rfl|rfl<;>cases Option.some.inj hv
 ·exact h.c0
 ·exact h.c1
 ·exact h.c2
 ·exact h.c3
 ·exact h.c4
 ·exact h.c5
 ·exact h.c6
 ·exact h.c7
 ·exact h.c8
 ·exact h.c9
 ·exact h.c10
 ·exact h.c11
 ·exact h.c12
 ·exact h.c13
 ·exact h.c14
 ·exact h.c15
 ·exact h.c16
 ·exact h.c17
 ·exact h.c18
 ·exact h.c19
 ·exact h.c20
theorem infoTk:(Tryz.prog.info? 53).map (·.size)=some 21:=by kernel_rfl
theorem undTk:∃ d,Tryz.prog.underlying 53=some d/\d.isRow=true:=⟨_,Tryz.underlying53,rfl⟩
theorem TkC.load {w:World} {g o:Nat} {t:Tk} {pc:Option Addr} {cc:Nat} (h:TkC w g o t pc cc):(Instr.loadAt 53 (.pointer (some ⟨g,o,none⟩))).run Tryz.prog w = .ok (tkV t pc cc) w:=by
 obtain⟨d,hu,hd⟩:=undTk
 exact run_loadAt_mid w g o 53 (tkC t pc cc) d (tk_range h) hu hd infoTk
theorem wpList_st {P:Program} {ops:Array Oper} {Q:Exit->Act->World->Prop} {a:Act} {w w':World} {rest:List Oper} {o:Oper} (ty:TypeId) (x y:Operand) (ho:o.op = .store ty x y)
  (hw:Region.wanted o (yielded ops a.tmps)=true) (p v:Value) (hx:a.eval x=p) (hy:a.eval y=v) (hr:(Instr.storeAt ty p v).run P w = .ok () w') (h:wpList P ops Q rest (a.put o.dst undef) w'):wpList P ops Q (o::rest) a w:=by
 refine wpList_step fun K hK=>?_
 rw[if_pos hw]
 unfold Oper.wp execOp
 simp only[ho,hx,hy,hr,Sem.run_bind,Result.andThen_ok]
 exact hK _ _ h
theorem tkC_one (t:Tk) (pc:Option Addr) (cc:Nat):∀ u∈tkC t pc cc,u.oneCell'=true:=by
 intro u hu
 simp only[tkC,List.mem_cons,List.not_mem_nil,or_false] at hu
 rcases hu with rfl|rfl|rfl|rfl|rfl|rfl|rfl|rfl|rfl|rfl|rfl|rfl|rfl|rfl|rfl|rfl|rfl|rfl|rfl|rfl|rfl<;>rfl
theorem st_new (w:World) (z:Array Value) (hz:z.size=21) (t:Tk) (pc:Option Addr) (cc:Nat):(Instr.storeAt 53 (.pointer (some ⟨w.heap.size,0,none⟩)) (tkV t pc cc)).run Tryz.prog (w.alloc (.cells z 53)) = .ok () (w.alloc (tkO t pc cc)) :=
 run_storeAt_new w 53 z (tkC t pc cc).toArray infoTk hz (all_oneCell_toArray (tkC_one t pc cc))
theorem ba_eq {a b:ByteArray}:a=b↔a.toList=b.toList:=by
 constructor
 ·intro e;rw[e]
 ·intro e
  rw[ByteArray.toList_eq,ByteArray.toList_eq] at e
  exact ByteArray.ext (Array.toList_inj.1 e)
theorem tk_eq {t u:Tk}:t=u↔t.cst=u.cst/\t.op=u.op/\t.name.toList=u.name.toList/\t.id=u.id/\t.off=u.off/\t.siz=u.siz/\t.since=u.since/\t.prim=u.prim/\t.len=u.len/\t.pres=u.pres/\t.nul=u.nul/\t.lo=u.lo/\t.hi=u.hi/\t.val=u.val/\t.blk=u.blk/\t.full=u.full/\t.a.p=u.a.p/\t.a.o=u.a.o/\t.b.p=u.b.p/\t.b.o=u.b.o/\t.pair=u.pair:=by
 rw[<- ba_eq]
 obtain⟨op1,nm1,id1,of1,sz1,si1,pr1,ln1,ps1,nu1,lo1,hi1,cs1,vl1,bk1,fl1,⟨ap1,ao1⟩,⟨bp1,bo1⟩,pa1⟩:=t
 obtain⟨op2,nm2,id2,of2,sz2,si2,pr2,ln2,ps2,nu2,lo2,hi2,cs2,vl2,bk2,fl2,⟨ap2,ao2⟩,⟨bp2,bo2⟩,pa2⟩:=u
 simp only[Tk.mk.injEq,Sp.mk.injEq]
 constructor
 ·rintro⟨rfl,rfl,rfl,rfl,rfl,rfl,rfl,rfl,rfl,rfl,rfl,rfl,rfl,rfl,rfl,rfl,⟨rfl,rfl⟩,⟨rfl,rfl⟩,rfl⟩;exact⟨rfl,rfl,rfl,rfl,rfl,rfl,rfl,rfl,rfl,rfl,rfl,rfl,rfl,rfl,rfl,rfl,rfl,rfl,rfl,rfl,rfl⟩
 ·rintro⟨rfl,rfl,rfl,rfl,rfl,rfl,rfl,rfl,rfl,rfl,rfl,rfl,rfl,rfl,rfl,rfl,rfl,rfl,rfl,rfl,rfl⟩;exact⟨rfl,rfl,rfl,rfl,rfl,rfl,rfl,rfl,rfl,rfl,rfl,rfl,rfl,rfl,rfl,rfl,⟨rfl,rfl⟩,⟨rfl,rfl⟩,rfl⟩
theorem refSameTk_any (t u:Tk) (p1 p2:Option Addr) (c1 c2:Nat) (w:World) (h1:URow w p1 w.heap.size t.cst) (h2:URow w p2 w.heap.size u.cst) (hs:t.cst.length*8<=140737488355328):Calls Tryz.prog 56 #[tkV t p1 c1,tkV u p2 c2] w fun r w'=>Ans r (t=u)/\Below w.heap.size w w':=by
 have hA:=tk_of (two_1 w (tkO t p1 c1) (tkO u p2 c2))
 have hC:=tk_of (two_2 w (tkO t p1 c1) (tkO u p2 c2))
 have HB:Hid (Below w.heap.size w ((w.alloc (tkO t p1 c1)).alloc (tkO u p2 c2))):=⟨two_b w _ _⟩
 have HS:Hid (w.heap.size+1<((w.alloc (tkO t p1 c1)).alloc (tkO u p2 c2)).heap.size):=⟨by simp⟩
 replace h1:=(h1.below HB.out).mono HB.out.size
 replace h2:=(h2.below HB.out).mono HB.out.size
 simp only[tkO,tkC] at hA hC HB HS h1 h2
 generalize hW:(w.alloc (.cells [Value.int .i64 t.op,.string t.name,.int .i64 t.id,.int .i64 t.off,.int .i64 t.siz,.int .i64 t.since,.int .i64 t.prim,.int .i64 t.len,.int .i64 t.pres,.int .u64 t.nul,.int .u64 t.lo,.int .u64 t.hi,.slice p1 t.cst.length c1,.int .u64 t.val,.int .i64 t.blk,.int .i64 t.full,.int .i64 t.a.p,.int .i64 t.a.o,.int .i64 t.b.p,.int .i64 t.b.o,.int .i64 t.pair].toArray 53)).alloc _=W at hA hC HB HS h1 h2
 have a12:W.cell? ⟨w.heap.size,12,none⟩=some (.slice p1 t.cst.length c1):=hA.c12
 have b12:W.cell? ⟨w.heap.size+1,12,none⟩=some (.slice p2 u.cst.length c2):=hC.c12
 replace hA:Hid (TkC W w.heap.size 0 t p1 c1):=⟨hA⟩
 replace hC:Hid (TkC W (w.heap.size+1) 0 u p2 c2):=⟨hC⟩
 by_cases hlm:t.cst.length=u.cst.length
 ·have b1:((t.cst.length:Int) != (u.cst.length:Int))=false:=by simp[hlm]
  have HL:Hid (t.cst.length=u.cst.length):=⟨hlm⟩
  clear hlm
  go_enter Tryz.func56,Tryz.ntmps56
  go_wp2_with fail
  clear b1
  go_loopw [5] (fun i wr=>∃ j:Nat,j<=t.cst.length/\i = .int .i64 j/\Below W.heap.size W wr/\Hid (t.cst=u.cst↔t.cst.drop j=u.cst.drop j)) (fun i _=>t.cst.length-(RowKit.intOf i).toNat)
  case atStart=>exact⟨0,Nat.zero_le _,rfl,Below.refl _ _,⟨Iff.rfl⟩⟩
  case round =>
   clear a12 b12 hW
   obtain⟨j,hj,rfl,hB,hq⟩:=hrel
   have kA:=hA.out.below (Nat.lt_of_succ_lt HS.out) hB
   have kC:=hC.out.below HS.out hB
   have a12:wr.cell? ⟨w.heap.size,12,none⟩=some (.slice p1 t.cst.length c1):=kA.c12
   have b12:wr.cell? ⟨w.heap.size+1,12,none⟩=some (.slice p2 u.cst.length c2):=kC.c12
   by_cases hlt:j<t.cst.length
   ·obtain⟨a,hx⟩:∃ a,t.cst[j]?=some a:=⟨t.cst[j],List.getElem?_eq_getElem hlt⟩
    obtain⟨b,hy⟩:∃ b,u.cst[j]?=some b:=⟨u.cst[j]'(by have:=HL.out;omega),List.getElem?_eq_getElem (by have:=HL.out;omega)⟩
    obtain⟨g,o,rfl,hg,q0⟩:=h1.c j a hx
    obtain⟨g2,o2,rfl,hg2,k0⟩:=h2.c j b hy
    replace q0:=(hB.cell (p:=⟨g,_,none⟩) hg).trans q0
    replace k0:=(hB.cell (p:=⟨g2,_,none⟩) hg2).trans k0
    have hlti:(j:Int)<t.cst.length:=by omega
    have hltm:(j:Int)<u.cst.length:=by have:=HL.out;omega
    have hd:Hid (t.cst=u.cst↔a=b/\t.cst.drop (j+1)=u.cst.drop (j+1)):=⟨by rw[hq.out,drop_at hx,drop_at hy,List.cons.injEq]⟩
    clear hq hx hy kA kC h1 h2
    by_cases hab:a=b
    ·have z:(a != b)=false:=by simp[hab]
     have HX:Hid (t.cst=u.cst↔t.cst.drop (j+1)=u.cst.drop (j+1)):=⟨by rw[hd.out];simp[hab]⟩
     clear hab hd
     go_wp2_with fail
     go_quiet (fail)
     go_wp2_with fail
     go_roundw
     case rel=>exact⟨j+1,by omega,by go_num,bdN hB _,HX⟩
     case measure=>simp[RowKit.intOf];omega
    ·have z:(a != b)=true:=by simp[hab]
     have HX:Hid (¬ t=u):=⟨fun e=>hab (hd.out.1 (by rw[e])).1⟩
     clear hab hd
     go_wp2_with fail
     go_quiet (fail)
     go_wp2_with fail
     go_ret
     exact⟨Ans.no HX.out,bdN (HB.out.trans (hB.mono HB.out.size)) _⟩
   ·obtain rfl:j=t.cst.length:=by omega
    have HX:Hid (t.cst=u.cst):=⟨by rw[hq.out,List.drop_length,HL.out,List.drop_length]⟩
    clear hq
    have a0:wr.cell? ⟨w.heap.size,0,none⟩=some (.int .i64 t.op):=kA.c0
    have a1:wr.cell? ⟨w.heap.size,1,none⟩=some (.string t.name):=kA.c1
    have a2:wr.cell? ⟨w.heap.size,2,none⟩=some (.int .i64 t.id):=kA.c2
    have a3:wr.cell? ⟨w.heap.size,3,none⟩=some (.int .i64 t.off):=kA.c3
    have a4:wr.cell? ⟨w.heap.size,4,none⟩=some (.int .i64 t.siz):=kA.c4
    have a5:wr.cell? ⟨w.heap.size,5,none⟩=some (.int .i64 t.since):=kA.c5
    have a6:wr.cell? ⟨w.heap.size,6,none⟩=some (.int .i64 t.prim):=kA.c6
    have a7:wr.cell? ⟨w.heap.size,7,none⟩=some (.int .i64 t.len):=kA.c7
    have a8:wr.cell? ⟨w.heap.size,8,none⟩=some (.int .i64 t.pres):=kA.c8
    have a9:wr.cell? ⟨w.heap.size,9,none⟩=some (.int .u64 t.nul):=kA.c9
    have a10:wr.cell? ⟨w.heap.size,10,none⟩=some (.int .u64 t.lo):=kA.c10
    have a11:wr.cell? ⟨w.heap.size,11,none⟩=some (.int .u64 t.hi):=kA.c11
    have a12:wr.cell? ⟨w.heap.size,12,none⟩=some (.slice p1 t.cst.length c1):=kA.c12
    have a13:wr.cell? ⟨w.heap.size,13,none⟩=some (.int .u64 t.val):=kA.c13
    have a14:wr.cell? ⟨w.heap.size,14,none⟩=some (.int .i64 t.blk):=kA.c14
    have a15:wr.cell? ⟨w.heap.size,15,none⟩=some (.int .i64 t.full):=kA.c15
    have a16:wr.cell? ⟨w.heap.size,16,none⟩=some (.int .i64 t.a.p):=kA.c16
    have a17:wr.cell? ⟨w.heap.size,17,none⟩=some (.int .i64 t.a.o):=kA.c17
    have a18:wr.cell? ⟨w.heap.size,18,none⟩=some (.int .i64 t.b.p):=kA.c18
    have a19:wr.cell? ⟨w.heap.size,19,none⟩=some (.int .i64 t.b.o):=kA.c19
    have a20:wr.cell? ⟨w.heap.size,20,none⟩=some (.int .i64 t.pair):=kA.c20
    have b0:wr.cell? ⟨w.heap.size+1,0,none⟩=some (.int .i64 u.op):=kC.c0
    have b1:wr.cell? ⟨w.heap.size+1,1,none⟩=some (.string u.name):=kC.c1
    have b2:wr.cell? ⟨w.heap.size+1,2,none⟩=some (.int .i64 u.id):=kC.c2
    have b3:wr.cell? ⟨w.heap.size+1,3,none⟩=some (.int .i64 u.off):=kC.c3
    have b4:wr.cell? ⟨w.heap.size+1,4,none⟩=some (.int .i64 u.siz):=kC.c4
    have b5:wr.cell? ⟨w.heap.size+1,5,none⟩=some (.int .i64 u.since):=kC.c5
    have b6:wr.cell? ⟨w.heap.size+1,6,none⟩=some (.int .i64 u.prim):=kC.c6
    have b7:wr.cell? ⟨w.heap.size+1,7,none⟩=some (.int .i64 u.len):=kC.c7
    have b8:wr.cell? ⟨w.heap.size+1,8,none⟩=some (.int .i64 u.pres):=kC.c8
    have b9:wr.cell? ⟨w.heap.size+1,9,none⟩=some (.int .u64 u.nul):=kC.c9
    have b10:wr.cell? ⟨w.heap.size+1,10,none⟩=some (.int .u64 u.lo):=kC.c10
    have b11:wr.cell? ⟨w.heap.size+1,11,none⟩=some (.int .u64 u.hi):=kC.c11
    have b12:wr.cell? ⟨w.heap.size+1,12,none⟩=some (.slice p2 u.cst.length c2):=kC.c12
    have b13:wr.cell? ⟨w.heap.size+1,13,none⟩=some (.int .u64 u.val):=kC.c13
    have b14:wr.cell? ⟨w.heap.size+1,14,none⟩=some (.int .i64 u.blk):=kC.c14
    have b15:wr.cell? ⟨w.heap.size+1,15,none⟩=some (.int .i64 u.full):=kC.c15
    have b16:wr.cell? ⟨w.heap.size+1,16,none⟩=some (.int .i64 u.a.p):=kC.c16
    have b17:wr.cell? ⟨w.heap.size+1,17,none⟩=some (.int .i64 u.a.o):=kC.c17
    have b18:wr.cell? ⟨w.heap.size+1,18,none⟩=some (.int .i64 u.b.p):=kC.c18
    have b19:wr.cell? ⟨w.heap.size+1,19,none⟩=some (.int .i64 u.b.o):=kC.c19
    have b20:wr.cell? ⟨w.heap.size+1,20,none⟩=some (.int .i64 u.pair):=kC.c20
    clear kA kC h1 h2
    have HW:Hid (Below w.heap.size w wr):=⟨HB.out.trans (hB.mono HB.out.size)⟩
    go_wp2_with fail
    all_goals (go_ret;refine⟨⟨_,rfl,?_⟩,HW.out⟩;rw[tk_eq];have HX:=HX.out;first|(simp[*];done)|(simp only[bne_iff_ne,ne_eq,bne_eq_false_iff_eq] at *;simp[*]))
 ·have b1:((t.cst.length:Int) != (u.cst.length:Int))=true:=by simp;omega
  have HX:Hid (¬ t=u):=⟨fun e=>hlm (by rw[e])⟩
  clear hlm
  go_enter Tryz.func56,Tryz.ntmps56
  go_wp2_with fail
  go_ret
  exact⟨Ans.no HX.out,HB.out⟩
namespace J
theorem beq_ba {a b:ByteArray} (h:a≠b):(a.toList==b.toList)=false :=
 beq_eq_false_iff_ne.2 fun e=>h (by
  rw[ByteArray.toList_eq,ByteArray.toList_eq] at e
  exact ByteArray.ext (Array.toList_inj.1 e))
end J
def shO (c:Nat):ByteArray:=⟨#[UInt8.ofNat c]⟩
theorem shO_size (c:Nat):(shO c).size=1:=rfl
theorem sbel1 (w:World) (o:Obj):Below w.heap.size w (w.alloc o):=(Below.refl _ _).alloc (Nat.le_refl _) _
theorem snconv (W:World) (g:Nat) (c:Nat) (hg:W.heap.size=g) :
  (convert 105 9 (.slice (some ⟨g,0,none⟩) 1 1)).run Tryz.prog (W.alloc (.cells #[.int .u8 (c:Int)] 5)) = .ok (.string (shO c)) (W.alloc (.cells #[.int .u8 (c:Int)] 5)):=by
 subst hg
 have:strOfNums [(c:Int)]=shO c:=by unfold strOfNums shO;simp
 rw[<- this]
 refine run_convert_bytes_arg _ 105 5 Tryz.underlying105 Tryz.underlying5 W.heap.size 0 1 1 [(c:Int)] rfl (fun i hi=>?_) 9 Tryz.underlying9
 obtain rfl:i=0:=by omega
 have:(W.alloc (.cells #[.int .u8 (c:Int)] 5)).heap[W.heap.size]?=some (.cells #[.int .u8 (c:Int)] 5):=heap_alloc_new W _
 rw[Nat.zero_add]
 unfold World.cell?
 rw[this]
 rfl
theorem shd_small {m:Nat} (h:m / 10=0):Lib.decDigits m=[UInt8.ofNat (48+m % 10)]:=by
 rw[Lib.decDigits,dif_pos (by omega),show m % 10=m by omega]
theorem shd_big {m:Nat} (h:m / 10≠0):Lib.decDigits m=Lib.decDigits (m / 10)++[UInt8.ofNat (48+m % 10)]:=by
 rw[Lib.decDigits,dif_neg (by omega)]
def ShS (n m:Nat) (t:ByteArray):Prop:=Lib.decDigits n=Lib.decDigits m++t.data.toList
theorem ShS.last {n m:Nat} {t:ByteArray} (h:ShS n m t) (hm:m / 10=0):shO (48+m % 10)++t=shD n:=by
 refine ba_ext ?_
 rw[ByteArray.data_append,Array.toList_append]
 show [UInt8.ofNat (48+m % 10)]++_=_
 unfold shD
 rw[h,shd_small hm]
theorem ShS.next {n m:Nat} {t:ByteArray} (h:ShS n m t) (hm:m / 10≠0):ShS n (m / 10) (shO (48+m % 10)++t):=by
 unfold ShS
 rw[h,shd_big hm,ByteArray.data_append,Array.toList_append,List.append_assoc]
 rfl
theorem nd20 {n:Nat} (h:n<18446744073709551616):Lib.nDigits n<=20:=by
 by_cases h1:1<=n
 ·have:=Lib.numDigits_eq n h1 h
  split at this<;>omega
 ·obtain rfl:n=0:=by omega
  rw[Lib.nDigits_small (by omega)]
  omega
theorem ShS.size {n m:Nat} {t:ByteArray} (h:ShS n m t) (hn:n<18446744073709551616):t.size<=20:=by
 have h1:=congrArg List.length h
 rw[List.length_append,Lib.decDigits_length] at h1
 have h2:=nd20 hn
 have:t.data.toList.length=t.size:=Array.length_toList
 omega
theorem decimal12 (n:Nat) (hn:n<18446744073709551616) (w:World):Calls Tryz.prog 41 #[.int .u64 (n:Int)] w fun e w'=>e = .returned (.string (shSp++shD n))/\Below w.heap.size w w':=by
 have H0:Hid (ShS n n ⟨#[]⟩/\Below w.heap.size w w):=⟨by unfold ShS;simp,Below.refl _ _⟩
 go_enter Tryz.func41,Tryz.ntmps41
 go_wp2_with fail
 go_loopw [0,3] (fun q v wr=>∃ (m:Nat) (t:ByteArray),m<18446744073709551616/\q = .int .u64 (m:Int)/\v = .string t/\Hid (ShS n m t/\Below w.heap.size w wr)) (fun q _ _=>(RowKit.intOf q).toNat)
 case atStart=>exact⟨n,⟨#[]⟩,hn,rfl,rfl,H0⟩
 case round =>
  clear H0
  obtain⟨m,t,hm,rfl,rfl,hI⟩:=hrel
  have hts:=hI.out.1.size hn
  have hsz:(shO (48+m % 10)++t).size=1+t.size:=by rw[ByteArray.size_append,shO_size]
  have hmod:(m:Int).tmod 10=((m % 10:Nat):Int):=by rw[Int.tmod_eq_emod_of_nonneg (by omega)];omega
  have hdiv:(m:Int).tdiv 10=((m / 10:Nat):Int):=by rw[Int.tdiv_eq_ediv_of_nonneg (by omega)];omega
  have hmI:(m:Int)<18446744073709551616:=by omega
  obtain⟨r,hr⟩:∃ r,m % 10=r:=⟨_,rfl⟩
  obtain⟨k,hk⟩:∃ k,m / 10=k:=⟨_,rfl⟩
  have hr9:r<10:=by omega
  have hw64:IntKind.u64.wrap (48+(r:Int))=48+(r:Int):=by rw[IntKind.wrap_u64];omega
  have hw8:IntKind.u8.wrap (48+(r:Int))=((48+r:Nat):Int):=by rw[IntKind.wrap_u8];omega
  have hkI:(k:Int)<18446744073709551616:=by omega
  rw[hr] at hmod hsz
  rw[hk] at hdiv
  have hovf:¬ 9223372036854775807<(shO (48+r)).size+t.size:=by rw[shO_size];omega
  have hcv:=snconv wr wr.heap.size (48+r) rfl
  have hb:=hI.out.2.trans ((sbel1 wr (.cells #[.int .u8 ((48+r:Nat):Int)] 5)).mono hI.out.2.size)
  rw[show ((48+r:Nat):Int)=48+(r:Int) by omega] at hcv hb
  replace hb:=Hid.mk hb
  by_cases hk0:k=0
  ·have e0:((k:Int)==0)=true:=by rw[hk0];rfl
   have e0n:(k==0)=true:=by rw[hk0];rfl
   have hF:Hid (shO (48+r)++t=shD n):=⟨by rw[<- hr];exact hI.out.1.last (by omega)⟩
   have hov2:¬ 9223372036854775807<shSp.size+(shO (48+r)++t).size:=by rw[hsz];show ¬ 9223372036854775807<1+(1+t.size);omega
   clear hk0 hk hr hI
   go_wp2_with fail
   go_ret
   exact⟨by rw[hF.out];rfl,hb.out⟩
  ·have e0:((k:Int)==0)=false:=beqN (by omega)
   have e0n:(k==0)=false:=beq_eq_false_iff_ne.2 hk0
   have hF:Hid (ShS n k (shO (48+r)++t)):=⟨by rw[<- hr,<- hk];exact hI.out.1.next (by omega)⟩
   have hlt:k<m:=by omega
   have hk64:k<18446744073709551616:=by omega
   clear hk hr hI
   go_wp2_with fail
   go_roundw
   case rel=>exact⟨k,shO (48+r)++t,hk64,rfl,rfl,⟨hF.out,hb.out⟩⟩
   case measure=>simp[RowKit.intOf];omega
theorem num12 (n:Int) (h0:0<=n) (h1:n<=65535) (w:World):Calls Tryz.prog 40 #[.int .i64 n] w fun e w'=>e = .returned (.string (shSp++shI n))/\Below w.heap.size w w':=by
 obtain⟨m,rfl⟩:∃ m:Nat,n=m:=⟨n.toNat,by omega⟩
 have c:=decimal12 m (by omega) w
 have hw:IntKind.u64.wrap (m:Int)=m:=by rw[IntKind.wrap_u64];omega
 have e:shI (m:Int)=shD m:=by unfold shI;rw[Int.toNat_natCast]
 rw[e]
 go_enter Tryz.func40,Tryz.ntmps40
 go_wp2_with (go_at_call 41;refine c.mono ?_;rintro _ w1 ⟨rfl,hb⟩;replace hb:=Hid.mk hb)
 go_ret
 exact⟨rfl,hb.out⟩
def shNm:List ByteArray:=[⟨#[99,104,97,114]⟩,⟨#[105,110,116,56]⟩,⟨#[105,110,116,49,54]⟩,⟨#[105,110,116,51,50]⟩,⟨#[105,110,116,54,52]⟩,⟨#[117,105,110,116,56]⟩,⟨#[117,105,110,116,49,54]⟩,⟨#[117,105,110,116,51,50]⟩,⟨#[117,105,110,116,54,52]⟩,⟨#[102,108,111,97,116]⟩,⟨#[100,111,117,98,108,101]⟩]
def snAt (p:Nat):ByteArray:=shNm.getD p ⟨#[]⟩
def pnZ (p:Int):ByteArray:=if 0<=p/\p<11 then snAt p.toNat else ⟨#[]⟩
theorem pnZ_size (p:Int):(pnZ p).size<=6:=by
 unfold pnZ
 split
 ·rename_i h
  have:p=0\/p=1\/p=2\/p=3\/p=4\/p=5\/p=6\/p=7\/p=8\/p=9\/p=10:=by omega
  rcases this with rfl|rfl|rfl|rfl|rfl|rfl|rfl|rfl|rfl|rfl|rfl<;>decide
 ·decide
theorem shP_size (p:Int):(shP p).size<=8:=by
 unfold shP
 split
 ·decide
 ·split<;>decide
structure ShTb (w:World):Prop where
 npos:2<w.heap.size
 n:∀ p:Nat,p<11->w.cell? ⟨2,p,none⟩=some (.string (snAt p))
 ppos:0<w.heap.size
 p:∀ p:Nat,p<3->w.cell? ⟨0,p,none⟩=some (.string (shP p))
 t:∀ w',Below w.heap.size w w'->Lib.TabIs Tryz.prog w' "internal/strconv.uint64pow10" .u64 Lib.pow10Tab
theorem ShTb.below {w w':World} (h:ShTb w) (hb:Below w.heap.size w w'):ShTb w' :=
 ⟨Nat.lt_of_lt_of_le h.npos hb.size,fun p hp=>(hb.cell (p:=⟨2,p,none⟩) h.npos).trans (h.n p hp),Nat.lt_of_lt_of_le h.ppos hb.size,fun p hp=>(hb.cell (p:=⟨0,p,none⟩) h.ppos).trans (h.p p hp),fun w2 h2=>h.t w2 (hb.trans (h2.mono hb.size))⟩
theorem isPrim12 (p:Int) (w:World):Calls Tryz.prog 124 #[.int .i64 p] w fun r w'=>r = .returned (.bool (decide (0<=p/\p<11)))/\w'=w:=by
 by_cases h0:0<=p
 ·by_cases h1:p<11
  ·rw[decide_eq_true (show 0<=p/\p<11 from ⟨h0,h1⟩)]
   go_enter Tryz.func124,Tryz.ntmps124
   go_wp2_with fail
   go_ret
   exact⟨rfl,rfl⟩
  ·rw[decide_eq_false (show ¬ (0<=p/\p<11) by omega)]
   go_enter Tryz.func124,Tryz.ntmps124
   go_wp2_with fail
   go_ret
   exact⟨rfl,rfl⟩
 ·rw[decide_eq_false (show ¬ (0<=p/\p<11) by omega)]
  go_enter Tryz.func124,Tryz.ntmps124
  go_wp2_with fail
  go_ret
  exact⟨rfl,rfl⟩
theorem NameOf12 (p:Int) (w:World) (h:ShTb w):Calls Tryz.prog 87 #[.int .i64 p] w fun r w'=>r = .returned (.string (pnZ p))/\w'=w:=by
 have hpos:=h.npos
 unfold pnZ
 by_cases hp:0<=p/\p<11
 ·rw[if_pos hp]
  obtain⟨k,rfl⟩:∃ k:Nat,p=k:=⟨p.toNat,by omega⟩
  have hk:=h.n k (by omega)
  have z1:decide (0<=(k:Int)/\(k:Int)<11)=true:=decide_eq_true hp
  have hki:(k:Int)<11:=hp.2
  clear h
  go_enter Tryz.func87,Tryz.ntmps87
  go_wp2_with (go_at_call 124;refine(isPrim12 _ _).mono ?_;rintro _ _ ⟨rfl,rfl⟩)
  go_ret
  exact⟨rfl,rfl⟩
 ·rw[if_neg hp]
  have z1:decide (0<=p/\p<11)=false:=decide_eq_false hp
  clear h
  go_enter Tryz.func87,Tryz.ntmps87
  go_wp2_with (go_at_call 124;refine(isPrim12 _ _).mono ?_;rintro _ _ ⟨rfl,rfl⟩)
  go_ret
  exact⟨rfl,rfl⟩
theorem names12 (w:World):Calls Tryz.prog 60 #[] w fun r w'=>r = .returned (.slice (some ⟨w.heap.size,0,none⟩) 11 11)/\(∀ p,p<11->w'.cell? ⟨w.heap.size,p,none⟩=some (.string (snAt p)))/\Below w.heap.size w w':=by
 go_enter Tryz.func60,Tryz.ntmps60
 go_wp2_with fail
 go_ret
 refine⟨rfl,fun p hp=>?_,sbel1 _ _⟩
 have:p=0\/p=1\/p=2\/p=3\/p=4\/p=5\/p=6\/p=7\/p=8\/p=9\/p=10:=by omega
 simp only[World.cell?,heap_alloc_new]
 rcases this with rfl|rfl|rfl|rfl|rfl|rfl|rfl|rfl|rfl|rfl|rfl<;>rfl
theorem refNameOf12 (p:Int) (w:World):Calls Tryz.prog 39 #[.int .i64 p] w fun r w'=>r = .returned (.string (pnZ p))/\Below w.heap.size w w':=by
 unfold pnZ
 by_cases hp:0<=p
 ·by_cases hq:p<11
  ·rw[if_pos ⟨hp,hq⟩]
   obtain⟨k,rfl⟩:∃ k:Nat,p=k:=⟨p.toNat,by omega⟩
   go_enter Tryz.func39,Tryz.ntmps39
   go_wp2_with (go_at_call 60;refine(names12 _).mono ?_;rintro _ w1 ⟨rfl,hc,hB⟩;have hk:=hc k (by omega))
   go_ret
   exact⟨rfl,hB⟩
  ·rw[if_neg (by omega)]
   go_enter Tryz.func39,Tryz.ntmps39
   go_wp2_with (go_at_call 60;refine(names12 _).mono ?_;rintro _ w1 ⟨rfl,hc,hB⟩)
   go_ret
   exact⟨rfl,hB⟩
 ·rw[if_neg (by omega)]
  go_enter Tryz.func39,Tryz.ntmps39
  go_wp2_with (go_at_call 60;refine(names12 _).mono ?_;rintro _ w1 ⟨rfl,hc,hB⟩)
  go_ret
  exact⟨rfl,hB⟩
end Go.Proofs.YtjnafpefolgcoaaGreatDoor
