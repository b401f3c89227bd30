import Derived.Test.YtkcjdncchoohoaaGreatDoorK06
import Derived.Deep.WholeRow
namespace Go.Proofs.YtkcjdncchoohoaaGreatDoor
set_option maxRecDepth 1000000
set_option maxHeartbeats 16000000
open Go.ChangeShapes Go.WideShapes Go.ChangeAt Go.RowKit Go.Shelf Go.Maps
variable {B cc g h i k tb:Nat} {P:Program} {W w:World} {a:Act} {cs st:List Nat} {o:Oper} {pc:Option Addr} {rest:List Oper} {t:Tk} {ty:TypeId} {v v' vc vo:Value}
abbrev tkO (t:Tk) (pc:Option Addr) (cc:Nat):Obj:=.cells (tkC t pc cc).toArray 47
theorem bdN {a:World} (h:Below B a w) (n:Nat):Below B a (w.drewN n):=⟨h.os,h.tape,h.output,h.size,h.block⟩
theorem two_b (w:World) (A B:Obj):Below w.heap.size w ((w.alloc A).alloc B):=(bel1 w A).alloc (by simp) B
theorem two_1 (w:World) (A B:Obj):((w.alloc A).alloc B).heap[w.heap.size]?=some A:=by
 show ((w.heap.push A).push B)[w.heap.size]?=_
 rw[Array.getElem?_push,if_neg (by simp),Array.getElem?_push,if_pos rfl]
theorem two_2 (w:World) (A B:Obj):((w.alloc A).alloc B).heap[w.heap.size+1]?=some B:=by
 show ((w.heap.push A).push B)[w.heap.size+1]?=_
 rw[Array.getElem?_push,if_pos (by simp)]
theorem tk_of (h:w.heap[g]?=some (tkO t pc cc)):TkC w g 0 t pc cc :=
 tkC_of fun j u hu=>by
  rw[Nat.zero_add,cell_at h j,List.getElem?_toArray]
  exact hu
theorem wpList_ld {ops:Array Oper} {Q:Exit->Act->World->Prop} (ty:TypeId) (x:Operand) (ho:o.op = .load ty x)
  (hw:Region.wanted o (yielded ops a.tmps)=true) (p v:Value) (hx:a.eval x=p) (hr:(Instr.loadAt ty p).run P w = .ok v w) (h:wpList P ops Q rest (a.put o.dst v) w):wpList P ops Q (o::rest) a w:=by
 refine wpList_step fun K hK=>?_
 rw[if_pos hw]
 unfold Oper.wp execOp
 simp only[ho,hx,hr,Sem.run_bind,Result.andThen_ok]
 exact hK _ _ h
theorem tk_range {o:Nat} (h:TkC w g o t pc cc):w.rangeAt g o (tkC t pc cc):=by
 intro j v hv
 have hj:j<21:=(List.getElem?_eq_some_iff.1 hv).1
 have h21:j=0\/j=1\/j=2\/j=3\/j=4\/j=5\/j=6\/j=7\/j=8\/j=9\/j=10\/j=11\/j=12\/j=13\/j=14\/j=15\/j=16\/j=17\/j=18\/j=19\/j=20:=by omega
 rcases h21 with rfl|rfl|rfl|rfl|rfl|rfl|rfl|rfl|rfl|rfl|rfl|rfl|rfl|rfl|rfl|rfl|rfl|rfl|rfl|rfl|rfl<;>cases Option.some.inj hv
 ·exact h.c0
 ·exact h.c1
 ·exact h.c2
 ·exact h.c3
 ·exact h.c4
 ·exact h.c5
 ·exact h.c6
 ·exact h.c7
 ·exact h.c8
 ·exact h.c9
 ·exact h.c10
 ·exact h.c11
 ·exact h.c12
 ·exact h.c13
 ·exact h.c14
 ·exact h.c15
 ·exact h.c16
 ·exact h.c17
 ·exact h.c18
 ·exact h.c19
 ·exact h.c20
theorem infoTk:(Tryz.prog.info? 47).map (·.size)=some 21:=by kernel_rfl
theorem undTk:∃ d,Tryz.prog.underlying 47=some d/\d.isRow=true:=⟨_,Tryz.underlying47,rfl⟩
theorem TkC.load {o:Nat} (h:TkC w g o t pc cc):(Instr.loadAt 47 (.pointer (some ⟨g,o,none⟩))).run Tryz.prog w = .ok (tkV t pc cc) w:=by
 obtain⟨d,hu,hd⟩:=undTk
 exact run_loadAt_mid w g o 47 (tkC t pc cc) d (tk_range h) hu hd infoTk
theorem wpList_st {ops:Array Oper} {Q:Exit->Act->World->Prop} {w':World} (ty:TypeId) (x y:Operand) (ho:o.op = .store ty x y)
  (hw:Region.wanted o (yielded ops a.tmps)=true) (p v:Value) (hx:a.eval x=p) (hy:a.eval y=v) (hr:(Instr.storeAt ty p v).run P w = .ok () w') (h:wpList P ops Q rest (a.put o.dst undef) w'):wpList P ops Q (o::rest) a w:=by
 refine wpList_step fun K hK=>?_
 rw[if_pos hw]
 unfold Oper.wp execOp
 simp only[ho,hx,hy,hr,Sem.run_bind,Result.andThen_ok]
 exact hK _ _ h
theorem tkC_one (t:Tk) (pc:Option Addr) (cc:Nat):∀ u∈tkC t pc cc,u.oneCell'=true:=by
 intro u hu
 simp only[tkC,List.mem_cons,List.not_mem_nil,or_false] at hu
 rcases hu with rfl|rfl|rfl|rfl|rfl|rfl|rfl|rfl|rfl|rfl|rfl|rfl|rfl|rfl|rfl|rfl|rfl|rfl|rfl|rfl|rfl<;>rfl
theorem st_new (w:World) (z:Array Value) (hz:z.size=21) (t:Tk) (pc:Option Addr) (cc:Nat):(Instr.storeAt 47 (.pointer (some ⟨w.heap.size,0,none⟩)) (tkV t pc cc)).run Tryz.prog (w.alloc (.cells z 47)) = .ok () (w.alloc (tkO t pc cc)) :=
 run_storeAt_new w 47 z (tkC t pc cc).toArray infoTk hz (all_oneCell_toArray (tkC_one t pc cc))
theorem ba_eq {a b:ByteArray}:a=b↔a.toList=b.toList:=by
 constructor
 ·intro e;rw[e]
 ·intro e
  rw[ByteArray.toList_eq,ByteArray.toList_eq] at e
  exact ByteArray.ext (Array.toList_inj.1 e)
theorem tk_eq {u:Tk}:t=u↔t.cst=u.cst/\t.op=u.op/\t.name.toList=u.name.toList/\t.id=u.id/\t.off=u.off/\t.siz=u.siz/\t.since=u.since/\t.prim=u.prim/\t.len=u.len/\t.pres=u.pres/\t.nul=u.nul/\t.lo=u.lo/\t.hi=u.hi/\t.val=u.val/\t.blk=u.blk/\t.full=u.full/\t.a.p=u.a.p/\t.a.o=u.a.o/\t.b.p=u.b.p/\t.b.o=u.b.o/\t.pair=u.pair:=by
 rw[<- ba_eq]
 obtain⟨op1,nm1,id1,of1,sz1,si1,pr1,ln1,ps1,nu1,lo1,hi1,cs1,vl1,bk1,fl1,⟨ap1,ao1⟩,⟨bp1,bo1⟩,pa1⟩:=t
 obtain⟨op2,nm2,id2,of2,sz2,si2,pr2,ln2,ps2,nu2,lo2,hi2,cs2,vl2,bk2,fl2,⟨ap2,ao2⟩,⟨bp2,bo2⟩,pa2⟩:=u
 simp only[Tk.mk.injEq,Sp.mk.injEq]
 constructor
 ·rintro⟨rfl,rfl,rfl,rfl,rfl,rfl,rfl,rfl,rfl,rfl,rfl,rfl,rfl,rfl,rfl,rfl,⟨rfl,rfl⟩,⟨rfl,rfl⟩,rfl⟩;exact⟨rfl,rfl,rfl,rfl,rfl,rfl,rfl,rfl,rfl,rfl,rfl,rfl,rfl,rfl,rfl,rfl,rfl,rfl,rfl,rfl,rfl⟩
 ·rintro⟨rfl,rfl,rfl,rfl,rfl,rfl,rfl,rfl,rfl,rfl,rfl,rfl,rfl,rfl,rfl,rfl,rfl,rfl,rfl,rfl,rfl⟩;exact⟨rfl,rfl,rfl,rfl,rfl,rfl,rfl,rfl,rfl,rfl,rfl,rfl,rfl,rfl,rfl,rfl,⟨rfl,rfl⟩,⟨rfl,rfl⟩,rfl⟩
theorem refSameTk_any (t u:Tk) (p1 p2:Option Addr) (c1 c2:Nat) (w:World) (h1:URow w p1 w.heap.size t.cst) (h2:URow w p2 w.heap.size u.cst) (hs:t.cst.length*8<=140737488355328):Calls Tryz.prog 69 #[tkV t p1 c1,tkV u p2 c2] w fun r w'=>Ans r (t=u)/\Below w.heap.size w w':=by
 have hA:=tk_of (two_1 w (tkO t p1 c1) (tkO u p2 c2))
 have hC:=tk_of (two_2 w (tkO t p1 c1) (tkO u p2 c2))
 have HB:Hid (Below w.heap.size w ((w.alloc (tkO t p1 c1)).alloc (tkO u p2 c2))):=⟨two_b w _ _⟩
 have HS:Hid (w.heap.size+1<((w.alloc (tkO t p1 c1)).alloc (tkO u p2 c2)).heap.size):=⟨by simp⟩
 replace h1:=(h1.below HB.out).mono HB.out.size
 replace h2:=(h2.below HB.out).mono HB.out.size
 simp only[tkO,tkC] at hA hC HB HS h1 h2
 generalize hW:(w.alloc (.cells [Value.int .i64 t.op,.string t.name,.int .i64 t.id,.int .i64 t.off,.int .i64 t.siz,.int .i64 t.since,.int .i64 t.prim,.int .i64 t.len,.int .i64 t.pres,.int .u64 t.nul,.int .u64 t.lo,.int .u64 t.hi,.slice p1 t.cst.length c1,.int .u64 t.val,.int .i64 t.blk,.int .i64 t.full,.int .i64 t.a.p,.int .i64 t.a.o,.int .i64 t.b.p,.int .i64 t.b.o,.int .i64 t.pair].toArray 47)).alloc _=W at hA hC HB HS h1 h2
 have a12:W.cell? ⟨w.heap.size,12,none⟩=some (.slice p1 t.cst.length c1):=hA.c12
 have b12:W.cell? ⟨w.heap.size+1,12,none⟩=some (.slice p2 u.cst.length c2):=hC.c12
 replace hA:Hid (TkC W w.heap.size 0 t p1 c1):=⟨hA⟩
 replace hC:Hid (TkC W (w.heap.size+1) 0 u p2 c2):=⟨hC⟩
 by_cases hlm:t.cst.length=u.cst.length
 ·have b1:((t.cst.length:Int) != (u.cst.length:Int))=false:=by simp[hlm]
  have HL:Hid (t.cst.length=u.cst.length):=⟨hlm⟩
  clear hlm
  go_enter Tryz.func69,Tryz.ntmps69
  go_wp2_with fail
  clear b1
  go_loopw [5] (fun i wr=>∃ j:Nat,j<=t.cst.length/\i = .int .i64 j/\Below W.heap.size W wr/\Hid (t.cst=u.cst↔t.cst.drop j=u.cst.drop j)) (fun i _=>t.cst.length-(RowKit.intOf i).toNat)
  case atStart=>exact⟨0,Nat.zero_le _,rfl,Below.refl _ _,⟨Iff.rfl⟩⟩
  case round =>
   clear a12 b12 hW
   obtain⟨j,hj,rfl,hB,hq⟩:=hrel
   have kA:=hA.out.below (Nat.lt_of_succ_lt HS.out) hB
   have kC:=hC.out.below HS.out hB
   have a12:wr.cell? ⟨w.heap.size,12,none⟩=some (.slice p1 t.cst.length c1):=kA.c12
   have b12:wr.cell? ⟨w.heap.size+1,12,none⟩=some (.slice p2 u.cst.length c2):=kC.c12
   by_cases hlt:j<t.cst.length
   ·obtain⟨a,hx⟩:∃ a,t.cst[j]?=some a:=⟨t.cst[j],List.getElem?_eq_getElem hlt⟩
    obtain⟨b,hy⟩:∃ b,u.cst[j]?=some b:=⟨u.cst[j]'(by have:=HL.out;omega),List.getElem?_eq_getElem (by have:=HL.out;omega)⟩
    obtain⟨g,o,rfl,hg,q0⟩:=h1.c j a hx
    obtain⟨g2,o2,rfl,hg2,k0⟩:=h2.c j b hy
    replace q0:=(hB.cell (p:=⟨g,_,none⟩) hg).trans q0
    replace k0:=(hB.cell (p:=⟨g2,_,none⟩) hg2).trans k0
    have hlti:(j:Int)<t.cst.length:=by omega
    have hltm:(j:Int)<u.cst.length:=by have:=HL.out;omega
    have hd:Hid (t.cst=u.cst↔a=b/\t.cst.drop (j+1)=u.cst.drop (j+1)):=⟨by rw[hq.out,drop_at hx,drop_at hy,List.cons.injEq]⟩
    clear hq hx hy kA kC h1 h2
    by_cases hab:a=b
    ·have z:(a != b)=false:=by simp[hab]
     have HX:Hid (t.cst=u.cst↔t.cst.drop (j+1)=u.cst.drop (j+1)):=⟨by rw[hd.out];simp[hab]⟩
     clear hab hd
     go_wp2_with fail
     go_quiet (fail)
     go_wp2_with fail
     go_roundw
     case rel=>exact⟨j+1,by omega,by go_num,bdN hB _,HX⟩
     case measure=>simp[RowKit.intOf];omega
    ·have z:(a != b)=true:=by simp[hab]
     have HX:Hid (¬ t=u):=⟨fun e=>hab (hd.out.1 (by rw[e])).1⟩
     clear hab hd
     go_wp2_with fail
     go_quiet (fail)
     go_wp2_with fail
     go_ret
     exact⟨Ans.no HX.out,bdN (HB.out.trans (hB.mono HB.out.size)) _⟩
   ·obtain rfl:j=t.cst.length:=by omega
    have HX:Hid (t.cst=u.cst):=⟨by rw[hq.out,List.drop_length,HL.out,List.drop_length]⟩
    clear hq
    have a0:wr.cell? ⟨w.heap.size,0,none⟩=some (.int .i64 t.op):=kA.c0
    have a1:wr.cell? ⟨w.heap.size,1,none⟩=some (.string t.name):=kA.c1
    have a2:wr.cell? ⟨w.heap.size,2,none⟩=some (.int .i64 t.id):=kA.c2
    have a3:wr.cell? ⟨w.heap.size,3,none⟩=some (.int .i64 t.off):=kA.c3
    have a4:wr.cell? ⟨w.heap.size,4,none⟩=some (.int .i64 t.siz):=kA.c4
    have a5:wr.cell? ⟨w.heap.size,5,none⟩=some (.int .i64 t.since):=kA.c5
    have a6:wr.cell? ⟨w.heap.size,6,none⟩=some (.int .i64 t.prim):=kA.c6
    have a7:wr.cell? ⟨w.heap.size,7,none⟩=some (.int .i64 t.len):=kA.c7
    have a8:wr.cell? ⟨w.heap.size,8,none⟩=some (.int .i64 t.pres):=kA.c8
    have a9:wr.cell? ⟨w.heap.size,9,none⟩=some (.int .u64 t.nul):=kA.c9
    have a10:wr.cell? ⟨w.heap.size,10,none⟩=some (.int .u64 t.lo):=kA.c10
    have a11:wr.cell? ⟨w.heap.size,11,none⟩=some (.int .u64 t.hi):=kA.c11
    have a12:wr.cell? ⟨w.heap.size,12,none⟩=some (.slice p1 t.cst.length c1):=kA.c12
    have a13:wr.cell? ⟨w.heap.size,13,none⟩=some (.int .u64 t.val):=kA.c13
    have a14:wr.cell? ⟨w.heap.size,14,none⟩=some (.int .i64 t.blk):=kA.c14
    have a15:wr.cell? ⟨w.heap.size,15,none⟩=some (.int .i64 t.full):=kA.c15
    have a16:wr.cell? ⟨w.heap.size,16,none⟩=some (.int .i64 t.a.p):=kA.c16
    have a17:wr.cell? ⟨w.heap.size,17,none⟩=some (.int .i64 t.a.o):=kA.c17
    have a18:wr.cell? ⟨w.heap.size,18,none⟩=some (.int .i64 t.b.p):=kA.c18
    have a19:wr.cell? ⟨w.heap.size,19,none⟩=some (.int .i64 t.b.o):=kA.c19
    have a20:wr.cell? ⟨w.heap.size,20,none⟩=some (.int .i64 t.pair):=kA.c20
    have b0:wr.cell? ⟨w.heap.size+1,0,none⟩=some (.int .i64 u.op):=kC.c0
    have b1:wr.cell? ⟨w.heap.size+1,1,none⟩=some (.string u.name):=kC.c1
    have b2:wr.cell? ⟨w.heap.size+1,2,none⟩=some (.int .i64 u.id):=kC.c2
    have b3:wr.cell? ⟨w.heap.size+1,3,none⟩=some (.int .i64 u.off):=kC.c3
    have b4:wr.cell? ⟨w.heap.size+1,4,none⟩=some (.int .i64 u.siz):=kC.c4
    have b5:wr.cell? ⟨w.heap.size+1,5,none⟩=some (.int .i64 u.since):=kC.c5
    have b6:wr.cell? ⟨w.heap.size+1,6,none⟩=some (.int .i64 u.prim):=kC.c6
    have b7:wr.cell? ⟨w.heap.size+1,7,none⟩=some (.int .i64 u.len):=kC.c7
    have b8:wr.cell? ⟨w.heap.size+1,8,none⟩=some (.int .i64 u.pres):=kC.c8
    have b9:wr.cell? ⟨w.heap.size+1,9,none⟩=some (.int .u64 u.nul):=kC.c9
    have b10:wr.cell? ⟨w.heap.size+1,10,none⟩=some (.int .u64 u.lo):=kC.c10
    have b11:wr.cell? ⟨w.heap.size+1,11,none⟩=some (.int .u64 u.hi):=kC.c11
    have b12:wr.cell? ⟨w.heap.size+1,12,none⟩=some (.slice p2 u.cst.length c2):=kC.c12
    have b13:wr.cell? ⟨w.heap.size+1,13,none⟩=some (.int .u64 u.val):=kC.c13
    have b14:wr.cell? ⟨w.heap.size+1,14,none⟩=some (.int .i64 u.blk):=kC.c14
    have b15:wr.cell? ⟨w.heap.size+1,15,none⟩=some (.int .i64 u.full):=kC.c15
    have b16:wr.cell? ⟨w.heap.size+1,16,none⟩=some (.int .i64 u.a.p):=kC.c16
    have b17:wr.cell? ⟨w.heap.size+1,17,none⟩=some (.int .i64 u.a.o):=kC.c17
    have b18:wr.cell? ⟨w.heap.size+1,18,none⟩=some (.int .i64 u.b.p):=kC.c18
    have b19:wr.cell? ⟨w.heap.size+1,19,none⟩=some (.int .i64 u.b.o):=kC.c19
    have b20:wr.cell? ⟨w.heap.size+1,20,none⟩=some (.int .i64 u.pair):=kC.c20
    clear kA kC h1 h2
    have HW:Hid (Below w.heap.size w wr):=⟨HB.out.trans (hB.mono HB.out.size)⟩
    go_wp2_with fail
    all_goals (go_ret;refine⟨⟨_,rfl,?_⟩,HW.out⟩;rw[tk_eq];have HX:=HX.out;first|(simp[*];done)|(simp only[bne_iff_ne,ne_eq,bne_eq_false_iff_eq] at *;simp[*]))
 ·have b1:((t.cst.length:Int) != (u.cst.length:Int))=true:=by simp;omega
  have HX:Hid (¬ t=u):=⟨fun e=>hlm (by rw[e])⟩
  clear hlm
  go_enter Tryz.func69,Tryz.ntmps69
  go_wp2_with fail
  go_ret
  exact⟨Ans.no HX.out,HB.out⟩
theorem sz_5:sz 5=1:=rfl
theorem sz_6:sz 6=2:=rfl
theorem sz_7:sz 7=4:=rfl
theorem refLies_any (s:Sp) (n:Int) (w:World) (hn:0<=n/\n<=9223372036854775807):Calls Tryz.prog 42 #[spV s,.int .i64 n] w fun r w'=>r = .returned (.bool (lieB s n))/\Below w.heap.size w w':=by
 suffices hh:Calls Tryz.prog 42 #[spV s,.int .i64 n] w fun r w'=>Ans r (lieB s n=true)/\Below w.heap.size w w' from hh.mono fun r w' h=>⟨h.1.same,h.2⟩
 by_cases h5:s.p=5
 ·have hb:Hid0 (lieB s n=true↔0<=s.o/\s.o<=n-1):=⟨by unfold lieB numB;rw[h5];simp only[sz_5];simp;exact decide_eq_true_iff⟩
  have d5:(s.p==5)=true:=by simp[h5]
  clear h5
  go_enter Tryz.func42,Tryz.ntmps42
  go_wp2_with fail
  all_goals
   go_ret
   refine⟨⟨_,rfl,?_⟩,bel1 _ _⟩
   rw[hb.out]
   simp_all
   try omega
 by_cases h6:s.p=6
 ·have hb:Hid0 (lieB s n=true↔0<=s.o/\s.o<=n-2):=⟨by unfold lieB numB;rw[h6];simp only[sz_6];simp;exact decide_eq_true_iff⟩
  have d5:(s.p==5)=false:=by simp[h5]
  have d6:(s.p==6)=true:=by simp[h6]
  clear h5 h6
  go_enter Tryz.func42,Tryz.ntmps42
  go_wp2_with fail
  all_goals
   go_ret
   refine⟨⟨_,rfl,?_⟩,bel1 _ _⟩
   rw[hb.out]
   simp_all
   try omega
 by_cases h7:s.p=7
 ·have hb:Hid0 (lieB s n=true↔0<=s.o/\s.o<=n-4):=⟨by unfold lieB numB;rw[h7];simp only[sz_7];simp;exact decide_eq_true_iff⟩
  have d5:(s.p==5)=false:=by simp[h5]
  have d6:(s.p==6)=false:=by simp[h6]
  have d7:(s.p==7)=true:=by simp[h7]
  clear h5 h6 h7
  go_enter Tryz.func42,Tryz.ntmps42
  go_wp2_with fail
  all_goals
   go_ret
   refine⟨⟨_,rfl,?_⟩,bel1 _ _⟩
   rw[hb.out]
   simp_all
   try omega
 have hb:Hid0 (¬ lieB s n=true):=⟨by unfold lieB numB;simp[h5,h6,h7]⟩
 have d5:(s.p==5)=false:=by simp[h5]
 have d6:(s.p==6)=false:=by simp[h6]
 have d7:(s.p==7)=false:=by simp[h7]
 clear h5 h6 h7
 go_enter Tryz.func42,Tryz.ntmps42
 go_wp2_with fail
 all_goals
  go_ret
  exact⟨Ans.no hb.out,bel1 _ _⟩
theorem refTells_any (s:Sp) (n:Int) (w:World) (hn:i64ok n):Calls Tryz.prog 44 #[spV s,.int .i64 n] w fun r w'=>r = .returned (.bool (telB s n))/\Below w.heap.size w w':=by
 have cM:=refMax_any s.p
 unfold telB
 unfold i64ok at hn
 by_cases h0:0<=n
 ·have hw:IntKind.u64.wrap n=n:=by rw[IntKind.wrap_u64];omega
  go_enter Tryz.func44,Tryz.ntmps44
  go_wp2_with (go_at_call 68;refine(cM _).mono ?_;rintro _ _ ⟨rfl,rfl⟩)
  go_ret
  exact⟨rb (by simp[h0]),bel1 _ _⟩
 ·have d0:decide (0<=n)=false:=by simp;omega
  go_enter Tryz.func44,Tryz.ntmps44
  go_wp2_with (go_at_call 68;refine(cM _).mono ?_;rintro _ _ ⟨rfl,rfl⟩)
  go_ret
  exact⟨rb (by simp;omega),bel1 _ _⟩
theorem dbb2 (w:World) (a b:Obj):Below w.heap.size w ((w.alloc a).alloc b):=(bel1 w a).trans ((bel1 (w.alloc a) b).mono (al_le _ _))
theorem refApart_any (s t:Sp) (w:World) (hs:0<=s.o/\s.o<=9223372036854775700) (ht:0<=t.o/\t.o<=9223372036854775700):Calls Tryz.prog 43 #[spV s,spV t] w fun r w'=>r = .returned (.bool (aptB s t))/\Below w.heap.size w w':=by
 have hz:=sz_b s.p
 have hy:=sz_b t.p
 have hw1:IntKind.i64.wrap (t.o+sz t.p)=t.o+sz t.p:=by rw[IntKind.wrap_i64];omega
 have hw2:IntKind.i64.wrap (s.o+sz s.p)=s.o+sz s.p:=by rw[IntKind.wrap_i64];omega
 suffices hh:Calls Tryz.prog 43 #[spV s,spV t] w fun r w'=>Ans r (aptB s t=true)/\Below w.heap.size w w' from hh.mono fun r w' h=>⟨h.1.same,h.2⟩
 have hb:Hid0 (aptB s t=true↔(s.o+sz s.p<=t.o\/t.o+sz t.p<=s.o)):=⟨by unfold aptB;rw[decide_eq_true_eq]⟩
 have cS:=refSize_any s.p
 have cT:=refSize_any t.p
 generalize sz s.p=a at *
 generalize sz t.p=b at *
 go_enter Tryz.func43,Tryz.ntmps43
 go_wp2_with (first|(go_at_call_of 67 (Value.int .i64 s.p);refine(cS _).mono ?_;rintro _ _ ⟨rfl,rfl⟩)|(go_at_call_of 67 (Value.int .i64 t.p);refine(cT _).mono ?_;rintro _ _ ⟨rfl,rfl⟩))
 all_goals
  go_ret
  refine⟨⟨_,rfl,?_⟩,dbb2 _ _ _⟩
  rw[hb.out]
  simp_all
  try omega
theorem clsB (wr:World):∃ p:World->Prop,p wr.drew/\(∀ W,p W->Below wr.heap.size wr W)/\Nonempty (CW p)/\(∀ (g o:Nat),g<wr.heap.size->∀ θ:CW p,θ.w.cell? ⟨g,o,none⟩=wr.cell? ⟨g,o,none⟩) /\
  (∀ (f:FuncId) (ag:Array Value) (v:Value),(∀ W,Below wr.heap.size wr W->Calls Tryz.prog f ag W fun e w'=>e = .returned v/\Below W.heap.size W w')->∀ W,p W->Calls Tryz.prog f ag W fun e w'=>e = .returned v/\p w') :=
 ⟨Below wr.heap.size wr,drw (Below.refl _ _),fun _ h=>h,⟨⟨_,Below.refl _ _⟩⟩,fun g o hg θ=>θ.h.cell (p:=⟨g,o,none⟩) hg,fun _ _ _ h=>callB (Nat.le_refl _) h⟩
theorem ent_lies:∀ ag w,(callFunc 42 ag).run Tryz.prog w = .ok (.enter 42 ag) w:=enters_of Tryz.func42 (by kernel_rfl) rfl
theorem ent_apart:∀ ag w,(callFunc 43 ag).run Tryz.prog w = .ok (.enter 43 ag) w:=enters_of Tryz.func43 (by kernel_rfl) rfl
theorem ent_tells:∀ ag w,(callFunc 44 ag).run Tryz.prog w = .ok (.enter 44 ag) w:=enters_of Tryz.func44 (by kernel_rfl) rfl
theorem frz_at {cs:Array Value} (h1:W.heap[h]?=some (.cells cs ty)):W.frozen? ⟨h,i,none⟩=false:=by simp[World.frozen?,h1]
theorem set_at {cs:Array Value} (h1:W.heap[h]?=some (.cells cs ty)) (v:Value):(W.setCell ⟨h,i,none⟩ v).heap[h]?=some (.cells (cs.setIfInBounds i v) ty):=by
 show (W.heap.modify h _)[h]?=_
 rw[Array.getElem?_modify,if_pos rfl,h1]
 rfl
theorem set_off (hk:k≠h):(W.setCell ⟨h,i,none⟩ v).heap[k]?=W.heap[k]?:=by
 show (W.heap.modify h _)[k]?=_
 rw[Array.getElem?_modify,if_neg (Ne.symm hk)]
theorem st_il {b:Nat} {p:Option Addr} {n:Nat} (h:W.cell? ⟨b,i,none⟩=some v) (hf:W.frozen? ⟨b,i,none⟩=false):(Instr.storeAt 38 (.pointer (some ⟨b,i,none⟩)) (.slice p n k)).run Tryz.prog W = .ok () (W.setCell ⟨b,i,none⟩ (.slice p n k)):=by
 simp[go_sem,h,hf]
theorem Hs.setO {st':List Nat} (hb:B<=h) (h1:W.heap[h]?=some (.cells #[vo,vc] 74)) (h2:NRow W B v' st'.reverse) (h3:NRow W B vc cs) (h4:∀ k,v'.ownBlock=some k->k≠h/\vc.ownBlock≠some k) (h5:∀ k,vc.ownBlock=some k->k≠h) (h6:tb≠h) (h7:v'.ownBlock≠some tb):Hs (W.setCell ⟨h,0,none⟩ v') B h tb st' cs vc :=
 ⟨⟨v',set_at h1 v',h2.keepP fun k hk=>set_off (h4 k hk).1,h3.keepP fun k hk=>set_off (h5 k hk),h4,h5,h6,h7⟩,hb⟩
theorem Hs.setC {cs':List Nat} (hb:B<=h) (h1:W.heap[h]?=some (.cells #[vo,vc] 74)) (h2:NRow W B vo st.reverse) (h3:NRow W B v' cs') (h4:∀ k,vo.ownBlock=some k->k≠h/\v'.ownBlock≠some k) (h5:∀ k,v'.ownBlock=some k->k≠h) (h6:tb≠h) (h7:vo.ownBlock≠some tb):Hs (W.setCell ⟨h,1,none⟩ v') B h tb st cs' v' :=
 ⟨⟨vo,set_at h1 v',h2.keepP fun k hk=>set_off (h4 k hk).1,h3.keepP fun k hk=>set_off (h5 k hk),h4,h5,h6,h7⟩,hb⟩
theorem pPush_any (H:Hs W B h tb st cs vc) (c:Nat) (hl:st.length+1<=1000000000000) (hB:B<=W.heap.size) (htb:tb<W.heap.size) :
  Calls Tryz.prog 60 #[.pointer (some ⟨h,0,none⟩),.int .i64 (c:Int)] W fun e w'=>e = .returned (.tuple #[])/\Hs w' B h tb (c::st) cs vc/\Below B W w'/\w'.heap[tb]?=W.heap[tb]?:=by
 have hlt:=H.lt
 have hBh:=H.b
 obtain⟨vo,h1,h2,h3,h4,h5,h6,h7⟩:=H.c
 have hap:Hid _:=⟨i_apP c h2 (by rw[List.length_reverse];exact hl) hB⟩
 have c0:W.cell? ⟨h,0,none⟩=some vo:=cell_at h1 0
 have c0':∀ o,(W.alloc o).cell? ⟨h,0,none⟩=some vo:=fun o=>((bel1 W o).cell (p:=⟨h,0,none⟩) hlt).trans c0
 have FIN:Hid (∀ v' w',NRow w' B v' (st.reverse++[c])->Below B W w'->(∀ j,j<W.heap.size->vo.ownBlock≠some j->w'.heap[j]?=W.heap[j]?)->(∀ k,v'.ownBlock=some k->vo.ownBlock=some k\/W.heap.size<=k)->w'.heap[h]?=some (.cells #[vo,vc] 74)/\Hs (w'.setCell ⟨h,0,none⟩ v') B h tb (c::st) cs vc/\Below B W (w'.setCell ⟨h,0,none⟩ v')/\(w'.setCell ⟨h,0,none⟩ v').heap[tb]?=W.heap[tb]?):=⟨fun v' w' q1 q2 q3 q4=>by
  have e1:w'.heap[h]?=some (.cells #[vo,vc] 74):=(q3 h hlt fun e=>(h4 h e).1 rfl).trans h1
  refine⟨e1,Hs.setO hBh e1 (by rw[List.reverse_cons];exact q1) (h3.keepP fun k hk=>q3 k (h3.ltP k hk).2 fun e=>(h4 k e).2 hk) (fun k hk=>?_) h5 h6 (fun e=>by rcases q4 tb e with e|e;exact h7 e;omega),q2.setCell (p:=⟨h,0,none⟩) hBh _,(set_off h6).trans (q3 tb htb h7)⟩
  rcases q4 k hk with e|e
  ·exact h4 k e
  ·exact⟨by omega,fun e2=>by have:=(h3.ltP k e2).2;omega⟩⟩
 obtain⟨po,co,rfl,-⟩:=h2.shape
 clear h1 h2 h3 h4 h5 h6 h7 H
 rw[List.length_reverse] at hap c0 c0' FIN
 go_enter Tryz.func60,Tryz.ntmps60
 go_wp2_with (at_builtin;go_must (refine(ap_step (by rfl) _ _ _ _ (by rfl) _ _ (by rfl) (by rfl) _ hap.out ?_));rintro v' w' ⟨q1,q2,q3,q4⟩;obtain⟨e1,hf⟩:=FIN.out v' w' q1 q2 q3 q4;obtain⟨pv,cv,rfl,-⟩:=q1.shape;have x1:w'.cell? ⟨h,0,none⟩=_:=cell_at e1 0;have x2:w'.frozen? ⟨h,0,none⟩=false:=frz_at e1;replace hf:=Hid.mk hf;clear q1 q2 q3 q4 e1)
 go_end0
 have hf':=hf.out
 simp only[List.length_append,List.length_reverse,List.length_singleton] at hf'
 exact⟨rfl,hf'⟩
theorem pPop_any {c:Nat} (H:Hs W B h tb (c::st) cs vc) (hl:st.length+1<=1000000000000) (hB:B<=W.heap.size) (htb:tb<W.heap.size) :
  Calls Tryz.prog 57 #[.pointer (some ⟨h,0,none⟩)] W fun e w'=>e = .returned (.int .i64 (c:Int))/\Hs w' B h tb st cs vc/\Below B W w'/\w'.heap[tb]?=W.heap[tb]?:=by
 have cT:=pTop_any H (by simpa using hl)
 have hd:(List.headD (c::st) 0:Nat)=c:=rfl
 rw[hd] at cT
 have FIN:Hid (∀ W1,Below W.heap.size W W1->∃ g co,co≥st.length+1/\W1.heap[h]?≠none/\W1.cell? ⟨h,0,none⟩=some (.slice (some ⟨g,0,none⟩) (st.length+1) co)/\W1.frozen? ⟨h,0,none⟩=false/\h<W1.heap.size/\Hid (∀ W2,Below W1.heap.size W1 W2->Hs (W2.setCell ⟨h,0,none⟩ (.slice (some ⟨g,0,none⟩) st.length co)) B h tb st cs vc/\Below B W (W2.setCell ⟨h,0,none⟩ (.slice (some ⟨g,0,none⟩) st.length co))/\(W2.setCell ⟨h,0,none⟩ (.slice (some ⟨g,0,none⟩) st.length co)).heap[tb]?=W.heap[tb]?)):=⟨fun W1 hb=>by
  have H1:=H.below hb
  have hlt:=H1.lt
  obtain⟨vo,h1,h2,h3,h4,h5,h6,h7⟩:=H1.c
  obtain⟨po,co,rfl,-⟩:=h2.shape
  rw[List.reverse_cons] at h2
  obtain⟨p1,p2,p3,g,rfl⟩:=h2.pop
  rw[List.length_reverse] at p1 p3
  refine⟨g,co,p3,by rw[h1];simp,by have:=cell_at h1 0;simpa using this,frz_at h1,hlt,⟨fun W2 hb2=>?_⟩⟩
  have e1:=(hb2.block _ hlt).trans h1
  exact⟨Hs.setO H.b e1 (p1.below hb2) (h3.below hb2) (fun k hk=>h4 k hk) h5 h6 h7,((hb.mono hB).trans (hb2.mono (Nat.le_trans hB hb.size))).setCell (p:=⟨h,0,none⟩) H.b _,(set_off h6).trans ((hb2.block tb (Nat.lt_of_lt_of_le htb hb.size)).trans (hb.block tb htb))⟩⟩
 clear H hd
 generalize st.length=n at *
 have lK:(n:Int)<(n:Int)+1:=by omega
 have hw1:IntKind.i64.wrap ((n:Int)+1-1)=(n:Int):=by rw[IntKind.wrap_i64];omega
 go_enter Tryz.func57,Tryz.ntmps57
 go_wp2_with (go_at_call 58;refine cT.mono ?_;rintro _ w1 ⟨rfl,hb1⟩;obtain⟨g,co,hco,-,x0,x1,xl,hf⟩:=FIN.out w1 hb1)
 obtain⟨p,p0,pB,pN,k0⟩:∃ p:World->Prop,p w1.drew/\(∀ V,p V->Below w1.heap.size w1 V)/\Nonempty (CW p)/\(∀ θ:CW p,θ.w.cell? ⟨h,0,none⟩=some (.slice (some ⟨g,0,none⟩) (n+1) co)) :=
  ⟨Below w1.heap.size w1,(Below.refl _ _).drew,fun _ h=>h,⟨⟨w1,Below.refl _ _⟩⟩,fun θ=>(θ.h.cell (p:=⟨h,0,none⟩) xl).trans x0⟩
 have z1:(n:Int)<=(co:Int):=by omega
 have z2:n<=co:=by omega
 clear FIN cT hb1
 refine wp_region_lw 14 (fun V=>∃ θ:CW p,V=θ.w) (by kernel_rfl) (by kernel_rfl) (fun _ _ d _ _ h=>by cases d<;>exact h) ⟨⟨_,p0⟩,rfl⟩ ?_
 repeat (refine lw_one rfl ?_;(first|go_big_quiet_skip|(go_big_quiet_want;go_big_quiet_op;go_big_quiet_on));refine wpQuiet_nil ?_)
 have y0:w1.drew.cell? ⟨h,0,none⟩=_:=x0
 have y1:w1.drew.frozen? ⟨h,0,none⟩=false:=x1
 refine lw_st (st_il y0 y1) rfl rfl (by rfl) ?_
 have F:=hf.out _ (pB _ p0)
 replace F:=Hid.mk F
 go_wp2_with fail
 go_ret
 exact⟨rfl,F.out⟩
theorem val_op {f:Fm} (hz:chkZ f=none) (ht:f.toks[i]?=some t):0<=t.op/\t.op<=15:=by
 obtain⟨hok,H⟩:=val_ok hz ht
 revert hok H
 generalize stA f i=s
 intro hok H
 obtain⟨o,ids⟩:=s
 cases o with
 | nil =>
  obtain⟨_,ho,_⟩:=okZ_nil hok
  omega
 | cons x o =>
  have h:inOk f (x::o) ids i x t=true:=hok
  have hx:=H.all x (List.mem_cons_self ..)
  cases he:edO t.op with
  | true =>
   unfold edO at he
   have:=decT he
   omega
  | false =>
   obtain⟨hm,_⟩:=inOk_in h he
   rcases may_typ hm he hx.beg with h|h|h|h
   ·have:=decT h.2.1;omega
   ·have:=decT h.2.2;omega
   ·have:=decT h.2;omega
   ·obtain⟨_,h|h⟩:=h<;>omega
theorem pPass_any (H:Hs W B h tb st cs vc) (t:Tk) (pc:Option Addr) (cc:Nat) (hl:st.length+1<=1000000000000) (hB:B<=W.heap.size) (htb:tb<W.heap.size) (hop:0<=t.op/\t.op<=15) (hs:0<=t.since) (he:edO t.op=true->st≠[]) :
  Calls Tryz.prog 37 #[.pointer (some ⟨h,0,none⟩),tkV t pc cc] W fun e w'=>e = .returned (.int .i64 (((camS st t).1:Nat):Int))/\Hs w' B h tb (camS st t).2 cs vc/\Below B W w'/\w'.heap[tb]?=W.heap[tb]?:=by
 have HB:=bel1 W (tkO t pc cc)
 have hA:=tk_of (heap_al W (tkO t pc cc))
 have HS:W.heap.size<(W.alloc (tkO t pc cc)).heap.size:=by simp
 generalize hW:W.alloc (tkO t pc cc)=W1 at hA HB HS
 have H1:=H.below HB
 have hB1:B<=W1.heap.size:=Nat.le_trans hB HB.size
 have c0:=hA.c0
 have cE:=pEnds_any t.op W1 hop
 have hT:Hid (TkC W1 W.heap.size 0 t pc cc):=⟨hA⟩
 simp only[tkO,tkC] at hW
 clear hA
 unfold camS
 cases hE:edO t.op with
 | true =>
  rw[hE] at cE
  obtain⟨c,r,rfl⟩:∃ c r,st=c::r:=by
   cases st with
   | nil=>exact absurd rfl (he hE)
   | cons c r=>exact⟨c,r,rfl⟩
  have cP:=pPop_any H1 (by simp at hl;omega) hB1 (Nat.lt_of_lt_of_le htb HB.size)
  have HT:Hid (W1.heap[tb]?=W.heap[tb]?):=⟨HB.block tb htb⟩
  rw[if_pos rfl]
  clear H H1 he
  go_enter Tryz.func37,Tryz.ntmps37
  go_wp2_with (first
   | (go_at_call 56;refine cE.mono ?_;rintro _ w1 ⟨rfl,e⟩;obtain rfl:W1=w1:=e.symm)
   | (go_at_call 57;refine cP.mono ?_;rintro _ w2 ⟨rfl,q1,q2⟩;replace q1:=Hid.mk q1;replace q2:=Hid.mk q2))
  go_ret
  exact⟨rfl,q1.out,(HB.mono hB).trans q2.out.1,q2.out.2.trans HT.out⟩
 | false =>
  rw[hE] at cE
  rw[if_neg (by decide)]
  obtain⟨s,hsn⟩:∃ s:Nat,t.since=s:=⟨t.since.toNat,by omega⟩
  have e1:t.since.toNat=s:=by omega
  rw[e1]
  have cT:=pTop_any (H1.below (Below.refl _ _).drew) (by omega)
  generalize st.headD 0=q at cT ⊢
  generalize hst2:(if bgO t.op=true then max q s::st else st)=st2
  replace hst2:=Hid.mk hst2
  have hsz:W.heap.size<W1.heap.size:=HS
  obtain⟨p,p0,pB,pI,pN,k5⟩:∃ p:World->Prop,p W1.drew/\(∀ V,p V->Below W1.heap.size W1 V)/\(∀ V,Below W1.heap.size W1 V->p V)/\Nonempty (CW p)/\(∀ θ:CW p,θ.w.cell? ⟨W.heap.size,5,none⟩=some (.int .i64 (s:Int))) :=
   ⟨Below W1.heap.size W1,(Below.refl _ _).drew,fun _ h=>h,fun _ h=>h,⟨⟨W1,Below.refl _ _⟩⟩,fun θ=>(θ.h.cell (p:=⟨W.heap.size,5,none⟩) hsz).trans (by have:=hT.out.c5;rw[hsn] at this;simpa using this)⟩
  have CB:Hid (∀ V,Below W1.heap.size W1 V->Calls Tryz.prog 59 #[.int .i64 t.op] V fun r w'=>r = .returned (.bool (bgO t.op))/\w'=V):=⟨fun V _=>pBegins_any t.op V hop⟩
  have CC:Hid (∀ V,Below W1.heap.size W1 V->V.cell? ⟨W.heap.size,0,none⟩=some (.int .i64 t.op)):=⟨fun V hV=>(hV.cell (p:=⟨W.heap.size,0,none⟩) hsz).trans hT.out.c0⟩
  have CP:Hid (∀ V,Below W1.heap.size W1 V->Calls Tryz.prog 60 #[.pointer (some ⟨h,0,none⟩),.int .i64 ((max q s:Nat):Int)] V fun e w'=>e = .returned (.tuple #[])/\Hs w' B h tb (max q s::st) cs vc/\Below B W w'/\w'.heap[tb]?=W.heap[tb]?):=⟨fun V hV=>(pPush_any (H1.below hV) (max q s) hl (Nat.le_trans hB1 hV.size) (Nat.lt_of_lt_of_le (Nat.lt_of_lt_of_le htb HB.size) hV.size)).mono fun e w' hP=>⟨hP.1,hP.2.1,((HB.mono hB).trans (hV.mono hB1)).trans hP.2.2.1,hP.2.2.2.trans ((hV.block tb (Nat.lt_of_lt_of_le htb HB.size)).trans (HB.block tb htb))⟩⟩
  have FN:Hid (∀ V,Below W1.heap.size W1 V->Hs V B h tb st cs vc/\Below B W V/\V.heap[tb]?=W.heap[tb]?):=⟨fun V hV=>⟨H1.below hV,(HB.mono hB).trans (hV.mono hB1),(hV.block tb (Nat.lt_of_lt_of_le htb HB.size)).trans (HB.block tb htb)⟩⟩
  clear H H1 he hsn e1 HB
  go_enter Tryz.func37,Tryz.ntmps37
  go_wp2_with (go_at_call 56;refine cE.mono ?_;rintro _ w1 ⟨rfl,e⟩;obtain rfl:W1=w1:=e.symm)
  refine wp_region_lz (fun V=>∃ θ:CW p,V=θ.w) [0,1,2,4,5,3,6,7] (by kernel_rfl) (by kernel_rfl) (fun _ _ d _ _ h=>by cases d<;>exact h) ⟨⟨_,p0⟩,rfl⟩ ?_
  repeat (refine ly_one rfl ?_;(first|go_big_quiet_skip|(go_big_quiet_want;go_big_quiet_op;go_big_quiet_on));refine wpQuiet_nil ?_)
  refine ly_call1 (R:=fun v w'=>v = .int .i64 (q:Int)/\Below W1.drew.heap.size W1.drew w') ent_pTop (cT.mono fun e w' hP=>⟨_,hP.1,rfl,hP.2⟩) rfl (by rfl) (fun v w2 hR=>?_)
  obtain⟨rfl,hb2⟩:=hR
  have hb3:Below W1.heap.size W1 w2:=(pB _ p0).trans (hb2.mono (pB _ p0).size)
  refine⟨_,fun _ h=>h,⟨⟨_,pI _ hb3⟩,rfl⟩,?_⟩
  simp only[pts]
  refine ly_max (m:=q) (n:=s) rfl rfl ⟨⟨_,pI _ hb3⟩,rfl⟩ (by rfl) ?_
  simp only[pts]
  repeat (refine ly_one rfl ?_;(first|go_big_quiet_skip|(go_big_quiet_want;go_big_quiet_op;go_big_quiet_on));refine wpQuiet_nil ?_)
  refine ly_done ?_
  have z0:=CC.out w2 hb3
  have cB:=CB.out w2 hb3
  have cP:=CP.out w2 hb3
  have hF:Hid _:=⟨FN.out w2 hb3⟩
  clear CB CC CP FN cT cE hb2
  cases hG:bgO t.op with
  | true =>
   rw[hG] at cB
   have e2:Hid (st2=max q s::st):=⟨by rw[<- hst2.out,if_pos hG]⟩
   go_wp2_with (first
    | (go_at_call 59;refine cB.mono ?_;rintro _ w3 ⟨rfl,e⟩;obtain rfl:w2=w3:=e.symm)
    | (go_at_call 60;refine cP.mono ?_;rintro _ w4 ⟨rfl,q1,q2⟩;replace q1:=Hid.mk q1;replace q2:=Hid.mk q2))
   go_ret
   rw[e2.out]
   exact⟨rfl,q1.out,q2.out⟩
  | false =>
   rw[hG] at cB
   have e2:Hid (st2=st):=⟨by rw[<- hst2.out,if_neg (by rw[hG];decide)]⟩
   go_wp2_with (go_at_call 59;refine cB.mono ?_;rintro _ w3 ⟨rfl,e⟩;obtain rfl:w2=w3:=e.symm)
   go_ret
   rw[e2.out]
   exact⟨rfl,hF.out⟩
end Go.Proofs.YtkcjdncchoohoaaGreatDoor
