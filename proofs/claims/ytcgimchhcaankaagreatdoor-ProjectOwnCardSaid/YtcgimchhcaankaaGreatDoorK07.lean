import Derived.Test.YtcgimchhcaankaaGreatDoorK06
import Derived.Deep.WholeRow
namespace Go.Proofs.YtcgimchhcaankaaGreatDoor
set_option maxRecDepth 1000000
set_option maxHeartbeats 16000000
open Go.ChangeShapes Go.WideShapes Go.ChangeAt Go.RowKit
section
variable {P:Program} {md:Region.Mode} {ops:Array Oper} {Q:Exit->Act->World->Prop} {z:Nat}
variable {d:Option Tmp} {op:Op} {ty:TypeId} {ps:String} {af:Array Edge} {gd:Option (Nat×Bool)} {r:List Oper} {a:Act} {w:World} {C:World->Prop} {l1 l2:List Oper}
theorem lw_call2 {f:FuncId} {x1 x2:Operand} {y1 y2:Value} {tx:Array TypeId} {R:Value->World->Prop} (hen:∀ ag w,(callFunc f ag).run P w = .ok (.enter f ag) w) (hc:Calls P f #[y1,y2] w fun e w'=>∃ v,e = .returned v/\R v w') (h1:a.eval x1=y1) (h2:a.eval x2=y2) (hw:Region.wanted ⟨d,.call { callee:=.value (.func f),args:=#[x1,x2],argTypes:=tx },ty,ps,af,gd⟩ (yielded ops a.tmps)=true)
  (h:∀ v w',R v w'->C w'/\Lw P ops Q C r (a.put d v) w'):Lw P ops Q C (⟨d,.call { callee:=.value (.func f),args:=#[x1,x2],argTypes:=tx },ty,ps,af,gd⟩::r) a w :=
 lw_act hw rfl fun K hK=>by
  have hf:a.eval (.func f) = .func (.func f) #[] #[]:=rfl
  unfold Oper.wp execOp
  simp only[resolve,invoke,Sem.run_bind,hf]
  simp[Deferred.ofValue,hen,Oper.upon_enter,h1,h2]
  refine hc.mono ?_
  rintro e w' ⟨v,rfl,hp⟩
  exact hK _ _ C (.inr ⟨fun _ h=>h,(h v w' hp).1⟩) (h v w' hp).2
end
open Go.Shelf Go.Maps
structure Hs (W:World) (B h tb:Nat) (st cs:List Nat) (vc:Value):Prop where
 c:∃ vo,W.heap[h]?=some (.cells #[vo,vc] 86)/\NRow W B vo st.reverse/\NRow W B vc cs/\(∀ k,vo.ownBlock=some k->k≠h/\vc.ownBlock≠some k)/\(∀ k,vc.ownBlock=some k->k≠h)/\tb≠h/\vo.ownBlock≠some tb
 b:B<=h
theorem Hs.any {W:World} {B h tb:Nat} {st cs:List Nat} {vc:Value} (H:Hs W B h tb st cs vc) {tb':Nat} (ht:W.heap.size<=tb'):Hs W B h tb' st cs vc:=by
 obtain⟨vo,h1,h2,h3,h4,h5,-⟩:=H.c
 exact⟨⟨vo,h1,h2,h3,h4,h5,by have:=(Array.getElem?_eq_some_iff.1 h1).1;omega,fun e=>by have:=(NRow.ltP h2 _ e).2;omega⟩,H.b⟩
theorem Hs.lt {W:World} {B h tb:Nat} {st cs:List Nat} {vc:Value} (H:Hs W B h tb st cs vc):h<W.heap.size:=by
 obtain⟨vo,h1,-⟩:=H.c
 exact(Array.getElem?_eq_some_iff.1 h1).1
theorem Hs.below {W W':World} {B h tb:Nat} {st cs:List Nat} {vc:Value} (H:Hs W B h tb st cs vc) (hb:Below W.heap.size W W'):Hs W' B h tb st cs vc:=by
 have hl:=H.lt
 obtain⟨vo,h1,h2,h3,h4,h5,h6⟩:=H.c
 exact⟨⟨vo,(hb.block _ hl).trans h1,h2.below hb,h3.below hb,h4,h5,h6⟩,H.b⟩
theorem ent_pTop:∀ ag w,(callFunc 60 ag).run Tryz.prog w = .ok (.enter 60 ag) w:=enters_of Tryz.func60 (by kernel_rfl) rfl
theorem ent_pPass:∀ ag w,(callFunc 46 ag).run Tryz.prog w = .ok (.enter 46 ag) w:=enters_of Tryz.func46 (by kernel_rfl) rfl
theorem pBegins_any (op:Int) (w:World) (h:0<=op/\op<=15):Calls Tryz.prog 61 #[.int .i64 op] w fun r w'=>r = .returned (.bool (bgO op))/\w'=w:=by
 rcases op_cases op with h' | rfl|rfl|rfl|rfl|rfl|rfl|rfl|rfl|rfl|rfl|rfl|rfl|rfl|rfl|rfl|rfl
 ·omega
 all_goals
  go_enter Tryz.func61,Tryz.ntmps61
  go_wp2_with fail
  go_ret
  exact⟨rfl,rfl⟩
theorem pEnds_any (op:Int) (w:World) (h:0<=op/\op<=15):Calls Tryz.prog 58 #[.int .i64 op] w fun r w'=>r = .returned (.bool (edO op))/\w'=w:=by
 rcases op_cases op with h' | rfl|rfl|rfl|rfl|rfl|rfl|rfl|rfl|rfl|rfl|rfl|rfl|rfl|rfl|rfl|rfl
 ·omega
 all_goals
  go_enter Tryz.func58,Tryz.ntmps58
  go_wp2_with fail
  go_ret
  exact⟨rfl,rfl⟩
theorem pTop_any {W:World} {B h tb:Nat} {st cs:List Nat} {vc:Value} (H:Hs W B h tb st cs vc) (hl:st.length<=1000000000000) :
  Calls Tryz.prog 60 #[.pointer (some ⟨h,0,none⟩)] W fun e w'=>e = .returned (.int .i64 ((st.headD 0:Nat):Int))/\Below W.heap.size W w':=by
 have hlt:=H.lt
 obtain⟨vo,h1,h2,-⟩:=H.c
 obtain⟨po,co,rfl,h3⟩:=h2.shape
 have c0:W.cell? ⟨h,0,none⟩=some (.slice po st.reverse.length co):=cell_at h1 0
 cases st with
 | nil =>
  clear h1 h2 h3 H
  go_enter Tryz.func60,Tryz.ntmps60
  go_wp2_with fail
  go_ret
  exact⟨rfl,Below.refl _ _⟩
 | cons c r =>
  obtain⟨g,rfl,hg,hc⟩:=h3 r.length c (by simp)
  have hrl:(c::r).reverse.length=r.length+1:=by simp
  rw[hrl] at c0
  simp only[List.length_cons] at hl
  obtain⟨p,p0,pB,pN,k0,k1⟩:∃ p:World->Prop,p W.drew/\(∀ V,p V->Below W.heap.size W V)/\Nonempty (CW p)/\(∀ θ:CW p,θ.w.cell? ⟨h,0,none⟩=some (.slice (some ⟨g,0,none⟩) (r.length+1) co))/\(∀ θ:CW p,θ.w.cell? ⟨g,r.length,none⟩=some (.int .i64 (c:Int))) :=
   ⟨Below W.heap.size W,(Below.refl _ _).drew,fun _ h=>h,⟨⟨W,Below.refl _ _⟩⟩,fun θ=>(θ.h.cell (p:=⟨h,0,none⟩) hlt).trans c0,fun θ=>(θ.h.cell (p:=⟨g,r.length,none⟩) hg).trans hc⟩
  have hd:(List.headD (c::r) 0:Nat)=c:=rfl
  rw[hd]
  clear h1 h2 h3 H hd hrl hlt hg hc
  generalize r.length=n at *
  have lK:(n:Int)<(n:Int)+1:=by omega
  have hw1:IntKind.i64.wrap ((n:Int)+1-1)=(n:Int):=by rw[IntKind.wrap_i64];omega
  have hne:((n:Int)+1==0)=false:=by simp;omega
  go_enter Tryz.func60,Tryz.ntmps60
  go_wp2_with fail
  refine wp_region_ly (fun V=>∃ θ:CW p,V=θ.w) (by kernel_rfl) (by kernel_rfl) (fun _ _ d _ _ h=>by cases d<;>exact h) ⟨⟨_,p0⟩,rfl⟩ ?_
  repeat (refine ly_one rfl ?_;(first|go_big_quiet_skip|(go_big_quiet_want;go_big_quiet_op;go_big_quiet_on));refine wpQuiet_nil ?_)
  refine ly_done ?_
  go_wp2_with fail
  go_ret
  exact⟨rfl,pB _ p0⟩
structure Hid0 (p:Prop):Prop where
 out:p
def Ans (r:Ending) (P:Prop):Prop:=∃ b,r = .returned (.bool b)/\(b=true↔P)
theorem Ans.yes {P:Prop} (h:P):Ans (.returned (.bool true)) P:=⟨true,rfl,by simp[h]⟩
theorem Ans.no {P:Prop} (h:¬ P):Ans (.returned (.bool false)) P:=⟨false,rfl,by simp[h]⟩
theorem Ans.said {r:Ending} {P:Prop} (h:Ans r P) {b:Bool} (hb:P↔b=true):r = .returned (.bool b):=by
 obtain⟨c,rfl,hc⟩:=h
 rw[hb] at hc
 congr 2
 cases c<;>cases b<;>simp_all
theorem Ans.same {r:Ending} {b:Bool} (h:Ans r (b=true)):r = .returned (.bool b):=h.said Iff.rfl
theorem refBegins_any (op:Int) (w:World) (h:i64ok op):Calls Tryz.prog 18 #[.int .i64 op] w fun r w'=>r = .returned (.bool (bgO op))/\w'=w:=by
 have hb:bgO op=true↔0<=op/\op<14/\op % 2=0:=by
  unfold bgO
  rw[decide_eq_true_eq]
  omega
 replace hb:Hid0 _:=⟨hb⟩
 unfold i64ok at h
 suffices hh:Calls Tryz.prog 18 #[.int .i64 op] w fun r w'=>Ans r (bgO op=true)/\w'=w from hh.mono fun r w' h=>⟨h.1.same,h.2⟩
 go_enter Tryz.func18,Tryz.ntmps18
 go_wp2_with fail
 all_goals
  go_ret
  refine⟨⟨_,rfl,?_⟩,rfl⟩
  rw[hb.out]
  simp[*]
  try omega
theorem typeOp_any (op:Int) (w:World):Calls Tryz.prog 51 #[.int .i64 op] w fun r w'=>r = .returned (.bool (tyO op))/\w'=w:=by
 have hb:tyO op=true↔op=8\/op=10\/op=12\/op=14:=by
  unfold tyO
  rw[decide_eq_true_eq]
 replace hb:Hid0 _:=⟨hb⟩
 suffices hh:Calls Tryz.prog 51 #[.int .i64 op] w fun r w'=>Ans r (tyO op=true)/\w'=w from hh.mono fun r w' h=>⟨h.1.same,h.2⟩
 go_enter Tryz.func51,Tryz.ntmps51
 go_wp2_with fail
 all_goals
  go_ret
  refine⟨⟨_,rfl,?_⟩,rfl⟩
  rw[hb.out]
  simp[*]
abbrev tkO (t:Tk) (pc:Option Addr) (cc:Nat):Obj:=.cells (tkC t pc cc).toArray 40
theorem bdN {B:Nat} {a w:World} (h:Below B a w) (n:Nat):Below B a (w.drewN n):=⟨h.os,h.tape,h.output,h.size,h.block⟩
theorem two_b (w:World) (A B:Obj):Below w.heap.size w ((w.alloc A).alloc B):=(bel1 w A).alloc (by simp) B
theorem two_1 (w:World) (A B:Obj):((w.alloc A).alloc B).heap[w.heap.size]?=some A:=by
 show ((w.heap.push A).push B)[w.heap.size]?=_
 rw[Array.getElem?_push,if_neg (by simp),Array.getElem?_push,if_pos rfl]
theorem two_2 (w:World) (A B:Obj):((w.alloc A).alloc B).heap[w.heap.size+1]?=some B:=by
 show ((w.heap.push A).push B)[w.heap.size+1]?=_
 rw[Array.getElem?_push,if_pos (by simp)]
theorem tk_of {w:World} {g:Nat} {t:Tk} {pc:Option Addr} {cc:Nat} (h:w.heap[g]?=some (tkO t pc cc)):TkC w g 0 t pc cc :=
 tkC_of fun j u hu=>by
  rw[Nat.zero_add,cell_at h j,List.getElem?_toArray]
  exact hu
theorem wpList_ld {P:Program} {ops:Array Oper} {Q:Exit->Act->World->Prop} {a:Act} {w:World} {rest:List Oper} {o:Oper} (ty:TypeId) (x:Operand) (ho:o.op = .load ty x)
  (hw:Region.wanted o (yielded ops a.tmps)=true) (p v:Value) (hx:a.eval x=p) (hr:(Instr.loadAt ty p).run P w = .ok v w) (h:wpList P ops Q rest (a.put o.dst v) w):wpList P ops Q (o::rest) a w:=by
 refine wpList_step fun K hK=>?_
 rw[if_pos hw]
 unfold Oper.wp execOp
 simp only[ho,hx,hr,Sem.run_bind,Result.andThen_ok]
 exact hK _ _ h
theorem tk_range {w:World} {g o:Nat} {t:Tk} {pc:Option Addr} {cc:Nat} (h:TkC w g o t pc cc):w.rangeAt g o (tkC t pc cc):=by
 intro j v hv
 have hj:j<21:=(List.getElem?_eq_some_iff.1 hv).1
 have h21:j=0\/j=1\/j=2\/j=3\/j=4\/j=5\/j=6\/j=7\/j=8\/j=9\/j=10\/j=11\/j=12\/j=13\/j=14\/j=15\/j=16\/j=17\/j=18\/j=19\/j=20:=by omega
 rcases h21 with rfl|rfl|rfl|rfl|rfl|rfl|rfl|rfl|rfl|rfl|rfl|rfl|rfl|rfl|rfl|rfl|rfl|rfl|rfl|rfl|rfl<;>cases Option.some.inj hv
 ·exact h.c0
 ·exact h.c1
 ·exact h.c2
 ·exact h.c3
 ·exact h.c4
 ·exact h.c5
 ·exact h.c6
 ·exact h.c7
 ·exact h.c8
 ·exact h.c9
 ·exact h.c10
 ·exact h.c11
 ·exact h.c12
 ·exact h.c13
 ·exact h.c14
 ·exact h.c15
 ·exact h.c16
 ·exact h.c17
 ·exact h.c18
 ·exact h.c19
 ·exact h.c20
theorem infoTk:(Tryz.prog.info? 40).map (·.size)=some 21:=by kernel_rfl
theorem undTk:∃ d,Tryz.prog.underlying 40=some d/\d.isRow=true:=⟨_,Tryz.underlying40,rfl⟩
theorem TkC.load {w:World} {g o:Nat} {t:Tk} {pc:Option Addr} {cc:Nat} (h:TkC w g o t pc cc):(Instr.loadAt 40 (.pointer (some ⟨g,o,none⟩))).run Tryz.prog w = .ok (tkV t pc cc) w:=by
 obtain⟨d,hu,hd⟩:=undTk
 exact run_loadAt_mid w g o 40 (tkC t pc cc) d (tk_range h) hu hd infoTk
theorem wpList_st {P:Program} {ops:Array Oper} {Q:Exit->Act->World->Prop} {a:Act} {w w':World} {rest:List Oper} {o:Oper} (ty:TypeId) (x y:Operand) (ho:o.op = .store ty x y)
  (hw:Region.wanted o (yielded ops a.tmps)=true) (p v:Value) (hx:a.eval x=p) (hy:a.eval y=v) (hr:(Instr.storeAt ty p v).run P w = .ok () w') (h:wpList P ops Q rest (a.put o.dst undef) w'):wpList P ops Q (o::rest) a w:=by
 refine wpList_step fun K hK=>?_
 rw[if_pos hw]
 unfold Oper.wp execOp
 simp only[ho,hx,hy,hr,Sem.run_bind,Result.andThen_ok]
 exact hK _ _ h
theorem tkC_one (t:Tk) (pc:Option Addr) (cc:Nat):∀ u∈tkC t pc cc,u.oneCell'=true:=by
 intro u hu
 simp only[tkC,List.mem_cons,List.not_mem_nil,or_false] at hu
 rcases hu with rfl|rfl|rfl|rfl|rfl|rfl|rfl|rfl|rfl|rfl|rfl|rfl|rfl|rfl|rfl|rfl|rfl|rfl|rfl|rfl|rfl<;>rfl
theorem st_new (w:World) (z:Array Value) (hz:z.size=21) (t:Tk) (pc:Option Addr) (cc:Nat):(Instr.storeAt 40 (.pointer (some ⟨w.heap.size,0,none⟩)) (tkV t pc cc)).run Tryz.prog (w.alloc (.cells z 40)) = .ok () (w.alloc (tkO t pc cc)) :=
 run_storeAt_new w 40 z (tkC t pc cc).toArray infoTk hz (all_oneCell_toArray (tkC_one t pc cc))
theorem ba_eq {a b:ByteArray}:a=b↔a.toList=b.toList:=by
 constructor
 ·intro e;rw[e]
 ·intro e
  rw[ByteArray.toList_eq,ByteArray.toList_eq] at e
  exact ByteArray.ext (Array.toList_inj.1 e)
theorem tk_eq {t u:Tk}:t=u↔t.cst=u.cst/\t.op=u.op/\t.name.toList=u.name.toList/\t.id=u.id/\t.off=u.off/\t.siz=u.siz/\t.since=u.since/\t.prim=u.prim/\t.len=u.len/\t.pres=u.pres/\t.nul=u.nul/\t.lo=u.lo/\t.hi=u.hi/\t.val=u.val/\t.blk=u.blk/\t.full=u.full/\t.a.p=u.a.p/\t.a.o=u.a.o/\t.b.p=u.b.p/\t.b.o=u.b.o/\t.pair=u.pair:=by
 rw[<- ba_eq]
 obtain⟨op1,nm1,id1,of1,sz1,si1,pr1,ln1,ps1,nu1,lo1,hi1,cs1,vl1,bk1,fl1,⟨ap1,ao1⟩,⟨bp1,bo1⟩,pa1⟩:=t
 obtain⟨op2,nm2,id2,of2,sz2,si2,pr2,ln2,ps2,nu2,lo2,hi2,cs2,vl2,bk2,fl2,⟨ap2,ao2⟩,⟨bp2,bo2⟩,pa2⟩:=u
 simp only[Tk.mk.injEq,Sp.mk.injEq]
 constructor
 ·rintro⟨rfl,rfl,rfl,rfl,rfl,rfl,rfl,rfl,rfl,rfl,rfl,rfl,rfl,rfl,rfl,rfl,⟨rfl,rfl⟩,⟨rfl,rfl⟩,rfl⟩;exact⟨rfl,rfl,rfl,rfl,rfl,rfl,rfl,rfl,rfl,rfl,rfl,rfl,rfl,rfl,rfl,rfl,rfl,rfl,rfl,rfl,rfl⟩
 ·rintro⟨rfl,rfl,rfl,rfl,rfl,rfl,rfl,rfl,rfl,rfl,rfl,rfl,rfl,rfl,rfl,rfl,rfl,rfl,rfl,rfl,rfl⟩;exact⟨rfl,rfl,rfl,rfl,rfl,rfl,rfl,rfl,rfl,rfl,rfl,rfl,rfl,rfl,rfl,rfl,⟨rfl,rfl⟩,⟨rfl,rfl⟩,rfl⟩
theorem refSameTk_any (t u:Tk) (p1 p2:Option Addr) (c1 c2:Nat) (w:World) (h1:URow w p1 w.heap.size t.cst) (h2:URow w p2 w.heap.size u.cst) (hs:t.cst.length*8<=140737488355328):Calls Tryz.prog 49 #[tkV t p1 c1,tkV u p2 c2] w fun r w'=>Ans r (t=u)/\Below w.heap.size w w':=by
 have hA:=tk_of (two_1 w (tkO t p1 c1) (tkO u p2 c2))
 have hC:=tk_of (two_2 w (tkO t p1 c1) (tkO u p2 c2))
 have HB:Hid (Below w.heap.size w ((w.alloc (tkO t p1 c1)).alloc (tkO u p2 c2))):=⟨two_b w _ _⟩
 have HS:Hid (w.heap.size+1<((w.alloc (tkO t p1 c1)).alloc (tkO u p2 c2)).heap.size):=⟨by simp⟩
 replace h1:=(h1.below HB.out).mono HB.out.size
 replace h2:=(h2.below HB.out).mono HB.out.size
 simp only[tkO,tkC] at hA hC HB HS h1 h2
 generalize hW:(w.alloc (.cells [Value.int .i64 t.op,.string t.name,.int .i64 t.id,.int .i64 t.off,.int .i64 t.siz,.int .i64 t.since,.int .i64 t.prim,.int .i64 t.len,.int .i64 t.pres,.int .u64 t.nul,.int .u64 t.lo,.int .u64 t.hi,.slice p1 t.cst.length c1,.int .u64 t.val,.int .i64 t.blk,.int .i64 t.full,.int .i64 t.a.p,.int .i64 t.a.o,.int .i64 t.b.p,.int .i64 t.b.o,.int .i64 t.pair].toArray 40)).alloc _=W at hA hC HB HS h1 h2
 have a12:W.cell? ⟨w.heap.size,12,none⟩=some (.slice p1 t.cst.length c1):=hA.c12
 have b12:W.cell? ⟨w.heap.size+1,12,none⟩=some (.slice p2 u.cst.length c2):=hC.c12
 replace hA:Hid (TkC W w.heap.size 0 t p1 c1):=⟨hA⟩
 replace hC:Hid (TkC W (w.heap.size+1) 0 u p2 c2):=⟨hC⟩
 by_cases hlm:t.cst.length=u.cst.length
 ·have b1:((t.cst.length:Int) != (u.cst.length:Int))=false:=by simp[hlm]
  have HL:Hid (t.cst.length=u.cst.length):=⟨hlm⟩
  clear hlm
  go_enter Tryz.func49,Tryz.ntmps49
  go_wp2_with fail
  clear b1
  go_loopw [5] (fun i wr=>∃ j:Nat,j<=t.cst.length/\i = .int .i64 j/\Below W.heap.size W wr/\Hid (t.cst=u.cst↔t.cst.drop j=u.cst.drop j)) (fun i _=>t.cst.length-(RowKit.intOf i).toNat)
  case atStart=>exact⟨0,Nat.zero_le _,rfl,Below.refl _ _,⟨Iff.rfl⟩⟩
  case round =>
   clear a12 b12 hW
   obtain⟨j,hj,rfl,hB,hq⟩:=hrel
   have kA:=hA.out.below (Nat.lt_of_succ_lt HS.out) hB
   have kC:=hC.out.below HS.out hB
   have a12:wr.cell? ⟨w.heap.size,12,none⟩=some (.slice p1 t.cst.length c1):=kA.c12
   have b12:wr.cell? ⟨w.heap.size+1,12,none⟩=some (.slice p2 u.cst.length c2):=kC.c12
   by_cases hlt:j<t.cst.length
   ·obtain⟨a,hx⟩:∃ a,t.cst[j]?=some a:=⟨t.cst[j],List.getElem?_eq_getElem hlt⟩
    obtain⟨b,hy⟩:∃ b,u.cst[j]?=some b:=⟨u.cst[j]'(by have:=HL.out;omega),List.getElem?_eq_getElem (by have:=HL.out;omega)⟩
    obtain⟨g,o,rfl,hg,q0⟩:=h1.c j a hx
    obtain⟨g2,o2,rfl,hg2,k0⟩:=h2.c j b hy
    replace q0:=(hB.cell (p:=⟨g,_,none⟩) hg).trans q0
    replace k0:=(hB.cell (p:=⟨g2,_,none⟩) hg2).trans k0
    have hlti:(j:Int)<t.cst.length:=by omega
    have hltm:(j:Int)<u.cst.length:=by have:=HL.out;omega
    have hd:Hid (t.cst=u.cst↔a=b/\t.cst.drop (j+1)=u.cst.drop (j+1)):=⟨by rw[hq.out,drop_at hx,drop_at hy,List.cons.injEq]⟩
    clear hq hx hy kA kC h1 h2
    by_cases hab:a=b
    ·have z:(a != b)=false:=by simp[hab]
     have HX:Hid (t.cst=u.cst↔t.cst.drop (j+1)=u.cst.drop (j+1)):=⟨by rw[hd.out];simp[hab]⟩
     clear hab hd
     go_wp2_with fail
     go_quiet (fail)
     go_wp2_with fail
     go_roundw
     case rel=>exact⟨j+1,by omega,by go_num,bdN hB _,HX⟩
     case measure=>simp[RowKit.intOf];omega
    ·have z:(a != b)=true:=by simp[hab]
     have HX:Hid (¬ t=u):=⟨fun e=>hab (hd.out.1 (by rw[e])).1⟩
     clear hab hd
     go_wp2_with fail
     go_quiet (fail)
     go_wp2_with fail
     go_ret
     exact⟨Ans.no HX.out,bdN (HB.out.trans (hB.mono HB.out.size)) _⟩
   ·obtain rfl:j=t.cst.length:=by omega
    have HX:Hid (t.cst=u.cst):=⟨by rw[hq.out,List.drop_length,HL.out,List.drop_length]⟩
    clear hq
    have a0:wr.cell? ⟨w.heap.size,0,none⟩=some (.int .i64 t.op):=kA.c0
    have a1:wr.cell? ⟨w.heap.size,1,none⟩=some (.string t.name):=kA.c1
    have a2:wr.cell? ⟨w.heap.size,2,none⟩=some (.int .i64 t.id):=kA.c2
    have a3:wr.cell? ⟨w.heap.size,3,none⟩=some (.int .i64 t.off):=kA.c3
    have a4:wr.cell? ⟨w.heap.size,4,none⟩=some (.int .i64 t.siz):=kA.c4
    have a5:wr.cell? ⟨w.heap.size,5,none⟩=some (.int .i64 t.since):=kA.c5
    have a6:wr.cell? ⟨w.heap.size,6,none⟩=some (.int .i64 t.prim):=kA.c6
    have a7:wr.cell? ⟨w.heap.size,7,none⟩=some (.int .i64 t.len):=kA.c7
    have a8:wr.cell? ⟨w.heap.size,8,none⟩=some (.int .i64 t.pres):=kA.c8
    have a9:wr.cell? ⟨w.heap.size,9,none⟩=some (.int .u64 t.nul):=kA.c9
    have a10:wr.cell? ⟨w.heap.size,10,none⟩=some (.int .u64 t.lo):=kA.c10
    have a11:wr.cell? ⟨w.heap.size,11,none⟩=some (.int .u64 t.hi):=kA.c11
    have a12:wr.cell? ⟨w.heap.size,12,none⟩=some (.slice p1 t.cst.length c1):=kA.c12
    have a13:wr.cell? ⟨w.heap.size,13,none⟩=some (.int .u64 t.val):=kA.c13
    have a14:wr.cell? ⟨w.heap.size,14,none⟩=some (.int .i64 t.blk):=kA.c14
    have a15:wr.cell? ⟨w.heap.size,15,none⟩=some (.int .i64 t.full):=kA.c15
    have a16:wr.cell? ⟨w.heap.size,16,none⟩=some (.int .i64 t.a.p):=kA.c16
    have a17:wr.cell? ⟨w.heap.size,17,none⟩=some (.int .i64 t.a.o):=kA.c17
    have a18:wr.cell? ⟨w.heap.size,18,none⟩=some (.int .i64 t.b.p):=kA.c18
    have a19:wr.cell? ⟨w.heap.size,19,none⟩=some (.int .i64 t.b.o):=kA.c19
    have a20:wr.cell? ⟨w.heap.size,20,none⟩=some (.int .i64 t.pair):=kA.c20
    have b0:wr.cell? ⟨w.heap.size+1,0,none⟩=some (.int .i64 u.op):=kC.c0
    have b1:wr.cell? ⟨w.heap.size+1,1,none⟩=some (.string u.name):=kC.c1
    have b2:wr.cell? ⟨w.heap.size+1,2,none⟩=some (.int .i64 u.id):=kC.c2
    have b3:wr.cell? ⟨w.heap.size+1,3,none⟩=some (.int .i64 u.off):=kC.c3
    have b4:wr.cell? ⟨w.heap.size+1,4,none⟩=some (.int .i64 u.siz):=kC.c4
    have b5:wr.cell? ⟨w.heap.size+1,5,none⟩=some (.int .i64 u.since):=kC.c5
    have b6:wr.cell? ⟨w.heap.size+1,6,none⟩=some (.int .i64 u.prim):=kC.c6
    have b7:wr.cell? ⟨w.heap.size+1,7,none⟩=some (.int .i64 u.len):=kC.c7
    have b8:wr.cell? ⟨w.heap.size+1,8,none⟩=some (.int .i64 u.pres):=kC.c8
    have b9:wr.cell? ⟨w.heap.size+1,9,none⟩=some (.int .u64 u.nul):=kC.c9
    have b10:wr.cell? ⟨w.heap.size+1,10,none⟩=some (.int .u64 u.lo):=kC.c10
    have b11:wr.cell? ⟨w.heap.size+1,11,none⟩=some (.int .u64 u.hi):=kC.c11
    have b12:wr.cell? ⟨w.heap.size+1,12,none⟩=some (.slice p2 u.cst.length c2):=kC.c12
    have b13:wr.cell? ⟨w.heap.size+1,13,none⟩=some (.int .u64 u.val):=kC.c13
    have b14:wr.cell? ⟨w.heap.size+1,14,none⟩=some (.int .i64 u.blk):=kC.c14
    have b15:wr.cell? ⟨w.heap.size+1,15,none⟩=some (.int .i64 u.full):=kC.c15
    have b16:wr.cell? ⟨w.heap.size+1,16,none⟩=some (.int .i64 u.a.p):=kC.c16
    have b17:wr.cell? ⟨w.heap.size+1,17,none⟩=some (.int .i64 u.a.o):=kC.c17
    have b18:wr.cell? ⟨w.heap.size+1,18,none⟩=some (.int .i64 u.b.p):=kC.c18
    have b19:wr.cell? ⟨w.heap.size+1,19,none⟩=some (.int .i64 u.b.o):=kC.c19
    have b20:wr.cell? ⟨w.heap.size+1,20,none⟩=some (.int .i64 u.pair):=kC.c20
    clear kA kC h1 h2
    have HW:Hid (Below w.heap.size w wr):=⟨HB.out.trans (hB.mono HB.out.size)⟩
    go_wp2_with fail
    all_goals (go_ret;refine⟨⟨_,rfl,?_⟩,HW.out⟩;rw[tk_eq];have HX:=HX.out;first|(simp[*];done)|(simp only[bne_iff_ne,ne_eq,bne_eq_false_iff_eq] at *;simp[*]))
 ·have b1:((t.cst.length:Int) != (u.cst.length:Int))=true:=by simp;omega
  have HX:Hid (¬ t=u):=⟨fun e=>hlm (by rw[e])⟩
  clear hlm
  go_enter Tryz.func49,Tryz.ntmps49
  go_wp2_with fail
  go_ret
  exact⟨Ans.no HX.out,HB.out⟩
theorem sz_5:sz 5=1:=rfl
theorem sz_6:sz 6=2:=rfl
theorem sz_7:sz 7=4:=rfl
theorem refLies_any (s:Sp) (n:Int) (w:World) (hn:0<=n/\n<=9223372036854775807):Calls Tryz.prog 25 #[spV s,.int .i64 n] w fun r w'=>r = .returned (.bool (lieB s n))/\Below w.heap.size w w':=by
 suffices hh:Calls Tryz.prog 25 #[spV s,.int .i64 n] w fun r w'=>Ans r (lieB s n=true)/\Below w.heap.size w w' from hh.mono fun r w' h=>⟨h.1.same,h.2⟩
 by_cases h5:s.p=5
 ·have hb:Hid0 (lieB s n=true↔0<=s.o/\s.o<=n-1):=⟨by unfold lieB numB;rw[h5];simp only[sz_5];simp;exact decide_eq_true_iff⟩
  have d5:(s.p==5)=true:=by simp[h5]
  clear h5
  go_enter Tryz.func25,Tryz.ntmps25
  go_wp2_with fail
  all_goals
   go_ret
   refine⟨⟨_,rfl,?_⟩,bel1 _ _⟩
   rw[hb.out]
   simp_all
   try omega
 by_cases h6:s.p=6
 ·have hb:Hid0 (lieB s n=true↔0<=s.o/\s.o<=n-2):=⟨by unfold lieB numB;rw[h6];simp only[sz_6];simp;exact decide_eq_true_iff⟩
  have d5:(s.p==5)=false:=by simp[h5]
  have d6:(s.p==6)=true:=by simp[h6]
  clear h5 h6
  go_enter Tryz.func25,Tryz.ntmps25
  go_wp2_with fail
  all_goals
   go_ret
   refine⟨⟨_,rfl,?_⟩,bel1 _ _⟩
   rw[hb.out]
   simp_all
   try omega
 by_cases h7:s.p=7
 ·have hb:Hid0 (lieB s n=true↔0<=s.o/\s.o<=n-4):=⟨by unfold lieB numB;rw[h7];simp only[sz_7];simp;exact decide_eq_true_iff⟩
  have d5:(s.p==5)=false:=by simp[h5]
  have d6:(s.p==6)=false:=by simp[h6]
  have d7:(s.p==7)=true:=by simp[h7]
  clear h5 h6 h7
  go_enter Tryz.func25,Tryz.ntmps25
  go_wp2_with fail
  all_goals
   go_ret
   refine⟨⟨_,rfl,?_⟩,bel1 _ _⟩
   rw[hb.out]
   simp_all
   try omega
 have hb:Hid0 (¬ lieB s n=true):=⟨by unfold lieB numB;simp[h5,h6,h7]⟩
 have d5:(s.p==5)=false:=by simp[h5]
 have d6:(s.p==6)=false:=by simp[h6]
 have d7:(s.p==7)=false:=by simp[h7]
 clear h5 h6 h7
 go_enter Tryz.func25,Tryz.ntmps25
 go_wp2_with fail
 all_goals
  go_ret
  exact⟨Ans.no hb.out,bel1 _ _⟩
theorem refTells_any (s:Sp) (n:Int) (w:World) (hn:i64ok n):Calls Tryz.prog 27 #[spV s,.int .i64 n] w fun r w'=>r = .returned (.bool (telB s n))/\Below w.heap.size w w':=by
 have cM:=refMax_any s.p
 unfold telB
 unfold i64ok at hn
 by_cases h0:0<=n
 ·have hw:IntKind.u64.wrap n=n:=by rw[IntKind.wrap_u64];omega
  go_enter Tryz.func27,Tryz.ntmps27
  go_wp2_with (go_at_call 48;refine(cM _).mono ?_;rintro _ _ ⟨rfl,rfl⟩)
  go_ret
  exact⟨rb (by simp[h0]),bel1 _ _⟩
 ·have d0:decide (0<=n)=false:=by simp;omega
  go_enter Tryz.func27,Tryz.ntmps27
  go_wp2_with (go_at_call 48;refine(cM _).mono ?_;rintro _ _ ⟨rfl,rfl⟩)
  go_ret
  exact⟨rb (by simp;omega),bel1 _ _⟩
theorem dbb2 (w:World) (a b:Obj):Below w.heap.size w ((w.alloc a).alloc b):=(bel1 w a).trans ((bel1 (w.alloc a) b).mono (al_le _ _))
theorem refApart_any (s t:Sp) (w:World) (hs:0<=s.o/\s.o<=9223372036854775700) (ht:0<=t.o/\t.o<=9223372036854775700):Calls Tryz.prog 26 #[spV s,spV t] w fun r w'=>r = .returned (.bool (aptB s t))/\Below w.heap.size w w':=by
 have hz:=sz_b s.p
 have hy:=sz_b t.p
 have hw1:IntKind.i64.wrap (t.o+sz t.p)=t.o+sz t.p:=by rw[IntKind.wrap_i64];omega
 have hw2:IntKind.i64.wrap (s.o+sz s.p)=s.o+sz s.p:=by rw[IntKind.wrap_i64];omega
 suffices hh:Calls Tryz.prog 26 #[spV s,spV t] w fun r w'=>Ans r (aptB s t=true)/\Below w.heap.size w w' from hh.mono fun r w' h=>⟨h.1.same,h.2⟩
 have hb:Hid0 (aptB s t=true↔(s.o+sz s.p<=t.o\/t.o+sz t.p<=s.o)):=⟨by unfold aptB;rw[decide_eq_true_eq]⟩
 have cS:=refSize_any s.p
 have cT:=refSize_any t.p
 generalize sz s.p=a at *
 generalize sz t.p=b at *
 go_enter Tryz.func26,Tryz.ntmps26
 go_wp2_with (first|(go_at_call_of 47 (Value.int .i64 s.p);refine(cS _).mono ?_;rintro _ _ ⟨rfl,rfl⟩)|(go_at_call_of 47 (Value.int .i64 t.p);refine(cT _).mono ?_;rintro _ _ ⟨rfl,rfl⟩))
 all_goals
  go_ret
  refine⟨⟨_,rfl,?_⟩,dbb2 _ _ _⟩
  rw[hb.out]
  simp_all
  try omega
theorem clsB (wr:World):∃ p:World->Prop,p wr.drew/\(∀ W,p W->Below wr.heap.size wr W)/\Nonempty (CW p)/\(∀ (g o:Nat),g<wr.heap.size->∀ θ:CW p,θ.w.cell? ⟨g,o,none⟩=wr.cell? ⟨g,o,none⟩) /\
  (∀ (f:FuncId) (ag:Array Value) (v:Value),(∀ W,Below wr.heap.size wr W->Calls Tryz.prog f ag W fun e w'=>e = .returned v/\Below W.heap.size W w')->∀ W,p W->Calls Tryz.prog f ag W fun e w'=>e = .returned v/\p w') :=
 ⟨Below wr.heap.size wr,drw (Below.refl _ _),fun _ h=>h,⟨⟨_,Below.refl _ _⟩⟩,fun g o hg θ=>θ.h.cell (p:=⟨g,o,none⟩) hg,fun _ _ _ h=>callB (Nat.le_refl _) h⟩
theorem ent_lies:∀ ag w,(callFunc 25 ag).run Tryz.prog w = .ok (.enter 25 ag) w:=enters_of Tryz.func25 (by kernel_rfl) rfl
theorem ent_apart:∀ ag w,(callFunc 26 ag).run Tryz.prog w = .ok (.enter 26 ag) w:=enters_of Tryz.func26 (by kernel_rfl) rfl
theorem ent_tells:∀ ag w,(callFunc 27 ag).run Tryz.prog w = .ok (.enter 27 ag) w:=enters_of Tryz.func27 (by kernel_rfl) rfl
end Go.Proofs.YtcgimchhcaankaaGreatDoor
