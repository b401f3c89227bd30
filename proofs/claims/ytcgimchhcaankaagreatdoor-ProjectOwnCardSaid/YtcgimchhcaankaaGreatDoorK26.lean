import Derived.Test.YtcgimchhcaankaaGreatDoorK25
namespace Go.Proofs.YtcgimchhcaankaaGreatDoor
set_option maxRecDepth 1000000
set_option maxHeartbeats 16000000
open Go.ChangeShapes Go.WideShapes Go.ChangeAt Go.RowKit
namespace J
theorem refSameTk_any (t u:Tk) (p1 p2:Option Addr) (c1 c2:Nat) (w:World) (h1:URow w p1 w.heap.size t.cst) (h2:URow w p2 w.heap.size u.cst) (hs:t.cst.length*8<=140737488355328):Calls Tryz.prog 45 #[tkV t p1 c1,tkV u p2 c2] w fun r w'=>Ans r (t=u)/\Below w.heap.size w w':=by
 have hA:=tk_of (two_1 w (tkO t p1 c1) (tkO u p2 c2))
 have hC:=tk_of (two_2 w (tkO t p1 c1) (tkO u p2 c2))
 have HB:Hid (Below w.heap.size w ((w.alloc (tkO t p1 c1)).alloc (tkO u p2 c2))):=⟨two_b w _ _⟩
 have HS:Hid (w.heap.size+1<((w.alloc (tkO t p1 c1)).alloc (tkO u p2 c2)).heap.size):=⟨by simp⟩
 replace h1:=(h1.below HB.out).mono HB.out.size
 replace h2:=(h2.below HB.out).mono HB.out.size
 simp only[tkO,tkC] at hA hC HB HS h1 h2
 generalize hW:(w.alloc (.cells [Value.int .i64 t.op,.string t.name,.int .i64 t.id,.int .i64 t.off,.int .i64 t.siz,.int .i64 t.since,.int .i64 t.prim,.int .i64 t.len,.int .i64 t.pres,.int .u64 t.nul,.int .u64 t.lo,.int .u64 t.hi,.slice p1 t.cst.length c1,.int .u64 t.val,.int .i64 t.blk,.int .i64 t.full,.int .i64 t.a.p,.int .i64 t.a.o,.int .i64 t.b.p,.int .i64 t.b.o,.int .i64 t.pair].toArray 40)).alloc _=W at hA hC HB HS h1 h2
 have a12:W.cell? ⟨w.heap.size,12,none⟩=some (.slice p1 t.cst.length c1):=hA.c12
 have b12:W.cell? ⟨w.heap.size+1,12,none⟩=some (.slice p2 u.cst.length c2):=hC.c12
 replace hA:Hid (TkC W w.heap.size 0 t p1 c1):=⟨hA⟩
 replace hC:Hid (TkC W (w.heap.size+1) 0 u p2 c2):=⟨hC⟩
 by_cases hlm:t.cst.length=u.cst.length
 ·have b1:((t.cst.length:Int) != (u.cst.length:Int))=false:=by simp[hlm]
  have HL:Hid (t.cst.length=u.cst.length):=⟨hlm⟩
  clear hlm
  go_enter Tryz.func45,Tryz.ntmps45
  go_wp2_with fail
  clear b1
  go_loopw [5] (fun i wr=>∃ j:Nat,j<=t.cst.length/\i = .int .i64 j/\Below W.heap.size W wr/\Hid (t.cst=u.cst↔t.cst.drop j=u.cst.drop j)) (fun i _=>t.cst.length-(RowKit.intOf i).toNat)
  case atStart=>exact⟨0,Nat.zero_le _,rfl,Below.refl _ _,⟨Iff.rfl⟩⟩
  case round =>
   clear a12 b12 hW
   obtain⟨j,hj,rfl,hB,hq⟩:=hrel
   have kA:=hA.out.below (Nat.lt_of_succ_lt HS.out) hB
   have kC:=hC.out.below HS.out hB
   have a12:wr.cell? ⟨w.heap.size,12,none⟩=some (.slice p1 t.cst.length c1):=kA.c12
   have b12:wr.cell? ⟨w.heap.size+1,12,none⟩=some (.slice p2 u.cst.length c2):=kC.c12
   by_cases hlt:j<t.cst.length
   ·obtain⟨a,hx⟩:∃ a,t.cst[j]?=some a:=⟨t.cst[j],List.getElem?_eq_getElem hlt⟩
    obtain⟨b,hy⟩:∃ b,u.cst[j]?=some b:=⟨u.cst[j]'(by have:=HL.out;omega),List.getElem?_eq_getElem (by have:=HL.out;omega)⟩
    obtain⟨g,o,rfl,hg,q0⟩:=h1.c j a hx
    obtain⟨g2,o2,rfl,hg2,k0⟩:=h2.c j b hy
    replace q0:=(hB.cell (p:=⟨g,_,none⟩) hg).trans q0
    replace k0:=(hB.cell (p:=⟨g2,_,none⟩) hg2).trans k0
    have hlti:(j:Int)<t.cst.length:=by omega
    have hltm:(j:Int)<u.cst.length:=by have:=HL.out;omega
    have hd:Hid (t.cst=u.cst↔a=b/\t.cst.drop (j+1)=u.cst.drop (j+1)):=⟨by rw[hq.out,drop_at hx,drop_at hy,List.cons.injEq]⟩
    clear hq hx hy kA kC h1 h2
    by_cases hab:a=b
    ·have z:(a != b)=false:=by simp[hab]
     have HX:Hid (t.cst=u.cst↔t.cst.drop (j+1)=u.cst.drop (j+1)):=⟨by rw[hd.out];simp[hab]⟩
     clear hab hd
     go_wp2_with fail
     go_quiet (fail)
     go_wp2_with fail
     go_roundw
     case rel=>exact⟨j+1,by omega,by go_num,bdN hB _,HX⟩
     case measure=>simp[RowKit.intOf];omega
    ·have z:(a != b)=true:=by simp[hab]
     have HX:Hid (¬ t=u):=⟨fun e=>hab (hd.out.1 (by rw[e])).1⟩
     clear hab hd
     go_wp2_with fail
     go_quiet (fail)
     go_wp2_with fail
     go_ret
     exact⟨Ans.no HX.out,bdN (HB.out.trans (hB.mono HB.out.size)) _⟩
   ·obtain rfl:j=t.cst.length:=by omega
    have HX:Hid (t.cst=u.cst):=⟨by rw[hq.out,List.drop_length,HL.out,List.drop_length]⟩
    clear hq
    have a0:wr.cell? ⟨w.heap.size,0,none⟩=some (.int .i64 t.op):=kA.c0
    have a1:wr.cell? ⟨w.heap.size,1,none⟩=some (.string t.name):=kA.c1
    have a2:wr.cell? ⟨w.heap.size,2,none⟩=some (.int .i64 t.id):=kA.c2
    have a3:wr.cell? ⟨w.heap.size,3,none⟩=some (.int .i64 t.off):=kA.c3
    have a4:wr.cell? ⟨w.heap.size,4,none⟩=some (.int .i64 t.siz):=kA.c4
    have a5:wr.cell? ⟨w.heap.size,5,none⟩=some (.int .i64 t.since):=kA.c5
    have a6:wr.cell? ⟨w.heap.size,6,none⟩=some (.int .i64 t.prim):=kA.c6
    have a7:wr.cell? ⟨w.heap.size,7,none⟩=some (.int .i64 t.len):=kA.c7
    have a8:wr.cell? ⟨w.heap.size,8,none⟩=some (.int .i64 t.pres):=kA.c8
    have a9:wr.cell? ⟨w.heap.size,9,none⟩=some (.int .u64 t.nul):=kA.c9
    have a10:wr.cell? ⟨w.heap.size,10,none⟩=some (.int .u64 t.lo):=kA.c10
    have a11:wr.cell? ⟨w.heap.size,11,none⟩=some (.int .u64 t.hi):=kA.c11
    have a12:wr.cell? ⟨w.heap.size,12,none⟩=some (.slice p1 t.cst.length c1):=kA.c12
    have a13:wr.cell? ⟨w.heap.size,13,none⟩=some (.int .u64 t.val):=kA.c13
    have a14:wr.cell? ⟨w.heap.size,14,none⟩=some (.int .i64 t.blk):=kA.c14
    have a15:wr.cell? ⟨w.heap.size,15,none⟩=some (.int .i64 t.full):=kA.c15
    have a16:wr.cell? ⟨w.heap.size,16,none⟩=some (.int .i64 t.a.p):=kA.c16
    have a17:wr.cell? ⟨w.heap.size,17,none⟩=some (.int .i64 t.a.o):=kA.c17
    have a18:wr.cell? ⟨w.heap.size,18,none⟩=some (.int .i64 t.b.p):=kA.c18
    have a19:wr.cell? ⟨w.heap.size,19,none⟩=some (.int .i64 t.b.o):=kA.c19
    have a20:wr.cell? ⟨w.heap.size,20,none⟩=some (.int .i64 t.pair):=kA.c20
    have b0:wr.cell? ⟨w.heap.size+1,0,none⟩=some (.int .i64 u.op):=kC.c0
    have b1:wr.cell? ⟨w.heap.size+1,1,none⟩=some (.string u.name):=kC.c1
    have b2:wr.cell? ⟨w.heap.size+1,2,none⟩=some (.int .i64 u.id):=kC.c2
    have b3:wr.cell? ⟨w.heap.size+1,3,none⟩=some (.int .i64 u.off):=kC.c3
    have b4:wr.cell? ⟨w.heap.size+1,4,none⟩=some (.int .i64 u.siz):=kC.c4
    have b5:wr.cell? ⟨w.heap.size+1,5,none⟩=some (.int .i64 u.since):=kC.c5
    have b6:wr.cell? ⟨w.heap.size+1,6,none⟩=some (.int .i64 u.prim):=kC.c6
    have b7:wr.cell? ⟨w.heap.size+1,7,none⟩=some (.int .i64 u.len):=kC.c7
    have b8:wr.cell? ⟨w.heap.size+1,8,none⟩=some (.int .i64 u.pres):=kC.c8
    have b9:wr.cell? ⟨w.heap.size+1,9,none⟩=some (.int .u64 u.nul):=kC.c9
    have b10:wr.cell? ⟨w.heap.size+1,10,none⟩=some (.int .u64 u.lo):=kC.c10
    have b11:wr.cell? ⟨w.heap.size+1,11,none⟩=some (.int .u64 u.hi):=kC.c11
    have b12:wr.cell? ⟨w.heap.size+1,12,none⟩=some (.slice p2 u.cst.length c2):=kC.c12
    have b13:wr.cell? ⟨w.heap.size+1,13,none⟩=some (.int .u64 u.val):=kC.c13
    have b14:wr.cell? ⟨w.heap.size+1,14,none⟩=some (.int .i64 u.blk):=kC.c14
    have b15:wr.cell? ⟨w.heap.size+1,15,none⟩=some (.int .i64 u.full):=kC.c15
    have b16:wr.cell? ⟨w.heap.size+1,16,none⟩=some (.int .i64 u.a.p):=kC.c16
    have b17:wr.cell? ⟨w.heap.size+1,17,none⟩=some (.int .i64 u.a.o):=kC.c17
    have b18:wr.cell? ⟨w.heap.size+1,18,none⟩=some (.int .i64 u.b.p):=kC.c18
    have b19:wr.cell? ⟨w.heap.size+1,19,none⟩=some (.int .i64 u.b.o):=kC.c19
    have b20:wr.cell? ⟨w.heap.size+1,20,none⟩=some (.int .i64 u.pair):=kC.c20
    clear kA kC h1 h2
    have HW:Hid (Below w.heap.size w wr):=⟨HB.out.trans (hB.mono HB.out.size)⟩
    go_wp2_with fail
    all_goals (go_ret;refine⟨⟨_,rfl,?_⟩,HW.out⟩;rw[tk_eq];have HX:=HX.out;first|(simp[*];done)|(simp only[bne_iff_ne,ne_eq,bne_eq_false_iff_eq] at *;simp[*]))
 ·have b1:((t.cst.length:Int) != (u.cst.length:Int))=true:=by simp;omega
  have HX:Hid (¬ t=u):=⟨fun e=>hlm (by rw[e])⟩
  clear hlm
  go_enter Tryz.func45,Tryz.ntmps45
  go_wp2_with fail
  go_ret
  exact⟨Ans.no HX.out,HB.out⟩
theorem lx_ld {P:Program} {ops:Array Oper} {C:World->Prop} {Q:Exit->Act->World->Prop} {d:Option Tmp} {t ty:TypeId} {x:Operand} {ps:String} {af:Array Edge} {gd:Option (Nat×Bool)} {r:List Oper} {a:Act} {w:World} {p v:Value}
  (hl:∀ W,C W->(Instr.loadAt t p).run P W = .ok v W) (hx:a.eval x=p) (hw:Region.wanted ⟨d,.load t x,ty,ps,af,gd⟩ (yielded ops a.tmps)=true) (h:Lx P ops C Q r (a.put d v) w):Lx P ops C Q (⟨d,.load t x,ty,ps,af,gd⟩::r) a w :=
 lx_read hw rfl fun K hK=>⟨v,fun W hW=>by
  unfold Oper.quietAt execOp
  simp only[hx,hl W hW,Sem.run_bind,Result.andThen_ok,Sem.run_pure]
  exact⟨rfl,rfl⟩,hK _ h⟩
theorem fm_of {w:World} {g:Nat} {f:Fm} {pp:Option Addr} {cp:Nat} (h:w.heap[g]?=some (fmO f pp cp)):FmC w g 0 f pp cp :=
 ⟨cell_at h 0,cell_at h 1,cell_at h 2,cell_at h 3,cell_at h 4,cell_at h 5,cell_at h 6,cell_at h 7,cell_at h 8,cell_at h 9,cell_at h 10,cell_at h 11,cell_at h 12⟩
theorem fm_eq {f g:Fm}:f=g↔(f.ord=g.ord/\f.sch=g.sch/\f.ver=g.ver/\f.hsz=g.hsz/\f.hb.p=g.hb.p/\f.hb.o=g.hb.o/\f.ht.p=g.ht.p/\f.ht.o=g.ht.o/\f.hs.p=g.hs.p/\f.hs.o=g.hs.o/\f.hv.p=g.hv.p/\f.hv.o=g.hv.o)/\f.toks=g.toks:=by
 obtain⟨or1,sc1,ve1,hz1,⟨bp1,bo1⟩,⟨tp1,to1⟩,⟨sp1,so1⟩,⟨vp1,vo1⟩,l1⟩:=f
 obtain⟨or2,sc2,ve2,hz2,⟨bp2,bo2⟩,⟨tp2,to2⟩,⟨sp2,so2⟩,⟨vp2,vo2⟩,l2⟩:=g
 simp only[Fm.mk.injEq,Sp.mk.injEq]
 constructor
 ·rintro⟨h1,h2,h3,h4,⟨h5,h6⟩,⟨h7,h8⟩,⟨h9,h10⟩,⟨h11,h12⟩,h13⟩;exact⟨⟨h1,h2,h3,h4,h5,h6,h7,h8,h9,h10,h11,h12⟩,h13⟩
 ·rintro⟨⟨h1,h2,h3,h4,h5,h6,h7,h8,h9,h10,h11,h12⟩,h13⟩;exact⟨h1,h2,h3,h4,⟨h5,h6⟩,⟨h7,h8⟩,⟨h9,h10⟩,⟨h11,h12⟩,h13⟩
theorem ent_refSame:∀ ag w,(callFunc 45 ag).run Tryz.prog w = .ok (.enter 45 ag) w:=enters_of Tryz.func45 (by kernel_rfl) rfl
theorem refSame_any (f g:Fm) (pa pb:Option Addr) (ca cb:Nat) (w:World) (ha:TkL w pa w.heap.size f.toks) (hb:TkL w pb w.heap.size g.toks) :
  Calls Tryz.prog 23 #[fmV f pa ca,fmV g pb cb] w fun r w'=>Ans r (f=g)/\Below w.heap.size w w':=by
 have hA:=fm_of (two_1 w (fmO f pa ca) (fmO g pb cb))
 have hC:=fm_of (two_2 w (fmO f pa ca) (fmO g pb cb))
 have HB:Hid (Below w.heap.size w ((w.alloc (fmO f pa ca)).alloc (fmO g pb cb))):=⟨two_b w _ _⟩
 have HS:Hid (w.heap.size+1<((w.alloc (fmO f pa ca)).alloc (fmO g pb cb)).heap.size):=⟨by simp⟩
 replace ha:=(ha.below HB.out).mono HB.out.size
 replace hb:=(hb.below HB.out).mono HB.out.size
 generalize hW:(w.alloc (fmO f pa ca)).alloc (fmO g pb cb)=W at hA hC HB HS ha hb
 simp only[fmO] at hW
 have x0:W.cell? ⟨w.heap.size,0,none⟩=some (.int .i64 f.ord):=hA.c0
 have x1:W.cell? ⟨w.heap.size,1,none⟩=some (.int .i64 f.sch):=hA.c1
 have x2:W.cell? ⟨w.heap.size,2,none⟩=some (.int .i64 f.ver):=hA.c2
 have x3:W.cell? ⟨w.heap.size,3,none⟩=some (.int .i64 f.hsz):=hA.c3
 have x4:W.cell? ⟨w.heap.size,4,none⟩=some (.int .i64 f.hb.p):=hA.c4
 have x5:W.cell? ⟨w.heap.size,5,none⟩=some (.int .i64 f.hb.o):=hA.c5
 have x6:W.cell? ⟨w.heap.size,6,none⟩=some (.int .i64 f.ht.p):=hA.c6
 have x7:W.cell? ⟨w.heap.size,7,none⟩=some (.int .i64 f.ht.o):=hA.c7
 have x8:W.cell? ⟨w.heap.size,8,none⟩=some (.int .i64 f.hs.p):=hA.c8
 have x9:W.cell? ⟨w.heap.size,9,none⟩=some (.int .i64 f.hs.o):=hA.c9
 have x10:W.cell? ⟨w.heap.size,10,none⟩=some (.int .i64 f.hv.p):=hA.c10
 have x11:W.cell? ⟨w.heap.size,11,none⟩=some (.int .i64 f.hv.o):=hA.c11
 have x12:W.cell? ⟨w.heap.size,12,none⟩=some (.slice pa f.toks.length ca):=hA.c12
 have y0:W.cell? ⟨w.heap.size+1,0,none⟩=some (.int .i64 g.ord):=hC.c0
 have y1:W.cell? ⟨w.heap.size+1,1,none⟩=some (.int .i64 g.sch):=hC.c1
 have y2:W.cell? ⟨w.heap.size+1,2,none⟩=some (.int .i64 g.ver):=hC.c2
 have y3:W.cell? ⟨w.heap.size+1,3,none⟩=some (.int .i64 g.hsz):=hC.c3
 have y4:W.cell? ⟨w.heap.size+1,4,none⟩=some (.int .i64 g.hb.p):=hC.c4
 have y5:W.cell? ⟨w.heap.size+1,5,none⟩=some (.int .i64 g.hb.o):=hC.c5
 have y6:W.cell? ⟨w.heap.size+1,6,none⟩=some (.int .i64 g.ht.p):=hC.c6
 have y7:W.cell? ⟨w.heap.size+1,7,none⟩=some (.int .i64 g.ht.o):=hC.c7
 have y8:W.cell? ⟨w.heap.size+1,8,none⟩=some (.int .i64 g.hs.p):=hC.c8
 have y9:W.cell? ⟨w.heap.size+1,9,none⟩=some (.int .i64 g.hs.o):=hC.c9
 have y10:W.cell? ⟨w.heap.size+1,10,none⟩=some (.int .i64 g.hv.p):=hC.c10
 have y11:W.cell? ⟨w.heap.size+1,11,none⟩=some (.int .i64 g.hv.o):=hC.c11
 have y12:W.cell? ⟨w.heap.size+1,12,none⟩=some (.slice pb g.toks.length cb):=hC.c12
 replace hA:Hid (FmC W w.heap.size 0 f pa ca):=⟨hA⟩
 replace hC:Hid (FmC W (w.heap.size+1) 0 g pb cb):=⟨hC⟩
 have hll:=ha.len
 by_cases hE:(f.ord=g.ord/\f.sch=g.sch/\f.ver=g.ver/\f.hsz=g.hsz/\f.hb.p=g.hb.p/\f.hb.o=g.hb.o/\f.ht.p=g.ht.p/\f.ht.o=g.ht.o/\f.hs.p=g.hs.p/\f.hs.o=g.hs.o/\f.hv.p=g.hv.p/\f.hv.o=g.hv.o)/\f.toks.length=g.toks.length
 ·have HE:Hid ((f.ord=g.ord/\f.sch=g.sch/\f.ver=g.ver/\f.hsz=g.hsz/\f.hb.p=g.hb.p/\f.hb.o=g.hb.o/\f.ht.p=g.ht.p/\f.ht.o=g.ht.o/\f.hs.p=g.hs.p/\f.hs.o=g.hs.o/\f.hv.p=g.hv.p/\f.hv.o=g.hv.o)/\f.toks.length=g.toks.length):=⟨hE⟩
  have HF:Hid (f=g↔f.toks=g.toks):=⟨by rw[fm_eq];simp[hE.1]⟩
  obtain⟨⟨e0,e1,e2,e3,e4,e5,e6,e7,e8,e9,e10,e11⟩,e12⟩:=hE
  have b1:((f.toks.length:Int) != (g.toks.length:Int))=false:=by simp[e12]
  clear e12
  simp only[e0,e1,e2,e3,e4,e5,e6,e7,e8,e9,e10,e11] at hW
  go_enter Tryz.func23,Tryz.ntmps23
  go_wp2_with fail
  clear e0 e1 e2 e3 e4 e5 e6 e7 e8 e9 e10 e11 b1 x0 x1 x2 x3 x4 x5 x6 x7 x8 x9 x10 x11 y0 y1 y2 y3 y4 y5 y6 y7 y8 y9 y10 y11 hW
  go_loopw [5,6] (fun i k wr=>∃ j:Nat,j<=f.toks.length/\i = .int .i64 j/\Below W.heap.size W wr/\Hid (f.toks=g.toks↔f.toks.drop j=g.toks.drop j)/\k=k) (fun i _ _=>f.toks.length-(RowKit.intOf i).toNat)
  case atStart=>exact⟨0,Nat.zero_le _,rfl,Below.refl _ _,⟨Iff.rfl⟩,rfl⟩
  case round =>
   clear x12 y12
   obtain⟨j,hj,rfl,hB,hq,-⟩:=hrel
   have kA:=hA.out.below (Nat.lt_of_succ_lt HS.out) hB
   have kC:=hC.out.below HS.out hB
   have x12:wr.cell? ⟨w.heap.size,12,none⟩=some (.slice pa f.toks.length ca):=kA.c12
   have y12:wr.cell? ⟨w.heap.size+1,12,none⟩=some (.slice pb g.toks.length cb):=kC.c12
   by_cases hlt:j<f.toks.length
   ·obtain⟨a,hx⟩:∃ a,f.toks[j]?=some a:=⟨f.toks[j],List.getElem?_eq_getElem hlt⟩
    obtain⟨b,hy⟩:∃ b,g.toks[j]?=some b:=⟨g.toks[j]'(by have:=HE.out.2;omega),List.getElem?_eq_getElem (by have:=HE.out.2;omega)⟩
    obtain⟨g1,o1,p1,c1,rfl,hg1,hT,hT1,hT2,hTo⟩:=(ha.below hB).at hx
    obtain⟨g2,o2,p2,c2,rfl,hg2,hU,hU1,hU2,hUo⟩:=(hb.below hB).at hy
    have hlti:(j:Int)<f.toks.length:=by omega
    have hltm:(j:Int)<g.toks.length:=by have:=HE.out.2;omega
    have hd:Hid (f.toks=g.toks↔a=b/\f.toks.drop (j+1)=g.toks.drop (j+1)):=⟨by rw[hq.out,drop_at hx,drop_at hy,List.cons.injEq]⟩
    have hsz:=hB.size
    obtain⟨q,hqq⟩:∃ q:Bool,a=b↔q=true:=by
     by_cases e:a=b
     ·exact⟨true,by simp[e]⟩
     ·exact⟨false,by simp[e]⟩
    obtain⟨p,p0,pB,hN,f12,g12,lA,lC,cS⟩:∃ p:World->Prop,p wr.drew/\(∀ W',p W'->Below W.heap.size W W')/\Nonempty (CW p) /\
      (∀ θ:CW p,θ.w.cell? ⟨w.heap.size,12,none⟩=some (.slice (some ⟨g1,o1,none⟩) f.toks.length ca)) /\
      (∀ θ:CW p,θ.w.cell? ⟨w.heap.size+1,12,none⟩=some (.slice (some ⟨g2,o2,none⟩) g.toks.length cb)) /\
      (∀ W',(∃ θ:CW p,W'=θ.w)->(Instr.loadAt 40 (.pointer (some ⟨g1,o1+j*21,none⟩))).run Tryz.prog W' = .ok (tkV a p1 c1) W') /\
      (∀ W',(∃ θ:CW p,W'=θ.w)->(Instr.loadAt 40 (.pointer (some ⟨g2,o2+j*21,none⟩))).run Tryz.prog W' = .ok (tkV b p2 c2) W') /\
      (∀ W',p W'->Calls Tryz.prog 45 #[tkV a p1 c1,tkV b p2 c2] W' fun e w'=>e = .returned (.bool q)/\p w') :=
     ⟨Below wr.heap.size wr,(Below.refl _ _).drew,fun _ h=>hB.trans (h.mono hsz),⟨⟨_,Below.refl _ _⟩⟩,
      fun θ=>(θ.h.cell (p:=⟨w.heap.size,12,none⟩) (Nat.lt_of_lt_of_le (Nat.lt_of_succ_lt HS.out) hsz)).trans x12,
      fun θ=>(θ.h.cell (p:=⟨w.heap.size+1,12,none⟩) (Nat.lt_of_lt_of_le HS.out hsz)).trans y12,
      (by rintro _ ⟨θ,rfl⟩;exact(hT.below (Nat.lt_of_lt_of_le hg1 hsz) θ.h).load),
      (by rintro _ ⟨θ,rfl⟩;exact(hU.below (Nat.lt_of_lt_of_le hg2 hsz) θ.h).load),
      fun W' h=>(refSameTk_any a b p1 p2 c1 c2 W' ((hT1.below (h.mono hsz)).mono (Nat.le_trans hsz h.size)) ((hU1.below (h.mono hsz)).mono (Nat.le_trans hsz h.size)) hTo.cst).mono fun e w' hh=>⟨hh.1.said hqq,h.trans (hh.2.mono h.size)⟩⟩
    replace hqq:Hid (a=b↔q=true):=⟨hqq⟩
    clear hq hx hy hT hU hT1 hU1 hT2 hU2 hTo hUo ha hb kA kC
    go_wp2_with fail
    refine wp_region_lp p (by kernel_rfl) (by kernel_rfl) (fun _ _ d _ _ h=>by cases d<;>exact h) p0 fun W' hp=>?_
    clear x12 y12
    repeat (first
     | (guard_target =~ Lx _ _ _ _ (Oper.mk _ (Op.load 40 _) _ _ _ _::_) _ _;(first|refine lx_ld lA rfl rfl ?_|refine lx_ld lC rfl rfl ?_);simp only[pts])
     | (refine lx_one rfl ?_;(first|go_big_quiet_skip|(go_big_quiet_want;go_big_quiet_op;go_big_quiet_on));refine wpQuiet_nil ?_)
     | (refine lx_p2 ent_refSame cS hp rfl rfl (by rfl) ?_;clear hp;intro W' hp;simp only[pts])
     | (refine lx_skip (by rfl) ?_;simp only[pts]))
    refine lx_done ?_
    have HP:Hid (Below W.heap.size W W'):=⟨pB _ hp⟩
    clear pB cS lA lC f12 g12 hN p0
    cases q with
    | false =>
     have HX:Hid (¬ f=g):=⟨fun e=>absurd (hqq.out.1 (hd.out.1 (HF.out.1 e)).1) (by decide)⟩
     clear hqq hd
     go_wp2_with fail
     go_ret
     exact⟨Ans.no HX.out,HB.out.trans (HP.out.mono HB.out.size)⟩
    | true =>
     have HX:Hid (f.toks=g.toks↔f.toks.drop (j+1)=g.toks.drop (j+1)):=⟨by rw[hd.out];simp[hqq.out.2 rfl]⟩
     clear hqq hd
     go_wp2_with fail
     go_roundw
     case rel=>exact⟨j+1,by omega,by go_num,HP.out,HX,trivial⟩
     case measure=>simp[RowKit.intOf];omega
   ·obtain rfl:j=f.toks.length:=by omega
    have HX:Hid (f=g):=⟨by rw[HF.out,hq.out,List.drop_length,HE.out.2,List.drop_length]⟩
    clear hq kA kC
    go_wp2_with fail
    go_ret
    exact⟨Ans.yes HX.out,HB.out.trans (hB.mono HB.out.size)⟩
 ·have HX:Hid (¬ f=g):=⟨fun e=>hE (by rw[e];exact⟨⟨rfl,rfl,rfl,rfl,rfl,rfl,rfl,rfl,rfl,rfl,rfl,rfl⟩,rfl⟩)⟩
  replace hE:Hid (¬ ((f.ord=g.ord/\f.sch=g.sch/\f.ver=g.ver/\f.hsz=g.hsz/\f.hb.p=g.hb.p/\f.hb.o=g.hb.o/\f.ht.p=g.ht.p/\f.ht.o=g.ht.o/\f.hs.p=g.hs.p/\f.hs.o=g.hs.o/\f.hv.p=g.hv.p/\f.hv.o=g.hv.o)/\f.toks.length=g.toks.length)):=⟨hE⟩
  clear ha hb
  go_enter Tryz.func23,Tryz.ntmps23
  go_wp2_with fail
  all_goals first
   | (go_ret;exact⟨Ans.no HX.out,HB.out⟩)
   | (exfalso;exact hE.out ⟨⟨by assumption,by assumption,by assumption,by assumption,by assumption,by assumption,by assumption,by assumption,by assumption,by assumption,by assumption,by assumption⟩,by have:=bne_eq_false_iff_eq.1 (by assumption:((f.toks.length:Int) != (g.toks.length:Int))=false);omega⟩)
theorem own_ge {w:World} {base:Nat} {e:TypeId} {size:Nat} {v:Value} {n:Nat} {xs:List Value} (h:w.ownsRow base e size v n xs):∀ k,v.ownBlock=some k->base<=k:=fun k hk=>(h.lt k hk).1
theorem ownsRow_below {w w':World} {base:Nat} {e:TypeId} {size:Nat} {v:Value} {n:Nat} {xs:List Value} (h:w.ownsRow base e size v n xs) (hb:Below w.heap.size w w'):w'.ownsRow base e size v n xs:=by
 refine World.ownsRow.kept (row:=none) h ⟨hb.os,hb.tape,hb.output,hb.size,fun k hk _=>hb.block k hk⟩ ?_
 cases hv:v.ownBlock<;>simp
theorem own_base {w:World} {base base':Nat} {e:TypeId} {size:Nat} {v:Value} {n:Nat} {xs:List Value} (h:w.ownsRow base e size v n xs) (hb:∀ k,v.ownBlock=some k->base'<=k):w.ownsRow base' e size v n xs:=by
 refine⟨h.1,?_⟩
 rcases h.2 with hn|⟨g,cap,cur,rfl,_,rest⟩
 ·exact .inl hn
 ·exact .inr ⟨g,cap,cur,rfl,hb g rfl,rest⟩
theorem own_cap {w:World} {base:Nat} {e:TypeId} {size:Nat} {pp:Option Addr} {n cap:Nat} {xs:List Value} (h:w.ownsRow base e size (.slice pp n cap) n xs) (hn:0<n):n<=cap:=by
 rcases h.2 with ⟨_,h0⟩|⟨g,cp,cur,hv,_,_,hc,_⟩
 ·omega
 ·injection hv with _ _ h3
  omega
theorem addr0 (g k:Nat):(⟨g,0,none⟩:Addr).add k=⟨g,k,none⟩:=by unfold Addr.add;split<;>simp_all
theorem addrk (g o k:Nat):(⟨g,o,none⟩:Addr).add k=⟨g,o+k,none⟩:=by unfold Addr.add;split<;>simp_all
theorem tinfo {t:TypeId} {z:Value} {s b:Nat} (h:(Tryz.prog.info? t).map (fun i=>(i.zero,i.size,i.bytes))=some (some z,s,b)):∃ i,Tryz.prog.info? t=some i/\i.zero=some z/\i.size=s/\i.bytes=b:=by
 obtain⟨i,hi,hz⟩:=Option.map_eq_some_iff.1 h
 simp only[Prod.mk.injEq] at hz
 exact⟨i,hi,hz.1,hz.2.1,hz.2.2⟩
abbrev zTk:Value:=.agg #[.int .i64 0,.string ⟨#[]⟩,.int .i64 0,.int .i64 0,.int .i64 0,.int .i64 0,.int .i64 0,.int .i64 0,.int .i64 0,.int .u64 0,.int .u64 0,.int .u64 0,.slice none 0 0,.int .u64 0,.int .i64 0,.int .i64 0,.int .i64 0,.int .i64 0,.int .i64 0,.int .i64 0,.int .i64 0]
theorem infoUK:(Tryz.prog.info? 37).map (fun i=>(i.zero,i.size,i.bytes))=some (some (.int .u64 0),1,8):=by kernel_rfl
theorem infoTkK:(Tryz.prog.info? 40).map (fun i=>(i.zero,i.size,i.bytes))=some (some zTk,21,192):=by kernel_rfl
abbrev uC (l:List Int):List Value:=l.map fun x=>Value.int .u64 x
theorem uC_one (l:List Int):∀ u∈uC l,u.oneCell'=true:=by
 intro u hu
 obtain⟨x,_,rfl⟩:=List.mem_map.1 hu
 rfl
theorem _root_.Go.Proofs.YtcgimchhcaankaaGreatDoor.URow.news {w:World} {ad:Addr} {H:Nat} {l:List Int} (h:URow w (some ad) H l):∀ j u,(uC l)[j]?=some u->w.cell? (ad.add j)=some u:=by
 intro j u hu
 rw[List.getElem?_map] at hu
 cases hx:l[j]? with
 | none=>rw[hx] at hu;cases hu
 | some x =>
  rw[hx] at hu
  cases hu
  obtain⟨g,o,e,_,hc⟩:=h.c j x hx
  cases e
  rw[addrk]
  exact hc
theorem _root_.Go.Proofs.YtcgimchhcaankaaGreatDoor.URow.of_own {w:World} {base g cap n H:Nat} {l m:List Int} (h:w.ownsRow base 37 1 (.slice (some ⟨g,0,none⟩) n cap) n (uC (l++m))) (hg:g<H):URow w (some ⟨g,0,none⟩) H l :=
 ⟨fun i t ht=>by
  have hti:(l++m)[i]?=some t:=by rw[List.getElem?_append_left (List.getElem?_eq_some_iff.1 ht).1];exact ht
  have hc:=World.ownsRow.cells h (g:=g) rfl i (.int .u64 t) (by rw[List.getElem?_map,hti];rfl)
  rw[addr0] at hc
  exact⟨g,0,rfl,hg,by rw[Nat.zero_add];exact hc⟩⟩
theorem u_cp {w:World} {b g cap:Nat} {pa:Option Addr} {ca H:Nat} {l:List Int} (hO:w.ownsRow b 37 1 (.slice (some ⟨g,0,none⟩) 0 cap) 0 []) (hA:URow w pa H l) (hl:l.length*8<=140737488351232) (hb:b<=w.heap.size) :
  ∃ v' w',(∀ ty,(Builtin.append_ #[38,38] ty #[.slice (some ⟨g,0,none⟩) 0 cap,.slice pa l.length ca]).run Tryz.prog w = .ok v' w')/\(w'.ownsRow b 37 1 v' l.length (uC l)/\Below b w w'):=by
 obtain⟨i0,hi,hz,hs,hby⟩:=tinfo infoUK
 have hgb:=own_ge hO g rfl
 cases pa with
 | none =>
  have h0:l=[]:=by
   cases l with
   | nil=>rfl
   | cons a r =>
    obtain⟨g,o,e,_⟩:=hA.c 0 a rfl
    cases e
  subst h0
  refine⟨.slice (some ⟨g,0,none⟩) 0 cap,w,fun ty=>?_,hO,Below.refl _ _⟩
  have S:=Src.ofNil (P:=Tryz.prog) (size:=i0.size) w Tryz.underlying38 ca
  have hln:∀ w':World,(Builtin.lenOf (.slice none 0 ca)).run Tryz.prog w' = .ok 0 w':=S.len
  have hcl:(Builtin.firstCells i0.size 0 (.slice none 0 ca)).run Tryz.prog w = .ok #[] w:=S.cells
  simp[Builtin.append_,run_underlying Tryz.underlying38,sizeOf,typeInfo,hi,hln,hcl,storeCells]
 | some ad =>
  have hr:=fun ty=>run_append_own_at (P:=Tryz.prog) w b 38 ty 37 i0 (.int .u64 0) 1 8 Tryz.underlying38 hi hz hs hby rfl (by decide) (.slice (some ⟨g,0,none⟩) 0 cap) 0 [] hO ad l.length ca (uC l) (by simp) hA.news (uC_one l) (by simp only[maxLen];omega) (by omega) hb
  obtain⟨v',w',h1,h2,h3,_⟩:=hr 0
  refine⟨v',w',fun ty=>h1,by simpa using h2,⟨h3.os,h3.tape,h3.output,h3.size,fun k hk=>?_⟩⟩
  by_cases hkw:k<w.heap.size
  ·exact h3.block k hkw (by simp[Value.ownBlock];omega)
  ·omega
structure TkP where
 t:Tk
 g:Nat
 c:Nat
abbrev TkP.cs (x:TkP):List Value:=tkC x.t (some ⟨x.g,0,none⟩) x.c
def tpC (ps:List TkP):List Value:=ps.flatMap TkP.cs
theorem tpC_snoc (ps:List TkP) (x:TkP):tpC (ps++[x])=tpC ps++x.cs:=by
 unfold tpC
 rw[List.flatMap_append]
 simp
theorem tpC_get:∀ (ps:List TkP) (i:Nat) (x:TkP) (ys:List Value),ps[i]?=some x->∀ j,j<21->(tpC ps++ys)[i*21+j]?=x.cs[j]?
 | [],_,_,_,h,_,_=>by cases h
 | a::r,0,t,ys,h,j,hj=>by
  cases h
  unfold tpC
  have hl:a.cs.length=21:=rfl
  rw[List.flatMap_cons,List.append_assoc,List.getElem?_append_left (by omega),Nat.zero_mul,Nat.zero_add]
 | a::r,i+1,t,ys,h,j,hj=>by
  have ih:=tpC_get r i t ys h j hj
  unfold tpC at ih ⊢
  have hl:a.cs.length=21:=rfl
  rw[List.flatMap_cons,List.append_assoc,List.getElem?_append_right (by omega),hl,<- ih]
  congr 1
  omega
def UGood (w:World) (base:Nat) (x:TkP):Prop:=w.ownsRow base 37 1 (.slice (some ⟨x.g,0,none⟩) (x.t.cst.length+1) x.c) (x.t.cst.length+1) (uC (x.t.cst++[77]))
theorem UGood.lt {w:World} {base:Nat} {x:TkP} (h:UGood w base x):base<=x.g/\x.g<w.heap.size:=World.ownsRow.lt h x.g rfl
theorem UGood.below {w w':World} {base:Nat} {x:TkP} (h:UGood w base x) (hb:Below w.heap.size w w'):UGood w' base x:=ownsRow_below h hb
theorem UGood.kept {w w':World} {base:Nat} {row:Option Nat} {x:TkP} (h:UGood w base x) (hg:w.grownBy w' row) (hne:some x.g≠row):UGood w' base x:=World.ownsRow.kept h hg (.inr hne)
theorem UGood.row {w:World} {base:Nat} {x:TkP} (h:UGood w base x):URow w (some ⟨x.g,0,none⟩) w.heap.size x.t.cst:=URow.of_own h h.lt.2
theorem UGood.room {w:World} {base:Nat} {x:TkP} (h:UGood w base x):x.t.cst.length+1<=x.c:=own_cap h (by omega)
abbrev spareS:ByteArray:=⟨#[115,112,97,114,101,32,114,111,111,109]⟩
abbrev spareT:Tk:=⟨0,spareS,0,0,0,0,0,0,0,0,0,0,[],0,0,0,⟨0,0⟩,⟨0,0⟩,0⟩
structure Cop (w:World) (base g cap:Nat) (ps:List TkP):Prop where
 row:w.ownsRow base 40 21 (.slice (some ⟨g,0,none⟩) (ps.length+1) cap) (ps.length+1) (tpC ps++tkC spareT none 0)
 good:∀ x∈ps,UGood w base x/\x.g≠g
 dis:(ps.map TkP.g).Pairwise (· < ·)
theorem Cop.lt {w:World} {base g cap:Nat} {ps:List TkP} (h:Cop w base g cap ps):base<=g/\g<w.heap.size:=World.ownsRow.lt h.row g rfl
theorem Cop.below {w w':World} {base g cap:Nat} {ps:List TkP} (h:Cop w base g cap ps) (hb:Below w.heap.size w w'):Cop w' base g cap ps :=
 ⟨ownsRow_below h.row hb,fun x hx=>⟨(h.good x hx).1.below hb,(h.good x hx).2⟩,h.dis⟩
theorem Cop.tk {w:World} {base g cap:Nat} {ps:List TkP} (h:Cop w base g cap ps) {i:Nat} {x:TkP} (hx:ps[i]?=some x):TkC w g (i*21) x.t (some ⟨x.g,0,none⟩) x.c :=
 tkC_of fun j u hu=>by
  have hj:j<21:=(List.getElem?_eq_some_iff.1 hu).1
  have hc:=World.ownsRow.cells h.row (g:=g) rfl (i*21+j) u ((tpC_get ps i x _ hx j hj).trans hu)
  rwa [addr0] at hc
theorem Cop.trow {w:World} {base g cap:Nat} {ps:List TkP} (h:Cop w base g cap ps):TkRow w (some ⟨g,0,none⟩) w.heap.size (ps.map TkP.t) :=
 ⟨fun i t ht=>by
  rw[List.getElem?_map] at ht
  cases hx:ps[i]? with
  | none=>rw[hx] at ht;cases ht
  | some x =>
   rw[hx] at ht
   cases ht
   have hg:=(h.good x (List.mem_of_getElem? hx)).1
   exact⟨g,0,some ⟨x.g,0,none⟩,x.c,rfl,h.lt.2,by rw[Nat.zero_add];exact h.tk hx,hg.row,Nat.le_of_succ_le hg.room⟩⟩
end J
section
variable {P:Program} {ops:Array Oper} {Q:Exit->Act->World->Prop} {C:World->Prop} {d:Option Tmp} {ty:TypeId} {ps:String} {af:Array Edge} {gd:Option (Nat×Bool)} {r:List Oper} {a:Act} {w:World}
theorem lw_call1 {f:FuncId} {x1:Operand} {y1:Value} {tx:Array TypeId} {R:Value->World->Prop} (hen:∀ ag w,(callFunc f ag).run P w = .ok (.enter f ag) w) (hc:Calls P f #[y1] w fun e w'=>∃ v,e = .returned v/\R v w') (h1:a.eval x1=y1) (hw:Region.wanted ⟨d,.call { callee:=.value (.func f),args:=#[x1],argTypes:=tx },ty,ps,af,gd⟩ (yielded ops a.tmps)=true)
  (h:∀ v w',R v w'->C w'/\Lw P ops Q C r (a.put d v) w'):Lw P ops Q C (⟨d,.call { callee:=.value (.func f),args:=#[x1],argTypes:=tx },ty,ps,af,gd⟩::r) a w :=
 lw_act hw rfl fun K hK=>by
  have hf:a.eval (.func f) = .func (.func f) #[] #[]:=rfl
  unfold Oper.wp execOp
  simp only[resolve,invoke,Sem.run_bind,hf]
  simp[Deferred.ofValue,hen,Oper.upon_enter,h1]
  refine hc.mono ?_
  rintro e w' ⟨v,rfl,hp⟩
  exact hK _ _ C (.inr ⟨fun _ h=>h,(h v w' hp).1⟩) (h v w' hp).2
theorem lw_sm {t:TypeId} {x y:Operand} {p v:Value} {w':World} (hr:(Instr.storeAt t p v).run P w = .ok () w') (hC:C w') (hx:a.eval x=p) (hy:a.eval y=v) (hw:Region.wanted ⟨d,.store t x y,ty,ps,af,gd⟩ (yielded ops a.tmps)=true) (h:Lw P ops Q C r (a.put d undef) w'):Lw P ops Q C (⟨d,.store t x y,ty,ps,af,gd⟩::r) a w :=
 lw_act hw rfl fun K hK=>by
  unfold Oper.wp execOp
  simp only[hx,hy,hr,Sem.run_bind,Result.andThen_ok,Sem.run_pure]
  exact hK _ _ C (.inr ⟨fun _ h=>h,hC⟩) h
end
theorem wp_region_lwt {P:Program} {Q:Exit->Act->World->Prop} {id:Nat} {a:Act} {w:World} {l:List Oper} (z:Nat) (C:World->Prop) (sc:List Nat) (hm:P.follows .mixedOrders=true) (hv:(Region.noSelect l.toArray&&schF .any l.toArray z sc (Array.replicate l.length false)&&(sc.length==l.length)&&sc.all (fun i=>decide (i<l.length)))=true)
  (hQ:∀ c (a:Act) d v w,Q (.panic c) (a.put d v) w->Q (.panic c) a w) (hp:C w.drew) (h:Lw P l.toArray Q C (sc.filterMap fun i=>l[i]?) a w.drew):(Code.region id l.toArray true).wp P Q a w:=by
 rw[Bool.and_eq_true,Bool.and_eq_true,Bool.and_eq_true,beq_iff_eq] at hv
 refine wp_region_F z C hm hp fun _=>?_
 have:=wpAnyF_lw (z:=z) hv.1.1.1 hQ _ _ C _ a w.drew (pick_map l sc hv.2) hv.1.1.2 hp h.out
 rw[hv.1.2] at this
 simpa using this
end Go.Proofs.YtcgimchhcaankaaGreatDoor
