import Derived.Test.YtkcjdncchoohoaaGreatDoorK29
namespace Go.Proofs.YtkcjdncchoohoaaGreatDoor
set_option maxRecDepth 1000000
set_option maxHeartbeats 16000000
open Go.ChangeShapes Go.WideShapes Go.ChangeAt Go.RowKit Go.Shelf Go.Maps
def PCk (w:World) (f:Fm) (pp:Option Addr) (cp:Nat):Prop:=∀ W,Below w.heap.size w W->Calls Tryz.prog 25 #[fmV f pp cp] W fun r w'=>r = .returned (.tuple #[.int .i64 (errZ (chkZ f)),.int .i64 (atZ (chkZ f))])/\Below W.heap.size W w'
theorem pCk_of (f:Fm) (pp:Option Addr) (cp:Nat) (w:World) (tl:TkL w pp w.heap.size f.toks) (kt:KT w) (mt:MT w):PCk w f pp cp:=fun W hb=>Check_any f pp cp W ((tl.below hb).mono hb.size) (kt.up hb) (mt.below mt.pos hb)
theorem errZ_iff (o:Option Int):(errZ o==0)=decide (o=none):=by
 cases o with
 | none=>rfl
 | some z=>rfl
theorem isForm_any {w:World} {f:Fm} {pp:Option Addr} {cp:Nat} (hC:PCk w f pp cp) (W:World) (hW:Below w.heap.size w W) :
  Calls Tryz.prog 16 #[fmV f pp cp] W fun r w'=>r = .returned (.bool (decide (chkZ f=none)))/\Below W.heap.size W w':=by
 have hb:=bel1 W (fmO f pp cp)
 have cK:=hC _ (hW.trans (hb.mono hW.size))
 have LF:=(J.fm_of (heap_al W (fmO f pp cp))).load
 rw[<- errZ_iff]
 generalize errZ (chkZ f)=E at cK ⊢
 generalize atZ (chkZ f)=A at cK
 have HB:Hid _:=⟨hb⟩
 clear hb
 go_enter Tryz.func16,Tryz.ntmps16
 go_wp2_with (first
  | (guard_target =~ wpList _ _ _ (Oper.mk _ (Op.load 30 _) _ _ _ _::_) _ _;go_must (refine wpList_ld 30 _ rfl rfl _ _ rfl LF ?_);simp only[pts])
  | (go_at_call 25;refine cK.mono ?_;rintro _ w1 ⟨rfl,hb1⟩;replace hb1:=Hid.mk hb1))
 go_ret
 exact⟨rfl,HB.out.trans (hb1.out.mono HB.out.size)⟩
theorem firstOf_any {W:World} {f:Fm} {pp:Option Addr} {cp:Nat} (hz:chkZ f=none) (tl:TkL W pp W.heap.size f.toks) :
  Calls Tryz.prog 17 #[fmV f pp cp] W fun r w'=>r = .returned (.int .i64 (fstV f))/\Below W.heap.size W w':=by
 obtain⟨t,ht,-⟩:=first_msg hz
 have e:fstV f=t.since:=by unfold fstV;rw[ht]
 rw[e]
 have hb:=bel1 W (fmO f pp cp)
 have c12:=(J.fm_of (heap_al W (fmO f pp cp))).c12
 obtain⟨g,o,pc,cc,rfl,hg,hT,-⟩:=tl.row.c 0 t ht
 have a5:=(hT.below hg hb).c5
 have hl:(0:Int)<f.toks.length:=by have:=(List.getElem?_eq_some_iff.1 ht).1;omega
 simp only[Nat.zero_mul,Nat.add_zero] at a5
 generalize hW:W.alloc (fmO f (some ⟨g,o,none⟩) cp)=W1 at hb c12 a5
 simp only[fmO] at hW
 have HB:Hid _:=⟨hb⟩
 clear hb hT
 go_enter Tryz.func17,Tryz.ntmps17
 go_wp2_with fail
 go_ret
 exact⟨rfl,HB.out⟩
theorem res_cell_slot {P:Program} {fn:Func} {p q:Tmp} {ty:TypeId} (h:fn.results=#[.cell p ty,.tmp q]) (tmps:Array Value) (w:World) (g:Nat) (t:TypeId) (cs:Array Value) (d:TypeDesc) {v2:Value} (hp:tmps.getD p undef = .pointer (some ⟨g,0,none⟩)) (hq:tmps.getD q undef=v2) (hg:w.heap[g]?=some (.cells cs t))
  (hu:P.underlying ty=some d) (hd:(match d with | .struct _ | .array _ _=>true|_=>false)=true) (hi:(P.info? ty).map (·.size)=some cs.size) :
  (results fn tmps).run P w = .ok (.tuple #[.agg cs,v2]) w:=by
 subst hq
 have hp':tmps[p]?.getD undef = .pointer (some ⟨g,0,none⟩):=by simpa using hp
 simp[results,h,hp',asAddr,run_loadVar_row w g t ty cs (0,0) d hg hu hd hi]
def zFm:Fm:=⟨0,0,0,0,⟨0,0⟩,⟨0,0⟩,⟨0,0⟩,⟨0,0⟩,[]⟩
def atG (f:Fm) (v:Int):Fm:=if atE f v=0 then atF f v else zFm
theorem pAt_any {w:World} {f:Fm} {pp:Option Addr} {cp:Nat} (hC:PCk w f pp cp) (tl:TkL w pp w.heap.size f.toks) (hlm:f.toks.length*192<=140737488351232) (v:Int) :
  Calls Tryz.prog 6 #[fmV f pp cp,.int .i64 v] w fun e w'=>∃ pp' cp' ks,e = .returned (.tuple #[fmV (atG f v) pp' cp',.int .i64 (atE f v)])/\ks.map Ktp.t=(atG f v).toks/\KtR w' w.heap.size (.slice pp' ks.length cp') ks/\Below w.heap.size w w':=by
 have HB:Below w.heap.size w ((w.alloc (fmO f pp cp)).alloc J.zFo):=two_b _ _ _
 have H1:=two_1 w (fmO f pp cp) J.zFo
 have H2:=two_2 w (fmO f pp cp) J.zFo
 have HS:((w.alloc (fmO f pp cp)).alloc J.zFo).heap.size=w.heap.size+2:=by simp
 generalize hW:(w.alloc (fmO f pp cp)).alloc J.zFo=W0 at HB H1 H2 HS
 simp only[fmO,J.zFo] at hW
 have cI:=isForm_any hC W0 HB
 have LF:Hid (∀ X,Below W0.heap.size W0 X->(Instr.loadAt 30 (.pointer (some ⟨w.heap.size,0,none⟩))).run Tryz.prog X = .ok (fmV f pp cp) X/\X.cell? ⟨w.heap.size,2,none⟩=some (.int .i64 f.ver)/\X.heap[w.heap.size+1]?=some J.zFo/\Below w.heap.size w X):=⟨fun X hb=>⟨(J.fm_of ((hb.block _ (by omega)).trans H1)).load,cell_at ((hb.block _ (by omega)).trans H1) 2,(hb.block _ (by omega)).trans H2,HB.trans (hb.mono HB.size)⟩⟩
 obtain⟨l0,-,-,-⟩:=LF.out W0 (Below.refl _ _)
 have hT:Hid _:=⟨tl⟩
 have hLM:Hid _:=⟨hlm⟩
 have HS2:Hid (∀ X,Below W0.heap.size W0 X->w.heap.size+1<X.heap.size):=⟨fun X h=>by have:=h.size;omega⟩
 have NO:Hid (∀ (X:World) (E:Int),X.heap[w.heap.size+1]?=some J.zFo->Below w.heap.size w X->atE f v=E->E≠0->∃ pp' cp' ks,(.returned (.tuple #[.agg (J.fmC zFm none 0),.int .i64 E]):Ending) = .returned (.tuple #[fmV (atG f v) pp' cp',.int .i64 (atE f v)])/\ks.map Ktp.t=(atG f v).toks/\KtR (X.setRow (w.heap.size+1) (J.fmC zFm none 0)) w.heap.size (.slice pp' ks.length cp') ks/\Below w.heap.size w (X.setRow (w.heap.size+1) (J.fmC zFm none 0))):=⟨fun X E hx hb he hne=>by
  have eG:atG f v=zFm:=by unfold atG;rw[if_neg (by rw[he];exact hne)]
  rw[eG,he]
  exact⟨none,0,[],rfl,rfl,KtR.nil _ _,hb.trans ⟨rfl,rfl,rfl,by rw[size_setRow];exact Nat.le_refl _,fun k hk=>setRow_other _ _ _ _ (by omega)⟩⟩⟩
 clear tl hlm HB H1 H2 HS
 by_cases hz:chkZ f=none
 ·rw[decide_eq_true hz] at cI
  have CF:Hid (∀ X,Below W0.heap.size W0 X->Below w.heap.size w X->Calls Tryz.prog 17 #[fmV f pp cp] X fun r w'=>r = .returned (.int .i64 (fstV f))/\Below W0.heap.size W0 w'):=⟨fun X h1 h2=>(firstOf_any hz ((hT.out.below h2).mono h2.size)).mono fun r w' hP=>⟨hP.1,h1.trans (hP.2.mono h1.size)⟩⟩
  have CA:Hid (∀ X,Below w.heap.size w X->Calls Tryz.prog 18 #[fmV f pp cp,.int .i64 v] X fun e w'=>∃ pp' cp' ks,e = .returned (fmV (atF f v) pp' cp')/\ks.map Ktp.t=(atF f v).toks/\KtR w' X.heap.size (.slice pp' ks.length cp') ks/\Below X.heap.size X w'):=⟨fun X h=>formAt_any f pp cp v X hz ((hT.out.below h).mono h.size) hLM.out⟩
  by_cases h1:v<fstV f
  ·have d1:decide (v<fstV f)=true:=by simp[h1]
   have hE:Hid (atE f v=130):=⟨by unfold atE;rw[if_pos hz,if_neg (by omega)]⟩
   clear hz h1
   go_enter Tryz.func6,Tryz.ntmps6
   go_wp2_with (first
    | (guard_target =~ wpList _ _ _ (Oper.mk _ (Op.load 30 _) _ _ _ _::_) _ _;go_must (refine wpList_ld 30 _ rfl rfl _ _ rfl l0 ?_);simp only[pts])
    | (guard_target =~ wpList _ _ _ (Oper.mk _ (Op.store 30 _ _) _ _ _ _::_) _ _;go_must (refine wpList_st 30 _ _ rfl rfl _ _ rfl rfl SF ?_);simp only[pts])
    | (go_at_call 16;refine cI.mono ?_;rintro _ wa ⟨rfl,ha⟩;obtain⟨la,-,-,ba⟩:=LF.out wa ha;clear l0;have l0:=la;have cF:=CF.out wa ha ba;clear la ba)
    | (go_at_call 17;refine cF.mono ?_;rintro _ w1 ⟨rfl,hb1⟩;obtain⟨-,x2,r1,b1⟩:=LF.out w1 hb1;have SF:=fm_st r1 rfl zFm none 0;replace r1:=Hid.mk r1;replace b1:=Hid.mk b1;clear hb1))
   exact bodyPost_ret (res_cell_slot (v2:=.int .i64 130) rfl _ _ (w.heap.size+1) 30 _ _ rfl rfl (setRow_heap _ _ _ _ _ _ r1.out) Tryz.underlying30 rfl J.infoFm) rfl (NO.out w1 130 r1.out b1.out hE.out (by decide))
  ·have d1:decide (v<fstV f)=false:=by simp[h1]
   by_cases h2:f.ver<v
   ·have d2:decide (f.ver<v)=true:=by simp[h2]
    have hE:Hid (atE f v=130):=⟨by unfold atE;rw[if_pos hz,if_neg (by omega)]⟩
    clear hz h1 h2
    go_enter Tryz.func6,Tryz.ntmps6
    go_wp2_with (first
     | (guard_target =~ wpList _ _ _ (Oper.mk _ (Op.load 30 _) _ _ _ _::_) _ _;go_must (refine wpList_ld 30 _ rfl rfl _ _ rfl l0 ?_);simp only[pts])
     | (guard_target =~ wpList _ _ _ (Oper.mk _ (Op.store 30 _ _) _ _ _ _::_) _ _;go_must (refine wpList_st 30 _ _ rfl rfl _ _ rfl rfl SF ?_);simp only[pts])
     | (go_at_call 16;refine cI.mono ?_;rintro _ wa ⟨rfl,ha⟩;obtain⟨la,-,-,ba⟩:=LF.out wa ha;clear l0;have l0:=la;have cF:=CF.out wa ha ba;clear la ba)
     | (go_at_call 17;refine cF.mono ?_;rintro _ w1 ⟨rfl,hb1⟩;obtain⟨-,x2,r1,b1⟩:=LF.out w1 hb1;have SF:=fm_st r1 rfl zFm none 0;replace r1:=Hid.mk r1;replace b1:=Hid.mk b1;clear hb1))
    exact bodyPost_ret (res_cell_slot (v2:=.int .i64 130) rfl _ _ (w.heap.size+1) 30 _ _ rfl rfl (setRow_heap _ _ _ _ _ _ r1.out) Tryz.underlying30 rfl J.infoFm) rfl (NO.out w1 130 r1.out b1.out hE.out (by decide))
   ·have d2:decide (f.ver<v)=false:=by simp[h2]
    have hE:atE f v=0:=by unfold atE;rw[if_pos hz,if_pos (by omega)]
    have hG:atG f v=atF f v:=by unfold atG;rw[if_pos hE]
    rw[hG,hE]
    clear hz h1 h2 hG hE NO
    go_enter Tryz.func6,Tryz.ntmps6
    go_wp2_with (first
     | (guard_target =~ wpList _ _ _ (Oper.mk _ (Op.load 30 _) _ _ _ _::_) _ _;go_must (refine wpList_ld 30 _ rfl rfl _ _ rfl l0 ?_);simp only[pts])
     | (guard_target =~ wpList _ _ _ (Oper.mk _ (Op.store 30 _ _) _ _ _ _::_) _ _;go_must (refine wpList_st 30 _ _ rfl rfl _ _ rfl rfl SF ?_);simp only[pts])
     | (go_at_call 16;refine cI.mono ?_;rintro _ wa ⟨rfl,ha⟩;obtain⟨la,-,-,ba⟩:=LF.out wa ha;clear l0;have l0:=la;have cF:=CF.out wa ha ba;clear la ba)
     | (go_at_call 17;refine cF.mono ?_;rintro _ w1 ⟨rfl,hb1⟩;obtain⟨l1,x2,r1,b1⟩:=LF.out w1 hb1;clear l0;have l0:=l1;clear l1;have cA:=CA.out w1 b1;have hs1:=HS2.out w1 hb1;replace r1:=Hid.mk r1;replace b1:=Hid.mk b1;clear hb1)
     | (go_at_call 18;refine cA.mono ?_;rintro _ w2 ⟨pp',cp',ks,rfl,k1,k2,k3⟩;have SF:=fm_st ((k3.block _ hs1).trans r1.out) rfl (atF f v) pp' cp';replace k1:=Hid.mk k1;replace k2:=Hid.mk k2;replace k3:=Hid.mk k3))
    refine bodyPost_ret (res_cell_slot (v2:=.int .i64 0) rfl _ _ (w.heap.size+1) 30 _ _ rfl rfl (setRow_heap _ _ _ _ _ _ ((k3.out.block _ hs1).trans r1.out)) Tryz.underlying30 rfl J.infoFm) rfl ⟨pp',cp',ks,rfl,k1.out,?_,?_⟩
    ·have h1:=k2.out.keep (W':=w2.setRow (w.heap.size+1) (J.fmC (atF f v) pp' cp')) (by rw[size_setRow];exact Nat.le_refl _) fun k hk _ _=>setRow_other _ _ _ _ (by omega)
     refine⟨own_lower h1.row (by omega),fun x hx=>?_⟩
     obtain⟨a1,a2,a3⟩:=h1.u x hx
     exact⟨a1,a2,fun g o e=>⟨by have:=(a3 g o e).1;omega,(a3 g o e).2⟩⟩
    ·exact(b1.out.trans (k3.out.mono b1.out.size)).trans ⟨rfl,rfl,rfl,by rw[size_setRow];exact Nat.le_refl _,fun k hk=>setRow_other _ _ _ _ (by omega)⟩
 ·rw[decide_eq_false hz] at cI
  have hE:Hid (atE f v=121):=⟨by unfold atE;rw[if_neg hz]⟩
  clear hz
  go_enter Tryz.func6,Tryz.ntmps6
  go_wp2_with (first
   | (guard_target =~ wpList _ _ _ (Oper.mk _ (Op.load 30 _) _ _ _ _::_) _ _;go_must (refine wpList_ld 30 _ rfl rfl _ _ rfl l0 ?_);simp only[pts])
   | (guard_target =~ wpList _ _ _ (Oper.mk _ (Op.store 30 _ _) _ _ _ _::_) _ _;go_must (refine wpList_st 30 _ _ rfl rfl _ _ rfl rfl SF ?_);simp only[pts])
   | (go_at_call 16;refine cI.mono ?_;rintro _ w1 ⟨rfl,hb1⟩;obtain⟨-,-,r1,b1⟩:=LF.out w1 hb1;have SF:=fm_st r1 rfl zFm none 0;replace r1:=Hid.mk r1;replace b1:=Hid.mk b1;clear hb1))
  exact bodyPost_ret (res_cell_slot (v2:=.int .i64 121) rfl _ _ (w.heap.size+1) 30 _ _ rfl rfl (setRow_heap _ _ _ _ _ _ r1.out) Tryz.underlying30 rfl J.infoFm) rfl (NO.out w1 121 r1.out b1.out hE.out (by decide))
theorem pLives_any {w:World} {f:Fm} {pp:Option Addr} {cp:Nat} (hC:PCk w f pp cp) (tl:TkL w pp w.heap.size f.toks) (hlm:f.toks.length*192<=140737488351232) (i v:Int) :
  Calls Tryz.prog 10 #[fmV f pp cp,.int .i64 i,.int .i64 v] w fun e w'=>e = .returned (.bool (livB f i v))/\Below w.heap.size w w':=by
 have hb:=bel1 w (fmO f pp cp)
 have H1:=heap_al w (fmO f pp cp)
 have hs1:(w.alloc (fmO f pp cp)).heap.size=w.heap.size+1:=World.size_alloc _ _
 generalize hW:w.alloc (fmO f pp cp)=W1 at hb H1 hs1
 simp only[fmO] at hW
 have LF:=(J.fm_of H1).load
 have c12:=(J.fm_of H1).c12
 have cI:=isForm_any hC W1 hb
 have HB:Hid _:=⟨hb⟩
 have hll:f.toks.length<=733007751850:=by omega
 by_cases h0:0<=i
 ·obtain⟨n,rfl⟩:∃ n:Nat,i=n:=⟨i.toNat,by omega⟩
  have d0:decide ((0:Int)<=(n:Int))=true:=by simp
  by_cases h1:(n:Int)<f.toks.length
  ·have d1:decide ((n:Int)<f.toks.length)=true:=by simp;omega
   by_cases hz:chkZ f=none
   ·rw[decide_eq_true hz] at cI
    have CC:Hid (∀ X,Below W1.heap.size W1 X->X.cell? ⟨w.heap.size,12,none⟩=some (.slice pp f.toks.length cp)/\Calls Tryz.prog 23 #[.slice pp f.toks.length cp] X fun e w'=>∃ v,e = .returned v/\NRow w' X.heap.size v (camZ f)/\Below w.heap.size w w'):=⟨fun X h=>by
     have hx:=hb.trans (h.mono hb.size)
     exact⟨cell_at ((h.block _ (by omega)).trans H1) 12,(comings_any f pp cp X hz ((tl.below hx).mono hx.size) hlm).mono fun e w' ⟨v,e1,e2,e3⟩=>⟨v,e1,e2,hx.trans (e3.mono hx.size)⟩⟩⟩
    obtain⟨c,hc⟩:∃ c,(camZ f)[n]?=some c:=⟨(camZ f)[n]'(by rw[camZ_length];omega),List.getElem?_eq_getElem _⟩
    have hE:livB f (n:Int) v=decide ((c:Int)<=v):=by
     unfold livB
     rw[decide_eq_true hz,decide_eq_true (show (0:Int)<=n/\(n:Int)<f.toks.length by omega),Int.toNat_natCast,List.getD_eq_getElem?_getD,hc]
     rfl
    have hcl:(n:Int)<(camZ f).length:=by rw[camZ_length];omega
    rw[hE]
    clear hz hE tl hC hlm H1 hb hs1
    go_enter Tryz.func10,Tryz.ntmps10
    go_wp2_with (first
     | (guard_target =~ wpList _ _ _ (Oper.mk _ (Op.load 30 _) _ _ _ _::_) _ _;go_must (refine wpList_ld 30 _ rfl rfl _ _ rfl LF ?_);simp only[pts])
     | (go_at_call 16;refine cI.mono ?_;rintro _ w2 ⟨rfl,hb2⟩;obtain⟨y12,cC⟩:=CC.out w2 hb2;clear hb2)
     | (go_at_call 23;refine cC.mono ?_;rintro _ w3 ⟨vc,rfl,q1,q2⟩;obtain⟨pv,cv,rfl,-⟩:=q1.shape;obtain⟨gc,rfl,-,-,k1⟩:=q1.cellP hc;replace q2:=Hid.mk q2;clear q1))
    go_ret
    exact⟨rfl,q2.out⟩
   ·rw[decide_eq_false hz] at cI
    have hE:livB f (n:Int) v=false:=by unfold livB;rw[decide_eq_false hz];rfl
    rw[hE]
    clear hz hE tl hC hlm H1 hb hs1
    go_enter Tryz.func10,Tryz.ntmps10
    go_wp2_with (first
     | (guard_target =~ wpList _ _ _ (Oper.mk _ (Op.load 30 _) _ _ _ _::_) _ _;go_must (refine wpList_ld 30 _ rfl rfl _ _ rfl LF ?_);simp only[pts])
     | (go_at_call 16;refine cI.mono ?_;rintro _ w2 ⟨rfl,hb2⟩;replace hb2:=Hid.mk hb2))
    go_ret
    exact⟨rfl,HB.out.trans (hb2.out.mono HB.out.size)⟩
  ·have d1:decide ((n:Int)<f.toks.length)=false:=by simp;omega
   have hE:livB f (n:Int) v=false:=by unfold livB;rw[decide_eq_false (show ¬ ((0:Int)<=n/\(n:Int)<f.toks.length) by omega),Bool.and_false];rfl
   rw[hE]
   have d2:decide (n<f.toks.length)=false:=by simp;omega
   have h2:¬ n<f.toks.length:=by omega
   clear hE tl hC hlm H1 hb hs1
   go_enter Tryz.func10,Tryz.ntmps10
   go_wp2_with fail
   go_ret
   exact⟨rfl,HB.out⟩
 ·have d0:decide ((0:Int)<=i)=false:=by simp;omega
  have hE:livB f i v=false:=by unfold livB;rw[decide_eq_false (show ¬ ((0:Int)<=i/\i<f.toks.length) by omega),Bool.and_false];rfl
  rw[hE]
  clear hE tl hC hlm H1 hb hs1 h0
  go_enter Tryz.func10,Tryz.ntmps10
  go_wp2_with fail
  go_ret
  exact⟨rfl,HB.out⟩
def DCk (w:World) (f:Fm) (pp:Option Addr) (cp:Nat):Prop:=∀ W,Below w.heap.size w W->Calls Tryz.prog 19 #[fmV f pp cp] W fun r w'=>r = .returned (.tuple #[.int .i64 (errZ (chkZ f)),.int .i64 (atZ (chkZ f))])/\Below W.heap.size W w'
theorem dLives_any {w:World} {f:Fm} {pp:Option Addr} {cp:Nat} (hC:DCk w f pp cp) (tl:TkL w pp w.heap.size f.toks) (hlm:f.toks.length*192<=140737488351232) (i v:Int) :
  Calls Tryz.prog 11 #[fmV f pp cp,.int .i64 i,.int .i64 v] w fun e w'=>e = .returned (.bool (livB f i v))/\Below w.heap.size w w':=by
 have hb:=bel1 w (fmO f pp cp)
 have H1:=heap_al w (fmO f pp cp)
 have hs1:(w.alloc (fmO f pp cp)).heap.size=w.heap.size+1:=World.size_alloc _ _
 generalize hW:w.alloc (fmO f pp cp)=W1 at hb H1 hs1
 simp only[fmO] at hW
 have LF:=(J.fm_of H1).load
 have cK:=hC W1 hb
 have HB:Hid _:=⟨hb⟩
 have hll:f.toks.length<=733007751850:=by omega
 have hX:Hid (∀ X,Below W1.heap.size W1 X->X.heap[w.heap.size]?=some (fmO f pp cp)):=⟨fun X h=>(h.block _ (by omega)).trans H1⟩
 cases hz:chkZ f with
 | some z =>
  rw[hz] at cK
  have e121:errZ (some z)=121:=rfl
  rw[e121] at cK
  generalize atZ (some z)=A at cK
  have hE:livB f i v=false:=by unfold livB;rw[decide_eq_false (by rw[hz];exact nofun)];rfl
  rw[hE]
  clear hz hE tl hC hlm H1 hb hs1 e121 hX
  go_enter Tryz.func11,Tryz.ntmps11
  go_wp2_with (first
   | (guard_target =~ wpList _ _ _ (Oper.mk _ (Op.load 30 _) _ _ _ _::_) _ _;go_must (refine wpList_ld 30 _ rfl rfl _ _ rfl LF ?_);simp only[pts])
   | (go_at_call 19;refine cK.mono ?_;rintro _ w2 ⟨rfl,hb2⟩;replace hb2:=Hid.mk hb2))
  go_ret
  exact⟨rfl,HB.out.trans (hb2.out.mono HB.out.size)⟩
 | none =>
  rw[hz] at cK
  have e0:errZ none=0:=rfl
  rw[e0] at cK
  generalize atZ none=A at cK
  have CC:Hid (∀ X,Below W1.heap.size W1 X->(Instr.loadAt 30 (.pointer (some ⟨w.heap.size,0,none⟩))).run Tryz.prog X = .ok (fmV f pp cp) X/\X.cell? ⟨w.heap.size,12,none⟩=some (.slice pp f.toks.length cp)/\Calls Tryz.prog 20 #[fmV f pp cp] X fun e w'=>∃ v,e = .returned v/\NRow w' X.heap.size v (camZ f)/\Below w.heap.size w w'):=⟨fun X h=>by
   have hx:=hb.trans (h.mono hb.size)
   exact⟨(J.fm_of (hX.out X h)).load,cell_at (hX.out X h) 12,(dCame_any f pp cp X hz ((tl.below hx).mono hx.size) hlm).mono fun e w' ⟨v,e1,e2,e3⟩=>⟨v,e1,e2,hx.trans (e3.mono hx.size)⟩⟩⟩
  have hBB:Hid (∀ X,Below W1.heap.size W1 X->Below w.heap.size w X):=⟨fun X h=>hb.trans (h.mono hb.size)⟩
  by_cases h0:0<=i
  ·obtain⟨n,rfl⟩:∃ n:Nat,i=n:=⟨i.toNat,by omega⟩
   have d0:decide ((n:Int)<0)=false:=by simp
   by_cases h1:(n:Int)<f.toks.length
   ·have d1:decide ((f.toks.length:Int)<=(n:Int))=false:=by simp;omega
    have h1n:n<f.toks.length:=by omega
    have h2n:¬ f.toks.length<=n:=by omega
    obtain⟨c,hc⟩:∃ c,(camZ f)[n]?=some c:=⟨(camZ f)[n]'(by rw[camZ_length];omega),List.getElem?_eq_getElem _⟩
    have hE:livB f (n:Int) v=decide ((c:Int)<=v):=by
     unfold livB
     rw[decide_eq_true hz,decide_eq_true (show (0:Int)<=n/\(n:Int)<f.toks.length by omega),Int.toNat_natCast,List.getD_eq_getElem?_getD,hc]
     rfl
    have hcl:(n:Int)<(camZ f).length:=by rw[camZ_length];omega
    rw[hE]
    clear hz hE tl hC hlm H1 hb hs1 hX h0
    go_enter Tryz.func11,Tryz.ntmps11
    go_wp2_with (first
     | (guard_target =~ wpList _ _ _ (Oper.mk _ (Op.load 30 _) _ _ _ _::_) _ _;go_must (first|refine wpList_ld 30 _ rfl rfl _ _ rfl LF ?_|refine wpList_ld 30 _ rfl rfl _ _ rfl LF2 ?_);simp only[pts])
     | (go_at_call 19;refine cK.mono ?_;rintro _ w2 ⟨rfl,hb2⟩;obtain⟨LF2,y12,cC⟩:=CC.out w2 hb2;clear hb2)
     | (go_at_call 20;refine cC.mono ?_;rintro _ w3 ⟨vc,rfl,q1,q2⟩;obtain⟨pv,cv,rfl,-⟩:=q1.shape;obtain⟨gc,rfl,-,-,k1⟩:=q1.cellP hc;replace q2:=Hid.mk q2;clear q1))
    go_ret
    exact⟨rfl,q2.out⟩
   ·have d1:decide ((f.toks.length:Int)<=(n:Int))=true:=by simp;omega
    have h1n:f.toks.length<=n:=by omega
    have h1i:(f.toks.length:Int)<=n:=by omega
    have hE:livB f (n:Int) v=false:=by unfold livB;rw[decide_eq_false (show ¬ ((0:Int)<=n/\(n:Int)<f.toks.length) by omega),Bool.and_false];rfl
    rw[hE]
    clear hE tl hC hlm H1 hb hs1 hX h0 hz
    go_enter Tryz.func11,Tryz.ntmps11
    go_wp2_with (first
     | (guard_target =~ wpList _ _ _ (Oper.mk _ (Op.load 30 _) _ _ _ _::_) _ _;go_must (refine wpList_ld 30 _ rfl rfl _ _ rfl LF ?_);simp only[pts])
     | (go_at_call 19;refine cK.mono ?_;rintro _ w2 ⟨rfl,hb2⟩;obtain⟨-,y12,-⟩:=CC.out w2 hb2;replace hb2:=Hid.mk hb2))
    go_ret
    exact⟨rfl,hBB.out _ hb2.out⟩
  ·have d0:decide (i<0)=true:=by simp;omega
   have hE:livB f i v=false:=by unfold livB;rw[decide_eq_false (show ¬ ((0:Int)<=i/\i<f.toks.length) by omega),Bool.and_false];rfl
   rw[hE]
   clear hE tl hC hlm H1 hb hs1 h0 hX hz
   go_enter Tryz.func11,Tryz.ntmps11
   go_wp2_with (first
    | (guard_target =~ wpList _ _ _ (Oper.mk _ (Op.load 30 _) _ _ _ _::_) _ _;go_must (refine wpList_ld 30 _ rfl rfl _ _ rfl LF ?_);simp only[pts])
    | (go_at_call 19;refine cK.mono ?_;rintro _ w2 ⟨rfl,hb2⟩;obtain⟨-,y12,-⟩:=CC.out w2 hb2;replace hb2:=Hid.mk hb2))
   go_ret
   exact⟨rfl,hBB.out _ hb2.out⟩
theorem dAt_no {w:World} {f:Fm} {pp:Option Addr} {cp:Nat} (hC:DCk w f pp cp) (tl:TkL w pp w.heap.size f.toks) (v:Int) (hne:atE f v≠0) :
  Calls Tryz.prog 7 #[fmV f pp cp,.int .i64 v] w fun e w'=>e = .returned (.tuple #[fmV zFm none 0,.int .i64 (atE f v)])/\Below w.heap.size w w':=by
 have HB:Below w.heap.size w ((w.alloc (fmO f pp cp)).alloc J.zFo):=two_b _ _ _
 have H1:=two_1 w (fmO f pp cp) J.zFo
 have H2:=two_2 w (fmO f pp cp) J.zFo
 have HS:((w.alloc (fmO f pp cp)).alloc J.zFo).heap.size=w.heap.size+2:=by simp
 generalize hW:(w.alloc (fmO f pp cp)).alloc J.zFo=W0 at HB H1 H2 HS
 simp only[fmO,J.zFo] at hW
 have cK:=hC W0 HB
 have hT:Hid _:=⟨tl⟩
 have LF:Hid (∀ X,Below W0.heap.size W0 X->(Instr.loadAt 30 (.pointer (some ⟨w.heap.size,0,none⟩))).run Tryz.prog X = .ok (fmV f pp cp) X/\X.cell? ⟨w.heap.size,2,none⟩=some (.int .i64 f.ver)/\X.cell? ⟨w.heap.size,12,none⟩=some (.slice pp f.toks.length cp)/\X.heap[w.heap.size+1]?=some J.zFo/\Below w.heap.size w X/\∀ gf ofs t,pp=some ⟨gf,ofs,none⟩->f.toks[0]?=some t->X.cell? ⟨gf,ofs+5,none⟩=some (.int .i64 t.since)):=⟨fun X hb=>⟨(J.fm_of ((hb.block _ (by omega)).trans H1)).load,cell_at ((hb.block _ (by omega)).trans H1) 2,cell_at ((hb.block _ (by omega)).trans H1) 12,(hb.block _ (by omega)).trans H2,HB.trans (hb.mono HB.size),fun gf ofs t e ht=>by
  obtain⟨gf',ofs',pc,cc,e',hgf,hTk,-,-⟩:=hT.out.row.c 0 t ht
  rw[e] at e'
  cases e'
  have:=(hTk.below hgf (HB.trans (hb.mono HB.size))).c5
  simpa using this⟩⟩
 obtain⟨l0,-,-,-⟩:=LF.out W0 (Below.refl _ _)
 have NO:Hid (∀ (X:World) (E:Int),X.heap[w.heap.size+1]?=some J.zFo->Below w.heap.size w X->atE f v=E->E≠0->(.returned (.tuple #[.agg (J.fmC zFm none 0),.int .i64 E]):Ending) = .returned (.tuple #[fmV zFm none 0,.int .i64 (atE f v)])/\Below w.heap.size w (X.setRow (w.heap.size+1) (J.fmC zFm none 0))):=⟨fun X E hx hb he hne=>by
  rw[he]
  exact⟨rfl,hb.trans ⟨rfl,rfl,rfl,by rw[size_setRow];exact Nat.le_refl _,fun k hk=>setRow_other _ _ _ _ (by omega)⟩⟩⟩
 clear tl HB H1 H2 HS
 cases hz:chkZ f with
 | some z =>
  rw[hz] at cK
  have e121:errZ (some z)=121:=rfl
  rw[e121] at cK
  generalize atZ (some z)=A at cK
  have hE:Hid (atE f v=121):=⟨by unfold atE;rw[if_neg (by rw[hz];exact nofun)]⟩
  clear hz e121 hne
  go_enter Tryz.func7,Tryz.ntmps7
  go_wp2_with (first
   | (guard_target =~ wpList _ _ _ (Oper.mk _ (Op.load 30 _) _ _ _ _::_) _ _;go_must (refine wpList_ld 30 _ rfl rfl _ _ rfl l0 ?_);simp only[pts])
   | (guard_target =~ wpList _ _ _ (Oper.mk _ (Op.store 30 _ _) _ _ _ _::_) _ _;go_must (refine wpList_st 30 _ _ rfl rfl _ _ rfl rfl SF ?_);simp only[pts])
   | (go_at_call 19;refine cK.mono ?_;rintro _ w1 ⟨rfl,hb1⟩;obtain⟨-,x2,x12,r1,b1,-⟩:=LF.out w1 hb1;have SF:=fm_st r1 rfl zFm none 0;replace r1:=Hid.mk r1;replace b1:=Hid.mk b1;clear hb1))
  exact bodyPost_ret (res_cell_slot (v2:=.int .i64 121) rfl _ _ (w.heap.size+1) 30 _ _ rfl rfl (setRow_heap _ _ _ _ _ _ r1.out) Tryz.underlying30 rfl J.infoFm) rfl (NO.out w1 121 r1.out b1.out hE.out (by decide))
 | none =>
  rw[hz] at cK
  have e0:errZ none=0:=rfl
  rw[e0] at cK
  generalize atZ none=A at cK
  obtain⟨t,ht,-⟩:=first_msg hz
  obtain⟨gf,ofs,pc,cc,rfl,-⟩:=hT.out.row.c 0 t ht
  have hf:fstV f=t.since:=by unfold fstV;rw[ht]
  have hE:Hid (atE f v=130):=⟨by
   unfold atE at hne ⊢
   rw[if_pos hz] at hne ⊢
   split at hne
   ·exact absurd rfl hne
   ·rename_i h;rw[if_neg h]⟩
  have hlen:0<f.toks.length:=(List.getElem?_eq_some_iff.1 ht).1
  have hlI:(0:Int)<f.toks.length:=by omega
  have hor:v<t.since\/(¬ v<t.since/\f.ver<v):=by
   unfold atE at hne
   rw[if_pos hz,hf] at hne
   split at hne
   ·exact absurd rfl hne
   ·omega
  replace ht:=Hid.mk ht
  clear hz e0 hne hf
  rcases hor with h1|⟨h1,h2⟩
  ·have d1:decide (v<t.since)=true:=by simp[h1]
   go_enter Tryz.func7,Tryz.ntmps7
   go_wp2_with (first
    | (guard_target =~ wpList _ _ _ (Oper.mk _ (Op.load 30 _) _ _ _ _::_) _ _;go_must (refine wpList_ld 30 _ rfl rfl _ _ rfl l0 ?_);simp only[pts])
    | (guard_target =~ wpList _ _ _ (Oper.mk _ (Op.store 30 _ _) _ _ _ _::_) _ _;go_must (refine wpList_st 30 _ _ rfl rfl _ _ rfl rfl SF ?_);simp only[pts])
    | (go_at_call 19;refine cK.mono ?_;rintro _ w1 ⟨rfl,hb1⟩;obtain⟨-,x2,x12,r1,b1,xs⟩:=LF.out w1 hb1;have SF:=fm_st r1 rfl zFm none 0;replace r1:=Hid.mk r1;replace b1:=Hid.mk b1;have x5:=xs _ _ _ rfl ht.out;clear hb1 xs))
   exact bodyPost_ret (res_cell_slot (v2:=.int .i64 130) rfl _ _ (w.heap.size+1) 30 _ _ rfl rfl (setRow_heap _ _ _ _ _ _ r1.out) Tryz.underlying30 rfl J.infoFm) rfl (NO.out w1 130 r1.out b1.out hE.out (by decide))
  ·have d1:decide (v<t.since)=false:=by simp[h1]
   have d2:decide (f.ver<v)=true:=by simp[h2]
   go_enter Tryz.func7,Tryz.ntmps7
   go_wp2_with (first
    | (guard_target =~ wpList _ _ _ (Oper.mk _ (Op.load 30 _) _ _ _ _::_) _ _;go_must (refine wpList_ld 30 _ rfl rfl _ _ rfl l0 ?_);simp only[pts])
    | (guard_target =~ wpList _ _ _ (Oper.mk _ (Op.store 30 _ _) _ _ _ _::_) _ _;go_must (refine wpList_st 30 _ _ rfl rfl _ _ rfl rfl SF ?_);simp only[pts])
    | (go_at_call 19;refine cK.mono ?_;rintro _ w1 ⟨rfl,hb1⟩;obtain⟨-,x2,x12,r1,b1,xs⟩:=LF.out w1 hb1;have SF:=fm_st r1 rfl zFm none 0;replace r1:=Hid.mk r1;replace b1:=Hid.mk b1;have x5:=xs _ _ _ rfl ht.out;clear hb1 xs))
   exact bodyPost_ret (res_cell_slot (v2:=.int .i64 130) rfl _ _ (w.heap.size+1) 30 _ _ rfl rfl (setRow_heap _ _ _ _ _ _ r1.out) Tryz.underlying30 rfl J.infoFm) rfl (NO.out w1 130 r1.out b1.out hE.out (by decide))
end Go.Proofs.YtkcjdncchoohoaaGreatDoor
