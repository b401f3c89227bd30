import Derived.Test.YtahogajcbncjhaaGreatDoorK27
namespace Go.Proofs.YtahogajcbncjhaaGreatDoor
set_option maxRecDepth 1000000
set_option maxHeartbeats 16000000
open Go.ChangeShapes Go.WideShapes Go.ChangeAt Go.RowKit Go.Shelf Go.Maps
def PCk (w:World) (f:Fm) (pp:Option Addr) (cp:Nat):Prop:=∀ W,Below w.heap.size w W->Calls Tryz.prog 7 #[fmV f pp cp] W fun r w'=>r = .returned (.tuple #[.int .i64 (errZ (chkZ f)),.int .i64 (atZ (chkZ f))])/\Below W.heap.size W w'
theorem pCk_of (f:Fm) (pp:Option Addr) (cp:Nat) (w:World) (tl:TkL w pp w.heap.size f.toks) (kt:KT w) (mt:MT w):PCk w f pp cp:=fun W hb=>Check_any f pp cp W ((tl.below hb).mono hb.size) (kt.up hb) (mt.below mt.pos hb)
theorem errZ_iff (o:Option Int):(errZ o==0)=decide (o=none):=by
 cases o with
 | none=>rfl
 | some z=>rfl
theorem isForm_any {w:World} {f:Fm} {pp:Option Addr} {cp:Nat} (hC:PCk w f pp cp) (W:World) (hW:Below w.heap.size w W) :
  Calls Tryz.prog 19 #[fmV f pp cp] W fun r w'=>r = .returned (.bool (decide (chkZ f=none)))/\Below W.heap.size W w':=by
 have hb:=bel1 W (fmO f pp cp)
 have cK:=hC _ (hW.trans (hb.mono hW.size))
 have LF:=(J.fm_of (heap_al W (fmO f pp cp))).load
 rw[<- errZ_iff]
 generalize errZ (chkZ f)=E at cK ⊢
 generalize atZ (chkZ f)=A at cK
 have HB:Hid _:=⟨hb⟩
 clear hb
 go_enter Tryz.func19,Tryz.ntmps19
 go_wp2_with (first
  | (guard_target =~ wpList _ _ _ (Oper.mk _ (Op.load 30 _) _ _ _ _::_) _ _;go_must (refine wpList_ld 30 _ rfl rfl _ _ rfl LF ?_);simp only[pts])
  | (go_at_call 7;refine cK.mono ?_;rintro _ w1 ⟨rfl,hb1⟩;replace hb1:=Hid.mk hb1))
 go_ret
 exact⟨rfl,HB.out.trans (hb1.out.mono HB.out.size)⟩
theorem firstOf_any {W:World} {f:Fm} {pp:Option Addr} {cp:Nat} (hz:chkZ f=none) (tl:TkL W pp W.heap.size f.toks) :
  Calls Tryz.prog 20 #[fmV f pp cp] W fun r w'=>r = .returned (.int .i64 (fstV f))/\Below W.heap.size W w':=by
 obtain⟨t,ht,-⟩:=first_msg hz
 have e:fstV f=t.since:=by unfold fstV;rw[ht]
 rw[e]
 have hb:=bel1 W (fmO f pp cp)
 have c12:=(J.fm_of (heap_al W (fmO f pp cp))).c12
 obtain⟨g,o,pc,cc,rfl,hg,hT,-⟩:=tl.row.c 0 t ht
 have a5:=(hT.below hg hb).c5
 have hl:(0:Int)<f.toks.length:=by have:=(List.getElem?_eq_some_iff.1 ht).1;omega
 simp only[Nat.zero_mul,Nat.add_zero] at a5
 generalize hW:W.alloc (fmO f (some ⟨g,o,none⟩) cp)=W1 at hb c12 a5
 simp only[fmO] at hW
 have HB:Hid _:=⟨hb⟩
 clear hb hT
 go_enter Tryz.func20,Tryz.ntmps20
 go_wp2_with fail
 go_ret
 exact⟨rfl,HB.out⟩
theorem res_cell_slot {P:Program} {fn:Func} {p q:Tmp} {ty:TypeId} (h:fn.results=#[.cell p ty,.tmp q]) (tmps:Array Value) (w:World) (g:Nat) (t:TypeId) (cs:Array Value) (d:TypeDesc) {v2:Value} (hp:tmps.getD p undef = .pointer (some ⟨g,0,none⟩)) (hq:tmps.getD q undef=v2) (hg:w.heap[g]?=some (.cells cs t))
  (hu:P.underlying ty=some d) (hd:(match d with | .struct _ | .array _ _=>true|_=>false)=true) (hi:(P.info? ty).map (·.size)=some cs.size) :
  (results fn tmps).run P w = .ok (.tuple #[.agg cs,v2]) w:=by
 subst hq
 have hp':tmps[p]?.getD undef = .pointer (some ⟨g,0,none⟩):=by simpa using hp
 simp[results,h,hp',asAddr,run_loadVar_row w g t ty cs (0,0) d hg hu hd hi]
def zFm:Fm:=⟨0,0,0,0,⟨0,0⟩,⟨0,0⟩,⟨0,0⟩,⟨0,0⟩,[]⟩
def atG (f:Fm) (v:Int):Fm:=if atE f v=0 then atF f v else zFm
theorem pAt_any {w:World} {f:Fm} {pp:Option Addr} {cp:Nat} (hC:PCk w f pp cp) (tl:TkL w pp w.heap.size f.toks) (hlm:f.toks.length*192<=140737488351232) (v:Int) :
  Calls Tryz.prog 6 #[fmV f pp cp,.int .i64 v] w fun e w'=>∃ pp' cp' ks,e = .returned (.tuple #[fmV (atG f v) pp' cp',.int .i64 (atE f v)])/\ks.map Ktp.t=(atG f v).toks/\KtR w' w.heap.size (.slice pp' ks.length cp') ks/\Below w.heap.size w w':=by
 have HB:Below w.heap.size w ((w.alloc (fmO f pp cp)).alloc J.zFo):=two_b _ _ _
 have H1:=two_1 w (fmO f pp cp) J.zFo
 have H2:=two_2 w (fmO f pp cp) J.zFo
 have HS:((w.alloc (fmO f pp cp)).alloc J.zFo).heap.size=w.heap.size+2:=by simp
 generalize hW:(w.alloc (fmO f pp cp)).alloc J.zFo=W0 at HB H1 H2 HS
 simp only[fmO,J.zFo] at hW
 have cI:=isForm_any hC W0 HB
 have LF:Hid (∀ X,Below W0.heap.size W0 X->(Instr.loadAt 30 (.pointer (some ⟨w.heap.size,0,none⟩))).run Tryz.prog X = .ok (fmV f pp cp) X/\X.cell? ⟨w.heap.size,2,none⟩=some (.int .i64 f.ver)/\X.heap[w.heap.size+1]?=some J.zFo/\Below w.heap.size w X):=⟨fun X hb=>⟨(J.fm_of ((hb.block _ (by omega)).trans H1)).load,cell_at ((hb.block _ (by omega)).trans H1) 2,(hb.block _ (by omega)).trans H2,HB.trans (hb.mono HB.size)⟩⟩
 obtain⟨l0,-,-,-⟩:=LF.out W0 (Below.refl _ _)
 have hT:Hid _:=⟨tl⟩
 have hLM:Hid _:=⟨hlm⟩
 have HS2:Hid (∀ X,Below W0.heap.size W0 X->w.heap.size+1<X.heap.size):=⟨fun X h=>by have:=h.size;omega⟩
 have NO:Hid (∀ (X:World) (E:Int),X.heap[w.heap.size+1]?=some J.zFo->Below w.heap.size w X->atE f v=E->E≠0->∃ pp' cp' ks,(.returned (.tuple #[.agg (J.fmC zFm none 0),.int .i64 E]):Ending) = .returned (.tuple #[fmV (atG f v) pp' cp',.int .i64 (atE f v)])/\ks.map Ktp.t=(atG f v).toks/\KtR (X.setRow (w.heap.size+1) (J.fmC zFm none 0)) w.heap.size (.slice pp' ks.length cp') ks/\Below w.heap.size w (X.setRow (w.heap.size+1) (J.fmC zFm none 0))):=⟨fun X E hx hb he hne=>by
  have eG:atG f v=zFm:=by unfold atG;rw[if_neg (by rw[he];exact hne)]
  rw[eG,he]
  exact⟨none,0,[],rfl,rfl,KtR.nil _ _,hb.trans ⟨rfl,rfl,rfl,by rw[size_setRow];exact Nat.le_refl _,fun k hk=>setRow_other _ _ _ _ (by omega)⟩⟩⟩
 clear tl hlm HB H1 H2 HS
 by_cases hz:chkZ f=none
 ·rw[decide_eq_true hz] at cI
  have CF:Hid (∀ X,Below W0.heap.size W0 X->Below w.heap.size w X->Calls Tryz.prog 20 #[fmV f pp cp] X fun r w'=>r = .returned (.int .i64 (fstV f))/\Below W0.heap.size W0 w'):=⟨fun X h1 h2=>(firstOf_any hz ((hT.out.below h2).mono h2.size)).mono fun r w' hP=>⟨hP.1,h1.trans (hP.2.mono h1.size)⟩⟩
  have CA:Hid (∀ X,Below w.heap.size w X->Calls Tryz.prog 21 #[fmV f pp cp,.int .i64 v] X fun e w'=>∃ pp' cp' ks,e = .returned (fmV (atF f v) pp' cp')/\ks.map Ktp.t=(atF f v).toks/\KtR w' X.heap.size (.slice pp' ks.length cp') ks/\Below X.heap.size X w'):=⟨fun X h=>formAt_any f pp cp v X hz ((hT.out.below h).mono h.size) hLM.out⟩
  by_cases h1:v<fstV f
  ·have d1:decide (v<fstV f)=true:=by simp[h1]
   have hE:Hid (atE f v=130):=⟨by unfold atE;rw[if_pos hz,if_neg (by omega)]⟩
   clear hz h1
   go_enter Tryz.func6,Tryz.ntmps6
   go_wp2_with (first
    | (guard_target =~ wpList _ _ _ (Oper.mk _ (Op.load 30 _) _ _ _ _::_) _ _;go_must (refine wpList_ld 30 _ rfl rfl _ _ rfl l0 ?_);simp only[pts])
    | (guard_target =~ wpList _ _ _ (Oper.mk _ (Op.store 30 _ _) _ _ _ _::_) _ _;go_must (refine wpList_st 30 _ _ rfl rfl _ _ rfl rfl SF ?_);simp only[pts])
    | (go_at_call 19;refine cI.mono ?_;rintro _ wa ⟨rfl,ha⟩;obtain⟨la,-,-,ba⟩:=LF.out wa ha;clear l0;have l0:=la;have cF:=CF.out wa ha ba;clear la ba)
    | (go_at_call 20;refine cF.mono ?_;rintro _ w1 ⟨rfl,hb1⟩;obtain⟨-,x2,r1,b1⟩:=LF.out w1 hb1;have SF:=fm_st r1 rfl zFm none 0;replace r1:=Hid.mk r1;replace b1:=Hid.mk b1;clear hb1))
   exact bodyPost_ret (res_cell_slot (v2:=.int .i64 130) rfl _ _ (w.heap.size+1) 30 _ _ rfl rfl (setRow_heap _ _ _ _ _ _ r1.out) Tryz.underlying30 rfl J.infoFm) rfl (NO.out w1 130 r1.out b1.out hE.out (by decide))
  ·have d1:decide (v<fstV f)=false:=by simp[h1]
   by_cases h2:f.ver<v
   ·have d2:decide (f.ver<v)=true:=by simp[h2]
    have hE:Hid (atE f v=130):=⟨by unfold atE;rw[if_pos hz,if_neg (by omega)]⟩
    clear hz h1 h2
    go_enter Tryz.func6,Tryz.ntmps6
    go_wp2_with (first
     | (guard_target =~ wpList _ _ _ (Oper.mk _ (Op.load 30 _) _ _ _ _::_) _ _;go_must (refine wpList_ld 30 _ rfl rfl _ _ rfl l0 ?_);simp only[pts])
     | (guard_target =~ wpList _ _ _ (Oper.mk _ (Op.store 30 _ _) _ _ _ _::_) _ _;go_must (refine wpList_st 30 _ _ rfl rfl _ _ rfl rfl SF ?_);simp only[pts])
     | (go_at_call 19;refine cI.mono ?_;rintro _ wa ⟨rfl,ha⟩;obtain⟨la,-,-,ba⟩:=LF.out wa ha;clear l0;have l0:=la;have cF:=CF.out wa ha ba;clear la ba)
     | (go_at_call 20;refine cF.mono ?_;rintro _ w1 ⟨rfl,hb1⟩;obtain⟨-,x2,r1,b1⟩:=LF.out w1 hb1;have SF:=fm_st r1 rfl zFm none 0;replace r1:=Hid.mk r1;replace b1:=Hid.mk b1;clear hb1))
    exact bodyPost_ret (res_cell_slot (v2:=.int .i64 130) rfl _ _ (w.heap.size+1) 30 _ _ rfl rfl (setRow_heap _ _ _ _ _ _ r1.out) Tryz.underlying30 rfl J.infoFm) rfl (NO.out w1 130 r1.out b1.out hE.out (by decide))
   ·have d2:decide (f.ver<v)=false:=by simp[h2]
    have hE:atE f v=0:=by unfold atE;rw[if_pos hz,if_pos (by omega)]
    have hG:atG f v=atF f v:=by unfold atG;rw[if_pos hE]
    rw[hG,hE]
    clear hz h1 h2 hG hE NO
    go_enter Tryz.func6,Tryz.ntmps6
    go_wp2_with (first
     | (guard_target =~ wpList _ _ _ (Oper.mk _ (Op.load 30 _) _ _ _ _::_) _ _;go_must (refine wpList_ld 30 _ rfl rfl _ _ rfl l0 ?_);simp only[pts])
     | (guard_target =~ wpList _ _ _ (Oper.mk _ (Op.store 30 _ _) _ _ _ _::_) _ _;go_must (refine wpList_st 30 _ _ rfl rfl _ _ rfl rfl SF ?_);simp only[pts])
     | (go_at_call 19;refine cI.mono ?_;rintro _ wa ⟨rfl,ha⟩;obtain⟨la,-,-,ba⟩:=LF.out wa ha;clear l0;have l0:=la;have cF:=CF.out wa ha ba;clear la ba)
     | (go_at_call 20;refine cF.mono ?_;rintro _ w1 ⟨rfl,hb1⟩;obtain⟨l1,x2,r1,b1⟩:=LF.out w1 hb1;clear l0;have l0:=l1;clear l1;have cA:=CA.out w1 b1;have hs1:=HS2.out w1 hb1;replace r1:=Hid.mk r1;replace b1:=Hid.mk b1;clear hb1)
     | (go_at_call 21;refine cA.mono ?_;rintro _ w2 ⟨pp',cp',ks,rfl,k1,k2,k3⟩;have SF:=fm_st ((k3.block _ hs1).trans r1.out) rfl (atF f v) pp' cp';replace k1:=Hid.mk k1;replace k2:=Hid.mk k2;replace k3:=Hid.mk k3))
    refine bodyPost_ret (res_cell_slot (v2:=.int .i64 0) rfl _ _ (w.heap.size+1) 30 _ _ rfl rfl (setRow_heap _ _ _ _ _ _ ((k3.out.block _ hs1).trans r1.out)) Tryz.underlying30 rfl J.infoFm) rfl ⟨pp',cp',ks,rfl,k1.out,?_,?_⟩
    ·have h1:=k2.out.keep (W':=w2.setRow (w.heap.size+1) (J.fmC (atF f v) pp' cp')) (by rw[size_setRow];exact Nat.le_refl _) fun k hk _ _=>setRow_other _ _ _ _ (by omega)
     refine⟨own_lower h1.row (by omega),fun x hx=>?_⟩
     obtain⟨a1,a2,a3⟩:=h1.u x hx
     exact⟨a1,a2,fun g o e=>⟨by have:=(a3 g o e).1;omega,(a3 g o e).2⟩⟩
    ·exact(b1.out.trans (k3.out.mono b1.out.size)).trans ⟨rfl,rfl,rfl,by rw[size_setRow];exact Nat.le_refl _,fun k hk=>setRow_other _ _ _ _ (by omega)⟩
 ·rw[decide_eq_false hz] at cI
  have hE:Hid (atE f v=121):=⟨by unfold atE;rw[if_neg hz]⟩
  clear hz
  go_enter Tryz.func6,Tryz.ntmps6
  go_wp2_with (first
   | (guard_target =~ wpList _ _ _ (Oper.mk _ (Op.load 30 _) _ _ _ _::_) _ _;go_must (refine wpList_ld 30 _ rfl rfl _ _ rfl l0 ?_);simp only[pts])
   | (guard_target =~ wpList _ _ _ (Oper.mk _ (Op.store 30 _ _) _ _ _ _::_) _ _;go_must (refine wpList_st 30 _ _ rfl rfl _ _ rfl rfl SF ?_);simp only[pts])
   | (go_at_call 19;refine cI.mono ?_;rintro _ w1 ⟨rfl,hb1⟩;obtain⟨-,-,r1,b1⟩:=LF.out w1 hb1;have SF:=fm_st r1 rfl zFm none 0;replace r1:=Hid.mk r1;replace b1:=Hid.mk b1;clear hb1))
  exact bodyPost_ret (res_cell_slot (v2:=.int .i64 121) rfl _ _ (w.heap.size+1) 30 _ _ rfl rfl (setRow_heap _ _ _ _ _ _ r1.out) Tryz.underlying30 rfl J.infoFm) rfl (NO.out w1 121 r1.out b1.out hE.out (by decide))
theorem pLives_any {w:World} {f:Fm} {pp:Option Addr} {cp:Nat} (hC:PCk w f pp cp) (tl:TkL w pp w.heap.size f.toks) (hlm:f.toks.length*192<=140737488351232) (i v:Int) :
  Calls Tryz.prog 9 #[fmV f pp cp,.int .i64 i,.int .i64 v] w fun e w'=>e = .returned (.bool (livB f i v))/\Below w.heap.size w w':=by
 have hb:=bel1 w (fmO f pp cp)
 have H1:=heap_al w (fmO f pp cp)
 have hs1:(w.alloc (fmO f pp cp)).heap.size=w.heap.size+1:=World.size_alloc _ _
 generalize hW:w.alloc (fmO f pp cp)=W1 at hb H1 hs1
 simp only[fmO] at hW
 have LF:=(J.fm_of H1).load
 have c12:=(J.fm_of H1).c12
 have cI:=isForm_any hC W1 hb
 have HB:Hid _:=⟨hb⟩
 have hll:f.toks.length<=733007751850:=by omega
 by_cases h0:0<=i
 ·obtain⟨n,rfl⟩:∃ n:Nat,i=n:=⟨i.toNat,by omega⟩
  have d0:decide ((0:Int)<=(n:Int))=true:=by simp
  by_cases h1:(n:Int)<f.toks.length
  ·have d1:decide ((n:Int)<f.toks.length)=true:=by simp;omega
   by_cases hz:chkZ f=none
   ·rw[decide_eq_true hz] at cI
    have CC:Hid (∀ X,Below W1.heap.size W1 X->X.cell? ⟨w.heap.size,12,none⟩=some (.slice pp f.toks.length cp)/\Calls Tryz.prog 23 #[.slice pp f.toks.length cp] X fun e w'=>∃ v,e = .returned v/\NRow w' X.heap.size v (camZ f)/\Below w.heap.size w w'):=⟨fun X h=>by
     have hx:=hb.trans (h.mono hb.size)
     exact⟨cell_at ((h.block _ (by omega)).trans H1) 12,(comings_any f pp cp X hz ((tl.below hx).mono hx.size) hlm).mono fun e w' ⟨v,e1,e2,e3⟩=>⟨v,e1,e2,hx.trans (e3.mono hx.size)⟩⟩⟩
    obtain⟨c,hc⟩:∃ c,(camZ f)[n]?=some c:=⟨(camZ f)[n]'(by rw[camZ_length];omega),List.getElem?_eq_getElem _⟩
    have hE:livB f (n:Int) v=decide ((c:Int)<=v):=by
     unfold livB
     rw[decide_eq_true hz,decide_eq_true (show (0:Int)<=n/\(n:Int)<f.toks.length by omega),Int.toNat_natCast,List.getD_eq_getElem?_getD,hc]
     rfl
    have hcl:(n:Int)<(camZ f).length:=by rw[camZ_length];omega
    rw[hE]
    clear hz hE tl hC hlm H1 hb hs1
    go_enter Tryz.func9,Tryz.ntmps9
    go_wp2_with (first
     | (guard_target =~ wpList _ _ _ (Oper.mk _ (Op.load 30 _) _ _ _ _::_) _ _;go_must (refine wpList_ld 30 _ rfl rfl _ _ rfl LF ?_);simp only[pts])
     | (go_at_call 19;refine cI.mono ?_;rintro _ w2 ⟨rfl,hb2⟩;obtain⟨y12,cC⟩:=CC.out w2 hb2;clear hb2)
     | (go_at_call 23;refine cC.mono ?_;rintro _ w3 ⟨vc,rfl,q1,q2⟩;obtain⟨pv,cv,rfl,-⟩:=q1.shape;obtain⟨gc,rfl,-,-,k1⟩:=q1.cellP hc;replace q2:=Hid.mk q2;clear q1))
    go_ret
    exact⟨rfl,q2.out⟩
   ·rw[decide_eq_false hz] at cI
    have hE:livB f (n:Int) v=false:=by unfold livB;rw[decide_eq_false hz];rfl
    rw[hE]
    clear hz hE tl hC hlm H1 hb hs1
    go_enter Tryz.func9,Tryz.ntmps9
    go_wp2_with (first
     | (guard_target =~ wpList _ _ _ (Oper.mk _ (Op.load 30 _) _ _ _ _::_) _ _;go_must (refine wpList_ld 30 _ rfl rfl _ _ rfl LF ?_);simp only[pts])
     | (go_at_call 19;refine cI.mono ?_;rintro _ w2 ⟨rfl,hb2⟩;replace hb2:=Hid.mk hb2))
    go_ret
    exact⟨rfl,HB.out.trans (hb2.out.mono HB.out.size)⟩
  ·have d1:decide ((n:Int)<f.toks.length)=false:=by simp;omega
   have hE:livB f (n:Int) v=false:=by unfold livB;rw[decide_eq_false (show ¬ ((0:Int)<=n/\(n:Int)<f.toks.length) by omega),Bool.and_false];rfl
   rw[hE]
   have d2:decide (n<f.toks.length)=false:=by simp;omega
   have h2:¬ n<f.toks.length:=by omega
   clear hE tl hC hlm H1 hb hs1
   go_enter Tryz.func9,Tryz.ntmps9
   go_wp2_with fail
   go_ret
   exact⟨rfl,HB.out⟩
 ·have d0:decide ((0:Int)<=i)=false:=by simp;omega
  have hE:livB f i v=false:=by unfold livB;rw[decide_eq_false (show ¬ ((0:Int)<=i/\i<f.toks.length) by omega),Bool.and_false];rfl
  rw[hE]
  clear hE tl hC hlm H1 hb hs1 h0
  go_enter Tryz.func9,Tryz.ntmps9
  go_wp2_with fail
  go_ret
  exact⟨rfl,HB.out⟩
theorem infoHdP:(Tryz.prog.info? 27).map (·.size)=some 9:=by kernel_rfl
theorem hd_load {W:World} {b:Nat} {f:Fm} {pp:Option Addr} {cp:Nat} (h:W.heap[b]?=some (fmO f pp cp)):(Instr.loadAt 27 (.pointer (some ⟨b,3,none⟩))).run Tryz.prog W = .ok (.agg #[.int .i64 f.hsz,.int .i64 f.hb.p,.int .i64 f.hb.o,.int .i64 f.ht.p,.int .i64 f.ht.o,.int .i64 f.hs.p,.int .i64 f.hs.o,.int .i64 f.hv.p,.int .i64 f.hv.o]) W:=by
 refine run_loadAt_mid W b 3 27 [.int .i64 f.hsz,.int .i64 f.hb.p,.int .i64 f.hb.o,.int .i64 f.ht.p,.int .i64 f.ht.o,.int .i64 f.hs.p,.int .i64 f.hs.o,.int .i64 f.hv.p,.int .i64 f.hv.o] _ (fun j u hu=>?_) Tryz.underlying27 rfl infoHdP
 have hj:j<9:=(List.getElem?_eq_some_iff.1 hu).1
 rw[cell_at h]
 have h9:j=0\/j=1\/j=2\/j=3\/j=4\/j=5\/j=6\/j=7\/j=8:=by omega
 rcases h9 with rfl|rfl|rfl|rfl|rfl|rfl|rfl|rfl|rfl<;>exact hu
abbrev smT (op:Int) (nm:List UInt8) (id off siz since prim len pres nul hi blk full pair:Int):Tk:=⟨op,⟨nm.toArray⟩,id,off,siz,since,prim,len,pres,nul,0,hi,[],0,blk,full,⟨0,0⟩,⟨0,0⟩,pair⟩
def smF:Fm:=⟨0,7,1,8,⟨6,0⟩,⟨6,2⟩,⟨6,4⟩,⟨6,6⟩,[
 smT 0 [77] 3 0 0 0 0 0 0 0 0 6 6 7,
 smT 2 [97] 1 0 4 0 0 0 0 0 0 0 0 3,
 smT 14 [117,105,110,116,51,50] 0 0 4 0 7 1 0 4294967295 4294967294 0 0 2,
 smT 3 [97] 0 0 0 0 0 0 0 0 0 0 0 1,
 smT 2 [98] 2 4 2 1 0 0 1 0 0 0 0 6,
 smT 14 [117,105,110,116,49,54] 0 0 2 0 6 1 0 65535 65534 0 0 5,
 smT 3 [98] 0 0 0 0 0 0 0 0 0 0 0 4,
 smT 1 [77] 0 0 0 0 0 0 0 0 0 0 0 0]⟩
theorem sm_at:(atE smF 0=0)/\(atF smF 0).ver=0/\(atF smF 0).toks.length=5/\((atF smF 0).toks[0]?).map (fun t=>(t.blk,t.full))=some (4,6):=by
 refine⟨?_,rfl,?_,?_⟩<;>kernel_rfl
theorem sm_liv:livB smF 4 1=true/\livB smF 4 0=false:=by constructor<;>kernel_rfl
theorem wpList_bs {P:Program} {w w':World} {ops:Array Oper} {rest:List Oper} {a:Act} {Q:Exit->Act->World->Prop} {d:Option Tmp} {ty:TypeId} {ps:String} {af:Array Edge} {t:TypeId} {n:Nat} {xs:Array (Nat×Operand)} {ys:Array (Nat×Value)} {v:Value} (hr:(Instr.buildSlice t n ys).run P w = .ok v w') (hx:(xs.map fun (i,x)=>(i,a.eval x))=ys)
  (h:wpList P ops Q rest (a.put d v) w'):wpList P ops Q (⟨d,.buildSlice t n xs,ty,ps,af,none⟩::rest) a w:=by
 refine wpList_plain rfl fun _ hK=>?_
 unfold Oper.wp execOp
 simp only[hx,hr,Sem.run_bind,Result.andThen_ok]
 exact hK _ _ h
def sm0:Tk:=smT 0 [77] 3 0 0 0 0 0 0 0 0 6 6 7
def sm1:Tk:=smT 2 [97] 1 0 4 0 0 0 0 0 0 0 0 3
def sm2:Tk:=smT 14 [117,105,110,116,51,50] 0 0 4 0 7 1 0 4294967295 4294967294 0 0 2
def sm3:Tk:=smT 3 [97] 0 0 0 0 0 0 0 0 0 0 0 1
def sm4:Tk:=smT 2 [98] 2 4 2 1 0 0 1 0 0 0 0 6
def sm5:Tk:=smT 14 [117,105,110,116,49,54] 0 0 2 0 6 1 0 65535 65534 0 0 5
def sm6:Tk:=smT 3 [98] 0 0 0 0 0 0 0 0 0 0 0 4
def sm7:Tk:=smT 1 [77] 0 0 0 0 0 0 0 0 0 0 0 0
def tkCs:List Tk->List Value
 | []=>[]
 | t::r=>tkC t none 0++tkCs r
theorem sm_bs (W:World):(Instr.buildSlice 28 8 #[(0,tkV sm0 none 0),(1,tkV sm1 none 0),(2,tkV sm2 none 0),(3,tkV sm3 none 0),(4,tkV sm4 none 0),(5,tkV sm5 none 0),(6,tkV sm6 none 0),(7,tkV sm7 none 0)]).run Tryz.prog W = .ok (.slice (some ⟨W.heap.size,0,none⟩) 8 8) (W.alloc (.cells (tkCs smF.toks).toArray 42)):=by kernel_rfl
theorem tkCs_get:∀ (l:List Tk) (i:Nat) (t:Tk),l[i]?=some t->∀ j,j<21->(tkCs l)[i*21+j]?=(tkC t none 0)[j]?
 | [],_,_,h,_,_=>by cases h
 | a::r,0,t,h,j,hj=>by
  cases h
  rw[tkCs,Nat.zero_mul,Nat.zero_add,List.getElem?_append_left (by show j<21;omega)]
 | a::r,i+1,t,h,j,hj=>by
  have ih:=tkCs_get r i t h j hj
  have hl:(tkC a none 0).length=21:=rfl
  rw[tkCs,List.getElem?_append_right (by omega),hl,<- ih]
  congr 1
  omega
theorem tkL_lit {w:World} {g H:Nat} {l:List Tk} (hg:w.heap[g]?=some (.cells (tkCs l).toArray 42)) (hH:g<H) (hl:l.length*192<=140737488355328) (hc:∀ t∈l,t.cst=[]/\TkOk t):TkL w (some ⟨g,0,none⟩) H l :=
 ⟨⟨fun i t ht=>by
  have h0:=(hc t (List.mem_of_getElem? ht)).1
  refine⟨g,0,none,0,rfl,hH,tkC_of fun j u hu=>?_,by rw[h0];exact URow.nil _ _ _,by rw[h0];exact Nat.le_refl _⟩
  rw[Nat.zero_add,cell_at hg,List.getElem?_toArray,tkCs_get l i t ht j (List.getElem?_eq_some_iff.1 hu).1]
  exact hu⟩,hl,fun t ht=>(hc t ht).2⟩
def iB (x:Int):Bool:=decide (-9223372036854775808<=x/\x<=9223372036854775807)
def uB (x:Int):Bool:=decide (0<=x/\x<=18446744073709551615)
def tokB (t:Tk):Bool:=t.cst.isEmpty&&iB t.op&&decide (t.name.size<=281474976710656)&&iB t.id&&iB t.off&&iB t.siz&&iB t.since&&iB t.prim&&iB t.len&&iB t.pres&&uB t.nul&&uB t.lo&&uB t.hi&&uB t.val&&iB t.blk&&iB t.full&&iB t.a.p&&iB t.a.o&&iB t.b.p&&iB t.b.o&&iB t.pair
theorem tokB_ok {t:Tk} (h:tokB t=true):t.cst=[]/\TkOk t:=by
 unfold tokB at h
 simp only[Bool.and_eq_true,List.isEmpty_iff,iB,uB,decide_eq_true_eq] at h
 obtain⟨⟨⟨⟨⟨⟨⟨⟨⟨⟨⟨⟨⟨⟨⟨⟨⟨⟨⟨⟨h0,h1⟩,h2⟩,h3⟩,h4⟩,h5⟩,h6⟩,h7⟩,h8⟩,h9⟩,h10⟩,h11⟩,h12⟩,h13⟩,h14⟩,h15⟩,h16⟩,h17⟩,h18⟩,h19⟩,h20⟩:=h
 exact⟨h0,⟨h1,h2,h3,h4,h5,h6,h7,h8,h9,h10,h11,h12,by rw[h0];decide,by rw[h0];simp,h13,h14,h15,h16,h17,h18,h19,h20⟩⟩
theorem sm_toks:∀ t∈smF.toks,t.cst=[]/\TkOk t:=by
 have h:smF.toks.all tokB=true:=by decide +kernel
 exact fun t ht=>tokB_ok (List.all_eq_true.1 h t ht)
theorem infoSpP:(Tryz.prog.info? 25).map (·.size)=some 2:=by kernel_rfl
theorem small_any (w:World):Calls Tryz.prog 13 #[] w fun r w'=>∃ g,r = .returned (fmV smF (some ⟨g,0,none⟩) 8)/\TkL w' (some ⟨g,0,none⟩) w'.heap.size smF.toks/\Below w.heap.size w w':=by
 have hb0:=bel1 w J.zFo
 have hr0:=heap_al w J.zFo
 have hs0:(w.alloc J.zFo).heap.size=w.heap.size+1:=World.size_alloc _ _
 generalize hW:w.alloc J.zFo=W0 at hb0 hr0 hs0
 simp only[J.zFo] at hW
 obtain⟨W1,s1,t1,b1,z1⟩:∃ W1,(∀ z:Array Value,z.size=21->(Instr.storeAt 42 (.pointer (some ⟨W0.heap.size,0,none⟩)) (tkV sm2 none 0)).run Tryz.prog (W0.alloc (.cells z 42)) = .ok () W1)/\W1.heap[W0.heap.size]?=some (tkO sm2 none 0)/\Below W0.heap.size W0 W1/\W1.heap.size=W0.heap.size+1:=⟨_,fun z hz=>st_new W0 z hz sm2 none 0,heap_al _ _,bel1 _ _,World.size_alloc _ _⟩
 obtain⟨W2,s2,t2,b2,z2⟩:∃ W2,(∀ z:Array Value,z.size=21->(Instr.storeAt 42 (.pointer (some ⟨W1.heap.size,0,none⟩)) (tkV sm5 none 0)).run Tryz.prog (W1.alloc (.cells z 42)) = .ok () W2)/\W2.heap[W1.heap.size]?=some (tkO sm5 none 0)/\Below W1.heap.size W1 W2/\W2.heap.size=W1.heap.size+1:=⟨_,fun z hz=>st_new W1 z hz sm5 none 0,heap_al _ _,bel1 _ _,World.size_alloc _ _⟩
 obtain⟨W3,s3,t3,b3,z3⟩:∃ W3,(∀ z:Array Value,z.size=2->(Instr.storeAt 25 (.pointer (some ⟨W2.heap.size,0,none⟩)) (.agg #[.int .i64 6,.int .i64 0])).run Tryz.prog (W2.alloc (.cells z 25)) = .ok () W3)/\W3.heap[W2.heap.size]?=some (.cells #[.int .i64 6,.int .i64 0] 25)/\Below W2.heap.size W2 W3/\W3.heap.size=W2.heap.size+1:=⟨_,fun z hz=>run_storeAt_new W2 25 z _ infoSpP hz (by kernel_rfl),heap_al _ _,bel1 _ _,World.size_alloc _ _⟩
 obtain⟨W4,s4,t4,b4,z4⟩:∃ W4,(∀ z:Array Value,z.size=9->(Instr.storeAt 27 (.pointer (some ⟨W3.heap.size,0,none⟩)) (.agg #[.int .i64 8,.int .i64 6,.int .i64 0,.int .i64 6,.int .i64 2,.int .i64 6,.int .i64 4,.int .i64 6,.int .i64 6])).run Tryz.prog (W3.alloc (.cells z 27)) = .ok () W4)/\W4.heap[W3.heap.size]?=some (.cells #[.int .i64 8,.int .i64 6,.int .i64 0,.int .i64 6,.int .i64 2,.int .i64 6,.int .i64 4,.int .i64 6,.int .i64 6] 27)/\Below W3.heap.size W3 W4/\W4.heap.size=W3.heap.size+1:=⟨_,fun z hz=>run_storeAt_new W3 27 z _ infoHdP hz (by kernel_rfl),heap_al _ _,bel1 _ _,World.size_alloc _ _⟩
 obtain⟨W5,s5,t5,b5,z5⟩:∃ W5,(Instr.buildSlice 28 8 #[(0,tkV sm0 none 0),(1,tkV sm1 none 0),(2,tkV sm2 none 0),(3,tkV sm3 none 0),(4,tkV sm4 none 0),(5,tkV sm5 none 0),(6,tkV sm6 none 0),(7,tkV sm7 none 0)]).run Tryz.prog W4 = .ok (.slice (some ⟨W4.heap.size,0,none⟩) 8 8) W5/\W5.heap[W4.heap.size]?=some (.cells (tkCs smF.toks).toArray 42)/\Below W4.heap.size W4 W5/\W5.heap.size=W4.heap.size+1:=⟨_,sm_bs W4,heap_al _ _,bel1 _ _,World.size_alloc _ _⟩
 have c34:=b3.trans (b4.mono b3.size)
 have c24:=b2.trans (c34.mono b2.size)
 have l3:Hid _:=⟨(tk_of ((c24.block _ (by omega)).trans t1)).load⟩
 have l5:Hid _:=⟨(tk_of ((c34.block _ (by omega)).trans t2)).load⟩
 have lS:Hid ((Instr.loadAt 25 (.pointer (some ⟨W2.heap.size,0,none⟩))).run Tryz.prog W3 = .ok (.agg #[.int .i64 6,.int .i64 0]) W3):=⟨by
  simp only[Instr.loadAt,Instr.sureAddr,Sem.run_bind,Sem.run_pure,Result.andThen]
  exact run_loadVar_row _ _ _ _ _ _ _ t3 Tryz.underlying25 rfl infoSpP⟩
 have lH:Hid ((Instr.loadAt 27 (.pointer (some ⟨W3.heap.size,0,none⟩))).run Tryz.prog W4 = .ok (.agg #[.int .i64 8,.int .i64 6,.int .i64 0,.int .i64 6,.int .i64 2,.int .i64 6,.int .i64 4,.int .i64 6,.int .i64 6]) W4):=⟨by
  simp only[Instr.loadAt,Instr.sureAddr,Sem.run_bind,Sem.run_pure,Result.andThen]
  exact run_loadVar_row _ _ _ _ _ _ _ t4 Tryz.underlying27 rfl infoHdP⟩
 have c05:Below W0.heap.size W0 W5:=b1.trans ((c24.trans (b5.mono (by omega))).mono (by omega))
 have r5:W5.heap[w.heap.size]?=some J.zFo:=(c05.block _ (by omega)).trans hr0
 have SF:Hid _:=⟨fm_st r5 rfl smF (some ⟨W4.heap.size,0,none⟩) 8⟩
 have R5:Hid _:=⟨r5⟩
 have T5:Hid _:=⟨t5⟩
 have B5:Hid (Below w.heap.size w W5):=⟨hb0.trans (c05.mono (by omega))⟩
 have hne:Hid (W4.heap.size≠w.heap.size/\W4.heap.size<W5.heap.size):=⟨by omega⟩
 replace s1:=Hid.mk s1
 replace s2:=Hid.mk s2
 replace s3:=Hid.mk s3
 replace s4:=Hid.mk s4
 replace s5:=Hid.mk s5
 clear hb0 hr0 hs0 t1 b1 z1 t2 b2 z2 t3 b3 z3 t4 b4 z4 t5 b5 z5 c34 c24 c05 r5
 go_enter Tryz.func13,Tryz.ntmps13
 go_wp2_with (first
  | (guard_target =~ wpList _ _ _ (Oper.mk _ (Op.store 42 _ _) _ _ _ _::_) _ _;go_must (first|refine wpList_st 42 _ _ rfl rfl _ _ rfl rfl (s1.out _ rfl) ?_|refine wpList_st 42 _ _ rfl rfl _ _ rfl rfl (s2.out _ rfl) ?_);simp only[pts])
  | (guard_target =~ wpList _ _ _ (Oper.mk _ (Op.store 25 _ _) _ _ _ _::_) _ _;go_must (refine wpList_st 25 _ _ rfl rfl _ _ rfl rfl (s3.out _ rfl) ?_);simp only[pts])
  | (guard_target =~ wpList _ _ _ (Oper.mk _ (Op.store 27 _ _) _ _ _ _::_) _ _;go_must (refine wpList_st 27 _ _ rfl rfl _ _ rfl rfl (s4.out _ rfl) ?_);simp only[pts])
  | (guard_target =~ wpList _ _ _ (Oper.mk _ (Op.store 30 _ _) _ _ _ _::_) _ _;go_must (refine wpList_st 30 _ _ rfl rfl _ _ rfl rfl SF.out ?_);simp only[pts])
  | (guard_target =~ wpList _ _ _ (Oper.mk _ (Op.load 25 _) _ _ _ _::_) _ _;go_must (refine wpList_ld 25 _ rfl rfl _ _ rfl lS.out ?_);simp only[pts])
  | (guard_target =~ wpList _ _ _ (Oper.mk _ (Op.load 27 _) _ _ _ _::_) _ _;go_must (refine wpList_ld 27 _ rfl rfl _ _ rfl lH.out ?_);simp only[pts])
  | (guard_target =~ wpList _ _ _ (Oper.mk _ (Op.load 42 _) _ _ _ _::_) _ _;go_must (first|refine wpList_ld 42 _ rfl rfl _ _ rfl l3.out ?_|refine wpList_ld 42 _ rfl rfl _ _ rfl l5.out ?_);simp only[pts])
  | (guard_target =~ wpList _ _ _ (Oper.mk _ (Op.buildSlice 28 _ _) _ _ _ _::_) _ _;go_must (refine wpList_bs s5.out (by kernel_rfl) ?_);simp only[pts]))
 refine bodyPost_ret (results_cell_row rfl _ _ w.heap.size 30 _ (0,0) _ rfl (setRow_heap _ _ _ _ _ _ R5.out) Tryz.underlying30 rfl J.infoFm) rfl ⟨W4.heap.size,rfl,?_,?_⟩
 ·refine tkL_lit ((setRow_other _ _ _ _ hne.out.1).trans T5.out) ?_ (by decide) sm_toks
  rw[size_setRow]
  exact hne.out.2
 ·exact B5.out.trans ⟨rfl,rfl,rfl,by rw[size_setRow];exact Nat.le_refl _,fun k hk=>setRow_other _ _ _ _ (by omega)⟩
theorem sameForm13 (f:Fm) (pa pb:Option Addr) (ca cb:Nat) (w:World) (ha:TkL w pa w.heap.size f.toks) (hb:TkL w pb w.heap.size f.toks) :
  Calls Tryz.prog 12 #[fmV f pa ca,fmV f pb cb] w fun r w'=>r = .returned (.bool true)/\Below w.heap.size w w':=by
 have HB:Below w.heap.size w ((w.alloc (fmO f pa ca)).alloc (fmO f pb cb)):=two_b w _ _
 have lA:=(J.fm_of (two_1 w (fmO f pa ca) (fmO f pb cb))).load
 have lC:=(J.fm_of (two_2 w (fmO f pa ca) (fmO f pb cb))).load
 have cS:=J.refSame_any f f pa pb ca cb _ ((ha.below HB).mono HB.size) ((hb.below HB).mono HB.size)
 replace HB:=Hid.mk HB
 generalize hW:(w.alloc (fmO f pa ca)).alloc (fmO f pb cb)=W at HB lA lC cS
 simp only[fmO] at hW
 clear ha hb
 go_enter Tryz.func12,Tryz.ntmps12
 go_wp2_with (first
  | (guard_target =~ wpList _ _ _ (Oper.mk _ (Op.load 30 _) _ _ _ _::_) _ _;go_must (first|refine wpList_ld 30 (.tmp 2) rfl rfl _ _ rfl lA ?_|refine wpList_ld 30 (.tmp 3) rfl rfl _ _ rfl lC ?_);simp only[pts])
  | (go_at_call 24;refine cS.mono ?_;rintro _ w1 ⟨hA1,hb1⟩;obtain rfl:=hA1.said (b:=true) (by simp);replace hb1:=Hid.mk hb1;clear hA1))
 go_ret
 exact⟨rfl,HB.out.trans (hb1.out.mono HB.out.size)⟩
def t00 (t:Tk):Tk:={ t with pair:=0,blk:=0 }
theorem bs_tk (t:Tk) (p:Option Addr) (c:Nat) (W:World):(Instr.buildSlice 28 1 #[(0,tkV t p c)]).run Tryz.prog W = .ok (.slice (some ⟨W.heap.size,0,none⟩) 1 1) (W.alloc (tkO t p c)):=by kernel_rfl
def oneF (t:Tk):Fm:={ zFm with toks:=[t] }
theorem one_tkL {W:World} {g H:Nat} {t:Tk} {p:Option Addr} {c:Nat} (hg:W.heap[g]?=some (tkO t p c)) (hH:g<H) (hu:URow W p H t.cst) (hl:t.cst.length<=c) (ok:TkOk t):TkL W (some ⟨g,0,none⟩) H [t] :=
 ⟨⟨fun i u hi=>by
  cases i with
  | zero =>
   cases hi
   exact⟨g,0,p,c,rfl,hH,by simpa using tk_of hg,hu,hl⟩
  | succ n=>simp at hi⟩,by show 1*192<=140737488355328;decide,fun u hu=>by obtain rfl:=List.mem_singleton.1 hu;exact ok⟩
theorem alike_any (ta tb:Tk) (pa pb:Option Addr) (ca cb:Nat) (w:World) (he:t00 ta=t00 tb) (ua:URow w pa w.heap.size ta.cst) (ub:URow w pb w.heap.size tb.cst) (la:ta.cst.length<=ca) (lb:tb.cst.length<=cb) (ok:TkOk (t00 ta)) :
  Calls Tryz.prog 10 #[tkV ta pa ca,tkV tb pb cb] w fun r w'=>r = .returned (.bool true)/\Below w.heap.size w w':=by
 have b4:Below w.heap.size w ((w.alloc (tkO (t00 ta) pa ca)).alloc (tkO (t00 tb) pb cb)):=two_b _ _ _
 have A4:=two_1 w (tkO (t00 ta) pa ca) (tkO (t00 tb) pb cb)
 have B4:=two_2 w (tkO (t00 ta) pa ca) (tkO (t00 tb) pb cb)
 have s4:((w.alloc (tkO (t00 ta) pa ca)).alloc (tkO (t00 tb) pb cb)).heap.size=w.heap.size+2:=by simp
 obtain⟨W4,hW4⟩:∃ W,(w.alloc (tkO (t00 ta) pa ca)).alloc (tkO (t00 tb) pb cb)=W:=⟨_,rfl⟩
 rw[hW4] at b4 A4 B4 s4
 rw[<- he] at B4
 have lA:Hid _:=⟨(tk_of A4).load⟩
 have k1:=bs_tk (t00 ta) pa ca W4
 have b5:=bel1 W4 (tkO (t00 ta) pa ca)
 have C5:=heap_al W4 (tkO (t00 ta) pa ca)
 have s5:(W4.alloc (tkO (t00 ta) pa ca)).heap.size=W4.heap.size+1:=World.size_alloc _ _
 rw[s4] at k1 C5
 generalize hW5:W4.alloc (tkO (t00 ta) pa ca)=W5 at k1 b5 C5 s5
 have B5:=(b5.block _ (by omega)).trans B4
 have lB:Hid _:=⟨(tk_of B5).load⟩
 have k2:=bs_tk (t00 ta) pb cb W5
 have b6:=bel1 W5 (tkO (t00 ta) pb cb)
 have D6:=heap_al W5 (tkO (t00 ta) pb cb)
 have s6:(W5.alloc (tkO (t00 ta) pb cb)).heap.size=W5.heap.size+1:=World.size_alloc _ _
 generalize hW6:W5.alloc (tkO (t00 ta) pb cb)=W6 at k2 b6 D6 s6
 have C6:=(b6.block _ (by omega)).trans C5
 have hx:Below w.heap.size w W6:=(b4.trans (b5.mono b4.size)).trans (b6.mono (by omega))
 have ecb:(t00 ta).cst=tb.cst:=by rw[he];rfl
 have tA:=one_tkL (H:=W6.heap.size) C6 (by omega) ((ua.below hx).mono hx.size) la ok
 have tB:=one_tkL (H:=W6.heap.size) D6 (by omega) (by rw[ecb];exact(ub.below hx).mono hx.size) (by rw[ecb];exact lb) ok
 have cS:=sameForm13 (oneF (t00 ta)) _ _ 1 1 W6 tA tB
 have HX:Hid _:=⟨hx⟩
 replace k1:=Hid.mk k1
 replace k2:=Hid.mk k2
 clear ua ub la lb ok A4 B4 s4 b4 b5 C5 s5 B5 b6 D6 s6 C6 hx ecb tA tB hW5 hW6
 subst hW4
 clear he
 go_enter Tryz.func10,Tryz.ntmps10
 go_wp2_with (first
  | (guard_target =~ wpList _ _ _ (Oper.mk _ (Op.load 42 _) _ _ _ _::_) _ _;go_must (first|refine wpList_ld 42 _ rfl rfl _ _ rfl lA.out ?_|refine wpList_ld 42 _ rfl rfl _ _ rfl lB.out ?_);simp only[pts])
  | (guard_target =~ wpList _ _ _ (Oper.mk _ (Op.buildSlice 28 _ _) _ _ _ _::_) _ _;go_must (first|refine wpList_bs k1.out (by kernel_rfl) ?_|refine wpList_bs k2.out (by kernel_rfl) ?_);simp only[pts])
  | (go_at_call 12;refine cS.mono ?_;rintro _ w7 ⟨rfl,hb7⟩;replace hb7:=Hid.mk hb7))
 go_ret
 exact⟨rfl,HX.out.trans (hb7.out.mono HX.out.size)⟩
end Go.Proofs.YtahogajcbncjhaaGreatDoor
