import Derived.Test.YtcgimchhcaankaaGreatDoorK31
import Derived.Sort.OwnSortedInts
import Derived.Sort.EveryDepth
import Derived.Shelf.Sort.AssemblyIn
namespace Go.Proofs.YtcgimchhcaankaaGreatDoor
set_option maxRecDepth 1000000
set_option maxHeartbeats 16000000
open Go.ChangeShapes Go.WideShapes Go.ChangeAt Go.RowKit Go.Shelf Go.Maps
def PCk (w:World) (f:Fm) (pp:Option Addr) (cp:Nat):Prop:=∀ W,Below w.heap.size w W->Calls Tryz.prog 39 #[fmV f pp cp] W fun r w'=>r = .returned (.tuple #[.int .i64 (errZ (chkZ f)),.int .i64 (atZ (chkZ f))])/\Below W.heap.size W w'
theorem pCk_of (f:Fm) (pp:Option Addr) (cp:Nat) (w:World) (tl:TkL w pp w.heap.size f.toks) (kt:KT w) (mt:MT w):PCk w f pp cp:=fun W hb=>Check_any f pp cp W ((tl.below hb).mono hb.size) (kt.up hb) (mt.below mt.pos hb)
theorem errZ_iff (o:Option Int):(errZ o==0)=decide (o=none):=by
 cases o with
 | none=>rfl
 | some z=>rfl
theorem isForm_any {w:World} {f:Fm} {pp:Option Addr} {cp:Nat} (hC:PCk w f pp cp) (W:World) (hW:Below w.heap.size w W) :
  Calls Tryz.prog 19 #[fmV f pp cp] W fun r w'=>r = .returned (.bool (decide (chkZ f=none)))/\Below W.heap.size W w':=by
 have hb:=bel1 W (fmO f pp cp)
 have cK:=hC _ (hW.trans (hb.mono hW.size))
 have LF:=(J.fm_of (heap_al W (fmO f pp cp))).load
 rw[<- errZ_iff]
 generalize errZ (chkZ f)=E at cK ⊢
 generalize atZ (chkZ f)=A at cK
 have HB:Hid _:=⟨hb⟩
 clear hb
 go_enter Tryz.func19,Tryz.ntmps19
 go_wp2_with (first
  | (guard_target =~ wpList _ _ _ (Oper.mk _ (Op.load 30 _) _ _ _ _::_) _ _;go_must (refine wpList_ld 30 _ rfl rfl _ _ rfl LF ?_);simp only[pts])
  | (go_at_call 39;refine cK.mono ?_;rintro _ w1 ⟨rfl,hb1⟩;replace hb1:=Hid.mk hb1))
 go_ret
 exact⟨rfl,HB.out.trans (hb1.out.mono HB.out.size)⟩
theorem firstOf_any {W:World} {f:Fm} {pp:Option Addr} {cp:Nat} (hz:chkZ f=none) (tl:TkL W pp W.heap.size f.toks) :
  Calls Tryz.prog 21 #[fmV f pp cp] W fun r w'=>r = .returned (.int .i64 (fstV f))/\Below W.heap.size W w':=by
 obtain⟨t,ht,-⟩:=first_msg hz
 have e:fstV f=t.since:=by unfold fstV;rw[ht]
 rw[e]
 have hb:=bel1 W (fmO f pp cp)
 have c12:=(J.fm_of (heap_al W (fmO f pp cp))).c12
 obtain⟨g,o,pc,cc,rfl,hg,hT,-⟩:=tl.row.c 0 t ht
 have a5:=(hT.below hg hb).c5
 have hl:(0:Int)<f.toks.length:=by have:=(List.getElem?_eq_some_iff.1 ht).1;omega
 simp only[Nat.zero_mul,Nat.add_zero] at a5
 generalize hW:W.alloc (fmO f (some ⟨g,o,none⟩) cp)=W1 at hb c12 a5
 simp only[fmO] at hW
 have HB:Hid _:=⟨hb⟩
 clear hb hT
 go_enter Tryz.func21,Tryz.ntmps21
 go_wp2_with fail
 go_ret
 exact⟨rfl,HB.out⟩
theorem res_cell_slot {P:Program} {fn:Func} {p q:Tmp} {ty:TypeId} (h:fn.results=#[.cell p ty,.tmp q]) (tmps:Array Value) (w:World) (g:Nat) (t:TypeId) (cs:Array Value) (d:TypeDesc) {v2:Value} (hp:tmps.getD p undef = .pointer (some ⟨g,0,none⟩)) (hq:tmps.getD q undef=v2) (hg:w.heap[g]?=some (.cells cs t))
  (hu:P.underlying ty=some d) (hd:(match d with | .struct _ | .array _ _=>true|_=>false)=true) (hi:(P.info? ty).map (·.size)=some cs.size) :
  (results fn tmps).run P w = .ok (.tuple #[.agg cs,v2]) w:=by
 subst hq
 have hp':tmps[p]?.getD undef = .pointer (some ⟨g,0,none⟩):=by simpa using hp
 simp[results,h,hp',asAddr,run_loadVar_row w g t ty cs (0,0) d hg hu hd hi]
def zFm:Fm:=⟨0,0,0,0,⟨0,0⟩,⟨0,0⟩,⟨0,0⟩,⟨0,0⟩,[]⟩
def atG (f:Fm) (v:Int):Fm:=if atE f v=0 then atF f v else zFm
theorem pAt_any {w:World} {f:Fm} {pp:Option Addr} {cp:Nat} (hC:PCk w f pp cp) (tl:TkL w pp w.heap.size f.toks) (hlm:f.toks.length*192<=140737488351232) (v:Int) :
  Calls Tryz.prog 7 #[fmV f pp cp,.int .i64 v] w fun e w'=>∃ pp' cp' ks,e = .returned (.tuple #[fmV (atG f v) pp' cp',.int .i64 (atE f v)])/\ks.map Ktp.t=(atG f v).toks/\KtR w' w.heap.size (.slice pp' ks.length cp') ks/\Below w.heap.size w w':=by
 have HB:Below w.heap.size w ((w.alloc (fmO f pp cp)).alloc J.zFo):=two_b _ _ _
 have H1:=two_1 w (fmO f pp cp) J.zFo
 have H2:=two_2 w (fmO f pp cp) J.zFo
 have HS:((w.alloc (fmO f pp cp)).alloc J.zFo).heap.size=w.heap.size+2:=by simp
 generalize hW:(w.alloc (fmO f pp cp)).alloc J.zFo=W0 at HB H1 H2 HS
 simp only[fmO,J.zFo] at hW
 have cI:=isForm_any hC W0 HB
 have LF:Hid (∀ X,Below W0.heap.size W0 X->(Instr.loadAt 30 (.pointer (some ⟨w.heap.size,0,none⟩))).run Tryz.prog X = .ok (fmV f pp cp) X/\X.cell? ⟨w.heap.size,2,none⟩=some (.int .i64 f.ver)/\X.heap[w.heap.size+1]?=some J.zFo/\Below w.heap.size w X):=⟨fun X hb=>⟨(J.fm_of ((hb.block _ (by omega)).trans H1)).load,cell_at ((hb.block _ (by omega)).trans H1) 2,(hb.block _ (by omega)).trans H2,HB.trans (hb.mono HB.size)⟩⟩
 obtain⟨l0,-,-,-⟩:=LF.out W0 (Below.refl _ _)
 have hT:Hid _:=⟨tl⟩
 have hLM:Hid _:=⟨hlm⟩
 have HS2:Hid (∀ X,Below W0.heap.size W0 X->w.heap.size+1<X.heap.size):=⟨fun X h=>by have:=h.size;omega⟩
 have NO:Hid (∀ (X:World) (E:Int),X.heap[w.heap.size+1]?=some J.zFo->Below w.heap.size w X->atE f v=E->E≠0->∃ pp' cp' ks,(.returned (.tuple #[.agg (J.fmC zFm none 0),.int .i64 E]):Ending) = .returned (.tuple #[fmV (atG f v) pp' cp',.int .i64 (atE f v)])/\ks.map Ktp.t=(atG f v).toks/\KtR (X.setRow (w.heap.size+1) (J.fmC zFm none 0)) w.heap.size (.slice pp' ks.length cp') ks/\Below w.heap.size w (X.setRow (w.heap.size+1) (J.fmC zFm none 0))):=⟨fun X E hx hb he hne=>by
  have eG:atG f v=zFm:=by unfold atG;rw[if_neg (by rw[he];exact hne)]
  rw[eG,he]
  exact⟨none,0,[],rfl,rfl,KtR.nil _ _,hb.trans ⟨rfl,rfl,rfl,by rw[size_setRow];exact Nat.le_refl _,fun k hk=>setRow_other _ _ _ _ (by omega)⟩⟩⟩
 clear tl hlm HB H1 H2 HS
 by_cases hz:chkZ f=none
 ·rw[decide_eq_true hz] at cI
  have CF:Hid (∀ X,Below W0.heap.size W0 X->Below w.heap.size w X->Calls Tryz.prog 21 #[fmV f pp cp] X fun r w'=>r = .returned (.int .i64 (fstV f))/\Below W0.heap.size W0 w'):=⟨fun X h1 h2=>(firstOf_any hz ((hT.out.below h2).mono h2.size)).mono fun r w' hP=>⟨hP.1,h1.trans (hP.2.mono h1.size)⟩⟩
  have CA:Hid (∀ X,Below w.heap.size w X->Calls Tryz.prog 22 #[fmV f pp cp,.int .i64 v] X fun e w'=>∃ pp' cp' ks,e = .returned (fmV (atF f v) pp' cp')/\ks.map Ktp.t=(atF f v).toks/\KtR w' X.heap.size (.slice pp' ks.length cp') ks/\Below X.heap.size X w'):=⟨fun X h=>formAt_any f pp cp v X hz ((hT.out.below h).mono h.size) hLM.out⟩
  by_cases h1:v<fstV f
  ·have d1:decide (v<fstV f)=true:=by simp[h1]
   have hE:Hid (atE f v=130):=⟨by unfold atE;rw[if_pos hz,if_neg (by omega)]⟩
   clear hz h1
   go_enter Tryz.func7,Tryz.ntmps7
   go_wp2_with (first
    | (guard_target =~ wpList _ _ _ (Oper.mk _ (Op.load 30 _) _ _ _ _::_) _ _;go_must (refine wpList_ld 30 _ rfl rfl _ _ rfl l0 ?_);simp only[pts])
    | (guard_target =~ wpList _ _ _ (Oper.mk _ (Op.store 30 _ _) _ _ _ _::_) _ _;go_must (refine wpList_st 30 _ _ rfl rfl _ _ rfl rfl SF ?_);simp only[pts])
    | (go_at_call 19;refine cI.mono ?_;rintro _ wa ⟨rfl,ha⟩;obtain⟨la,-,-,ba⟩:=LF.out wa ha;clear l0;have l0:=la;have cF:=CF.out wa ha ba;clear la ba)
    | (go_at_call 21;refine cF.mono ?_;rintro _ w1 ⟨rfl,hb1⟩;obtain⟨-,x2,r1,b1⟩:=LF.out w1 hb1;have SF:=fm_st r1 rfl zFm none 0;replace r1:=Hid.mk r1;replace b1:=Hid.mk b1;clear hb1))
   exact bodyPost_ret (res_cell_slot (v2:=.int .i64 130) rfl _ _ (w.heap.size+1) 30 _ _ rfl rfl (setRow_heap _ _ _ _ _ _ r1.out) Tryz.underlying30 rfl J.infoFm) rfl (NO.out w1 130 r1.out b1.out hE.out (by decide))
  ·have d1:decide (v<fstV f)=false:=by simp[h1]
   by_cases h2:f.ver<v
   ·have d2:decide (f.ver<v)=true:=by simp[h2]
    have hE:Hid (atE f v=130):=⟨by unfold atE;rw[if_pos hz,if_neg (by omega)]⟩
    clear hz h1 h2
    go_enter Tryz.func7,Tryz.ntmps7
    go_wp2_with (first
     | (guard_target =~ wpList _ _ _ (Oper.mk _ (Op.load 30 _) _ _ _ _::_) _ _;go_must (refine wpList_ld 30 _ rfl rfl _ _ rfl l0 ?_);simp only[pts])
     | (guard_target =~ wpList _ _ _ (Oper.mk _ (Op.store 30 _ _) _ _ _ _::_) _ _;go_must (refine wpList_st 30 _ _ rfl rfl _ _ rfl rfl SF ?_);simp only[pts])
     | (go_at_call 19;refine cI.mono ?_;rintro _ wa ⟨rfl,ha⟩;obtain⟨la,-,-,ba⟩:=LF.out wa ha;clear l0;have l0:=la;have cF:=CF.out wa ha ba;clear la ba)
     | (go_at_call 21;refine cF.mono ?_;rintro _ w1 ⟨rfl,hb1⟩;obtain⟨-,x2,r1,b1⟩:=LF.out w1 hb1;have SF:=fm_st r1 rfl zFm none 0;replace r1:=Hid.mk r1;replace b1:=Hid.mk b1;clear hb1))
    exact bodyPost_ret (res_cell_slot (v2:=.int .i64 130) rfl _ _ (w.heap.size+1) 30 _ _ rfl rfl (setRow_heap _ _ _ _ _ _ r1.out) Tryz.underlying30 rfl J.infoFm) rfl (NO.out w1 130 r1.out b1.out hE.out (by decide))
   ·have d2:decide (f.ver<v)=false:=by simp[h2]
    have hE:atE f v=0:=by unfold atE;rw[if_pos hz,if_pos (by omega)]
    have hG:atG f v=atF f v:=by unfold atG;rw[if_pos hE]
    rw[hG,hE]
    clear hz h1 h2 hG hE NO
    go_enter Tryz.func7,Tryz.ntmps7
    go_wp2_with (first
     | (guard_target =~ wpList _ _ _ (Oper.mk _ (Op.load 30 _) _ _ _ _::_) _ _;go_must (refine wpList_ld 30 _ rfl rfl _ _ rfl l0 ?_);simp only[pts])
     | (guard_target =~ wpList _ _ _ (Oper.mk _ (Op.store 30 _ _) _ _ _ _::_) _ _;go_must (refine wpList_st 30 _ _ rfl rfl _ _ rfl rfl SF ?_);simp only[pts])
     | (go_at_call 19;refine cI.mono ?_;rintro _ wa ⟨rfl,ha⟩;obtain⟨la,-,-,ba⟩:=LF.out wa ha;clear l0;have l0:=la;have cF:=CF.out wa ha ba;clear la ba)
     | (go_at_call 21;refine cF.mono ?_;rintro _ w1 ⟨rfl,hb1⟩;obtain⟨l1,x2,r1,b1⟩:=LF.out w1 hb1;clear l0;have l0:=l1;clear l1;have cA:=CA.out w1 b1;have hs1:=HS2.out w1 hb1;replace r1:=Hid.mk r1;replace b1:=Hid.mk b1;clear hb1)
     | (go_at_call 22;refine cA.mono ?_;rintro _ w2 ⟨pp',cp',ks,rfl,k1,k2,k3⟩;have SF:=fm_st ((k3.block _ hs1).trans r1.out) rfl (atF f v) pp' cp';replace k1:=Hid.mk k1;replace k2:=Hid.mk k2;replace k3:=Hid.mk k3))
    refine bodyPost_ret (res_cell_slot (v2:=.int .i64 0) rfl _ _ (w.heap.size+1) 30 _ _ rfl rfl (setRow_heap _ _ _ _ _ _ ((k3.out.block _ hs1).trans r1.out)) Tryz.underlying30 rfl J.infoFm) rfl ⟨pp',cp',ks,rfl,k1.out,?_,?_⟩
    ·have h1:=k2.out.keep (W':=w2.setRow (w.heap.size+1) (J.fmC (atF f v) pp' cp')) (by rw[size_setRow];exact Nat.le_refl _) fun k hk _ _=>setRow_other _ _ _ _ (by omega)
     refine⟨own_lower h1.row (by omega),fun x hx=>?_,fun x hx=>own_lower (h1.own x hx) (by omega),h1.dis⟩
     obtain⟨a1,a2,a3⟩:=h1.u x hx
     exact⟨a1,a2,fun g o e=>⟨by have:=(a3 g o e).1;omega,(a3 g o e).2⟩⟩
    ·exact(b1.out.trans (k3.out.mono b1.out.size)).trans ⟨rfl,rfl,rfl,by rw[size_setRow];exact Nat.le_refl _,fun k hk=>setRow_other _ _ _ _ (by omega)⟩
 ·rw[decide_eq_false hz] at cI
  have hE:Hid (atE f v=121):=⟨by unfold atE;rw[if_neg hz]⟩
  clear hz
  go_enter Tryz.func7,Tryz.ntmps7
  go_wp2_with (first
   | (guard_target =~ wpList _ _ _ (Oper.mk _ (Op.load 30 _) _ _ _ _::_) _ _;go_must (refine wpList_ld 30 _ rfl rfl _ _ rfl l0 ?_);simp only[pts])
   | (guard_target =~ wpList _ _ _ (Oper.mk _ (Op.store 30 _ _) _ _ _ _::_) _ _;go_must (refine wpList_st 30 _ _ rfl rfl _ _ rfl rfl SF ?_);simp only[pts])
   | (go_at_call 19;refine cI.mono ?_;rintro _ w1 ⟨rfl,hb1⟩;obtain⟨-,-,r1,b1⟩:=LF.out w1 hb1;have SF:=fm_st r1 rfl zFm none 0;replace r1:=Hid.mk r1;replace b1:=Hid.mk b1;clear hb1))
  exact bodyPost_ret (res_cell_slot (v2:=.int .i64 121) rfl _ _ (w.heap.size+1) 30 _ _ rfl rfl (setRow_heap _ _ _ _ _ _ r1.out) Tryz.underlying30 rfl J.infoFm) rfl (NO.out w1 121 r1.out b1.out hE.out (by decide))
theorem ext_lt:∀ {a b:List Int},a.Pairwise (· < ·)->b.Pairwise (· < ·)->(∀ x,x∈a↔x∈b)->a=b
 | [],[],_,_,_=>rfl
 | [],y::b,_,_,h=>by have:=(h y).2 (List.mem_cons_self ..);cases this
 | x::a,[],_,_,h=>by have:=(h x).1 (List.mem_cons_self ..);cases this
 | x::a,y::b,ha,hb,h=>by
  obtain⟨a1,a2⟩:=List.pairwise_cons.1 ha
  obtain⟨b1,b2⟩:=List.pairwise_cons.1 hb
  have e:x=y:=by
   have h1:=(h x).1 (List.mem_cons_self ..)
   have h2:=(h y).2 (List.mem_cons_self ..)
   rcases List.mem_cons.1 h1 with h1|h1
   ·exact h1
   rcases List.mem_cons.1 h2 with h2|h2
   ·exact h2.symm
   have:=a1 y h2
   have:=b1 x h1
   omega
  subst e
  congr 1
  refine ext_lt a2 b2 fun z=>⟨fun hz=>?_,fun hz=>?_⟩
  ·rcases List.mem_cons.1 ((h z).1 (List.mem_cons_of_mem _ hz)) with e|e
   ·have:=a1 z hz;omega
   ·exact e
  ·rcases List.mem_cons.1 ((h z).2 (List.mem_cons_of_mem _ hz)) with e|e
   ·have:=b1 z hz;omega
   ·exact e
theorem sort_lt {ks:List Int} (hn:ks.Nodup):(ks.mergeSort fun x y=>decide (x<=y)).Pairwise (· < ·):=by
 have h1:(ks.mergeSort fun x y=>decide (x<=y)).Pairwise (fun a b=>decide (a<=b)=true):=List.pairwise_mergeSort (fun a b c h1 h2=>by simp at *;omega) (fun a b=>by simp;omega) ks
 have h2:(ks.mergeSort fun x y=>decide (x<=y)).Nodup:=(List.mergeSort_perm ks _).nodup_iff.2 hn
 have h3:=List.Pairwise.and h1 h2
 exact h3.imp fun {a b} h=>by
  have e1:=of_decide_eq_true h.1
  have e2:a≠b:=h.2
  omega
def verL (f:Fm):List Nat:=(List.range (f.ver.toNat+1)).filter fun v=>(camZ f).contains v
theorem verL_lt (f:Fm):((verL f).map (fun n:Nat=>(n:Int))).Pairwise (· < ·):=by
 rw[List.pairwise_map]
 have h:(List.range (f.ver.toNat+1)).Pairwise (· < ·):=List.pairwise_lt_range
 exact(List.Pairwise.sublist List.filter_sublist h).imp fun h=>by omega
theorem ver_sort {f:Fm} (hv:0<=f.ver) {ks:List Int} (hn:ks.Nodup) (hm:∀ x:Int,x∈ks↔∃ c∈camZ f,x=(c:Int)/\(c:Int)<=f.ver):(ks.mergeSort fun x y=>decide (x<=y))=(verL f).map fun n:Nat=>(n:Int):=by
 refine ext_lt (sort_lt hn) (verL_lt f) fun x=>?_
 rw[List.mem_mergeSort,hm]
 unfold verL
 simp only[List.mem_map,List.mem_filter,List.mem_range,List.contains_iff_mem]
 constructor
 ·rintro⟨c,h1,rfl,h2⟩
  exact⟨c,⟨by omega,h1⟩,rfl⟩
 ·rintro⟨c,⟨h1,h2⟩,rfl⟩
  exact⟨c,h2,rfl,by omega⟩
def _root_.Go.Proofs.Tryz.lays189_ren:Go.Shelf.Ren:=⟨fun|189=>40|125=>55|257=>54|128=>82|129=>83|294=>73|295=>74|296=>75|297=>76|298=>77|299=>78|216=>79|300=>80|301=>81|328=>105|329=>106|330=>107|331=>108|332=>109|215=>110|343=>133|n=>n,fun|28=>41|3=>3|46=>97|0=>0|51=>129|53=>37|4=>4|183=>121|182=>120|131=>126|5=>5|9=>9|218=>142|222=>146|228=>159|229=>160|n=>n,fun|n=>n⟩
theorem _root_.Go.Proofs.Tryz.lays189:Go.Proofs.Lays.n189 Tryz.prog Tryz.lays189_ren:={
 mixed:=by kernel_rfl
 f125:=Tryz.func55.trans (congrArg some (by kernel_rfl))
 f128:=Tryz.func82.trans (congrArg some (by kernel_rfl))
 f129:=Tryz.func83.trans (congrArg some (by kernel_rfl))
 f189:=Tryz.func40.trans (congrArg some (by kernel_rfl))
 f215:=Tryz.func110.trans (congrArg some (by kernel_rfl))
 f216:=Tryz.func79.trans (congrArg some (by kernel_rfl))
 f257:=Tryz.func54.trans (congrArg some (by kernel_rfl))
 f294:=Tryz.func73.trans (congrArg some (by kernel_rfl))
 f295:=Tryz.func74.trans (congrArg some (by kernel_rfl))
 f296:=Tryz.func75.trans (congrArg some (by kernel_rfl))
 f297:=Tryz.func76.trans (congrArg some (by kernel_rfl))
 f298:=Tryz.func77.trans (congrArg some (by kernel_rfl))
 f299:=Tryz.func78.trans (congrArg some (by kernel_rfl))
 f300:=Tryz.func80.trans (congrArg some (by kernel_rfl))
 f301:=Tryz.func81.trans (congrArg some (by kernel_rfl))
 f328:=Tryz.func105.trans (congrArg some (by kernel_rfl))
 f329:=Tryz.func106.trans (congrArg some (by kernel_rfl))
 f330:=Tryz.func107.trans (congrArg some (by kernel_rfl))
 f331:=Tryz.func108.trans (congrArg some (by kernel_rfl))
 f332:=Tryz.func109.trans (congrArg some (by kernel_rfl))
 f343:=Tryz.func133.trans (congrArg some (by kernel_rfl))
 t0:=Tryz.underlying0
 a0:=Tryz.isAgg0
 z0:=Tryz.sizeOf0
 v0:=Tryz.zeroValue0
 t3:=Tryz.underlying3
 a3:=Tryz.isAgg3
 z3:=Tryz.sizeOf3
 v3:=Tryz.zeroValue3
 t4:=Tryz.underlying4
 a4:=Tryz.isAgg4
 z4:=Tryz.sizeOf4
 v4:=Tryz.zeroValue4
 t5:=Tryz.underlying5
 a5:=Tryz.isAgg5
 z5:=Tryz.sizeOf5
 v5:=Tryz.zeroValue5
 t9:=Tryz.underlying9
 a9:=Tryz.isAgg9
 z9:=Tryz.sizeOf9
 v9:=Tryz.zeroValue9
 t28:=Tryz.underlying41
 a28:=Tryz.isAgg41
 z28:=Tryz.sizeOf41
 v28:=Tryz.zeroValue41
 t46:=Tryz.underlying97
 a46:=Tryz.isAgg97
 z46:=Tryz.sizeOf97
 v46:=Tryz.zeroValue97
 t51:=Tryz.underlying129
 a51:=Tryz.isAgg129
 z51:=Tryz.sizeOf129
 v51:=Tryz.zeroValue129
 t53:=Tryz.underlying37
 a53:=Tryz.isAgg37
 z53:=Tryz.sizeOf37
 v53:=Tryz.zeroValue37
 t131:=Tryz.underlying126
 a131:=Tryz.isAgg126
 z131:=Tryz.sizeOf126
 v131:=Tryz.zeroValue126
 t182:=Tryz.underlying120
 a182:=Tryz.isAgg120
 z182:=Tryz.sizeOf120
 v182:=Tryz.zeroValue120
 t183:=Tryz.underlying121
 a183:=Tryz.isAgg121
 z183:=Tryz.sizeOf121
 v183:=Tryz.zeroValue121
 t218:=Tryz.underlying142
 a218:=Tryz.isAgg142
 z218:=Tryz.sizeOf142
 v218:=Tryz.zeroValue142
 t222:=Tryz.underlying146
 a222:=Tryz.isAgg146
 z222:=Tryz.sizeOf146
 v222:=Tryz.zeroValue146
 t228:=Tryz.underlying159
 a228:=Tryz.isAgg159
 z228:=Tryz.sizeOf159
 v228:=Tryz.zeroValue159
 t229:=Tryz.underlying160
 a229:=Tryz.isAgg160
 z229:=Tryz.sizeOf160
 v229:=Tryz.zeroValue160 }
open Go.Sort
theorem sortN0 (blk cap:Nat) (zs:List Int) (w:World) (hH:Holds (Value.int .i64) w blk 0 zs.toArray) (hblk:blk<w.heap.size) (hsz:zs.length<4611686018427387904) :
  Calls Tryz.prog 40 #[.slice (some ⟨blk,0,none⟩) zs.length cap] w fun e w' =>
   e = .returned (.tuple #[])/\∃ n os,w'=grow (putRow (Value.int .i64) (Sort.ahead w n) blk 0 (zs.mergeSort fun x y=>decide (x<=y)).toArray) os :=
 calls_of_every_depth fun D=>AnyS.slices_Sort_int_in Tryz.lays189 D blk 0 cap zs w hH hblk hsz
theorem sortN {w:World} {base g cap:Nat} {ns ts:List Nat} (h:NRow w base (.slice (some ⟨g,0,none⟩) ns.length cap) ns) (hts:((ns.map fun n:Nat=>(n:Int)).mergeSort fun x y=>decide (x<=y))=ts.map fun n:Nat=>(n:Int)) (hl:ns.length<=1000000000000) :
  Calls Tryz.prog 40 #[.slice (some ⟨g,0,none⟩) ns.length cap] w fun e w'=>e = .returned (.tuple #[])/\NRow w' base (.slice (some ⟨g,0,none⟩) ns.length cap) ts/\Below base w w':=by
 rcases h.2 with ⟨e0,_⟩|⟨g',cap',cur,e1,h1,h2,h3,h4,h5,h6⟩
 ·cases e0
 ·cases e1
  have hlen:ts.length=ns.length:=by
   have:=congrArg List.length hts
   simpa using this.symm
  have hm:ns.map cI=(ns.map fun n:Nat=>(n:Int)).map (Value.int .i64):=by rw[List.map_map];rfl
  have hm2:ts.map cI=(ts.map fun n:Nat=>(n:Int)).map (Value.int .i64):=by rw[List.map_map];rfl
  have hH:Holds (Value.int .i64) w g 0 (ns.map fun n:Nat=>(n:Int)).toArray:=holds_of_blockI h2 (by rw[<- hm,<- h6,List.length_map,Nat.mul_one])
  have hgl:g<w.heap.size:=(Array.getElem?_eq_some_iff.1 h2).1
  have hc:=sortN0 g cap _ w hH hgl (by rw[List.length_map];omega)
  rw[List.length_map] at hc
  refine hc.mono ?_
  rintro e w' ⟨rfl,n,os,rfl⟩
  rw[hts]
  have hg:=grownBy_sortedI (w:=w) (g:=g) (n:=n) (os:=os) (ts.map fun n:Nat=>(n:Int)).toArray
  refine⟨rfl,?_,⟨hg.os,hg.tape,hg.output,hg.size,fun k hk=>hg.block k (by omega) (fun e=>by cases e;omega)⟩⟩
  unfold NRow
  have hr:=ownsRow_sortedI (w:=w) (base:=base) (n:=n) (os:=os) (ss:=ns.map fun n:Nat=>(n:Int)) (ts:=ts.map fun n:Nat=>(n:Int)) (by simp[hlen]) h1 h2 (by simpa using h3) h4 h5
  rw[List.length_map] at hr
  rw[hm2,hlen]
  exact hr
theorem below_gr {W W':World} (h:Below W.heap.size W W'):W.grownBy W' none:=⟨h.os,h.tape,h.output,h.size,fun k hk _=>h.block k hk⟩
def VM (D:DataW Unit) (L:List Nat) (n:Nat):Prop:=∀ x:Int,Maps.has D (.int .i64 x)=true↔∃ c∈L,x=(c:Int)/\c<=n
theorem VM.start (n:Nat):VM (.map []) [] n:=fun x=>by simp[Maps.has]
theorem VM.put {D:DataW Unit} {L:List Nat} {n:Nat} (h:VM D L n) (hD:IsMap D) {c:Nat} (hc:c<=n) (d:DataW Unit):VM (D.put (.int .i64 (c:Int)) d) (L++[c]) n:=fun x=>by
 by_cases e:x=(c:Int)
 ·subst e
  rw[has_put_same hD (show WideAt.IsKeyLit (Lit.int .i64 (c:Int)) from trivial)]
  simp
  omega
 ·rw[has_put_other (fun h=>e (by injection h)),h x]
  constructor
  ·rintro⟨a,h1,h2,h3⟩
   exact⟨a,List.mem_append_left _ h1,h2,h3⟩
  ·rintro⟨a,h1,h2,h3⟩
   rcases List.mem_append.1 h1 with h1|h1
   ·exact⟨a,h1,h2,h3⟩
   ·obtain rfl:=List.mem_singleton.1 h1
    exact absurd h2 e
theorem VM.skip {D:DataW Unit} {L:List Nat} {n:Nat} (h:VM D L n) {c:Nat} (hc:¬ c<=n):VM D (L++[c]) n:=fun x=>by
 rw[h x]
 constructor
 ·rintro⟨a,h1,h2,h3⟩
  exact⟨a,List.mem_append_left _ h1,h2,h3⟩
 ·rintro⟨a,h1,h2,h3⟩
  rcases List.mem_append.1 h1 with h1|h1
  ·exact⟨a,h1,h2,h3⟩
  ·obtain rfl:=List.mem_singleton.1 h1
   exact absurd h3 hc
def ColN (D:DataW Unit) (left:Lit->Bool) (ss:List Nat):Prop:=ss.Nodup/\∀ c:Nat,c∈ss↔Maps.has D (.int .i64 (c:Int))=true/\left (.int .i64 (c:Int))=false
theorem ColN.start (D:DataW Unit):ColN D (Maps.has D) []:=⟨List.nodup_nil,fun c=>by cases Maps.has D (.int .i64 (c:Int))<;>simp⟩
theorem ColN.step {D:DataW Unit} {left:Lit->Bool} {ss:List Nat} (h:ColN D left ss) {c:Nat} (hh:Maps.has D (.int .i64 (c:Int))=true) (hl:left (.int .i64 (c:Int))=true):ColN D (fun z=>left z && !z.sameKey (.int .i64 (c:Int))) (ss++[c]):=by
 have hnew:c∉ss:=fun hx=>by have:=((h.2 c).1 hx).2;rw[hl] at this;cases this
 refine⟨List.nodup_append.2 ⟨h.1,by simp,fun a ha b hb=>by simp at hb;subst hb;exact fun e=>hnew (e▸ha)⟩,fun y=>?_⟩
 by_cases hy:y=c
 ·subst hy
  simp[hh,Lit.sameKey]
 ·have e:Lit.sameKey (.int .i64 (y:Int)) (.int .i64 (c:Int))=false:=by
   simp[Lit.sameKey]
   omega
  rw[List.mem_append,h.2 y]
  simp[hy,e]
theorem versions_any (f:Fm) (pp:Option Addr) (cp:Nat) (w:World) (hz:chkZ f=none) (tl:TkL w pp w.heap.size f.toks) (hlm:f.toks.length*192<=140737488351232) :
  Calls Tryz.prog 20 #[fmV f pp cp] w fun e w'=>∃ v,e = .returned v/\NRow w' w.heap.size v (verL f)/\Below w.heap.size w w':=by
 have hb:=bel1 w (fmO f pp cp)
 have H1:=heap_al w (fmO f pp cp)
 have hs1:(w.alloc (fmO f pp cp)).heap.size=w.heap.size+1:=World.size_alloc _ _
 generalize hW:w.alloc (fmO f pp cp)=W1 at hb H1 hs1
 simp only[fmO] at hW
 obtain⟨W2,hmk,hown0,hb2,hs2⟩:∃ W2,(Instr.makeMap 75 none).run Tryz.prog W1 = .ok (.map (some W1.heap.size)) W2/\W2.ownsMap Tryz.prog 3 (plainElem (H:=Unit) Tryz.prog 3) W1.heap.size 0 (.map [])/\Below W1.heap.size W1 W2/\W2.heap.size=W1.heap.size+1:=⟨_,run_makeMap _ _,World.ownsMap_made _ _ _ _,bel1 _ _,World.size_alloc _ _⟩
 have HB:=hb.trans (hb2.mono hb.size)
 have H2:W2.heap[w.heap.size]?=some (fmO f pp cp):=(hb2.block _ (by omega)).trans H1
 have x12:W2.cell? ⟨w.heap.size,12,none⟩=some (.slice pp f.toks.length cp):=cell_at H2 12
 have cC:=comings_any f pp cp W2 hz ((tl.below HB).mono HB.size) hlm
 obtain⟨hv0,hv1⟩:=head_ver hz
 obtain⟨nv,hn⟩:∃ n:Nat,f.ver=n:=⟨f.ver.toNat,by omega⟩
 obtain⟨vI,hI⟩:∃ vI,f.ver=vI:=⟨_,rfl⟩
 have hvI:Hid (vI=(nv:Int)):=⟨by omega⟩
 have hnv:Hid (nv<=65534):=⟨by omega⟩
 have HV:Hid (∀ ks:List Nat,ks.Nodup->(∀ c,c∈ks↔c∈camZ f/\c<=nv)->((ks.map fun n:Nat=>(n:Int)).mergeSort fun x y=>decide (x<=y))=(verL f).map fun n:Nat=>(n:Int)):=⟨fun ks h1 h2=>ver_sort hv0 (List.Pairwise.map _ (fun a b h=>by omega) h1) fun x=>by
  simp only[List.mem_map]
  constructor
  ·rintro⟨c,hc,rfl⟩
   exact⟨c,((h2 c).1 hc).1,rfl,by have:=((h2 c).1 hc).2;omega⟩
  ·rintro⟨c,hc,rfl,h3⟩
   exact⟨c,(h2 c).2 ⟨hc,by omega⟩,rfl⟩⟩
 have hcb0:(camZ f).length<=733007751850:=by rw[camZ_length];omega
 have x2:W2.cell? ⟨w.heap.size,2,none⟩=some (.int .i64 vI):=by rw[<- hI];exact cell_at H2 2
 have hs:Hid (W1.heap.size=w.heap.size+1/\W2.heap.size=w.heap.size+2):=⟨hs1,by omega⟩
 have HBh:Hid _:=⟨HB⟩
 have hown0':Hid _:=⟨hown0⟩
 have x2':Hid _:=⟨x2⟩
 clear hz tl hlm H1 hb hs1 hs2 hv0 hv1 hn hI HB H2 x2 hb2 hown0
 go_enter Tryz.func20,Tryz.ntmps20
 go_wp2_with (go_at_call 24;refine cC.mono ?_;rintro _ w3 ⟨vc,rfl,hN,hb3⟩;obtain⟨pv,cv,rfl,-⟩:=hN.shape;replace hN:=Hid.mk hN;replace hb3:=Hid.mk hb3)
 generalize camZ f=C at *
 generalize hB:W1.heap.size=B at *
 clear cC hmk
 go_loopw [13] (fun q wr=>∃ j:Nat,j<=C.length/\q = .int .i64 (j:Int)/\Hid (∃ n D,n<=j/\wr.ownsMap Tryz.prog 3 (plainElem (H:=Unit) Tryz.prog 3) B n D/\VM D (C.take j) nv/\w3.grownBy wr (some B))) (fun q _=>C.length-(RowKit.intOf q).toNat)
 case atStart=>exact⟨0,Nat.zero_le _,by go_num,⟨0,.map [],Nat.le_refl _,hown0'.out.kept (below_gr hb3.out) (by simp),VM.start nv,World.grownBy.refl _ _⟩⟩
 case round =>
  obtain⟨j,hj,rfl,hI⟩:=hrel
  obtain⟨n,D,hnj,hown,hVM,hG⟩:=hI.out
  clear hI
  have hsB:=hs.out
  have hw3:=hb3.out.size
  by_cases hlt:j<C.length
  ·obtain⟨c,hc⟩:∃ c,C[j]?=some c:=⟨C[j],List.getElem?_eq_getElem hlt⟩
   obtain⟨gc,rfl,hg0,hgl,hcc⟩:=hN.out.cellP hc
   have k1:wr.cell? ⟨gc,j,none⟩=some (.int .i64 (c:Int)):=hG.cell hcc (fun e=>by injection e with e;simp at e;omega)
   have y2:wr.cell? ⟨w.heap.size,2,none⟩=some (.int .i64 vI):=hG.cell ((hb3.out.cell (p:=⟨w.heap.size,2,none⟩) (by show w.heap.size<_;omega)).trans x2'.out) (fun e=>by injection e with e;simp at e;omega)
   have hji:(j:Int)<C.length:=by omega
   have hTk:=take_snoc hc
   have hcb:(C.length:Int)<=733007751850:=by omega
   by_cases hcv:c<=nv
   ·have d1:decide ((c:Int)<=vI)=true:=by have:=hvI.out;simp;omega
    have hkey:keyOf Tryz.prog 3 (.int .i64 (c:Int))=some (.int .i64 (c:Int)):=keyOf_int_mk Tryz.underlying3 (WalkArith.wf_i64 (by have:=hnv.out;omega))
    have FIN:Hid (∀ (w1:World) (d:DataW Unit),w1.ownsMap Tryz.prog 3 (plainElem (H:=Unit) Tryz.prog 3) B (n+1) (D.put (.int .i64 (c:Int)) d)->wr.grownBy w1 (some B)->(∃ n D,n<=j+1/\w1.ownsMap Tryz.prog 3 (plainElem (H:=Unit) Tryz.prog 3) B n D/\VM D (C.take (j+1)) nv/\w3.grownBy w1 (some B))):=⟨fun w1 d h1 h2=>⟨n+1,_,by omega,h1,by rw[hTk];exact hVM.put hown.isMap hcv d,hG.trans h2⟩⟩
    have hnm:n<maxLen:=by unfold maxLen;omega
    clear hTk hVM hG hcc hc hcv hb3 hN hsB hw3
    go_wp2_with (first
     | (at_lookup;refine wpList_lookup_own_int _ rfl _ _ 75 rfl 3 3 .i64 lawI Tryz.underlying75 Tryz.underlying3 (zeroI _) B n D rfl hown _ _ rfl hkey ?_;intro k0 hat hwc)
     | (at_mapUpdate;refine wpList_mapUpdate_own _ rfl _ _ _ 75 rfl 3 3 lawI Tryz.underlying75 _ B n D rfl hown hnm _ _ _ rfl rfl hkey _ [] (plainElem_int Tryz.underlying3 (wrap64_wf _)) ?_;intro w1 hown1 hgrow1))
    go_roundw
    case rel=>exact⟨j+1,by omega,by go_num,⟨FIN.out _ _ hown1 hgrow1⟩⟩
    case measure=>simp[RowKit.intOf];omega
   ·have d1:decide ((c:Int)<=vI)=false:=by have:=hvI.out;simp;omega
    have FIN:Hid (∃ n D,n<=j+1/\wr.ownsMap Tryz.prog 3 (plainElem (H:=Unit) Tryz.prog 3) B n D/\VM D (C.take (j+1)) nv/\w3.grownBy wr (some B)):=⟨n,D,by omega,hown,by rw[hTk];exact hVM.skip hcv,hG⟩
    clear hTk hVM hG hcc hc hcv hb3 hN hown hsB hw3
    go_wp2_with fail
    go_roundw
    case rel=>exact⟨j+1,by omega,by go_num,FIN⟩
    case measure=>simp[RowKit.intOf];omega
  ·obtain rfl:j=C.length:=by omega
   rw[List.take_length] at hVM
   have d3:decide ((C.length:Int)<C.length)=false:=by simp
   have hsn:=hown.size_le
   have hlt2:Maps.size D<=733007751850:=by omega
   obtain⟨wm,hmk,hN0,hbm,hsm⟩:=make_int wr (Maps.size D) (by omega)
   have hownm:=hown.kept (below_gr hbm) (by simp)
   have hBr:B<wr.heap.size:=hown.lt
   have hBw:Below w.heap.size w wm:=((HBh.out.trans (hb3.out.mono HBh.out.size)).grown hG (Nat.le_trans HBh.out.size hb3.out.size) (fun j hj=>by cases hj;omega)).trans (hbm.mono (by omega))
   have hwl:w.heap.size<=wr.heap.size:=by omega
   replace hBw:=Hid.mk hBw
   replace hN0:=Hid.mk hN0
   replace hVM:=Hid.mk hVM
   replace hlt2:=Hid.mk hlt2
   replace hbm:=Hid.mk hbm
   clear hG hsB hw3 hsm hsn hlt hj hnj
   go_wp2_with (first
    | (at_len;refine wpList_len_own _ rfl _ 75 rfl 3 3 Tryz.underlying75 _ B n D rfl hown ?_)
    | (at_range;refine wpList_range_own _ rfl _ 75 rfl 3 3 lawI Tryz.underlying75 _ B n D rfl hownm ?_;intro w0 hrg0 hg0 hs0))
   go_frame
   clear hmk hown hownm
   have hbs:=hbm.out.size
   generalize hRR:wr.heap.size=RR at *
   go_loopw [6] (fun vl wq=>∃ (left:Lit->Bool) (cnt:Nat) (ss:List Nat) (g cp':Nat),vl = .slice (some ⟨g,0,none⟩) ss.length cp'/\Hid (wq.ranges Tryz.prog 3 (plainElem (H:=Unit) Tryz.prog 3) B wm.heap.size n D left cnt/\ss.length+cnt<=Maps.size D/\NRow wq RR (.slice (some ⟨g,0,none⟩) ss.length cp') ss/\ColN D left ss/\Below w.heap.size w wq)) (fun _ wq=>wq.rangeLeft B wm.heap.size)
   case atStart=>exact⟨_,_,[],RR,Maps.size D,rfl,⟨hrg0,by simp,hN0.out.keepP (fun k hk=>hg0.block k (hN0.out.ltP k hk).2 (by simp)),ColN.start D,hBw.out.grown hg0 (Nat.le_trans hwl hbs) (fun j hj=>by cases hj)⟩⟩
   case round =>
    clear hrg0 hg0 hs0 hN0
    obtain⟨left,cnt,ss,g,cq,rfl,hI⟩:=hrel
    obtain⟨hrg,hcs,hN,hCo,hB⟩:=hI.out
    clear hI
    replace hCo:=Hid.mk hCo
    replace hB:=Hid.mk hB
    replace hN:=Hid.mk hN
    go_wp2_with (at_next;refine wpList_next_ranges_ii _ rfl _ rfl 3 3 .i64 .i64 lawI Tryz.underlying3 Tryz.underlying3 B wm.heap.size n _ _ _ rfl hrg ?_ ?_)
    ·intro hc0 hl0
     have cS:=sortN hN.out (HV.out ss hCo.out.1 fun c=>by
      rw[hCo.out.2 c,hVM.out]
      constructor
      ·rintro⟨⟨a,h1,h2,h3⟩,-⟩
       obtain rfl:c=a:=by omega
       exact⟨h1,h3⟩
      ·rintro⟨h1,h2⟩
       exact⟨⟨c,h1,rfl,h2⟩,hl0 _⟩) (by have:=hlt2.out;omega)
     clear hrg hl0
     go_wp2_with (go_at_call 40;refine cS.mono ?_;rintro _ w' ⟨rfl,hN',hb'⟩;replace hN':=Hid.mk hN';replace hb':=Hid.mk hb')
     go_ret
     exact⟨_,rfl,hN'.out.low hwl,hB.out.trans (hb'.out.mono hwl)⟩
    ·intro x c w1 cnt1 hwx hwc hlx hat hrg1 hlt hg1 hs1 hen
     have hh:=has_true_of_atKey hat
     obtain⟨k,hk,rfl,hkn⟩:=(hVM.out x).1 hh
     have hne:=row_ne_iter hN.out hrg
     have hN1:NRow w1 RR (.slice (some ⟨g,0,none⟩) ss.length cq) ss:=hN.out.keepP fun k hk=>hg1.block k (hN.out.ltP k hk).2 (fun e=>hne (e.symm.trans hk.symm))
     have hsw:RR<=w1.heap.size:=by
      have h1:=hN1.ltP g rfl
      omega
     obtain⟨v',w',a1,a2,a3,a4,-⟩:=i_apP k hN1 (by have:=hlt2.out;omega) hsw
     have hg2:w1.grownBy w' (Value.slice (some ⟨g,0,none⟩) ss.length cq).ownBlock:=⟨a3.os,a3.tape,a3.output,a3.size,fun j hj hne=>a4 j hj (fun e=>hne e.symm)⟩
     have hrg2:=hrg1.kept hg2 (row_ne_low hN1 hBr) (row_ne_iter hN1 hrg1)
     rcases a2.2 with ⟨-,e0⟩|⟨g2,cap2,cur2,rfl,-⟩
     ·simp at e0
     have hF:Hid (w'.ranges Tryz.prog 3 (plainElem (H:=Unit) Tryz.prog 3) B wm.heap.size n D (fun z=>left z && !z.sameKey (.int .i64 (k:Int))) cnt1/\(ss++[k]).length+cnt1<=Maps.size D/\NRow w' RR (.slice (some ⟨g2,0,none⟩) (ss++[k]).length cap2) (ss++[k])/\ColN D (fun z=>left z && !z.sameKey (.int .i64 (k:Int))) (ss++[k])/\Below w.heap.size w w'):=⟨hrg2,by simp;omega,a2,hCo.out.step hh hlx,(hB.out.grown hg1 (Nat.le_trans hwl (by rw[<- hs1];exact hsw)) (fun j hj=>by cases hj;exact Nat.le_trans hwl hbs)).trans (a3.mono hwl)⟩
     have hM:Hid (w'.rangeLeft B wm.heap.size<wr.rangeLeft B wm.heap.size):=⟨by rw[hrg2.left_eq,hrg.left_eq];exact hlt⟩
     replace a1:=Hid.mk a1
     clear hrg hrg1 hrg2 hg1 hg2 hs1 hat hlx hh hN1 hN hne a2 a3 a4 hsw
     go_wp2_with (at_builtin;go_must (refine(wpList_append_ex (by rfl) _ _ _ _ (by rfl) _ _ (by rfl) (by rfl) (fun a b=>_=a/\w'=b) ⟨_,w',a1.out,rfl,rfl⟩ ?_));rintro _ _ ⟨rfl,rfl⟩;go_frame)
     go_roundw
     case rel=>exact⟨_,cnt1,ss++[k],g2,cap2,rfl,hF⟩
     case measure=>exact hM.out
end Go.Proofs.YtcgimchhcaankaaGreatDoor
