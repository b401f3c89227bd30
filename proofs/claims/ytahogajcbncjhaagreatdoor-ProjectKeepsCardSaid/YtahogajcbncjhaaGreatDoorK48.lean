import Derived.Test.YtahogajcbncjhaaGreatDoorK47
import Derived.Test.YtahogajcbncjhaaGreatDoorRows
import Derived.Deep.DeepHandedRow
import Derived.Lib.LaidTab
import Derived.LaidMore
namespace Go.Proofs.YtahogajcbncjhaaGreatDoor
set_option maxRecDepth 1000000
set_option maxHeartbeats 16000000
open Go.ChangeShapes Go.WideShapes Go.ChangeAt Go.RowKit Go.Shelf Go.Maps
theorem ent_alike:∀ ag w,(callFunc 10 ag).run Tryz.prog w = .ok (.enter 10 ag) w:=enters_of Tryz.func10 (by kernel_rfl) rfl
def KpC (f:Fm) (pp:Option Addr) (cp:Nat) (v:Int) (w W1:World):Prop:=∀ w2,Below W1.heap.size W1 w2->(Instr.loadAt 30 (.pointer (some ⟨w.heap.size,0,none⟩))).run Tryz.prog w2 = .ok (fmV f pp cp) w2/\Calls Tryz.prog 5 #[fmV f pp cp] w2 fun e w3=>∃ A,e = .returned (.tuple #[.int .i64 (errZ (chkZ f)),.int .i64 A])/\(Instr.loadAt 30 (.pointer (some ⟨w.heap.size,0,none⟩))).run Tryz.prog w3 = .ok (fmV f pp cp) w3 /\
 Calls Tryz.prog 6 #[fmV f pp cp,.int .i64 v] w3 fun e w4=>∃ pa ca ks W5,e = .returned (.tuple #[fmV (atG f v) pa ca,.int .i64 (atE f v)])/\Hid (∀ z:Array Value,z.size=13->(Instr.storeAt 30 (.pointer (some ⟨w4.heap.size,0,none⟩)) (fmV (atG f v) pa ca)).run Tryz.prog (w4.alloc (.cells z 30)) = .ok () W5) /\
  W5.cell? ⟨w.heap.size,12,none⟩=some (.slice pp f.toks.length cp)/\W5.cell? ⟨w.heap.size,2,none⟩=some (.int .i64 f.ver)/\W5.cell? ⟨w4.heap.size,12,none⟩=some (.slice pa (atG f v).toks.length ca)/\Hid (W5.heap[w.heap.size]?=some (fmO f pp cp)/\W5.heap[w4.heap.size]?=some (fmO (atG f v) pa ca)/\TkL W5 pp W5.heap.size f.toks/\KtR W5 w3.heap.size (.slice pa ks.length ca) ks/\ks.map Ktp.t=(atG f v).toks/\Below w.heap.size w W5)
theorem kpC_of {f:Fm} {pp:Option Addr} {cp:Nat} {w:World} (v:Int) (fo:FmOk f) (kt:KT w) (mt:MT w) (hr:TkL w pp w.heap.size f.toks) (hlm:f.toks.length*192<=140737488351232) {W1:World} (hb:Below w.heap.size w W1) (H1:W1.heap[w.heap.size]?=some (fmO f pp cp)) (hs:w.heap.size<W1.heap.size):KpC f pp cp v w W1:=fun w2 h=>by
 have hx:=hb.trans (h.mono hb.size)
 have h2:=(h.block w.heap.size hs).trans H1
 refine⟨(J.fm_of h2).load,(refCheck_any f pp cp w2 fo ((hr.below hx).mono hx.size)).mono fun e w3 hP=>?_⟩
 obtain⟨rfl,b3⟩:=hP
 have hx3:=hx.trans (b3.mono hx.size)
 have h2s:=h.size
 have h3:=(b3.block w.heap.size (by omega)).trans h2
 refine⟨_,rfl,(J.fm_of h3).load,(pAt_any (pCk_of _ _ _ _ ((hr.below hx3).mono hx3.size) (kt.up hx3) (mt.below mt.pos hx3)) ((hr.below hx3).mono hx3.size) hlm v).mono fun e w4 hP=>?_⟩
 obtain⟨pa,ca,ks,rfl,k1,k2,k3⟩:=hP
 have b5:=bel1 w4 (fmO (atG f v) pa ca)
 have g5:=heap_al w4 (fmO (atG f v) pa ca)
 have hb5:=k3.trans (b5.mono k3.size)
 have b3s:=b3.size
 have h5:=(hb5.block w.heap.size (by omega)).trans h3
 have hx5:=hx3.trans (hb5.mono hx3.size)
 exact⟨pa,ca,ks,_,rfl,⟨fun z hz=>J.st_newF w4 z hz (atG f v) pa ca⟩,cell_at h5 12,cell_at h5 2,cell_at g5 12,⟨h5,g5,(hr.below hx5).mono hx5.size,k2.below b5,k1,hx5⟩⟩
theorem Keeps_early {f:Fm} {pp:Option Addr} {cp:Nat} {w W1:World} {v:Int} (u:Int) (hW:w.alloc (fmO f pp cp)=W1) (hC:KpC f pp cp v w W1) (cS:Calls Tryz.prog 4 #[] W1 fun r w'=>r = .returned (.bool true)/\Below W1.heap.size W1 w') (hr:TkL w pp w.heap.size f.toks) (hE:chkZ f≠none\/400<f.toks.length\/¬ (fstV f<=v/\v<=f.ver)) :
  Calls Tryz.prog 3 #[fmV f pp cp,.int .i64 v,.int .i64 u] w fun e w'=>e = .returned (.bool true)/\Below w.heap.size w w':=by
 simp only[fmO] at hW
 have CC:Hid _:=⟨hC⟩
 have hT:Hid _:=⟨hr.row⟩
 clear hC hr
 by_cases hz:chkZ f=none
 ·have hEz:errZ (chkZ f)=0:=by rw[hz];rfl
  obtain⟨t0,ht0,-⟩:=first_msg hz
  have hlen:0<f.toks.length:=(List.getElem?_eq_some_iff.1 ht0).1
  have hf:fstV f=t0.since:=by unfold fstV;rw[ht0]
  by_cases h4:400<f.toks.length
  ·have d4:decide ((400:Int)<f.toks.length)=true:=by simp;omega
   have d4n:400<f.toks.length:=h4
   clear hE hz h4 hf ht0
   go_enter Tryz.func3,Tryz.ntmps3
   go_wp2_with (first
    | (go_at_call 4;refine cS.mono ?_;rintro _ w2 ⟨rfl,hb2⟩;obtain⟨l2,cK⟩:=CC.out w2 hb2;replace l2:=Hid.mk l2;clear hb2)
    | (go_at_call 5;refine cK.mono ?_;rintro _ w3 ⟨A,rfl,l3,cA⟩;rw[hEz];replace l3:=Hid.mk l3)
    | (go_at_call 6;refine cA.mono ?_;rintro _ w4 ⟨pa,ca,ks,W5,rfl,s5,x12,x2,y12,hQ⟩;generalize atE f v=E at *;generalize (atG f v).toks.length=gl at *)
    | (guard_target =~ wpList _ _ _ (Oper.mk _ (Op.load 30 _) _ _ _ _::_) _ _;go_must (first|refine wpList_ld 30 _ rfl rfl _ _ rfl l2.out ?_|refine wpList_ld 30 _ rfl rfl _ _ rfl l3.out ?_);simp only[pts])
    | (guard_target =~ wpList _ _ _ (Oper.mk _ (Op.store 30 _ _) _ _ _ _::_) _ _;go_must (refine wpList_st 30 _ _ rfl rfl _ _ rfl rfl (s5.out _ rfl) ?_);simp only[pts]))
   go_ret
   exact⟨rfl,hQ.out.2.2.2.2.2⟩
  ·have hv:¬ (fstV f<=v/\v<=f.ver):=by
    rcases hE with h|h|h
    ·exact absurd hz h
    ·exact absurd h h4
    ·exact h
   have hA:atE f v=130:=by unfold atE;rw[if_pos hz,if_neg hv]
   have hG:atG f v=zFm:=by unfold atG;rw[if_neg (by rw[hA];decide)]
   have hGl:(atG f v).toks.length=0:=by rw[hG];rfl
   have d4:decide ((400:Int)<f.toks.length)=false:=by simp;omega
   have d4n:¬ 400<f.toks.length:=h4
   have e4:((f.toks.length:Int)==0)=false:=beqN (by omega)
   have hlI:(0:Int)<f.toks.length:=by omega
   obtain⟨gf,ofs,pc,cc,rfl,hgf,hTk,-,-⟩:=hT.out.c 0 t0 ht0
   have hSi:Hid (∀ X,Below w.heap.size w X->X.cell? ⟨gf,ofs+5,none⟩=some (.int .i64 t0.since)):=⟨fun X h=>by simpa using(hTk.below hgf h).c5⟩
   rw[hf] at hv
   generalize t0.since=si at *
   have hcase:(decide (v<si)=true)\/(decide (v<si)=false/\decide (f.ver<v)=true):=by
    by_cases h:v<si
    ·exact .inl (by simp[h])
    ·exact .inr ⟨by simp[h],by simp;omega⟩
   clear hE hz h4 hf ht0 hv hTk hG hT hlen
   rcases hcase with d1|⟨d1,d2⟩
   all_goals
    go_enter Tryz.func3,Tryz.ntmps3
    go_wp2_with (first
     | (go_at_call 4;refine cS.mono ?_;rintro _ w2 ⟨rfl,hb2⟩;obtain⟨l2,cK⟩:=CC.out w2 hb2;replace l2:=Hid.mk l2;clear hb2)
     | (go_at_call 5;refine cK.mono ?_;rintro _ w3 ⟨A,rfl,l3,cA⟩;rw[hEz];replace l3:=Hid.mk l3)
     | (go_at_call 6;refine cA.mono ?_;rintro _ w4 ⟨pa,ca,ks,W5,rfl,s5,x12,x2,y12,hQ⟩;rw[hA];rw[hGl] at y12;have x5:=hSi.out W5 hQ.out.2.2.2.2.2)
     | (guard_target =~ wpList _ _ _ (Oper.mk _ (Op.load 30 _) _ _ _ _::_) _ _;go_must (first|refine wpList_ld 30 _ rfl rfl _ _ rfl l2.out ?_|refine wpList_ld 30 _ rfl rfl _ _ rfl l3.out ?_);simp only[pts])
     | (guard_target =~ wpList _ _ _ (Oper.mk _ (Op.store 30 _ _) _ _ _ _::_) _ _;go_must (refine wpList_st 30 _ _ rfl rfl _ _ rfl rfl (s5.out _ rfl) ?_);simp only[pts]))
    go_ret
    exact⟨rfl,hQ.out.2.2.2.2.2⟩
 ·have hEz:errZ (chkZ f)=121:=by
   cases h:chkZ f with
   | none=>exact absurd h hz
   | some z=>rfl
  have hA:atE f v=121:=by unfold atE;rw[if_neg hz]
  have hG:atG f v=zFm:=by unfold atG;rw[if_neg (by rw[hA];decide)]
  have hGl:(atG f v).toks.length=0:=by rw[hG];rfl
  clear hE hz hG hT
  go_enter Tryz.func3,Tryz.ntmps3
  go_wp2_with (first
   | (go_at_call 4;refine cS.mono ?_;rintro _ w2 ⟨rfl,hb2⟩;obtain⟨l2,cK⟩:=CC.out w2 hb2;replace l2:=Hid.mk l2;clear hb2)
   | (go_at_call 5;refine cK.mono ?_;rintro _ w3 ⟨A,rfl,l3,cA⟩;rw[hEz];replace l3:=Hid.mk l3)
   | (go_at_call 6;refine cA.mono ?_;rintro _ w4 ⟨pa,ca,ks,W5,rfl,s5,x12,x2,y12,hQ⟩;rw[hA];rw[hGl] at y12)
   | (guard_target =~ wpList _ _ _ (Oper.mk _ (Op.load 30 _) _ _ _ _::_) _ _;go_must (first|refine wpList_ld 30 _ rfl rfl _ _ rfl l2.out ?_|refine wpList_ld 30 _ rfl rfl _ _ rfl l3.out ?_);simp only[pts])
   | (guard_target =~ wpList _ _ _ (Oper.mk _ (Op.store 30 _ _) _ _ _ _::_) _ _;go_must (refine wpList_st 30 _ _ rfl rfl _ _ rfl rfl (s5.out _ rfl) ?_);simp only[pts]))
  go_ret
  exact⟨rfl,hQ.out.2.2.2.2.2⟩
theorem Keeps_main {f:Fm} {pp:Option Addr} {cp:Nat} {w W1:World} {v:Int} (u:Int) (hW:w.alloc (fmO f pp cp)=W1) (hC:KpC f pp cp v w W1) (cS:Calls Tryz.prog 4 #[] W1 fun r w'=>r = .returned (.bool true)/\Below W1.heap.size W1 w') (hr:TkL w pp w.heap.size f.toks) (kt:KT w) (mt:MT w) (hlm:f.toks.length*192<=140737488351232) (hz:chkZ f=none) (h4:f.toks.length<=400) (hv:fstV f<=v/\v<=f.ver) :
  Calls Tryz.prog 3 #[fmV f pp cp,.int .i64 v,.int .i64 u] w fun e w'=>e = .returned (.bool true)/\Below w.heap.size w w':=by
 simp only[fmO] at hW
 have CC:Hid _:=⟨hC⟩
 have hEz:errZ (chkZ f)=0:=by rw[hz];rfl
 have hA:atE f v=0:=by unfold atE;rw[if_pos hz,if_pos hv]
 have hG:atG f v=atF f v:=by unfold atG;rw[if_pos hA]
 obtain⟨t0,ht0,-⟩:=first_msg hz
 have hlen:0<f.toks.length:=(List.getElem?_eq_some_iff.1 ht0).1
 have hf:fstV f=t0.since:=by unfold fstV;rw[ht0]
 obtain⟨gf,ofs,pc,cc,rfl,hgf,hTk,-,-⟩:=hr.row.c 0 t0 ht0
 have hSi:Hid (∀ X,Below w.heap.size w X->X.cell? ⟨gf,ofs+5,none⟩=some (.int .i64 t0.since)):=⟨fun X h=>by simpa using(hTk.below hgf h).c5⟩
 have hcon:Hid (∀ ks,ks.map Ktp.t=(atF f v).toks->LqC f v w ks):=⟨fun ks h=>⟨kt,mt,hlm,hz,hv,h⟩⟩
 rw[hf] at hv
 generalize t0.since=si at *
 have d1:decide (v<si)=false:=decide_eq_false (by omega)
 have d2:decide (f.ver<v)=false:=decide_eq_false (by omega)
 have d4:decide ((400:Int)<f.toks.length)=false:=decide_eq_false (by omega)
 have d4n:¬ 400<f.toks.length:=by omega
 have e4:((f.toks.length:Int)==0)=false:=beqN (by omega)
 have hlI:(0:Int)<f.toks.length:=by omega
 have hll:f.toks.length<=400:=h4
 have hCL:Hid _:=⟨camZ_length f⟩
 have hZ:Hid _:=⟨hz⟩
 clear hC hr kt mt hlm hz h4 hv hf ht0 hTk hlen
 go_enter Tryz.func3,Tryz.ntmps3
 go_wp2_with (first
  | (go_at_call 4;refine cS.mono ?_;rintro _ w2 ⟨rfl,hb2⟩;obtain⟨l2,cK⟩:=CC.out w2 hb2;replace l2:=Hid.mk l2;clear hb2)
  | (go_at_call 5;refine cK.mono ?_;rintro _ w3 ⟨A,rfl,l3,cA⟩;rw[hEz];rw[hG,hA] at cA;replace l3:=Hid.mk l3)
  | (go_at_call 6;refine cA.mono ?_;rintro _ w4 ⟨pa,ca,ks,W5,rfl,s5,x12,x2,y12,hQ⟩;have x5:=hSi.out W5 hQ.out.2.2.2.2.2;have hc:Hid _:=⟨hcon.out ks hQ.out.2.2.2.2.1⟩;generalize hbb:w4.heap.size=b at hQ y12 s5;have hL:Hid (Lq f (some ⟨gf,ofs,none⟩) cp v pa ca ks w3.heap.size w b W5):=⟨⟨hQ.out.1,hQ.out.2.1,hQ.out.2.2.1,hQ.out.2.2.2.1,hQ.out.2.2.2.2.2⟩⟩;have l5:Hid _:=⟨hL.out.ldG⟩;have cI:=hL.out.chk hc.out;clear hQ hcon)
  | (go_at_call 7;refine cI.mono ?_;rintro _ w6 ⟨A6,rfl,q6⟩;have g0:w6.cell? ⟨b,0,none⟩=some (.int .i64 f.ord):=cell_at q6.gb 0;have g1:w6.cell? ⟨b,1,none⟩=some (.int .i64 f.sch):=cell_at q6.gb 1;have g2:w6.cell? ⟨b,2,none⟩=some (.int .i64 v):=cell_at q6.gb 2;have f0:w6.cell? ⟨w.heap.size,0,none⟩=some (.int .i64 f.ord):=cell_at q6.fb 0;have f1:w6.cell? ⟨w.heap.size,1,none⟩=some (.int .i64 f.sch):=cell_at q6.fb 1;have lg:Hid _:=⟨hd_load q6.gb⟩;have lf:Hid _:=⟨hd_load q6.fb⟩;replace q6:=Hid.mk q6)
  | (guard_target =~ wpList _ _ _ (Oper.mk _ (Op.load 27 _) _ _ _ _::_) _ _;go_must (first|refine wpList_ld 27 _ rfl rfl _ _ rfl lg.out ?_|refine wpList_ld 27 _ rfl rfl _ _ rfl lf.out ?_);simp only[pts])
  | (guard_target =~ wpList _ _ _ (Oper.mk _ (Op.load 30 _) _ _ _ _::_) _ _;go_must (first|refine wpList_ld 30 _ rfl rfl _ _ rfl l2.out ?_|refine wpList_ld 30 _ rfl rfl _ _ rfl l3.out ?_|refine wpList_ld 30 _ rfl rfl _ _ rfl l5.out ?_);simp only[pts])
  | (guard_target =~ wpList _ _ _ (Oper.mk _ (Op.store 30 _ _) _ _ _ _::_) _ _;go_must (refine wpList_st 30 _ _ rfl rfl _ _ rfl rfl (s5.out _ rfl) ?_);simp only[pts]))
 clear cS CC l2 cK l3 cA s5 x12 x2 y12 x5 l5 cI g0 g1 g2 f0 f1 lg lf hL hSi hbb hEz hA hG d1 d2 d4 d4n e4
 generalize w3.heap.size=B at *
 go_loopw [14,15] (fun qn q wr=>∃ j:Nat,j<=f.toks.length/\q = .int .i64 (j:Int)/\qn = .int .i64 ((rnk (camZ f) v j:Nat):Int)/\Hid (Lq f (some ⟨gf,ofs,none⟩) cp v pa ca ks B w b wr)) (fun _ q _=>f.toks.length-(RowKit.intOf q).toNat)
 case atStart=>exact⟨0,Nat.zero_le _,by go_num,rfl,q6⟩
 case round =>
  clear q6
  obtain⟨j,hj,rfl,rfl,hI⟩:=hrel
  have x12:wr.cell? ⟨w.heap.size,12,none⟩=some (.slice (some ⟨gf,ofs,none⟩) f.toks.length cp):=cell_at hI.out.fb 12
  have l7:Hid _:=⟨hI.out.ldF⟩
  have hrl:=rnk_le (camZ f) v j
  have hrb:((rnk (camZ f) v j:Nat):Int)<1000000:=by omega
  by_cases hlt:j<f.toks.length
  ·obtain⟨t,ht⟩:∃ t,f.toks[j]?=some t:=⟨f.toks[j],List.getElem?_eq_getElem hlt⟩
   have hji:(j:Int)<f.toks.length:=by omega
   have hcl:j<(camZ f).length:=by rw[hCL.out];exact hlt
   have cA:=hI.out.sin hc.out hlt
   have hlt':Hid _:=⟨hlt⟩
   have ht':Hid _:=⟨ht⟩
   cases hk:kp (camZ f) v j with
   | false =>
    have hr1:Hid _:=⟨rnk_no hcl hk⟩
    have d1:decide ((((camZ f).getD j 0:Nat):Int)<=v)=false:=hk
    have hk':Hid _:=⟨hk⟩
    generalize (camZ f).getD j 0=c at cA d1
    generalize rnk (camZ f) v j=R at *
    clear hk hcl hrl hI ht
    go_wp2_with (first
     | (guard_target =~ wpList _ _ _ (Oper.mk _ (Op.load 30 _) _ _ _ _::_) _ _;go_must (first|refine wpList_ld 30 _ rfl rfl _ _ rfl l7.out ?_|refine wpList_ld 30 _ rfl rfl _ _ rfl l8.out ?_);simp only[pts])
     | (go_at_call 8;refine cA.mono ?_;rintro _ w7 ⟨rfl,q7⟩;have l8:Hid _:=⟨q7.ldF⟩;have cL:=q7.liv hc.out hlt'.out;rw[hk'.out] at cL;clear q7)
     | (go_at_call 9;refine cL.mono ?_;rintro _ w8 ⟨rfl,q8⟩;replace q8:=Hid.mk q8))
    go_roundw
    case rel=>exact⟨j+1,by omega,by go_num,by rw[hr1.out],q8⟩
    case measure=>simp[RowKit.intOf];omega
   | true =>
    have hr1:Hid _:=⟨rnk_kp hcl hk⟩
    have d1:decide ((((camZ f).getD j 0:Nat):Int)<=v)=true:=hk
    have hk':Hid _:=⟨hk⟩
    have hRl:rnk (camZ f) v j<(atF f v).toks.length:=by rw[new_len];exact rnk_lt hcl hk hlt
    have hbl:=blk_le (v:=v) hZ.out ht
    obtain⟨Zb,hZb⟩:∃ z,(trnT f.toks (camZ f) v j t).blk=z:=⟨_,rfl⟩
    rw[hZb] at hbl
    generalize (camZ f).getD j 0=c at cA d1
    obtain⟨R,hR⟩:∃ r,rnk (camZ f) v j=r:=⟨_,rfl⟩
    have hR':Hid _:=⟨hR⟩
    rw[hR] at hrb hRl hr1 ⊢
    have dge:decide (((atF f v).toks.length:Int)<=(R:Int))=false:=decide_eq_false (by omega)
    have hRi:(R:Int)<(atF f v).toks.length:=by omega
    have dgn:¬ (atF f v).toks.length<=R:=by omega
    have dbl:decide (t.blk<Zb)=false:=decide_eq_false (by omega)
    have hZb':Hid _:=⟨hZb⟩
    generalize hgl:(atF f v).toks.length=gl at dge hRi dgn
    have dgm:decide (gl<=R)=false:=decide_eq_false dgn
    have dgt:R<gl:=by omega
    have hgl':Hid _:=⟨hgl⟩
    clear hk hcl hrl hI ht hR hZb hgl hRl
    go_wp2_with (first
     | (guard_target =~ wpList _ _ _ (Oper.mk _ (Op.load 30 _) _ _ _ _::_) _ _;go_must (first|refine wpList_ld 30 _ rfl rfl _ _ rfl l7.out ?_|refine wpList_ld 30 _ rfl rfl _ _ rfl l8.out ?_);simp only[pts])
     | (go_at_call 8;refine cA.mono ?_;rintro _ w7 ⟨rfl,q7⟩;have l8:Hid _:=⟨q7.ldF⟩;have cL:=q7.liv hc.out hlt'.out;rw[hk'.out] at cL;clear q7)
     | (go_at_call 9;refine cL.mono ?_;rintro _ w8 ⟨rfl,q8⟩;replace q8:=Hid.mk q8))
    obtain⟨gf',ofs',pc,cc,ga,pd,cd,e1,e2,hV⟩:=q8.out.two hc.out ht'.out hk'.out
    cases e1
    subst e2
    rw[hR'.out,hZb'.out] at hV
    generalize trnT f.toks (camZ f) v j t=t' at hV
    obtain⟨p,p0,pN,pE,lt1,lt2,c12f,c12g,c14g,c14f,cAl⟩:∃ p:World->Prop,p w8.drew/\Nonempty (CW p)/\(∀ V,p V->Hid (Lq f (some ⟨gf,ofs,none⟩) cp v (some ⟨ga,0,none⟩) ca ks B w b V))/\Hid (∀ W,(∃ θ:CW p,W=θ.w)->(Instr.loadAt 42 (.pointer (some ⟨gf,ofs+j*21,none⟩))).run Tryz.prog W = .ok (tkV t pc cc) W)/\Hid (∀ W,(∃ θ:CW p,W=θ.w)->(Instr.loadAt 42 (.pointer (some ⟨ga,R*21,none⟩))).run Tryz.prog W = .ok (tkV t' pd cd) W)/\(∀ θ:CW p,θ.w.cell? ⟨w.heap.size,12,none⟩=some (.slice (some ⟨gf,ofs,none⟩) f.toks.length cp))/\(∀ θ:CW p,θ.w.cell? ⟨b,12,none⟩=some (.slice (some ⟨ga,0,none⟩) gl ca))/\(∀ θ:CW p,θ.w.cell? ⟨ga,R*21+14,none⟩=some (.int .i64 Zb))/\(∀ θ:CW p,θ.w.cell? ⟨gf,ofs+j*21+14,none⟩=some (.int .i64 t.blk))/\Hid (∀ V,p V->Calls Tryz.prog 10 #[tkV t' pd cd,tkV t pc cc] V fun e w'=>e = .returned (.bool true)/\p w') :=
     ⟨fun V=>Below w8.heap.size w8 V,(Below.refl _ _).drew,⟨⟨w8,Below.refl _ _⟩⟩,fun V h=>⟨q8.out.below h⟩,⟨by rintro _ ⟨θ,rfl⟩;exact(hV θ.w θ.h).1⟩,⟨by rintro _ ⟨θ,rfl⟩;exact(hV θ.w θ.h).2.1⟩,fun θ=>cell_at (q8.out.below θ.h).fb 12,fun θ=>by rw[<- hgl'.out];exact cell_at (q8.out.below θ.h).gb 12,fun θ=>(hV θ.w θ.h).2.2.1,fun θ=>(hV θ.w θ.h).2.2.2.1,⟨fun V h=>(hV V h).2.2.2.2⟩⟩
    clear hV q8 cA cL l7 l8 hc hlt' ht' hk' hZb' hgl'
    refine wp_region_lx p (by kernel_rfl) (by kernel_rfl) (fun _ _ d _ _ h=>by cases d<;>exact h) p0 ?_
    have hp:=p0
    generalize w8.drew=W at hp ⊢
    repeat (first
     | (guard_target =~ Lx _ _ _ _ (Oper.mk _ (Op.load 42 _) _ _ _ _::_) _ _;(first|refine lx_ld lt1.out rfl (by rfl) ?_|refine lx_ld lt2.out rfl (by rfl) ?_);simp only[pts])
     | (guard_target =~ Lx _ _ _ _ (Oper.mk _ (Op.call { callee:=Callee.value (Operand.func 10),args:=_,argTypes:=_ }) _ _ _ _::_) _ _;refine lx_p2 ent_alike cAl.out hp rfl rfl (by rfl) ?_;intro W hp;simp only[pts])
     | (refine lx_one rfl ?_;(first|go_big_quiet_skip|(go_big_quiet_want;go_big_quiet_op;go_big_quiet_on));refine wpQuiet_nil ?_))
    refine lx_done ?_
    have hF:=pE _ hp
    clear lt1 lt2 c12f c12g c14g c14f cAl pE pN p0 hp
    go_wp2_with fail
    go_roundw
    case rel=>exact⟨j+1,by omega,by go_num,by rw[hr1.out];go_num,hF⟩
    case measure=>simp[RowKit.intOf];omega
  ·obtain rfl:j=f.toks.length:=by omega
   have d3:decide ((f.toks.length:Int)<f.toks.length)=false:=by simp
   have y12:wr.cell? ⟨b,12,none⟩=some (.slice pa (atF f v).toks.length ca):=cell_at hI.out.gb 12
   rw[new_len] at y12
   have l9:Hid _:=⟨hI.out.ldG⟩
   have cR:=hI.out.rch hc.out
   have hE2f:v<u->atE (atF f v) u=130:=fun h=>by
    unfold atE
    rw[if_pos (atF_valid hc.out.z hc.out.hv),if_neg (fun hh=>by have h1:u<=v:=hh.2;omega)]
   generalize rnk (camZ f) v f.toks.length=R at *
   clear hI hlt hrl
   by_cases huv:v<u
   ·have dU:decide (v<u)=true:=decide_eq_true huv
    have hE2:=hE2f huv
    clear huv hE2f
    go_wp2_with (first
     | (guard_target =~ wpList _ _ _ (Oper.mk _ (Op.load 30 _) _ _ _ _::_) _ _;go_must (first|refine wpList_ld 30 _ rfl rfl _ _ rfl l7.out ?_|refine wpList_ld 30 _ rfl rfl _ _ rfl l9.out ?_|refine wpList_ld 30 _ rfl rfl _ _ rfl l11.out ?_);simp only[pts])
     | (guard_target =~ wpList _ _ _ (Oper.mk _ (Op.store 30 _ _) _ _ _ _::_) _ _;go_must (first|refine wpList_st 30 _ _ rfl rfl _ _ rfl rfl (s13.out _ rfl) ?_);simp only[pts])
     | (go_at_call 11;refine cR.mono ?_;rintro _ w11 ⟨rfl,q11⟩;have l11:Hid _:=⟨q11.ldG⟩;have cG:=q11.again hc.out u;rw[hE2] at cG;clear q11)
     | (go_at_call 6;refine cG.mono ?_;rintro _ w12 ⟨ph,ch,W13,rfl,s13,l13,hb13,cH⟩;clear cG;replace s13:=Hid.mk s13;replace l13:=Hid.mk l13;replace hb13:=Hid.mk hb13))
    go_ret
    exact⟨rfl,hb13.out⟩
   ·have dU:decide (v<u)=false:=decide_eq_false huv
    have hUV:Hid (u<=v):=⟨by omega⟩
    clear hE2f huv
    go_wp2_with (first
     | (guard_target =~ wpList _ _ _ (Oper.mk _ (Op.load 30 _) _ _ _ _::_) _ _;go_must (first|refine wpList_ld 30 _ rfl rfl _ _ rfl l7.out ?_|refine wpList_ld 30 _ rfl rfl _ _ rfl l9.out ?_|refine wpList_ld 30 _ rfl rfl _ _ rfl l11.out ?_|refine wpList_ld 30 _ rfl rfl _ _ rfl l13.out ?_|refine wpList_ld 30 _ rfl rfl _ _ rfl l15a.out ?_|refine wpList_ld 30 _ rfl rfl _ _ rfl l15b.out ?_);simp only[pts])
     | (guard_target =~ wpList _ _ _ (Oper.mk _ (Op.store 30 _ _) _ _ _ _::_) _ _;go_must (first|refine wpList_st 30 _ _ rfl rfl _ _ rfl rfl (s13.out _ rfl) ?_|refine wpList_st 30 _ _ rfl rfl _ _ rfl rfl (s15.out _ rfl) ?_);simp only[pts])
     | (go_at_call 11;refine cR.mono ?_;rintro _ w11 ⟨rfl,q11⟩;have l11:Hid _:=⟨q11.ldG⟩;have cG:=q11.again hc.out u;generalize atE (atF f v) u=E2 at cG;generalize atG (atF f v) u=G2 at cG;clear q11)
     | (go_at_call 6;refine cG.mono ?_;rintro _ w12 ⟨ph,ch,W13,rfl,s13,l13,hb13,cH⟩;clear cG;replace s13:=Hid.mk s13;replace l13:=Hid.mk l13;replace hb13:=Hid.mk hb13;replace cH:=cH hUV.out)
     | (go_at_call 6;refine cH.mono ?_;rintro _ w14 ⟨pk,ck,W15,rfl,s15,l15a,l15b,cF⟩;replace s15:=Hid.mk s15;replace l15a:=Hid.mk l15a;replace l15b:=Hid.mk l15b)
     | (go_at_call 12;refine cF.mono ?_;rintro _ w16 ⟨rfl,hb16⟩))
    go_ret
    exact⟨rfl,hb16.out⟩
theorem ProjectKeeps_any (f:Fm) (pp:Option Addr) (cp:Nat) (w:World) (v u:Int) (fo:FmOk f) (kt:KT w) (mt:MT w) (hr:TkL w pp w.heap.size f.toks) (hlm:f.toks.length*192<=140737488351232) :
  Calls Tryz.prog 3 #[fmV f pp cp,.int .i64 v,.int .i64 u] w fun e w'=>e = .returned (.bool true)/\Below w.heap.size w w':=by
 have hb:=bel1 w (fmO f pp cp)
 have H1:=heap_al w (fmO f pp cp)
 have hs1:(w.alloc (fmO f pp cp)).heap.size=w.heap.size+1:=World.size_alloc _ _
 have hC:=kpC_of v fo kt mt hr hlm hb H1 (by omega)
 have cS:=sure_any (w.alloc (fmO f pp cp)) (kt.up hb) (mt.below mt.pos hb)
 by_cases hE:chkZ f≠none\/400<f.toks.length\/¬ (fstV f<=v/\v<=f.ver)
 ·exact Keeps_early u rfl hC cS hr hE
 ·have hz:chkZ f=none:=Decidable.byContradiction fun h=>hE (.inl h)
  have h4:f.toks.length<=400:=by
   rcases Nat.lt_or_ge 400 f.toks.length with h|h
   ·exact absurd (.inr (.inl h)) hE
   ·exact h
  have hv:fstV f<=v/\v<=f.ver:=Decidable.byContradiction fun h=>hE (.inr (.inr h))
  exact Keeps_main u rfl hC cS hr kt mt hlm hz h4 hv
open Go.Lib
abbrev laid2:List (String×DataW Unit):=[("stencil/prim.kinds",Rows.laid_stencil_prim_kinds),("stencil/ir.mayHave",Rows.laid_stencil_ir_mayHave)]
theorem gTab:Tryz.prog.globalNamed "stencil/prim.kinds" = some 1:=by kernel_rfl
theorem gTabType:(Tryz.prog.globals[1]?).map (·.type)=some 142:=by kernel_rfl
theorem gMay:Tryz.prog.globalNamed "stencil/ir.mayHave" = some 0:=by kernel_rfl
theorem gMayType:(Tryz.prog.globals[0]?).map (·.type)=some 127:=by kernel_rfl
theorem cellsKs:Tryz.prog.cellsOf 142=55:=by kernel_rfl
theorem cellsK:Tryz.prog.cellsOf 133=5:=by kernel_rfl
theorem cellsKr:Tryz.prog.cellsOf 131=1:=by kernel_rfl
theorem cellsKu:Tryz.prog.cellsOf 39=1:=by kernel_rfl
theorem cellsKi:Tryz.prog.cellsOf 3=1:=by kernel_rfl
theorem cellsMs:Tryz.prog.cellsOf 127=16:=by kernel_rfl
theorem cellsM:Tryz.prog.cellsOf 125=1:=by kernel_rfl
def kindD {H:Type} (p:Int):DataW H:=.agg [.lit (.int .i64 (sz p)),.lit (.int .i64 (rd p)),.lit (.int .u64 (nl p)),.lit (.int .u64 (mn p)),.lit (.int .u64 (mx p))]
theorem kindsD_eq {H:Type}:(Rows.laid_stencil_prim_kinds:DataW H) = .agg ((List.range 11).map fun i:Nat=>kindD i):=by kernel_rfl
def mayTab:List Int:=(List.range 16).map fun p:Nat=>(mayN p:Int)
theorem mayD_eq:(Rows.laid_stencil_ir_mayHave:DataW Unit)=Lib.tabData .i64 mayTab:=by kernel_rfl
theorem klist5 {α:Type} {l:List α} (h:l.length=5):∃ a b c d e,l=[a,b,c,d,e]:=by
 rcases l with _|⟨a,_|⟨b,_|⟨c,_|⟨d,_|⟨e,l⟩⟩⟩⟩⟩<;>simp at h
 subst h;exact⟨a,b,c,d,e,rfl⟩
theorem klit_of {H:Type} {enc:TypeId×Value->H} {w:World} {base:Nat} {sp:Nat->Bool} {held:Bool} {fuel:Nat} {t:TypeId} {k:IntKind} {c:Value} {z:Int} {q:List MemPlace}
  (ht:Tryz.prog.underlying t=some (.int k)) (h:DataW.trod enc Tryz.prog w base sp held fuel t [c]=some (.lit (.int k z),q)):c = .int k z:=by
 obtain⟨n,hc,hx,_⟩:=DataW.trod_int ht h
 simp at hc hx
 rw[hc,hx.1]
theorem kind_cells {H:Type} {enc:TypeId×Value->H} {w:World} {base:Nat} {sp:Nat->Bool} {held:Bool} {fuel:Nat} {cs:List Value} {p:Int} {q:List MemPlace}
  (h:DataW.trod enc Tryz.prog w base sp held fuel 133 cs=some (kindD p,q)):cs=[.int .i64 (sz p),.int .i64 (rd p),.int .u64 (nl p),.int .u64 (mn p),.int .u64 (mx p)]:=by
 obtain⟨ys,n,_,hx,hl,hyl,hf⟩:=DataW.trod_struct Tryz.underlying133 h
 rw[cellsK] at hl
 obtain⟨c0,c1,c2,c3,c4,rfl⟩:=klist5 hl
 obtain⟨⟨d0,q0⟩,⟨d1,q1⟩,⟨d2,q2⟩,⟨d3,q3⟩,⟨d4,q4⟩,rfl⟩:=klist5 hyl
 have f0:=hf 0 _ rfl
 have f1:=hf 1 _ rfl
 have f2:=hf 2 _ rfl
 have f3:=hf 3 _ rfl
 have f4:=hf 4 _ rfl
 simp[cellsKi,cellsKr,cellsKu] at f0 f1 f2 f3 f4
 simp[kindD] at hx
 obtain⟨⟨rfl,rfl,rfl,rfl,rfl⟩,_⟩:=hx
 rw[klit_of Tryz.underlying3 f0,klit_of Tryz.underlying131 f1,klit_of Tryz.underlying39 f2,klit_of Tryz.underlying39 f3,klit_of Tryz.underlying39 f4]
theorem tabs_of_laid {W:World} (h:laidMetH Tryz.prog laid2 W):KT W/\MT W:=by
 have h':laidMet Tryz.prog laid2 W:=h
 obtain⟨ps,⟨g',t',cs,fuel,p,q,hg',ht',hvar,hd,⟨g2,t2,cs2,f2,p2,q2,hg2,ht2,hv2,hd2,_,_⟩,_⟩,_⟩:=h'
 obtain rfl:=Option.some.inj (gTab.symm.trans hg')
 obtain rfl:=Option.some.inj (gTabType.symm.trans ht')
 obtain rfl:=Option.some.inj (gMay.symm.trans hg2)
 obtain rfl:=Option.some.inj (gMayType.symm.trans ht2)
 rw[kindsD_eq] at hd
 rw[mayD_eq] at hd2
 have hpos:∀ (g:Nat) (o:Nat) (v:Value),W.cell? ⟨g,o,none⟩=some v->g<W.heap.size:=fun g o v hc=>by
  rcases Nat.lt_or_ge g W.heap.size with h1|h1
  ·exact h1
  ·simp[World.cell?,Array.getElem?_eq_none h1] at hc
 constructor
 ·obtain⟨xs,m,_,hx,hl,hxl,hf⟩:=DataW.trod_array Tryz.underlying142 hd
  rw[cellsKs] at hl
  have hxs:xs.map (·.1)=(List.range 11).map fun i:Nat=>(kindD i:DataW Unit):=by
   have:=congrArg Prod.fst hx
   simpa using this.symm
  have row:∀ i:Nat,i<11->(cs.toList.drop (i*5)).take 5=[.int .i64 (sz i),.int .i64 (rd i),.int .u64 (nl i),.int .u64 (mn i),.int .u64 (mx i)]:=by
   intro i hi
   have h1:=hf i hi
   rw[cellsK] at h1
   have h2:(xs.map (·.1))[i]?=some (kindD i):=by rw[hxs];simp[hi]
   simp only[List.getElem?_map,Option.map_eq_some_iff] at h2
   obtain⟨⟨d,q'⟩,h3,rfl⟩:=h2
   rw[h3] at h1
   exact kind_cells h1
  have cell:∀ (i j:Nat) (v:Value),i<11->j<5->([.int .i64 (sz i),.int .i64 (rd i),.int .u64 (nl i),.int .u64 (mn i),.int .u64 (mx i)]:List Value)[j]?=some v->W.cell? ⟨1,5*i+j,none⟩=some v:=by
   intro i j v hi hj hv
   have:=World.var?_cell gTab hvar (5*i+j)
   rw[this]
   rw[<- row i hi] at hv
   simp[hj] at hv
   simpa[Nat.mul_comm] using hv
  exact⟨hpos _ _ _ (cell 0 0 _ (by omega) (by omega) rfl),fun i hi=>cell i 0 _ hi (by omega) rfl,fun i hi=>cell i 1 _ hi (by omega) rfl,fun i hi=>cell i 2 _ hi (by omega) rfl,fun i hi=>cell i 3 _ hi (by omega) rfl,fun i hi=>cell i 4 _ hi (by omega) rfl⟩
 ·have hcs2:=Lib.cells_of_tab Tryz.underlying127 Tryz.underlying125 cellsM cellsMs hd2
  have cell:∀ p:Nat,p<16->W.cell? ⟨0,p,none⟩=some (.int .i64 (mayN p:Int)):=fun p hp=>by
   rw[World.var?_cell gMay hv2 p]
   have hc:cs2.toList[p]?=some (.int .i64 (mayN p:Int)):=by
    rw[hcs2,List.getElem?_map]
    unfold mayTab
    rw[List.getElem?_map,List.getElem?_range hp]
    rfl
   simpa using hc
  exact⟨hpos _ _ _ (cell 0 (by omega)),cell⟩
end Go.Proofs.YtahogajcbncjhaaGreatDoor
