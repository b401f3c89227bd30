import Derived.Test.YtjlbcdnkglaheaaGreatDoorK40
import Derived.Deep.DeepHandedRow
namespace Go.Proofs.YtjlbcdnkglaheaaGreatDoor
set_option maxRecDepth 1000000
set_option maxHeartbeats 16000000
open Go.ChangeShapes Go.WideShapes Go.ChangeAt Go.RowKit Go.Shelf Go.Maps
theorem eInfoCl:(Tryz.prog.info? 44).map (·.size)=some 5:=by kernel_rfl
theorem eca_ld {w:World} {b:Nat} {c:Cl} (h:w.heap[b]?=some (caO c)):(Instr.loadAt 44 (.pointer (some ⟨b,0,none⟩))).run Tryz.prog w = .ok (caV c) w:=by
 simp only[Instr.loadAt,Instr.sureAddr,Sem.run_bind,Sem.run_pure,Result.andThen]
 exact run_loadVar_row _ _ _ _ _ _ _ h Tryz.underlying44 rfl eInfoCl
theorem within_no (f:Fm) (pp:Option Addr) (cp:Nat) (v1 v3:Value) (at':Int) (w:World) (kt:KT w) (mt:MT w) (tl:TkL w pp w.heap.size f.toks) (hz:chkZ f≠none) :
  Calls Tryz.prog 3 #[fmV f pp cp,v1,.int .i64 at',v3] w fun r w'=>r = .returned (.bool true)/\Below w.heap.size w w':=by
 have he:errZ (chkZ f)≠0:=by
  cases h:chkZ f with
  | none=>exact absurd h hz
  | some z=>simp[errZ]
 have HB:Below w.heap.size w (w.alloc (fmO f pp cp)):=nbel _ _
 have hW:=writes_any (w.alloc (fmO f pp cp)) (kt.up HB) (mt.below mt.pos HB)
 have HS:(w.alloc (fmO f pp cp)).heap.size=w.heap.size+1:=World.size_alloc _ _
 have HN:Hid (∀ X,Below (w.alloc (fmO f pp cp)).heap.size (w.alloc (fmO f pp cp)) X->(Instr.loadAt 30 (.pointer (some ⟨w.heap.size,0,none⟩))).run Tryz.prog X = .ok (fmV f pp cp) X/\Calls Tryz.prog 5 #[fmV f pp cp] X fun r w'=>r = .returned (.tuple #[.pointer none,.int .i64 121])/\Below w.heap.size w w'):=⟨fun X h=>by
  have hb1:=HB.trans (h.mono HB.size)
  have tl1:=(tl.below hb1).mono hb1.size
  exact⟨((fm_new w f pp cp).below (by omega) h).load,(eNew_no he (chkC_of f pp cp _ tl1 (kt.up hb1) (mt.below mt.pos hb1))).mono fun r w' hP=>⟨hP.1,hb1.trans (hP.2.mono hb1.size)⟩⟩⟩
 clear hz he kt mt tl HB HS
 go_enter Tryz.func3,Tryz.ntmps3
 go_wp2_with (first
  | (go_at_call 4;refine hW.mono ?_;clear hW;rintro _ w1 ⟨rfl,b1⟩;obtain⟨FL,N1⟩:=HN.out w1 b1;clear b1)
  | (guard_target =~ wpList _ _ _ (Oper.mk _ (Op.load 30 _) _ _ _ _::_) _ _;go_must (refine wpList_ld 30 _ rfl rfl _ _ rfl FL ?_);simp only[pts])
  | (go_at_call 5;refine N1.mono ?_;clear N1 FL;rintro _ w2 ⟨rfl,b2⟩))
 go_ret
 exact⟨rfl,b2⟩
theorem within_yes (f:Fm) (pp:Option Addr) (cp:Nat) (hcp:f.toks.length<=cp) (a:Option Addr) (L K:Nat) (bi:Nat->Int) (at':Int) (cs:List Cl) (pq:Option Addr) (cq:Nat) (w:World) (kt:KT w) (mt:MT w) (tl:TkL w pp w.heap.size f.toks) (hz:chkZ f=none) (hl:f.toks.length<=733007751850)
  (hA:C.Arg w a L bi) (hbi:∀ j,0<=bi j/\bi j<=255) (hL:L+4096<=140737488355328) (hLC:L<=K) (hq:CRow w pq w.heap.size cs) (hql:cs.length<=2000000000000) (hwd:∀ c∈cs,WdC w w.heap.size c) :
  Calls Tryz.prog 3 #[fmV f pp cp,.slice a L K,.int .i64 at',.slice pq cs.length cq] w fun r w'=>r = .returned (.bool true)/\Below w.heap.size w w':=by
 have HB:Below w.heap.size w (w.alloc (fmO f pp cp)):=nbel _ _
 have hW:=writes_any (w.alloc (fmO f pp cp)) (kt.up HB) (mt.below mt.pos HB)
 have HS:(w.alloc (fmO f pp cp)).heap.size=w.heap.size+1:=World.size_alloc _ _
 have HN:Hid (∀ X,Below (w.alloc (fmO f pp cp)).heap.size (w.alloc (fmO f pp cp)) X->(Instr.loadAt 30 (.pointer (some ⟨w.heap.size,0,none⟩))).run Tryz.prog X = .ok (fmV f pp cp) X/\Calls Tryz.prog 5 #[fmV f pp cp] X fun r w'=>∃ e,r = .returned (.tuple #[pV e,.int .i64 0])/\E0I f w.heap.size e w'.heap.size w'/\Below w.heap.size w w'):=⟨fun X h=>by
  have hb1:=HB.trans (h.mono HB.size)
  have tl1:=(tl.below hb1).mono hb1.size
  refine⟨((fm_new w f pp cp).below (by omega) h).load,(E0I.new hz hcp tl1 (kt.up hb1) (mt.below mt.pos hb1)).mono ?_⟩
  rintro r w' ⟨e,rfl,h1,h2⟩
  exact⟨e,rfl,h1.low hb1.size,hb1.trans (h2.mono hb1.size)⟩⟩
 have hL1:L<=140737488355328:=by omega
 replace hA:=Hid.mk hA
 replace hq:=Hid.mk hq
 replace hwd:=Hid.mk hwd
 replace hz:=Hid.mk hz
 clear kt mt tl HB HS hcp
 go_enter Tryz.func3,Tryz.ntmps3
 go_upto_region 6 with (first
  | (go_at_call 4;refine hW.mono ?_;clear hW;rintro _ w1 ⟨rfl,b1⟩;obtain⟨FL,N1⟩:=HN.out w1 b1;clear b1)
  | (guard_target =~ wpList _ _ _ (Oper.mk _ (Op.load 30 _) _ _ _ _::_) _ _;go_must (refine wpList_ld 30 _ rfl rfl _ _ rfl FL ?_);simp only[pts])
  | (go_at_call 5;refine N1.mono ?_;clear N1 FL HN;rintro _ w2 ⟨e,rfl,E2,b2⟩;replace E2:=Hid.mk E2;replace b2:=Hid.mk b2))
 go_wp2_with (at_builtin;refine(C.wpList_append_ex (by rfl) _ _ _ (by rfl) _ _ (by rfl) (by rfl) _ (C.app_copy _ _ _ _ _ bi ?h0 ?hb hL1) ?hK))
 case h0=>exact heap_al _ _
 case hb=>exact hA.out.below (b2.out.trans ((bel1 _ _).mono b2.out.size))
 case hK =>
 intro v w4 g cap hv B4 R4 hc4 hg4 hm4
 subst hv
 have z4:=B4.size
 have HS2:(w2.alloc (.cells #[] 5)).heap.size=w2.heap.size+1:=World.size_alloc _ _
 have gg:w2.heap.size<=g:=by omega
 have b24:Below w2.heap.size w2 w4:=(bel1 w2 (.cells #[] 5)).trans (B4.mono (by omega))
 clear B4 hg4 z4
 go_wp2_with (at_builtin;refine(C.wpList_append_ex (by rfl) _ _ _ (by rfl) _ _ (by rfl) (by rfl) _ (C.app_three _ _ _ _ (fun j=>if j<L then bi j else 0) _ _ ?hR hc4 ?hs (by omega) hm4) ?hK))
 case hR=>exact R4.alloc _
 case hs=>exact heap_al _ _
 case hK =>
 intro v w5 gF capF hv B5 R5 hc5 hg5 hm5
 subst hv
 have RF:C.RowM w5 gF 5 capF (fun j=>.int .u8 (C.fM L bi j)):=C.rowM_of (R5.congr fun j _=>by rw[C.fM_of])
 have z5:=b24.size
 have HS4:=World.size_alloc w4 (.cells #[.int .u8 77,.int .u8 78,.int .u8 79] 5)
 have gF1:w2.heap.size<=gF:=by omega
 have b25:Below w2.heap.size w2 w5:=(b24.trans ((bel1 w4 _).mono z5)).trans (B5 _ gg (by omega))
 have E5:=E2.out.below b25
 have b5:Below w.heap.size w w5:=b2.out.trans (b25.mono b2.out.size)
 have hLF:L<=capF:=by omega
 clear B5 R5 hg5 b24 R4 hc4 hm4 gg b25 z5 HS4 HS2 E2 b2
 have hsz:¬ 9223372036854775807<(C.textF bi 0 L).size+3:=by rw[C.textF_size];omega
 rcases E5.wrap2 b5 hz.out hl L RF hbi hc5 hL1 gF1 at' with CW|⟨a0,rfl,ha,hi,CW⟩
 ·have tt:=C.text_tail L bi
  replace RF:=Hid.mk RF
  replace b5:=Hid.mk b5
  clear E5
  go_wp2_with (first
   | (go_at_call 6;refine CW.mono ?_;clear CW;rintro _ w6 ⟨er,rfl,her,E6,b6⟩;have hcB:=C.conv_arg (C:=K) (hA.out.below (b5.out.trans (b6.mono b5.out.size))) hbi;have hcF:=C.text_conv w6 gF capF _ (C.rowM_below RF.out b6 RF.out.lt) 0 (L+3) capF (by omega);rw[tt] at hcF;have cE:=E6.end_;have cD:=E6.done;have cN:=E6.next;replace b6:Hid (Below w.heap.size w w6):=⟨b5.out.trans (b6.mono b5.out.size)⟩;clear E6)
   | (go_at_call 7;refine cE.mono ?_;clear cE;rintro _ w7 ⟨rfl,he⟩;replace he:=he.symm;subst he)
   | (go_at_call 8;refine cD.mono ?_;clear cD;rintro _ w7 ⟨rfl,he⟩;replace he:=he.symm;subst he)
   | (go_at_call 9;refine cN.mono ?_;clear cN;rintro _ w8 ⟨rfl,E8,b8⟩))
  go_ret
  exact⟨rfl,b6.out.trans (b8.mono b6.out.size)⟩
 ·clear E5 RF b5
  go_upto_region 13 with (first
   | (go_at_call 6;refine CW.mono ?_;clear CW;rintro _ w6 ⟨rfl,x,V,I6,x6⟩;have AT:=I6.i.end_;have r6:=I6.i.rng;have nb0:decide ((a0:Int)<0)=false:=(by simp);have nb1:decide (x.en<a0)=false:=(by simp;omega);have nb2:decide (L<x.en)=false:=(by simp;omega);have nb3:decide ((x.en:Int)<(a0:Int))=false:=(by simp;omega);have nb4:decide ((L:Int)<(x.en:Int))=false:=(by simp;omega))
   | (go_at_call 7;refine AT.mono ?_;rintro _ w7 ⟨rfl,he⟩;replace he:=he.symm;subst he))
  clear AT
  obtain⟨p,q,pN⟩:∃ p:World->Prop,(∀ X,p X↔Below w6.heap.size w6 X)/\Nonempty (CW p):=⟨_,fun _=>Iff.rfl,⟨⟨w6,Below.refl _ _⟩⟩⟩
  have ya:∀ X,(∃ θ:CW p,X=θ.w)->WiI f w e gF L capF a0 hi bi x V X:=by
   rintro _ ⟨θ,rfl⟩
   exact I6.below ((q _).1 θ.h)
  have v1:∀ X,(∃ θ:CW p,X=θ.w)->(convert 31 9 (.slice (some ⟨gF,0,none⟩) a0 capF)).run Tryz.prog X = .ok (.string (C.textF bi 0 a0)) X:=fun X hX=>by
   rw[C.text_conv X gF capF x.fb (ya X hX).i.row 0 a0 capF (by omega),C.textF_congr fun j _ hj=>I6.s j (by omega)]
  obtain⟨va,s2,v2⟩:∃ va,(∀ X,(Instr.sliceAt 31 (.slice a L K) none (some (.int .i64 (a0:Int))) none).run Tryz.prog X = .ok va X)/\∀ X,(∃ θ:CW p,X=θ.w)->(convert 31 9 va).run Tryz.prog X = .ok (.string (C.textF bi 0 a0)) X:=⟨_,fun X=>sl_hi a L K a0 (by omega) X,fun X hX=>C.conv_arg (Arg_hi (hA.out.below (ya X hX).b) a0 ha K) hbi⟩
  have v3:∀ X,(∃ θ:CW p,X=θ.w)->(convert 31 9 (.slice (some ⟨gF,x.en,none⟩) (L+3-x.en) (capF-x.en))).run Tryz.prog X = .ok (.string (C.textF bi x.en (L-x.en)++{ data:=#[77,78,79] })) X:=fun X hX=>by
   rw[C.text_conv X gF capF x.fb (ya X hX).i.row x.en (L+3-x.en) _ (by omega),C.textF_congr fun j hj _=>x6 j hj,text_tl L x.en bi r6.2.1]
  obtain⟨vb,s4,v4⟩:∃ vb,(∀ X,(Instr.sliceAt 31 (.slice a L K) (some (.int .i64 (x.en:Int))) none none).run Tryz.prog X = .ok vb X)/\∀ X,(∃ θ:CW p,X=θ.w)->(convert 31 9 vb).run Tryz.prog X = .ok (.string (C.textF bi x.en (L-x.en))) X:=⟨_,fun X=>sl_lo a L K x.en r6.2.1 X,fun X hX=>by rw[C.conv_arg (Arg_lo (hA.out.below (ya X hX).b) hLC x.en r6.2.1) (fun j=>hbi _),textF_sh,Nat.add_zero]⟩
  have hsz2:¬ 9223372036854775807<(C.textF bi x.en (L-x.en)).size+3:=by rw[C.textF_size];omega
  have hp:p w6.drew:=(q _).2 (Below.refl _ _).drew
  have hd:Below w6.heap.size w6 w6.drew:=(Below.refl _ _).drew
  replace x6:=Hid.mk x6
  replace I6:=Hid.mk I6
  replace q:=Hid.mk q
  refine wp_region_lz (fun X=>∃ θ:CW p,X=θ.w) [0,1,2,3,4,5,6,7,8,9,10,11,15,16,12,13,14,17,18,19,20,21,22] (by kernel_rfl) (by kernel_rfl) (fun _ _ d _ _ h=>by cases d<;>exact h) ⟨⟨_,hp⟩,rfl⟩ ?_
  simp only[List.filterMap_cons,List.filterMap_nil,List.getElem?_cons_zero,List.getElem?_cons_succ]
  generalize w6.drew=X at hp hd ⊢
  have cE:=(ya X ⟨⟨_,hp⟩,rfl⟩).i.end_
  iterate 2 (refine ly_one rfl ?_;(first|go_big_quiet_skip|(go_big_quiet_want;go_big_quiet_op;go_big_quiet_on));refine wpQuiet_nil ?_)
  refine ly_sl (fun X _=>sl_own0 gF (L+3) capF a0 (by omega) X) rfl rfl rfl rfl (by rfl) ?_
  simp only[pts]
  refine ly_cv v1 rfl (by rfl) ?_
  simp only[pts]
  iterate 2 (refine ly_one rfl ?_;(first|go_big_quiet_skip|(go_big_quiet_want;go_big_quiet_op;go_big_quiet_on));refine wpQuiet_nil ?_)
  refine ly_sl (fun X _=>s2 X) rfl rfl rfl rfl (by rfl) ?_
  simp only[pts]
  refine ly_cv v2 rfl (by rfl) ?_
  simp only[pts]
  iterate 6 (refine ly_one rfl ?_;(first|go_big_quiet_skip|(go_big_quiet_want;go_big_quiet_op;go_big_quiet_on));refine wpQuiet_nil ?_)
  refine ly_call1 (R:=fun v X'=>v = .int .i64 x.en/\X'=X) ent_End (cE.mono fun r w' h=>⟨_,h.1,rfl,h.2⟩) rfl (by rfl) ?_
  rintro _ X' ⟨rfl,hX'⟩
  replace hX':=hX'.symm
  subst hX'
  refine⟨fun X=>∃ θ:CW p,X=θ.w,fun _ h=>h,⟨⟨_,hp⟩,rfl⟩,?_⟩
  simp only[pts]
  refine ly_sl (fun X _=>sl_own gF (L+3) capF x.en (by omega) (by omega) X) rfl rfl rfl rfl (by rfl) ?_
  simp only[pts]
  refine ly_cv v3 rfl (by rfl) ?_
  simp only[pts]
  refine ly_call1 (R:=fun v X'=>v = .int .i64 x.en/\X'=X) ent_End (cE.mono fun r w' h=>⟨_,h.1,rfl,h.2⟩) rfl (by rfl) ?_
  rintro _ X' ⟨rfl,hX'⟩
  replace hX':=hX'.symm
  subst hX'
  refine⟨fun X=>∃ θ:CW p,X=θ.w,fun _ h=>h,⟨⟨_,hp⟩,rfl⟩,?_⟩
  simp only[pts]
  refine ly_sl (fun X _=>s4 X) rfl rfl rfl rfl (by rfl) ?_
  simp only[pts]
  refine ly_cv v4 rfl (by rfl) ?_
  simp only[pts]
  iterate 3 (refine ly_one rfl ?_;(first|go_big_quiet_skip|(go_big_quiet_want;go_big_quiet_op;go_big_quiet_on));refine wpQuiet_nil ?_)
  refine ly_done ?_
  have I7:Hid (WiI f w e gF L capF a0 hi bi x V X):=⟨ya X ⟨⟨_,hp⟩,rfl⟩⟩
  clear ya v1 v2 v3 v4 s2 s4 q pN hp hd cE x6 I6 hsz2 nb0 nb1 nb2 nb3 nb4 r6 hsz
  go_wp2_with fail
  go_loopw [115] (fun i wz=>∃ (k:Nat) (x:Es) (V:Nat->Prop),k<=cs.length/\i = .int .i64 k/\Hid (WiI f w e gF L capF a0 hi bi x V wz)) (fun i _=>cs.length-(intOf i).toNat)
  case atStart=>exact⟨0,x,V,Nat.zero_le _,rfl,I7⟩
  case round =>
   clear I7
   obtain⟨wz,rfl⟩:∃ wz,wz=wr:=⟨_,rfl⟩
   obtain⟨k,x,V,hk,rfl,I⟩:=hrel
   by_cases hlt:k<cs.length
   ·obtain⟨c,hc⟩:∃ c,cs[k]?=some c:=⟨cs[k],List.getElem?_eq_getElem hlt⟩
    obtain⟨gq,oq,rfl,hgq,c0,c1,c2,c3,c4⟩:=(hq.out.below I.out.b).c k c hc
    obtain⟨hco,hnm,pw,nw,mw,hws⟩:=hq.out.ok c (List.mem_of_getElem? hc)
    have hwc:Hid _:=⟨hwd.out c (List.mem_of_getElem? hc)⟩
    obtain⟨ck,nm,ws,cnt,tx⟩:=c
    simp only at c0 c1 c2 c3 c4 hco hnm hws
    subst hws
    have hji:(k:Int)<cs.length:=by omega
    have hjb:(k:Int)<2000000000000:=by omega
    replace hco:=Hid.mk hco
    replace hnm:=Hid.mk hnm
    clear hc hgq
    have I1:Hid _:=⟨I.out.below (bel1 wz (caO ⟨ck,nm,.slice pw nw mw,cnt,tx⟩))⟩
    have hX:Hid _:=⟨heap_al wz (caO ⟨ck,nm,.slice pw nw mw,cnt,tx⟩)⟩
    have nX:Hid (¬ V wz.heap.size):=⟨fun h=>by have:=(I.out.i.v _ h).2;omega⟩
    by_cases h300:300<=k
    ·have d3:decide ((300:Int)<=(k:Int))=true:=by simp;omega
     go_wp2_with fail
     go_ret
     exact⟨rfl,I1.out.b⟩
    ·have d3:decide ((300:Int)<=(k:Int))=false:=by simp;omega
     go_upto_region 19 with fail
     obtain⟨X0,h0⟩:∃ X0,X0=wz.heap.size:=⟨_,rfl⟩
     dsimp only [caO] at I1 hX
     rw[<- h0] at hX nX ⊢
     generalize wz.alloc (Obj.cells #[.int .i64 ck,.string nm,.slice pw nw mw,.int .i64 cnt,.string tx] 44)=W1 at I1 hX ⊢
     clear c0 c1 c2 c3 c4 I h0 d3
     obtain⟨p,q,pN⟩:∃ p:World->Prop,(∀ X,p X↔Below W1.heap.size W1 X)/\Nonempty (CW p):=⟨_,fun _=>Iff.rfl,⟨⟨W1,Below.refl _ _⟩⟩⟩
     have yb:∀ X,(∃ θ:CW p,X=θ.w)->Below W1.heap.size W1 X:=by
      rintro _ ⟨θ,rfl⟩
      exact(q _).1 θ.h
     have v1:∀ X,(∃ θ:CW p,X=θ.w)->(convert 31 9 (.slice (some ⟨gF,0,none⟩) (L+3) capF)).run Tryz.prog X = .ok (.string (C.textF x.fb 0 (L+3))) X:=fun X hX=>C.text_conv X gF capF x.fb (I1.out.below (yb X hX)).i.row 0 (L+3) capF (by omega)
     have hp:p W1.drew:=(q _).2 (Below.refl _ _).drew
     have hd:Below W1.heap.size W1 W1.drew:=(Below.refl _ _).drew
     replace q:=Hid.mk q
     refine wp_region_lz (fun X=>∃ θ:CW p,X=θ.w) [0,2,4,5,1,3,6,7,8] (by kernel_rfl) (by kernel_rfl) (fun _ _ d _ _ h=>by cases d<;>exact h) ⟨⟨_,hp⟩,rfl⟩ ?_
     simp only[List.filterMap_cons,List.filterMap_nil,List.getElem?_cons_zero,List.getElem?_cons_succ]
     generalize W1.drew=X at hp hd ⊢
     have cE:=(I1.out.below hd).i.end_
     have cD:=(I1.out.below hd).i.done
     replace hd:=Hid.mk hd
     iterate 3 (refine ly_one rfl ?_;(first|go_big_quiet_skip|(go_big_quiet_want;go_big_quiet_op;go_big_quiet_on));refine wpQuiet_nil ?_)
     refine ly_cv v1 rfl (by rfl) ?_
     simp only[pts]
     refine ly_call1 (R:=fun v X'=>v = .int .i64 x.en/\X'=X) ent_End (cE.mono fun r w' h=>⟨_,h.1,rfl,h.2⟩) rfl (by rfl) ?_
     rintro _ X' ⟨rfl,hX'⟩
     replace hX':=hX'.symm
     subst hX'
     refine⟨fun X=>∃ θ:CW p,X=θ.w,fun _ h=>h,⟨⟨_,hp⟩,rfl⟩,?_⟩
     simp only[pts]
     refine ly_call1 (R:=fun v X'=>v = .bool (doneB f.toks x.s)/\Below X.heap.size X X') ent_Done (cD.mono fun r w' h=>⟨_,h.1,rfl,h.2.2⟩) rfl (by rfl) ?_
     rintro _ X2 ⟨rfl,b2⟩
     have hd2:Below W1.heap.size W1 X2:=hd.out.trans (b2.mono hd.out.size)
     have hp2:p X2:=(q.out _).2 hd2
     refine⟨fun X=>∃ θ:CW p,X=θ.w,fun _ h=>h,⟨⟨_,hp2⟩,rfl⟩,?_⟩
     simp only[pts]
     iterate 3 (refine ly_one rfl ?_;(first|go_big_quiet_skip|(go_big_quiet_want;go_big_quiet_op;go_big_quiet_on));refine wpQuiet_nil ?_)
     refine ly_done ?_
     have I2:Hid _:=⟨I1.out.below hd2⟩
     have hX2:X2.heap[X0]?=some (caO ⟨ck,nm,.slice pw nw mw,cnt,tx⟩):=(hd2.block X0 (Array.getElem?_eq_some_iff.1 hX.out).1).trans hX.out
     have LD:=eca_ld hX2
     have D2:=I2.out.do_ hz.out hl ⟨ck,nm,.slice pw nw mw,cnt,tx⟩ hco.out hnm.out hwc.out
     replace hX2:=Hid.mk hX2
     clear yb v1 q pN hp hd cE cD hp2 hd2 b2 hX I1
     go_upto_region 21 with (first
      | (guard_target =~ wpList _ _ _ (Oper.mk _ (Op.load 44 _) _ _ _ _::_) _ _;go_must (refine wpList_ld 44 _ rfl rfl _ _ rfl LD ?_);simp only[pts])
      | (go_at_call 10;refine D2.mono ?_;clear D2 LD;rintro _ w8 ⟨er,y,V',rfl,I8,o1,o2,o3,o4,F8⟩;replace I8:=Hid.mk I8;replace F8:=Hid.mk F8;replace o1:=Hid.mk o1;replace o2:=Hid.mk o2;replace o3:=Hid.mk o3;replace o4:=Hid.mk o4))
     obtain⟨p,q,pN⟩:∃ p:World->Prop,(∀ X,p X↔Below w8.heap.size w8 X)/\Nonempty (CW p):=⟨_,fun _=>Iff.rfl,⟨⟨w8,Below.refl _ _⟩⟩⟩
     have yb:∀ X,(∃ θ:CW p,X=θ.w)->Below w8.heap.size w8 X:=by
      rintro _ ⟨θ,rfl⟩
      exact(q _).1 θ.h
     have r8:=I8.out.i.rng
     have nb1:decide (y.en<x.en)=false:=by have:=o1.out;simp;omega
     have nb3:decide ((y.en:Int)<(x.en:Int))=false:=by have:=o1.out;simp;omega
     have nb2:decide (L<y.en)=false:=by simp;omega
     have nb4:decide ((L:Int)<(y.en:Int))=false:=by simp;omega
     have v1:∀ X,(∃ θ:CW p,X=θ.w)->(convert 31 9 (.slice (some ⟨gF,0,none⟩) a0 capF)).run Tryz.prog X = .ok (.string (C.textF bi 0 a0)) X:=fun X hX=>by
      rw[C.text_conv X gF capF y.fb (I8.out.below (yb X hX)).i.row 0 a0 capF (by omega),C.textF_congr fun j _ hj=>I8.out.s j (by omega)]
     obtain⟨va,s2,v2⟩:∃ va,(∀ X,(Instr.sliceAt 31 (.slice a L K) none (some (.int .i64 (a0:Int))) none).run Tryz.prog X = .ok va X)/\∀ X,(∃ θ:CW p,X=θ.w)->(convert 31 9 va).run Tryz.prog X = .ok (.string (C.textF bi 0 a0)) X:=⟨_,fun X=>sl_hi a L K a0 (by omega) X,fun X hX=>C.conv_arg (Arg_hi (hA.out.below (I8.out.below (yb X hX)).b) a0 ha K) hbi⟩
     have v3:∀ X,(∃ θ:CW p,X=θ.w)->(convert 31 9 (.slice (some ⟨gF,y.en,none⟩) (L+3-y.en) (capF-y.en))).run Tryz.prog X = .ok (.string (C.textF y.fb y.en (L+3-y.en))) X:=fun X hX=>C.text_conv X gF capF y.fb (I8.out.below (yb X hX)).i.row y.en (L+3-y.en) _ (by omega)
     have s5:∀ X,(Instr.sliceAt 9 (.string (C.textF x.fb 0 (L+3))) (some (.int .i64 (y.en:Int))) none none).run Tryz.prog X = .ok (.string (C.textF y.fb y.en (L+3-y.en))) X:=fun X=>by
      rw[sl_str _ _ (by rw[C.textF_size];omega),C.textF_size,C.text_cut x.fb (L+3) y.en (L+3) (by omega) (Nat.le_refl _),C.textF_congr fun j hj _=>(o2.out j hj).symm]
     have hp:p w8.drew:=(q _).2 (Below.refl _ _).drew
     have hd:Below w8.heap.size w8 w8.drew:=(Below.refl _ _).drew
     replace q:=Hid.mk q
     refine wp_region_lz (fun X=>∃ θ:CW p,X=θ.w) [0,2,1,3,4,5,7,8,6,9,10,11,12,13,14,15,16,17,18,19,20,21,22,23,24,28,29,25,26,27,30,31,32,33] (by kernel_rfl) (by kernel_rfl) (fun _ _ d _ _ h=>by cases d<;>exact h) ⟨⟨_,hp⟩,rfl⟩ ?_
     simp only[List.filterMap_cons,List.filterMap_nil,List.getElem?_cons_zero,List.getElem?_cons_succ]
     generalize w8.drew=X at hp hd ⊢
     have cE:=(I8.out.below hd).i.end_
     replace hd:=Hid.mk hd
     iterate 2 (refine ly_one rfl ?_;(first|go_big_quiet_skip|(go_big_quiet_want;go_big_quiet_op;go_big_quiet_on));refine wpQuiet_nil ?_)
     refine ly_call1 (R:=fun v X'=>v = .int .i64 y.en/\X'=X) ent_End (cE.mono fun r w' h=>⟨_,h.1,rfl,h.2⟩) rfl (by rfl) ?_
     rintro _ X' ⟨rfl,hX'⟩
     replace hX':=hX'.symm
     subst hX'
     refine⟨fun X=>∃ θ:CW p,X=θ.w,fun _ h=>h,⟨⟨_,hp⟩,rfl⟩,?_⟩
     simp only[pts]
     iterate 5 (refine ly_one rfl ?_;(first|go_big_quiet_skip|(go_big_quiet_want;go_big_quiet_op;go_big_quiet_on));refine wpQuiet_nil ?_)
     refine ly_call1 (R:=fun v X'=>v = .int .i64 y.en/\X'=X) ent_End (cE.mono fun r w' h=>⟨_,h.1,rfl,h.2⟩) rfl (by rfl) ?_
     rintro _ X' ⟨rfl,hX'⟩
     replace hX':=hX'.symm
     subst hX'
     refine⟨fun X=>∃ θ:CW p,X=θ.w,fun _ h=>h,⟨⟨_,hp⟩,rfl⟩,?_⟩
     simp only[pts]
     iterate 5 (refine ly_one rfl ?_;(first|go_big_quiet_skip|(go_big_quiet_want;go_big_quiet_op;go_big_quiet_on));refine wpQuiet_nil ?_)
     refine ly_sl (fun X _=>sl_own0 gF (L+3) capF a0 (by omega) X) rfl rfl rfl rfl (by rfl) ?_
     simp only[pts]
     refine ly_cv v1 rfl (by rfl) ?_
     simp only[pts]
     iterate 2 (refine ly_one rfl ?_;(first|go_big_quiet_skip|(go_big_quiet_want;go_big_quiet_op;go_big_quiet_on));refine wpQuiet_nil ?_)
     refine ly_sl (fun X _=>s2 X) rfl rfl rfl rfl (by rfl) ?_
     simp only[pts]
     refine ly_cv v2 rfl (by rfl) ?_
     simp only[pts]
     iterate 7 (refine ly_one rfl ?_;(first|go_big_quiet_skip|(go_big_quiet_want;go_big_quiet_op;go_big_quiet_on));refine wpQuiet_nil ?_)
     refine ly_call1 (R:=fun v X'=>v = .int .i64 y.en/\X'=X) ent_End (cE.mono fun r w' h=>⟨_,h.1,rfl,h.2⟩) rfl (by rfl) ?_
     rintro _ X' ⟨rfl,hX'⟩
     replace hX':=hX'.symm
     subst hX'
     refine⟨fun X=>∃ θ:CW p,X=θ.w,fun _ h=>h,⟨⟨_,hp⟩,rfl⟩,?_⟩
     simp only[pts]
     refine ly_sl (fun X _=>sl_own gF (L+3) capF y.en (by omega) (by omega) X) rfl rfl rfl rfl (by rfl) ?_
     simp only[pts]
     refine ly_cv v3 rfl (by rfl) ?_
     simp only[pts]
     refine ly_call1 (R:=fun v X'=>v = .int .i64 y.en/\X'=X) ent_End (cE.mono fun r w' h=>⟨_,h.1,rfl,h.2⟩) rfl (by rfl) ?_
     rintro _ X' ⟨rfl,hX'⟩
     replace hX':=hX'.symm
     subst hX'
     refine⟨fun X=>∃ θ:CW p,X=θ.w,fun _ h=>h,⟨⟨_,hp⟩,rfl⟩,?_⟩
     simp only[pts]
     refine ly_sl (fun X _=>s5 X) rfl rfl rfl rfl (by rfl) ?_
     simp only[pts]
     iterate 2 (refine ly_one rfl ?_;(first|go_big_quiet_skip|(go_big_quiet_want;go_big_quiet_op;go_big_quiet_on));refine wpQuiet_nil ?_)
     refine ly_done ?_
     have I9:Hid _:=⟨I8.out.below hd.out⟩
     have hX9:X.cell? ⟨X0,0,none⟩=some (.int .i64 ck):=cell_at ((hd.out.block X0 (Nat.lt_of_lt_of_le (Array.getElem?_eq_some_iff.1 hX2.out).1 F8.out.size)).trans ((F8.out.block X0 (Array.getElem?_eq_some_iff.1 hX2.out).1 nX.out).trans hX2.out)) 0
     have AT:=I9.out.i.end_
     have DN:=I9.out.i.done
     have hcv:=C.text_conv X gF capF y.fb I9.out.i.row 0 (L+3) capF (by omega)
     clear yb v1 v2 v3 s2 s5 q pN hp hd cE F8 hX2 nX I2 I8 o1 o2 nb1 nb2 nb3 nb4 r8
     by_cases her:er=0
     ·have g1:(er != 0)=false:=by simp[her]
      by_cases hk2:ck=2
      ·have g2:(ck==2)=true:=by simp[hk2]
       rw[o4.out hk2] at hcv
       clear o3 o4 her hk2
       go_wp2_with fail
       exact⟨⟨k+1,y,V',by omega,by go_num,I9⟩,by simp[RowKit.intOf];omega⟩
      ·have g2:(ck==2)=false:=by simp[hk2]
       clear o3 o4 her hk2
       go_wp2_with fail
       exact⟨⟨k+1,y,V',by omega,by go_num,I9⟩,by simp[RowKit.intOf];omega⟩
     ·obtain⟨e1,e2,e3⟩:=o3.out her
      have g1:(er != 0)=true:=by simp[her]
      have hcv2:Hid (∀ X3,Below X.heap.size X X3->(convert 31 9 (.slice (some ⟨gF,0,none⟩) (L+3) capF)).run Tryz.prog X3 = .ok (.string (C.textF x.fb 0 (L+3))) X3):=⟨fun X3 b3=>by rw[<- e2];exact C.text_conv X3 gF capF y.fb (I9.out.below b3).i.row 0 (L+3) capF (by omega)⟩
      rw[e2] at hcv
      rw[e1] at AT
      rw[e3] at DN
      have hX8:Hid _:=⟨hX9⟩
      clear o3 o4 her e1 e2 e3 hX9
      go_upto_region 25 with (first
       | (go_at_call 7;refine AT.mono ?_;clear AT;rintro _ X3 ⟨rfl,he⟩;replace he:=he.symm;subst he)
       | (go_at_call 8;refine DN.mono ?_;clear DN hcv;rintro _ X3 ⟨rfl,-,b3⟩;have hcv:=hcv2.out X3 b3;have hX9:=(b3.cell (p:=⟨X0,0,none⟩) (World.block_lt_of_cell? X _ hX8.out)).trans hX8.out;replace b3:=Hid.mk b3))
      by_cases hk2:ck=2
      ·have g2:(ck==2)=true:=by simp[hk2]
       clear hk2
       go_wp2_with fail
       exact⟨⟨k+1,y,V',by omega,by go_num,⟨I9.out.below b3.out⟩⟩,by simp[RowKit.intOf];omega⟩
      ·have g2:(ck==2)=false:=by simp[hk2]
       clear hk2
       go_wp2_with fail
       exact⟨⟨k+1,y,V',by omega,by go_num,⟨I9.out.below b3.out⟩⟩,by simp[RowKit.intOf];omega⟩
   ·go_wp2
    go_ret
    exact⟨rfl,I.out.b⟩
open J
theorem form_opened {H:Type} {enc:TypeId×Value->H} {W:World} {fuel:Nat} {v:Value} {x:DataW H×List MemPlace} {r:Reach} {b0:Nat} (hv:Value.okWide Tryz.prog W r b0 30 v) (h:DataW.trod enc Tryz.prog W 0 (fun _=>true) true fuel 30 v.cells.toList=some x)
  (hw:(x.1.weights Tryz.prog 30).all (·<=reachBytes)=true) :
  ∃ f pp cp,v=fmV f pp cp/\TkL W pp W.heap.size f.toks/\f.toks.length*192<=140737488351232/\(∀ e∈f.toks,e.cst.length*8<=140737488351232)/\(∀ e∈f.toks,e.name.size<=140737488351232)/\FmOk f:=by
 obtain⟨cs,rfl⟩:∃ cs,v = .agg cs:=by
  unfold Value.okWide at hv
  rw[Tryz.underlying30] at hv
  obtain⟨cs,e,_⟩:=hv
  exact⟨cs,e⟩
 have hcs:(Value.agg cs).cells.toList=cs.toList:=rfl
 rw[hcs] at h
 obtain⟨ys,k,_,hx',hlen,hyl,hfl⟩:=DataW.trod_struct Tryz.underlying30 h
 rw[cellsFm] at hlen
 obtain⟨c0,c1,c2,c3,c4,c5,c6,c7,c8,c9,c10,c11,c12,hcl⟩:=tlist13 hlen
 rw[hcl] at hfl
 obtain⟨⟨e0,q0⟩,⟨e1,q1⟩,⟨e2,q2⟩,⟨e3,q3⟩,⟨e4,q4⟩,rfl⟩:=tlist5 hyl
 have f0:=hfl 0 _ rfl
 have f1:=hfl 1 _ rfl
 have f2:=hfl 2 _ rfl
 have f3:=hfl 3 _ rfl
 have f4:=hfl 4 _ rfl
 simp[cellsEn,cellsInt,cellsHd,cellsTs] at f0 f1 f2 f3 f4
 obtain⟨z0,h0,_,b0⟩:=DataW.trod_int Tryz.underlying22 f0
 obtain⟨z1,h1,_,b1⟩:=DataW.trod_int Tryz.underlying3 f1
 obtain⟨z2,h2,_,b2⟩:=DataW.trod_int Tryz.underlying3 f2
 obtain⟨ys3,k3,_,hx3,_,hyl3,hfl3⟩:=DataW.trod_struct Tryz.underlying27 f3
 obtain⟨⟨d0,p0⟩,⟨d1,p1⟩,⟨d2,p2⟩,⟨d3,p3⟩,⟨d4,p4⟩,rfl⟩:=tlist5 hyl3
 have g0:=hfl3 0 _ rfl
 have g1:=hfl3 1 _ rfl
 have g2:=hfl3 2 _ rfl
 have g3:=hfl3 3 _ rfl
 have g4:=hfl3 4 _ rfl
 simp[cellsSp,cellsInt] at g0 g1 g2 g3 g4
 obtain⟨z3,h3,_,b3⟩:=DataW.trod_int Tryz.underlying3 g0
 obtain⟨s1,r1,t1,o1⟩:=spot_open g1
 obtain⟨s2,r2,t2,o2⟩:=spot_open g2
 obtain⟨s3,r3,t3,o3⟩:=spot_open g3
 obtain⟨s4,r4,t4,o4⟩:=spot_open g4
 have hD:x.1 = .agg [e0,e1,e2,e3,e4]:=by
  have:=congrArg Prod.fst hx'
  simpa using this
 obtain⟨pp,es,cp,h12,hT,hl,hc,hn⟩:=toks_open f4 (List.all_eq_true.2 fun nn hnn=>List.all_eq_true.1 hw nn (by
  rw[hD]
  simp only[DataW.weights,Tryz.underlying30]
  exact DataW.weights_mem_each (j:=4) rfl rfl nn hnn))
 simp only[List.cons.injEq,and_true] at h0 h1 h2 h3
 subst h0 h1 h2 h3 r1 t1 r2 t2 r3 t3 r4 t4 h12
 have d0:=bounds_i64 b0
 have d1:=bounds_i64 b1
 have d2:=bounds_i64 b2
 have d3:=bounds_i64 b3
 refine⟨⟨z0,z1,z2,z3,s1,s2,s3,s4,es⟩,pp,cp,?_,hT,hl,hc,hn,⟨d0,d1,d2,d3,o1,o2,o3,o4⟩⟩
 rw[<- Array.toArray_toList (xs:=cs),hcl]
theorem slice_cap {H:Type} {enc:TypeId×Value->H} {W:World} {fuel:Nat} {t e:TypeId} {v:Value} {x:DataW H×List MemPlace} (ht:Tryz.prog.underlying t=some (.slice e)) (h:DataW.trod enc Tryz.prog W 0 (fun _=>true) true fuel t [v]=some x) :
  ∀ p n m,v = .slice p n m->n<=m:=by
 rcases Go.Deep.open_slice ht h with ⟨hcs,hx⟩|⟨a,len,cap,m,n,D,Pl,hcs,_,hl,hm,hmm,hx,hel⟩
 ·obtain rfl:v = .slice none 0 0:=by simpa using hcs
  rintro p n m e
  cases e
  exact Nat.le_refl _
 ·obtain rfl:v = .slice (some a) len cap:=by simpa using hcs
  rintro p n' m' e
  cases e
  exact hl
theorem form_cap {H:Type} {enc:TypeId×Value->H} {W:World} {fuel:Nat} {f:Fm} {pp:Option Addr} {cp:Nat} {x:DataW H×List MemPlace} (h:DataW.trod enc Tryz.prog W 0 (fun _=>true) true fuel 30 (fmV f pp cp).cells.toList=some x):f.toks.length<=cp:=by
 obtain⟨ys,k,_,hx',hlen,hyl,hfl⟩:=DataW.trod_struct Tryz.underlying30 h
 obtain⟨⟨e0,q0⟩,⟨e1,q1⟩,⟨e2,q2⟩,⟨e3,q3⟩,⟨e4,q4⟩,rfl⟩:=J.tlist5 hyl
 have f4:=hfl 4 _ rfl
 simp[J.cellsTs] at f4
 exact slice_cap Tryz.underlying28 f4 _ _ _ rfl
namespace C
theorem tlist1 {α:Type} {l:List α} (h:l.length=1):∃ a0,l=[a0]:=by
 rcases l with _|⟨a0,l⟩<;>simp at h
 subst h;exact⟨a0,rfl⟩
theorem tlist2 {α:Type} {l:List α} (h:l.length=2):∃ a0 a1,l=[a0,a1]:=by
 rcases l with _|⟨a0,_|⟨a1,l⟩⟩<;>simp at h
 subst h;exact⟨a0,a1,rfl⟩
theorem tlist5 {α:Type} {l:List α} (h:l.length=5):∃ a0 a1 a2 a3 a4,l=[a0,a1,a2,a3,a4]:=by
 rcases l with _|⟨a0,_|⟨a1,_|⟨a2,_|⟨a3,_|⟨a4,l⟩⟩⟩⟩⟩<;>simp at h
 subst h;exact⟨a0,a1,a2,a3,a4,rfl⟩
theorem tlist19 {α:Type} {l:List α} (h:l.length=19):∃ a0 a1 a2 a3 a4 a5 a6 a7 a8 a9 a10 a11 a12 a13 a14 a15 a16 a17 a18,l=[a0,a1,a2,a3,a4,a5,a6,a7,a8,a9,a10,a11,a12,a13,a14,a15,a16,a17,a18]:=by
 rcases l with _|⟨a0,_|⟨a1,_|⟨a2,_|⟨a3,_|⟨a4,_|⟨a5,_|⟨a6,_|⟨a7,_|⟨a8,_|⟨a9,_|⟨a10,_|⟨a11,_|⟨a12,_|⟨a13,_|⟨a14,_|⟨a15,_|⟨a16,_|⟨a17,_|⟨a18,l⟩⟩⟩⟩⟩⟩⟩⟩⟩⟩⟩⟩⟩⟩⟩⟩⟩⟩⟩<;>simp at h
 subst h;exact⟨a0,a1,a2,a3,a4,a5,a6,a7,a8,a9,a10,a11,a12,a13,a14,a15,a16,a17,a18,rfl⟩
theorem tlist21 {α:Type} {l:List α} (h:l.length=21):∃ a0 a1 a2 a3 a4 a5 a6 a7 a8 a9 a10 a11 a12 a13 a14 a15 a16 a17 a18 a19 a20,l=[a0,a1,a2,a3,a4,a5,a6,a7,a8,a9,a10,a11,a12,a13,a14,a15,a16,a17,a18,a19,a20]:=by
 rcases l with _|⟨a0,_|⟨a1,_|⟨a2,_|⟨a3,_|⟨a4,_|⟨a5,_|⟨a6,_|⟨a7,_|⟨a8,_|⟨a9,_|⟨a10,_|⟨a11,_|⟨a12,_|⟨a13,_|⟨a14,_|⟨a15,_|⟨a16,_|⟨a17,_|⟨a18,_|⟨a19,_|⟨a20,l⟩⟩⟩⟩⟩⟩⟩⟩⟩⟩⟩⟩⟩⟩⟩⟩⟩⟩⟩⟩⟩<;>simp at h
 subst h;exact⟨a0,a1,a2,a3,a4,a5,a6,a7,a8,a9,a10,a11,a12,a13,a14,a15,a16,a17,a18,a19,a20,rfl⟩
theorem lt_of_cell {w:World} {a:Addr} {v:Value} (h:w.cell? a=some v):a.block<w.heap.size:=by
 rcases Nat.lt_or_ge a.block w.heap.size with h1|h1
 ·exact h1
 ·simp[World.cell?,Array.getElem?_eq_none h1] at h
theorem cellsTk:Tryz.prog.cellsOf 78=21:=by kernel_rfl
theorem cellsHd:Tryz.prog.cellsOf 27=9:=by kernel_rfl
theorem cellsSp:Tryz.prog.cellsOf 25=2:=by kernel_rfl
theorem cellsWs:Tryz.prog.cellsOf 42=1:=by kernel_rfl
theorem cellsU:Tryz.prog.cellsOf 49=1:=by kernel_rfl
theorem cellsStr:Tryz.prog.cellsOf 9=1:=by kernel_rfl
theorem cellsInt:Tryz.prog.cellsOf 3=1:=by kernel_rfl
theorem cellsOp:Tryz.prog.cellsOf 75=1:=by kernel_rfl
theorem cellsPr:Tryz.prog.cellsOf 23=1:=by kernel_rfl
theorem cellsPs:Tryz.prog.cellsOf 76=1:=by kernel_rfl
theorem bytesU:Tryz.prog.bytesOf 49=8:=by kernel_rfl
theorem addr_at (g o k:Nat):(⟨g,o,none⟩:Addr).add k=⟨g,o+k,none⟩:=by unfold Addr.add;split<;>simp_all
theorem weightsAll_mem {H:Type} {P:Program} {e:TypeId} {d:DataW H} {n:Nat} (hn:n∈d.weights P e):∀ {l:List (DataW H)},d∈l->n∈DataW.weightsAll P e l
 | [],h=>by cases h
 | x::r,h=>by
  simp only[DataW.weightsAll,List.mem_append]
  rcases List.mem_cons.1 h with rfl|h
  ·exact .inl hn
  ·exact .inr (weightsAll_mem hn h)
theorem words_open {H:Type} {enc:TypeId×Value->H} {W:World} {fuel:Nat} {v:Value} {x:DataW H×List MemPlace} (h:DataW.trod enc Tryz.prog W 0 (fun _=>true) true fuel 42 [v]=some x) :
  ∃ pa al ca,v = .slice pa al.length ca/\URow W pa W.heap.size al/\(∀ y∈al,u64ok y)/\al.length<=ca/\((x.1.weights Tryz.prog 42).all (·<=reachBytes)=true->al.length*8<=140737488351232):=by
 rcases Go.Deep.open_slice Tryz.underlying42 h with ⟨hcs,hx⟩|⟨a,len,cap,m,n,D,Pl,hcs,_,hl,hm,hmm,hx,hel⟩
 ·obtain rfl:v = .slice none 0 0:=by simpa using hcs
  exact⟨none,[],0,rfl,⟨fun i t ht=>(by cases ht)⟩,fun y hy=>(by cases hy),Nat.le_refl _,fun _=>(by decide)⟩
 ·obtain rfl:v = .slice (some a) len cap:=by simpa using hcs
  simp only[if_true] at hmm
  subst m
  rw[cellsU] at hel
  have one:∀ i,i<len->∃ t:Int,W.cell? (a.add i)=some (.int .u64 t)/\u64ok t:=by
   intro i hi
   obtain⟨cs',hc,ht⟩:=hel i (by omega)
   obtain⟨_,hlen,hcell⟩:=World.cells?_some hc
   obtain⟨c0,rfl⟩:=tlist1 hlen
   obtain⟨z0,h0,_,b0⟩:=DataW.trod_int Tryz.underlying49 ht
   simp only[List.cons.injEq,and_true] at h0
   subst h0
   have g0:=hcell 0 (by decide)
   rw[Go.Deep.add_add,Nat.mul_one,Nat.add_zero] at g0
   have bb:=bounds_u64 b0
   exact⟨z0,g0,by unfold u64ok;omega⟩
  haveI:Inhabited Int:=⟨0⟩
  obtain⟨f,hf⟩:=Go.Deep.choose_lt one
  refine⟨some a,(List.range len).map f,cap,by simp,⟨fun i t ht=>?_⟩,fun y hy=>?_,by rw[List.length_map,List.length_range];omega,fun hw=>?_⟩
  ·rw[List.getElem?_map] at ht
   by_cases hi:i<len
   ·rw[List.getElem?_range hi] at ht
    cases ht
    obtain⟨h0,_⟩:=hf i hi
    obtain⟨g,o,spot⟩:=a
    have hspot:spot=none:=by simpa[Addr.add] using World.cell?_spot (hf 0 (by omega)).1
    subst hspot
    rw[addr_at] at h0
    exact⟨g,o,rfl,lt_of_cell (a:=⟨g,o+i,none⟩) h0,h0⟩
   ·rw[List.getElem?_eq_none (by simp;omega)] at ht
    cases ht
  ·obtain⟨i,hi,rfl⟩:=List.mem_map.1 hy
   exact(hf i (List.mem_range.1 hi)).2
  ·have he:x.1 = .slice ((List.range len).map D) ((List.range (cap-len)).map fun j=>D (len+j)):=by rw[hx]
   rw[he] at hw
   have h2:=List.all_eq_true.1 hw (((List.range len).map D).length+((List.range (cap-len)).map fun j=>D (len+j)).length |> (· * Tryz.prog.bytesOf 49)) (by simp[DataW.weights,Tryz.underlying42])
   rw[bytesU] at h2
   simp[reachBytes] at h2
   rw[List.length_map,List.length_range]
   omega
theorem spot_open {H:Type} {enc:TypeId×Value->H} {W:World} {fuel:Nat} {c d:Value} {x:DataW H×List MemPlace} (h:DataW.trod enc Tryz.prog W 0 (fun _=>true) true fuel 25 [c,d]=some x) :
  ∃ s:Sp,c = .int .i64 s.p/\d = .int .i64 s.o/\SpOk s:=by
 obtain⟨ys,k,_,hx',_,hyl,hfl⟩:=DataW.trod_struct Tryz.underlying25 h
 obtain⟨⟨e0,q0⟩,⟨e1,q1⟩,rfl⟩:=tlist2 hyl
 have f0:=hfl 0 _ rfl
 have f1:=hfl 1 _ rfl
 simp[cellsPr,cellsInt] at f0 f1
 obtain⟨z0,h0,_,b0⟩:=DataW.trod_int Tryz.underlying23 f0
 obtain⟨z1,h1,_,b1⟩:=DataW.trod_int Tryz.underlying3 f1
 simp only[List.cons.injEq,and_true] at h0 h1
 subst h0 h1
 have bb:=bounds_i64 b0
 have bc:=bounds_i64 b1
 exact⟨⟨z0,z1⟩,rfl,rfl,⟨by unfold i64ok;dsimp only;omega,by unfold i64ok;dsimp only;omega⟩⟩
theorem cellsB:Tryz.prog.cellsOf 5=1:=by kernel_rfl
theorem bytesB:Tryz.prog.bytesOf 5=1:=by kernel_rfl
theorem bytes_open {H:Type} {enc:TypeId×Value->H} {W:World} {fuel:Nat} {v:Value} {x:DataW H×List MemPlace} (h:DataW.trod enc Tryz.prog W 0 (fun _=>true) true fuel 31 [v]=some x) (hw:(x.1.weights Tryz.prog 31).all (·<=reachBytes)=true) :
  ∃ (a:Option Addr) (L C:Nat) (bi:Nat->Int),v = .slice a L C/\Arg W a L bi/\(∀ j,0<=bi j/\bi j<=255)/\L+4096<=140737488355328:=by
 rcases open_ints Tryz.underlying31 Tryz.underlying5 cellsB h with ⟨hcs,hx0⟩|⟨ad,len,cap,zs,hcs,_,hl,hm,hz,hx0,hcell,hwz⟩
 ·simp only[List.cons.injEq,and_true] at hcs
  subst hcs
  exact⟨none,0,0,fun _=>0,rfl,⟨fun _=>rfl,(fun ad h=>by cases h)⟩,fun _=>⟨by simp,by simp⟩,by decide⟩
 ·simp only[List.cons.injEq,and_true] at hcs
  subst hcs
  simp at hz
  have hr:=range_u8 hwz
  refine⟨some ad,len,cap,fun j=>zs.getD j 0,rfl,⟨(fun h=>by cases h),(fun ad' h j hj=>by cases h;exact hcell j (by omega))⟩,fun j=>by simpa[List.getD] using hr j,?_⟩
  have he0:x.1 = .slice (lits .u8 (zs.take len)) (lits .u8 (zs.drop len)):=congrArg Prod.fst hx0
  rw[he0] at hw
  have h2:=List.all_eq_true.1 hw (((lits (H:=H) .u8 (zs.take len)).length+(lits (H:=H) .u8 (zs.drop len)).length)*Tryz.prog.bytesOf 5) (by simp[DataW.weights,Tryz.underlying31])
  rw[bytesB] at h2
  simp[lits,reachBytes] at h2
  omega
end C
end Go.Proofs.YtjlbcdnkglaheaaGreatDoor
