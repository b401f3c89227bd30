import Derived.Test.YtcgimchhcaankaaGreatDoorK27
namespace Go.Proofs.YtcgimchhcaankaaGreatDoor
set_option maxRecDepth 1000000
set_option maxHeartbeats 16000000
open Go.ChangeShapes Go.WideShapes Go.ChangeAt Go.RowKit Go.Shelf Go.Maps
theorem ent_sClone:∀ ag w,(callFunc 42 ag).run Tryz.prog w = .ok (.enter 42 ag) w:=enters_of Tryz.func42 (by kernel_rfl) rfl
theorem st_str {W:World} {b i:Nat} {v:Value} {s:ByteArray} (h:W.cell? ⟨b,i,none⟩=some v) (hf:W.frozen? ⟨b,i,none⟩=false):(Instr.storeAt 9 (.pointer (some ⟨b,i,none⟩)) (.string s)).run Tryz.prog W = .ok () (W.setCell ⟨b,i,none⟩ (.string s)):=by
 simp[go_sem,h,hf]
theorem st_ul {W:World} {b i:Nat} {v:Value} {p:Option Addr} {n k:Nat} (h:W.cell? ⟨b,i,none⟩=some v) (hf:W.frozen? ⟨b,i,none⟩=false):(Instr.storeAt 38 (.pointer (some ⟨b,i,none⟩)) (.slice p n k)).run Tryz.prog W = .ok () (W.setCell ⟨b,i,none⟩ (.slice p n k)):=by
 simp[go_sem,h,hf]
structure Fv (f:Fm) (pp:Option Addr) (cp:Nat) (v:Int) (w W:World) (vc:Value) (b:Nat):Prop where
 fb:W.heap[w.heap.size]?=some (fmO f pp cp)
 rr:W.heap[w.heap.size+1]?=some J.zFo
 cm:NRow W w.heap.size vc (camZ f)
 tr:Trn W w.heap.size b (camZ f) v
 bl:Below w.heap.size w W
 ll:w.heap.size+2<=W.heap.size
theorem Fv.ff {f:Fm} {pp:Option Addr} {cp:Nat} {v:Int} {w W:World} {vc:Value} {b:Nat} (h:Fv f pp cp v w W vc b):FmC W w.heap.size 0 f pp cp:=J.fm_of h.fb
theorem Fv.below {f:Fm} {pp:Option Addr} {cp:Nat} {v:Int} {w W W':World} {vc:Value} {b:Nat} (h:Fv f pp cp v w W vc b) (hb:Below W.heap.size W W'):Fv f pp cp v w W' vc b :=
 ⟨(hb.block _ (by have:=h.ll;omega)).trans h.fb,(hb.block _ (by have:=h.ll;omega)).trans h.rr,h.cm.below hb,h.tr.below hb,h.bl.trans (hb.mono h.bl.size),Nat.le_trans h.ll hb.size⟩
theorem lt_of_blk5 {W:World} {g:Nat} {o:Obj} (h:W.heap[g]?=some o):g<W.heap.size:=(Array.getElem?_eq_some_iff.1 h).1
theorem fm_st {w:World} {b:Nat} {old:Array Value} (hb:w.heap[b]?=some (.cells old 30)) (ho:old.size=13) (f:Fm) (pp:Option Addr) (cp:Nat):(Instr.storeAt 30 (.pointer (some ⟨b,0,none⟩)) (fmV f pp cp)).run Tryz.prog w = .ok () (w.setRow b (J.fmC f pp cp)):=by
 simp only[Instr.storeAt,Instr.sureAddr,Sem.run_bind,Sem.run_pure,Result.andThen]
 exact run_storeVar_row _ _ _ _ _ _ hb J.infoFm (by rw[ho];rfl) (all_oneCell_toArray (J.fmC_one f pp cp))
theorem tk_put {W:World} {b:Nat} {t:Tk} {pc:Option Addr} {cc:Nat} (h:W.heap[b]?=some (tkO t pc cc)) (i:Nat) (u:Value) (t':Tk) (pc':Option Addr) (cc':Nat) (e:(tkC t pc cc).toArray.setIfInBounds i u=(tkC t' pc' cc').toArray):(W.setCell ⟨b,i,none⟩ u).heap[b]?=some (tkO t' pc' cc'):=by
 rw[set_at h u,e]
theorem formAt_any (f:Fm) (pp:Option Addr) (cp:Nat) (v:Int) (w:World) (hz:chkZ f=none) (tl:TkL w pp w.heap.size f.toks) (hlm:f.toks.length*192<=140737488351232) :
  Calls Tryz.prog 22 #[fmV f pp cp,.int .i64 v] w fun e w'=>∃ pp' cp' ks,e = .returned (fmV (atF f v) pp' cp')/\ks.map Ktp.t=(atF f v).toks/\KtR w' w.heap.size (.slice pp' ks.length cp') ks/\Below w.heap.size w w':=by
 have HB:Below w.heap.size w ((w.alloc (fmO f pp cp)).alloc J.zFo):=two_b _ _ _
 have H1:=J.fm_of (two_1 w (fmO f pp cp) J.zFo)
 have H0:=two_1 w (fmO f pp cp) J.zFo
 have H2:=two_2 w (fmO f pp cp) J.zFo
 have HS:((w.alloc (fmO f pp cp)).alloc J.zFo).heap.size=w.heap.size+2:=by simp
 generalize hW:(w.alloc (fmO f pp cp)).alloc J.zFo=W0 at HB H0 H1 H2 HS
 simp only[fmO,J.zFo] at hW
 have cC:=comings_any f pp cp W0 hz ((tl.below HB).mono HB.size) hlm
 have f12:=H1.c12
 have CT:Hid (∀ vc w1,NRow w1 W0.heap.size vc (camZ f)->Below W0.heap.size W0 w1->Calls Tryz.prog 41 #[vc,.int .i64 v] w1 fun e w'=>∃ b,e = .returned (.func (.func 56) #[] #[.pointer (some ⟨b,0,none⟩)])/\Hid (Fv f pp cp v w w' vc b)):=⟨fun vc w1 h1 h2=>(turner_any (camZ f) v vc W0.heap.size w1 h1 (by rw[camZ_length];omega)).mono fun e w' hP=>by
  obtain⟨b,rfl,h3,h4⟩:=hP
  have hb:=h2.trans (h4.mono h2.size)
  have hs1:=h2.size
  have hs2:=h4.size
  refine⟨b,rfl,⟨(hb.block _ (by omega)).trans H0,(hb.block _ (by omega)).trans H2,(h1.below h4).low (by omega),?_,HB.trans (hb.mono (by omega)),by omega⟩⟩
  obtain⟨g,n,t1,t2,t3⟩:=h3.c
  exact⟨⟨g,n,t1,t2.low (by omega),t3⟩,by have:=h3.b;omega⟩⟩
 have hT:Hid _:=⟨tl⟩
 have hZ:Hid _:=⟨hz⟩
 have hLM:Hid _:=⟨hlm⟩
 replace HB:=Hid.mk HB
 replace H1:=Hid.mk H1
 replace H2:=Hid.mk H2
 replace HS:=Hid.mk HS
 clear tl hz hlm H0
 go_enter Tryz.func22,Tryz.ntmps22
 go_wp2_with (first
  | (go_at_call 24;refine cC.mono ?_;rintro _ w1 ⟨vc,rfl,hN,hb1⟩;have g12:=(H1.out.below (B:=W0.heap.size) (by have:=HS.out;omega) hb1).c12;have cT:=CT.out vc w1 hN hb1;obtain⟨pv,cv,rfl,-⟩:=hN.shape;clear hN hb1)
  | (go_at_call 41;refine cT.mono ?_;rintro _ W3 ⟨b,rfl,hV⟩;have h12:=hV.out.ff.c12))
 have hll:f.toks.length<=733007751850:=by have:=hLM.out;omega
 clear CT cC cT f12 g12 HB H1 H2 HS
 go_loopw [7,19] (fun q7 q wr=>∃ (j:Nat) (ks:List Ktp) (pk:Option Addr) (ck:Nat),j<=f.toks.length/\q = .int .i64 (j:Int)/\q7 = .slice pk ks.length ck/\Hid (KtR wr W3.heap.size (.slice pk ks.length ck) ks/\ks.map Ktp.t=kepF f.toks (camZ f) v j/\Below W3.heap.size W3 wr)) (fun _ q _=>f.toks.length-(RowKit.intOf q).toNat)
 case atStart=>exact⟨0,[],none,0,Nat.zero_le _,by go_num,rfl,⟨KtR.nil _ _,rfl,Below.refl _ _⟩⟩
 case round =>
  obtain⟨j,ks,pk,ck,hj,rfl,rfl,hI⟩:=hrel
  have hV':=hV.out.below hI.out.2.2
  have hK:Hid _:=⟨hI.out.1⟩
  have hE:Hid _:=⟨hI.out.2.1⟩
  have hB:Hid _:=⟨hI.out.2.2⟩
  clear hI
  by_cases hlt:j<f.toks.length
  ·obtain⟨t,ht⟩:∃ t,f.toks[j]?=some t:=⟨f.toks[j],List.getElem?_eq_getElem hlt⟩
   obtain⟨gf,ofs,pc,cc,rfl,hgf,hTk,hU,hcc,hO⟩:=hT.out.at ht
   have hBw:Below w.heap.size w wr:=hV'.bl
   have l1:Hid _:=⟨(hTk.below hgf hBw).load⟩
   have s1:Hid _:=⟨fun z hz=>st_new wr z hz t pc cc⟩
   have hTB:(wr.alloc (tkO t pc cc)).heap[wr.heap.size]?=some (tkO t pc cc):=heap_al _ _
   have hb1:=bel1 wr (tkO t pc cc)
   have hz1:(wr.alloc (tkO t pc cc)).heap.size=wr.heap.size+1:=World.size_alloc _ _
   generalize hW1:wr.alloc (tkO t pc cc)=W1 at hTB hb1 hz1 s1
   have hV1:=hV'.below hb1
   obtain⟨c,hc⟩:∃ c,(camZ f)[j]?=some c:=⟨(camZ f)[j]'(by rw[camZ_length];exact hlt),List.getElem?_eq_getElem _⟩
   obtain⟨gc,rfl,-,-,k1⟩:=hV1.cm.cellP hc
   have hcl:(j:Int)<(camZ f).length:=by rw[camZ_length];omega
   have hji:(j:Int)<f.toks.length:=by omega
   have hks:=kepF_succ (v:=v) ht hc
   by_cases hcv:v<(c:Int)
   ·have d1:decide (v<(c:Int))=true:=by simp[hcv]
    have hN:Hid (KtR W1 W3.heap.size (.slice pk ks.length ck) ks/\ks.map Ktp.t=kepF f.toks (camZ f) v (j+1)/\Below W3.heap.size W3 W1):=⟨hK.out.below hb1,by rw[hks,if_neg (by omega),List.append_nil];exact hE.out,hB.out.trans (hb1.mono hB.out.size)⟩
    clear hTk hU hcc hO hTB hb1 hV1 hc hks hcv hV'
    go_wp2_with (first
     | (guard_target =~ wpList _ _ _ (Oper.mk _ (Op.load 40 _) _ _ _ _::_) _ _;go_must (refine wpList_ld 40 _ rfl rfl _ _ rfl l1.out ?_);simp only[pts])
     | (guard_target =~ wpList _ _ _ (Oper.mk _ (Op.store 40 _ _) _ _ _ _::_) _ _;go_must (refine wpList_st 40 _ _ rfl rfl _ _ rfl rfl (s1.out _ rfl) ?_);simp only[pts]))
    go_roundw
    case rel=>exact⟨j+1,ks,pk,ck,by omega,by go_num,rfl,hN⟩
    case measure=>simp[RowKit.intOf];omega
   ·have d1:decide (v<(c:Int))=false:=by simp[hcv]
    have hcv':Hid ((c:Int)<=v):=⟨by omega⟩
    obtain⟨p,pI,pN,kn,kc⟩:∃ p:World->Prop,(∀ V,V.heap[wr.heap.size]?=some (tkO t pc cc)->p V)/\Nonempty (CW p)/\(∀ θ:CW p,θ.w.cell? ⟨wr.heap.size,1,none⟩=some (.string t.name))/\(∀ θ:CW p,θ.w.cell? ⟨wr.heap.size,12,none⟩=some (.slice pc t.cst.length cc)) :=
     ⟨fun V=>V.heap[wr.heap.size]?=some (tkO t pc cc),fun _ h=>h,⟨⟨W1,hTB⟩⟩,fun θ=>cell_at θ.h 1,fun θ=>cell_at θ.h 12⟩
    have p0:p W1.drew:=pI _ hTB
    have cCl:Hid (Calls Tryz.prog 42 #[.string t.name] W1.drew fun e w'=>∃ v,e = .returned v/\(v = .string t.name/\Hid (Below W1.heap.size W1 w'))):=⟨(strClone t.name W1.drew hO.name).mono fun e w' hP=>⟨_,hP.1,rfl,⟨(Below.refl _ _).drew.trans hP.2⟩⟩⟩
    have AP:Hid (∀ w2,Below W1.heap.size W1 w2->p w2/\∃ v' w',(∀ ty,(Builtin.append_ #[38,38] ty #[.slice none 0 0,.slice pc t.cst.length cc]).run Tryz.prog w2 = .ok v' w')/\(∃ p' c',v' = .slice p' t.cst.length c'/\p w'/\Hid (t.cst.length<=c'/\URow w' p' w'.heap.size t.cst/\(∀ g o,p'=some ⟨g,o,none⟩->W1.heap.size<=g/\g<w'.heap.size)/\Below W1.heap.size W1 w'/\w'.ownsRow W1.heap.size 37 1 (.slice p' t.cst.length c') t.cst.length (J.uC t.cst)))):=⟨fun w2 hb2=>by
     have hl1:wr.heap.size<W1.heap.size:=by omega
     obtain⟨v',w',q1,p',c',q2,q3,q4,q5,q6,q7⟩:=u_cpn (ca:=cc) (hU.below (hBw.trans ((hb1.trans (hb2.mono (by omega))).mono hBw.size))) hO.cst
     have hb3:Below W1.heap.size W1 w':=hb2.trans (q6.mono hb2.size)
     exact⟨pI _ ((hb2.block _ hl1).trans hTB),v',w',q1,p',c',q2,pI _ ((hb3.block _ hl1).trans hTB),⟨q3,q4,fun g o e=>⟨Nat.le_trans hb2.size (q5 g o e).1,(q5 g o e).2⟩,hb3,own_lower q7 hb2.size⟩⟩⟩
    have T3:Hid (∀ w3,Below W1.heap.size W1 w3->w3.heap[wr.heap.size]?=some (tkO t pc cc)):=⟨fun w3 hb3=>(hb3.block _ (by omega)).trans hTB⟩
    obtain⟨m,hm,hml⟩:∃ m:Nat,t.pair=m/\m<f.toks.length:=by
     rcases val_tok hZ.out ht with ⟨-,-,x,o,-,e,e2⟩|⟨-,-,m,e,-,e2⟩|⟨-,-,e,-⟩
     ·exact⟨_,e,by omega⟩
     ·exact⟨m,e,e2⟩
     ·exact⟨j,e,hlt⟩
    have hz1':Hid _:=⟨hz1⟩
    have hTB':Hid _:=⟨hTB⟩
    have hb1':Hid _:=⟨hb1⟩
    have hV1':Hid _:=⟨hV'⟩
    have ht':Hid _:=⟨ht⟩
    have hks':Hid _:=⟨hks⟩
    clear hTk hU hcc hO hTB hb1 hV1 hc hks hcv hV' hz1 ht
    go_wp2_with (first
     | (guard_target =~ wpList _ _ _ (Oper.mk _ (Op.load 40 _) _ _ _ _::_) _ _;go_must (refine wpList_ld 40 _ rfl rfl _ _ rfl l1.out ?_);simp only[pts])
     | (guard_target =~ wpList _ _ _ (Oper.mk _ (Op.store 40 _ _) _ _ _ _::_) _ _;go_must (refine wpList_st 40 _ _ rfl rfl _ _ rfl rfl (s1.out _ rfl) ?_);simp only[pts]))
    refine wp_region_lwt 9 (fun V=>∃ θ:CW p,V=θ.w) [0,1,3,4,2,6,5,7,8,9] (by kernel_rfl) (by kernel_rfl) (fun _ _ d _ _ h=>by cases d<;>exact h) ⟨⟨_,p0⟩,rfl⟩ ?_
    repeat (refine lw_one rfl ?_;(first|go_big_quiet_skip|(go_big_quiet_want;go_big_quiet_op;go_big_quiet_on));refine wpQuiet_nil ?_)
    refine lw_call1 ent_sClone cCl.out rfl (by rfl) (fun v2 w2 hR=>?_)
    obtain⟨rfl,hb2⟩:=hR
    obtain⟨g1,g2⟩:=AP.out w2 hb2.out
    refine⟨⟨⟨_,g1⟩,rfl⟩,?_⟩
    simp only[pts]
    repeat (refine lw_one rfl ?_;(first|go_big_quiet_skip|(go_big_quiet_want;go_big_quiet_op;go_big_quiet_on));refine wpQuiet_nil ?_)
    refine lw_ap g2 rfl rfl (by rfl) (fun v3 w3 hP=>?_)
    obtain⟨p',c',rfl,g3,hF⟩:=hP
    refine⟨⟨⟨_,g3⟩,rfl⟩,?_⟩
    simp only[pts]
    have t3:=T3.out w3 hF.out.2.2.2.1
    have t4:=tk_put t3 1 (.string t.name) t pc cc rfl
    have t5:=tk_put t4 12 (.slice p' t.cst.length c') t p' c' rfl
    refine lw_sm (st_str (cell_at t3 1) (frz_at t3)) ⟨⟨_,pI _ t4⟩,rfl⟩ rfl rfl (by rfl) ?_
    simp only[pts]
    repeat (refine lw_one rfl ?_;(first|go_big_quiet_skip|(go_big_quiet_want;go_big_quiet_op;go_big_quiet_on));refine wpQuiet_nil ?_)
    refine lw_st (st_ul (cell_at t4 12) (frz_at t4)) rfl rfl (by rfl) ?_
    have hb5:Below wr.heap.size wr ((w3.setCell ⟨wr.heap.size,1,none⟩ (.string t.name)).setCell ⟨wr.heap.size,12,none⟩ (.slice p' t.cst.length c')):=((hb1'.out.trans (hF.out.2.2.2.1.mono (by have:=hz1'.out;omega))).setCell (p:=⟨wr.heap.size,1,none⟩) (Nat.le_refl _) _).setCell (p:=⟨wr.heap.size,12,none⟩) (Nat.le_refl _) _
    have hs5:((w3.setCell ⟨wr.heap.size,1,none⟩ (.string t.name)).setCell ⟨wr.heap.size,12,none⟩ (.slice p' t.cst.length c')).heap.size=w3.heap.size:=by simp[World.setCell]
    have hU5:Hid (t.cst.length<=c'/\URow ((w3.setCell ⟨wr.heap.size,1,none⟩ (.string t.name)).setCell ⟨wr.heap.size,12,none⟩ (.slice p' t.cst.length c')) p' ((w3.setCell ⟨wr.heap.size,1,none⟩ (.string t.name)).setCell ⟨wr.heap.size,12,none⟩ (.slice p' t.cst.length c')).heap.size t.cst/\(∀ g o,p'=some ⟨g,o,none⟩->wr.heap.size<g/\g<((w3.setCell ⟨wr.heap.size,1,none⟩ (.string t.name)).setCell ⟨wr.heap.size,12,none⟩ (.slice p' t.cst.length c')).heap.size)/\((w3.setCell ⟨wr.heap.size,1,none⟩ (.string t.name)).setCell ⟨wr.heap.size,12,none⟩ (.slice p' t.cst.length c')).ownsRow W1.heap.size 37 1 (.slice p' t.cst.length c') t.cst.length (J.uC t.cst)):=⟨by
     obtain⟨q1,q2,q3,q4,q7⟩:=hF.out
     have hz:=hz1'.out
     refine⟨q1,q2.keepP (by rw[hs5];exact Nat.le_refl _) fun g o e=>?_,fun g o e=>?_,own_stay q7 fun g hg=>?_⟩
     ·have:=q3 g o e
      exact(set_off (by omega)).trans (set_off (by omega))
     ·have:=q3 g o e
      rw[hs5]
      omega
     ·have:=q3 g 0 (own_ptr q7 hg)
      exact(set_off (by omega)).trans (set_off (by omega))⟩
    generalize hW5:(w3.setCell ⟨wr.heap.size,1,none⟩ (.string t.name)).setCell ⟨wr.heap.size,12,none⟩ (.slice p' t.cst.length c')=W5 at t5 hb5 hU5 hs5
    have hV5:=hV1'.out.below hb5
    have hmc:m<(camZ f).length:=by rw[camZ_length];exact hml
    have cT:=turned_any hV5.tr m hmc
    have hSz:Hid (wr.heap.size<W5.heap.size):=⟨lt_of_blk5 t5⟩
    have t6:=tk_put t5 20 (.int .i64 ((rnk (camZ f) v m:Nat):Int)) { t with pair:=((rnk (camZ f) v m:Nat):Int) } p' c' rfl
    have hbq:Below wr.heap.size wr (W5.setCell ⟨wr.heap.size,20,none⟩ (.int .i64 ((rnk (camZ f) v m:Nat):Int))):=hb5.setCell (p:=⟨wr.heap.size,20,none⟩) (Nat.le_refl _) _
    have hs6:(W5.setCell ⟨wr.heap.size,20,none⟩ (.int .i64 ((rnk (camZ f) v m:Nat):Int))).heap.size=W5.heap.size:=by simp[World.setCell]
    have hU6:Hid (t.cst.length<=c'/\URow (W5.setCell ⟨wr.heap.size,20,none⟩ (.int .i64 ((rnk (camZ f) v m:Nat):Int))) p' (W5.setCell ⟨wr.heap.size,20,none⟩ (.int .i64 ((rnk (camZ f) v m:Nat):Int))).heap.size t.cst/\(∀ g o,p'=some ⟨g,o,none⟩->wr.heap.size<g/\g<(W5.setCell ⟨wr.heap.size,20,none⟩ (.int .i64 ((rnk (camZ f) v m:Nat):Int))).heap.size)/\(W5.setCell ⟨wr.heap.size,20,none⟩ (.int .i64 ((rnk (camZ f) v m:Nat):Int))).ownsRow W1.heap.size 37 1 (.slice p' t.cst.length c') t.cst.length (J.uC t.cst)):=⟨by
     obtain⟨q1,q2,q3,q7⟩:=hU5.out
     exact⟨q1,q2.keepP (by rw[hs6];exact Nat.le_refl _) (fun g o e=>set_off (by have:=q3 g o e;omega)),fun g o e=>by rw[hs6];exact q3 g o e,own_stay q7 fun g hg=>set_off (by have:=q3 g 0 (own_ptr q7 hg);omega)⟩⟩
    have e20:=cell_at t5 20
    have fz5:W5.frozen? ⟨wr.heap.size,20,none⟩=false:=frz_at t5
    have e20':W5.cell? ⟨wr.heap.size,20,none⟩=some (.int .i64 (m:Int)):=by rw[<- hm];exact e20
    obtain⟨R,hR⟩:∃ R,rnk (camZ f) v m=R:=⟨_,rfl⟩
    have hR':Hid _:=⟨hR⟩
    rw[hR] at cT t6 hbq hs6 hU6
    generalize hW6:W5.setCell ⟨wr.heap.size,20,none⟩ (.int .i64 (R:Int))=W6 at t6 hbq hs6 hU6
    have hV6:=hV1'.out.below hbq
    have e0:W6.cell? ⟨wr.heap.size,0,none⟩=some (.int .i64 t.op):=cell_at t6 0
    have cH:=hasBlock_any t.op W6
    clear e20 t3 t4 hR g1 g2 g3 hb2 cCl AP T3 kn kc p0 pI pN hW5 hb5 hs5 hF hU5 hV5
    have hkl:ks.length<=j:=by
     have:=congrArg List.length hE.out
     rw[List.length_map,kepF_length _ _ _ j hj (by rw[camZ_length];exact hj)] at this
     rw[this]
     exact rnk_le _ _ _
    have PU:Hid (∀ (W7:World) (Z:Int),W7.heap[wr.heap.size]?=some (tkO { t with pair:=(R:Int),blk:=Z } p' c')->Below wr.heap.size wr W7->URow W7 p' W7.heap.size t.cst->W7.ownsRow W1.heap.size 37 1 (.slice p' t.cst.length c') t.cst.length (J.uC t.cst)->W7.heap.size=W6.heap.size->trnT f.toks (camZ f) v j t={ t with pair:=(R:Int),blk:=Z }->∃ v' w',(∀ ty,(Builtin.append_ #[28,28] ty #[.slice pk ks.length ck,.slice (some ⟨W7.heap.size,0,none⟩) 1 1]).run Tryz.prog (W7.alloc (tkO { t with pair:=(R:Int),blk:=Z } p' c')) = .ok v' w')/\((∃ pv cv,v' = .slice pv (ks.length+1) cv)/\Hid (KtR w' W3.heap.size v' (ks++[⟨{ t with pair:=(R:Int),blk:=Z },p',c'⟩])/\(ks++[(⟨{ t with pair:=(R:Int),blk:=Z },p',c'⟩:Ktp)]).map Ktp.t=kepF f.toks (camZ f) v (j+1)/\Below W3.heap.size W3 w'))):=⟨fun W7 Z h7 hb7 hu7 ho7 hs7 htn=>by
     have hwl:wr.heap.size<W7.heap.size:=lt_of_blk5 h7
     have hBs:=hB.out.size
     obtain⟨v',w',q1,q2,q3,q4,pv,cv,q5⟩:=(hK.out.below hb7).push ⟨{ t with pair:=(R:Int),blk:=Z },p',c'⟩ hu7 hU6.out.1 (fun g o e=>by
      have h1:=hU6.out.2.2.1 g o e
      refine⟨by omega,by omega,fun e2=>?_⟩
      have h2:=World.ownsRow.lt hK.out.row g e2
      omega) (own_lower ho7 (by have:=hz1'.out;omega)) (fun y hy g o g' o' e1 e2=>by
      have h1:=((hK.out.u y hy).2.2 g o e1).2.1
      have h2:=(hU6.out.2.2.1 g' o' e2).1
      omega) (by have:=hLM.out;omega) (by omega)
     refine⟨v',w',q1,⟨pv,cv,q5⟩,⟨q2,?_,(hB.out.trans (hb7.mono hBs)).trans q3⟩⟩
     rw[List.map_append,hE.out,hks'.out,if_pos hcv'.out,htn]
     rfl⟩
    have hm':t.pair.toNat=m:=by rw[hm];rfl
    by_cases hbk:t.op=0\/t.op=4
    ·have hbd:decide (t.op=0\/t.op=4)=true:=by simp[hbk]
     rw[hbd] at cH
     have hgB:bgO t.op=true:=by rcases hbk with e|e<;>rw[e]<;>rfl
     obtain⟨n,ks',hBg,hTo⟩:=bgn_took hZ.out ht'.out hgB
     have cB:=blockAt_any hZ.out hBg hTo hbk (some ⟨gf,ofs,none⟩) cp W6 w.heap.size (hT.out.row.below hV6.bl) hLM.out _ w.heap.size hV6.cm v
     obtain⟨Z,hZZ⟩:∃ Z,blkZ f.toks (camZ f) v j t=Z:=⟨_,rfl⟩
     rw[hZZ] at cB
     have htn:trnT f.toks (camZ f) v j t={ t with pair:=(R:Int),blk:=Z }:=by
      unfold trnT
      rw[if_pos hbk,hZZ,hm',hR'.out]
     have t7:=tk_put t6 14 (.int .i64 Z) { t with pair:=(R:Int),blk:=Z } p' c' rfl
     have hb7:Below wr.heap.size wr (W6.setCell ⟨wr.heap.size,14,none⟩ (.int .i64 Z)):=hbq.setCell (p:=⟨wr.heap.size,14,none⟩) (Nat.le_refl _) _
     have hs7:(W6.setCell ⟨wr.heap.size,14,none⟩ (.int .i64 Z)).heap.size=W6.heap.size:=by simp[World.setCell]
     have hap:Hid _:=⟨PU.out _ Z t7 hb7 (hU6.out.2.1.keepP (by rw[hs7];exact Nat.le_refl _) (fun g o e=>set_off (by have:=hU6.out.2.2.1 g o e;omega))) (own_stay hU6.out.2.2.2 fun g hg=>set_off (by have:=hU6.out.2.2.1 g 0 (own_ptr hU6.out.2.2.2 hg);omega)) hs7 htn⟩
     have l2:Hid _:=⟨(tk_of t7).load⟩
     have e14:=cell_at t6 14
     have z14:W6.frozen? ⟨wr.heap.size,14,none⟩=false:=frz_at t6
     have i12:=hV6.ff.c12
     generalize hW7:W6.setCell ⟨wr.heap.size,14,none⟩ (.int .i64 Z)=W7 at t7 hb7 hs7 hap l2
     clear t6 t7 hbq hb7 hs7 hs6 hU6 PU hBg hTo hgB hbk hZZ htn hV6 hm hm'
     go_wp2_with (first
      | (go_at_call 56;refine cT.mono ?_;rintro _ wq ⟨rfl,e⟩;obtain rfl:W5=wq:=e.symm)
      | (go_at_call 43;refine cH.mono ?_;rintro _ wq ⟨rfl,e⟩;obtain rfl:W6=wq:=e.symm)
      | (go_at_call 44;refine cB.mono ?_;rintro _ wq ⟨rfl,e⟩;obtain rfl:W6=wq:=e.symm)
      | (guard_target =~ wpList _ _ _ (Oper.mk _ (Op.load 40 _) _ _ _ _::_) _ _;go_must (refine wpList_ld 40 _ rfl rfl _ _ rfl l2.out ?_);simp only[pts])
      | (at_builtin;go_must (refine(ap_step (by rfl) _ _ _ _ (by rfl) _ _ (by rfl) (by rfl) _ hap.out ?_));rintro v8 w8 ⟨⟨pv8,cv8,rfl⟩,hF8⟩))
     go_roundw
     case rel=>exact⟨j+1,ks++[_],pv8,cv8,by omega,by go_num,by rw[List.length_append];rfl,⟨by rw[List.length_append];exact hF8.out.1,hF8.out.2⟩⟩
     case measure=>simp[RowKit.intOf];omega
    ·have hbd:decide (t.op=0\/t.op=4)=false:=by simp[hbk]
     rw[hbd] at cH
     have htn:trnT f.toks (camZ f) v j t={ t with pair:=(R:Int),blk:=t.blk }:=by
      unfold trnT
      rw[if_neg hbk,hm',hR'.out]
     have hap:Hid _:=⟨PU.out W6 t.blk t6 hbq hU6.out.2.1 hU6.out.2.2.2 rfl htn⟩
     have l2:Hid _:=⟨(tk_of t6).load⟩
     clear t6 hbq hs6 hU6 PU hbk htn hV6 hm hm'
     go_wp2_with (first
      | (go_at_call 56;refine cT.mono ?_;rintro _ wq ⟨rfl,e⟩;obtain rfl:W5=wq:=e.symm)
      | (go_at_call 43;refine cH.mono ?_;rintro _ wq ⟨rfl,e⟩;obtain rfl:W6=wq:=e.symm)
      | (guard_target =~ wpList _ _ _ (Oper.mk _ (Op.load 40 _) _ _ _ _::_) _ _;go_must (refine wpList_ld 40 _ rfl rfl _ _ rfl l2.out ?_);simp only[pts])
      | (at_builtin;go_must (refine(ap_step (by rfl) _ _ _ _ (by rfl) _ _ (by rfl) (by rfl) _ hap.out ?_));rintro v8 w8 ⟨⟨pv8,cv8,rfl⟩,hF8⟩))
     go_roundw
     case rel=>exact⟨j+1,ks++[_],pv8,cv8,by omega,by go_num,by rw[List.length_append];rfl,⟨by rw[List.length_append];exact hF8.out.1,hF8.out.2⟩⟩
     case measure=>simp[RowKit.intOf];omega
  ·obtain rfl:j=f.toks.length:=by omega
   have d3:decide ((f.toks.length:Int)<f.toks.length)=false:=by simp
   have fb:=hV'.fb
   have rb:=hV'.rr
   have hb6:(wr.setCell ⟨w.heap.size,2,none⟩ (.int .i64 v)).heap[w.heap.size]?=some (fmO { f with ver:=v } pp cp):=by rw[set_at fb];rfl
   have hb7:((wr.setCell ⟨w.heap.size,2,none⟩ (.int .i64 v)).setCell ⟨w.heap.size,12,none⟩ (.slice pk ks.length ck)).heap[w.heap.size]?=some (.cells #[.int .i64 f.ord,.int .i64 f.sch,.int .i64 v,.int .i64 f.hsz,.int .i64 f.hb.p,.int .i64 f.hb.o,.int .i64 f.ht.p,.int .i64 f.ht.o,.int .i64 f.hs.p,.int .i64 f.hs.o,.int .i64 f.hv.p,.int .i64 f.hv.o,.slice pk ks.length ck] 30):=by rw[set_at hb6];rfl
   have hkt:ks.length=(atF f v).toks.length:=by
    have:=congrArg List.length hE.out
    rw[List.length_map] at this
    exact this
   have hk0:ks.map Ktp.t=(atF f v).toks:=hE.out
   have rb7:((wr.setCell ⟨w.heap.size,2,none⟩ (.int .i64 v)).setCell ⟨w.heap.size,12,none⟩ (.slice pk ks.length ck)).heap[w.heap.size+1]?=some J.zFo:=(set_off (by omega)).trans ((set_off (by omega)).trans rb)
   have hl3:=hV.out.ll
   have hBB:Below w.heap.size w ((wr.setCell ⟨w.heap.size,2,none⟩ (.int .i64 v)).setCell ⟨w.heap.size,12,none⟩ (.slice pk ks.length ck)):=(hV'.bl.setCell (p:=⟨w.heap.size,2,none⟩) (Nat.le_refl _) _).setCell (p:=⟨w.heap.size,12,none⟩) (Nat.le_refl _) _
   have hKK:KtR ((wr.setCell ⟨w.heap.size,2,none⟩ (.int .i64 v)).setCell ⟨w.heap.size,12,none⟩ (.slice pk ks.length ck)) W3.heap.size (.slice pk ks.length ck) ks:=hK.out.keep (by simp[World.setCell]) fun k hk _ _=>(set_off (by omega)).trans (set_off (by omega))
   have x2:=cell_at fb 2
   have x2f:wr.frozen? ⟨w.heap.size,2,none⟩=false:=frz_at fb
   have x12:=cell_at hb6 12
   have x12f:(wr.setCell ⟨w.heap.size,2,none⟩ (.int .i64 v)).frozen? ⟨w.heap.size,12,none⟩=false:=frz_at hb6
   generalize hW6:wr.setCell ⟨w.heap.size,2,none⟩ (.int .i64 v)=W6 at hb7 rb7 hBB hKK x12 x12f
   generalize hW8:W6.setCell ⟨w.heap.size,12,none⟩ (.slice pk ks.length ck)=W8 at hb7 rb7 hBB hKK
   rw[hkt] at hb7
   have hb8:W8.heap[w.heap.size]?=some (fmO (atF f v) pk ck):=hb7
   have LF:Hid _:=⟨(J.fm_of hb8).load⟩
   have SF:Hid _:=⟨fm_st rb7 rfl (atF f v) pk ck⟩
   have hKL:Hid (KtR (W8.setRow (w.heap.size+1) (J.fmC (atF f v) pk ck)) w.heap.size (.slice pk ks.length ck) ks/\Below w.heap.size w (W8.setRow (w.heap.size+1) (J.fmC (atF f v) pk ck))):=⟨by
    have h1:=hKK.keep (W':=W8.setRow (w.heap.size+1) (J.fmC (atF f v) pk ck)) (by rw[size_setRow];exact Nat.le_refl _) fun k hk _ _=>setRow_other _ _ _ _ (by omega)
    refine⟨⟨own_lower h1.row (by omega),fun x hx=>?_,fun x hx=>own_lower (h1.own x hx) (by omega),h1.dis⟩,hBB.trans ⟨rfl,rfl,rfl,by rw[size_setRow];exact Nat.le_refl _,fun k hk=>setRow_other _ _ _ _ (by omega)⟩⟩
    obtain⟨a1,a2,a3⟩:=h1.u x hx
    exact⟨a1,a2,fun g o e=>⟨by have:=(a3 g o e).1;omega,(a3 g o e).2⟩⟩⟩
   have hk1:Hid _:=⟨hk0⟩
   have rb8:Hid _:=⟨rb7⟩
   clear fb rb hb6 hb7 rb7 hBB hKK hb8 hk0 hkt hV' hlt
   go_wp2_with (first
    | (guard_target =~ wpList _ _ _ (Oper.mk _ (Op.load 30 _) _ _ _ _::_) _ _;go_must (refine wpList_ld 30 _ rfl rfl _ _ rfl LF.out ?_);simp only[pts])
    | (guard_target =~ wpList _ _ _ (Oper.mk _ (Op.store 30 _ _) _ _ _ _::_) _ _;go_must (refine wpList_st 30 _ _ rfl rfl _ _ rfl rfl SF.out ?_);simp only[pts]))
   exact bodyPost_ret (results_cell_row rfl _ _ (w.heap.size+1) 30 _ (0,0) _ rfl (setRow_heap _ _ _ _ _ _ rb8.out) Tryz.underlying30 rfl J.infoFm) rfl ⟨pk,ck,rfl,ks,hk1.out,hKL.out.1,hKL.out.2⟩
end Go.Proofs.YtcgimchhcaankaaGreatDoor
