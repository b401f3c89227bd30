import Derived.Test.YtcgimchhcaankaaGreatDoorK24
import Derived.Shelf.Pu.Clone
namespace Go.Proofs.YtcgimchhcaankaaGreatDoor
set_option maxRecDepth 1000000
set_option maxHeartbeats 16000000
open Go.ChangeShapes Go.WideShapes Go.ChangeAt Go.RowKit Go.Shelf Go.Maps
theorem make_int (w:World) (n:Nat) (hn:n<=1000000000000):∃ w',(Instr.makeSlice 41 (.int .i64 0) (.int .i64 (n:Int))).run Tryz.prog w = .ok (.slice (some ⟨w.heap.size,0,none⟩) 0 n) w'/\NRow w' w.heap.size (.slice (some ⟨w.heap.size,0,none⟩) 0 n) []/\Below w.heap.size w w'/\w'.heap.size=w.heap.size+1:=by
 obtain⟨i,hi,hz⟩:=Option.map_eq_some_iff.1 infoInt
 simp only[Prod.mk.injEq] at hz
 have hr:=run_make (P:=Tryz.prog) w 41 3 i (.int .i64 0) Tryz.underlying41 hi hz.1 .i64 .i64 0 n (Int.le_refl _) (by omega) (by rw[hz.2.2];omega) (by omega)
 simp only[Int.toNat_zero,Int.toNat_natCast] at hr
 refine⟨_,hr,?_,bel1 _ _,by simp⟩
 rw[hz.2.1,Nat.mul_one]
 exact World.ownsRow_made w _ n (Nat.le_refl _) (by simp only[maxLen];omega) (by rw[size_madeCells,Nat.mul_one])
theorem stkD_length:∀ (l:List Tk) (st:List Nat),(stkD l st).length<=l.length+st.length
 | [],_=>by simp[stkD]
 | t::r,st=>by
  rw[stkD]
  have:=stkD_length r (camS st t).2
  have h2:(camS st t).2.length<=st.length+1:=by
   unfold camS
   split
   ·simp
    omega
   ·simp only
    split<;>simp
  simp only[List.length_cons]
  omega
theorem bs_int (k:Int) (W:World):(Instr.buildSlice 41 1 #[(0,.int .i64 k)]).run Tryz.prog W = .ok (.slice (some ⟨W.heap.size,0,none⟩) 1 1) (W.alloc (.cells #[.int .i64 k] 3)):=by kernel_rfl
theorem comings_any (f:Fm) (pp:Option Addr) (cp:Nat) (w:World) (hz:chkZ f=none) (tl:TkL w pp w.heap.size f.toks) (hlm:f.toks.length*192<=140737488351232) :
  Calls Tryz.prog 24 #[.slice pp f.toks.length cp] w fun e w'=>∃ v,e = .returned v/\NRow w' w.heap.size v (camZ f)/\Below w.heap.size w w':=by
 obtain⟨wm,hmk,hN,hbm,hsm⟩:=make_int w f.toks.length (by omega)
 have hbx:=bel1 wm (.cells #[.slice none 0 0,.slice (some ⟨w.heap.size,0,none⟩) 0 f.toks.length] 86)
 have H0:Hid (Hs (wm.alloc (.cells #[.slice none 0 0,.slice (some ⟨w.heap.size,0,none⟩) 0 f.toks.length] 86)) w.heap.size wm.heap.size (wm.heap.size+1) [] [] (.slice (some ⟨w.heap.size,0,none⟩) 0 f.toks.length)):=⟨⟨.slice none 0 0,heap_al _ _,NRow.nil _ _,hN.below hbx,fun k hk=>by simp[Value.ownBlock] at hk,fun k hk=>by simp[Value.ownBlock] at hk;omega,by omega,by simp[Value.ownBlock]⟩,by omega⟩
 have B0:Hid (Below w.heap.size w (wm.alloc (.cells #[.slice none 0 0,.slice (some ⟨w.heap.size,0,none⟩) 0 f.toks.length] 86))):=⟨hbm.trans (hbx.mono hbm.size)⟩
 have hll:f.toks.length<=733007751850:=by omega
 have hT:Hid _:=⟨tl⟩
 have hZ:Hid _:=⟨hz⟩
 replace hN:=Hid.mk hN
 replace hbm:=Hid.mk hbm
 clear hbx tl hz hlm
 generalize hh:wm.heap.size=h at H0 B0 hsm
 replace hsm:=Hid.mk hsm
 go_enter Tryz.func24,Tryz.ntmps24
 go_wp2_with fail
 go_loopw [13] (fun q wr=>∃ (j:Nat) (vc:Value),j<=f.toks.length/\q = .int .i64 (j:Int)/\Hid (Hs wr w.heap.size h wr.heap.size (stkD (f.toks.take j) []) (camF (f.toks.take j) []) vc/\Below w.heap.size w wr)) (fun q _=>f.toks.length-(RowKit.intOf q).toNat)
 case atStart=>exact⟨0,_,Nat.zero_le _,by go_num,⟨H0.out.any (Nat.le_refl _),B0.out⟩⟩
 case round =>
  clear H0 B0 hN hbm hmk hsm
  obtain⟨j,vc,hj,rfl,hI⟩:=hrel
  have hH:Hid _:=⟨hI.out.1⟩
  have hB:Hid _:=⟨hI.out.2⟩
  clear hI
  by_cases hlt:j<f.toks.length
  ·obtain⟨t,ht⟩:∃ t,f.toks[j]?=some t:=⟨f.toks[j],List.getElem?_eq_getElem hlt⟩
   obtain⟨gf,ofs,pc,cc,rfl,hgf,hTk,-,-⟩:=hT.out.row.c j t ht
   have hT1:=hTk.below hgf hB.out
   have l1:Hid _:=⟨hT1.load⟩
   obtain⟨W1,s1,hA,hb1,hz1⟩:=ld_new wr t pc cc
   have hji:(j:Int)<f.toks.length:=by omega
   have hop:=val_op hZ.out ht
   have hsi:=val_since hZ.out ht
   have hed:edO t.op=true->stkD (f.toks.take j) []≠[]:=fun he=>by
    rw[stk_open hZ.out j hj]
    rcases val_tok hZ.out ht with ⟨_,_,x,o,e,_⟩|⟨e,_⟩|⟨e,_⟩
    ·rw[e];simp
    ·rw[e] at he;cases he
    ·rw[e] at he;cases he
   have hsl:(stkD (f.toks.take j) []).length+1<=1000000000000:=by
    have:=stkD_length (f.toks.take j) []
    rw[List.length_take] at this
    simp at this
    omega
   have hcl:(camF (f.toks.take j) []).length+1<=1000000000000:=by rw[camF_length,List.length_take];omega
   have H1:=hH.out.below hb1
   have hw1:w.heap.size<=W1.heap.size:=Nat.le_trans hB.out.size hb1.size
   have htb:wr.heap.size<W1.heap.size:=by omega
   have cP:=pPass_any (H1.below (Below.refl _ _).drew) t pc cc hsl hw1 htb hop hsi.1 hed
   have es:stkD (f.toks.take (j+1)) []=(camS (stkD (f.toks.take j) []) t).2:=stkD_succ ht []
   have ec:camF (f.toks.take (j+1)) []=camF (f.toks.take j) []++[(camS (stkD (f.toks.take j) []) t).1]:=by rw[take_snoc ht,camF_append];rfl
   obtain⟨R,hR⟩:∃ R,camS (stkD (f.toks.take j) []) t=R:=⟨_,rfl⟩
   rw[hR] at cP es ec
   generalize hst:stkD (f.toks.take j) []=st at *
   generalize hcs:camF (f.toks.take j) []=cs at *
   obtain⟨rc,rs⟩:=R
   simp only at cP es ec
   have hES:Hid (stkD (f.toks.take (j+1)) []=rs/\camF (f.toks.take (j+1)) []=cs++[rc]):=⟨es,ec⟩
   have hcell:∀ (V:World) (tb:Nat) (s2:List Nat),Hs V w.heap.size h tb s2 cs vc->V.cell? ⟨h,1,none⟩=some vc:=fun V tb s2 hV=>by
    obtain⟨vo,h1,-⟩:=hV.c
    exact cell_at h1 1
   obtain⟨p,pI,pN,k1,LT⟩:∃ p:World->Prop,(∀ V,V.cell? ⟨h,1,none⟩=some vc->V.heap[wr.heap.size]?=W1.heap[wr.heap.size]?->p V)/\Nonempty (CW p)/\(∀ θ:CW p,θ.w.cell? ⟨h,1,none⟩=some vc)/\(∀ V,(∃ θ:CW p,V=θ.w)->(Instr.loadAt 40 (.pointer (some ⟨wr.heap.size,0,none⟩))).run Tryz.prog V = .ok (tkV t pc cc) V) :=
    ⟨fun V=>V.cell? ⟨h,1,none⟩=some vc/\V.heap[wr.heap.size]?=W1.heap[wr.heap.size]?,fun V h1 h2=>⟨h1,h2⟩,⟨⟨W1,hcell _ _ _ H1,rfl⟩⟩,fun θ=>θ.h.1,fun V hV=>by obtain⟨θ,rfl⟩:=hV;exact(hA.same θ.h.2).load⟩
   have vcT:vc.ownBlock≠some wr.heap.size:=fun e=>by
    obtain⟨vo,-,-,h3,-⟩:=hH.out.c
    have:=(h3.ltP _ e).2
    omega
   have p0:p W1.drew:=pI _ (hcell _ _ _ (H1.below (Below.refl _ _).drew)) rfl
   have GO:Hid (∀ w2,Hs w2 w.heap.size h wr.heap.size rs cs vc->Below w.heap.size W1.drew w2->w2.heap[wr.heap.size]?=W1.drew.heap[wr.heap.size]?->p w2/\p (w2.alloc (.cells #[.int .i64 (rc:Int)] 3))/\∃ v' w',(∀ ty,(Builtin.append_ #[41,41] ty #[vc,.slice (some ⟨w2.heap.size,0,none⟩) 1 1]).run Tryz.prog (w2.alloc (.cells #[.int .i64 (rc:Int)] 3)) = .ok v' w')/\((∃ pv cv nv,v' = .slice pv nv cv)/\p w'/\Hid (w'.cell? ⟨h,1,none⟩=some vc/\w'.frozen? ⟨h,1,none⟩=false/\Hs (w'.setCell ⟨h,1,none⟩ v') w.heap.size h (w'.setCell ⟨h,1,none⟩ v').heap.size rs (cs++[rc]) v'/\Below w.heap.size w (w'.setCell ⟨h,1,none⟩ v')))):=⟨fun w2 q1 q2 q3=>by
    have hl2:=q1.lt
    have c1:=hcell _ _ _ q1
    have hbh:=q1.b
    have hs2:W1.heap.size<=w2.heap.size:=q2.size
    have hb2:=bel1 w2 (.cells #[.int .i64 (rc:Int)] 3)
    obtain⟨vo,h1,h2,h3,h4,h5,h6,h7⟩:=q1.c
    obtain⟨v',w',a1,a2,a3,a4,a5⟩:=i_apP rc h3 hcl (Nat.le_trans hw1 hs2)
    have htl:wr.heap.size<w2.heap.size:=Nat.lt_of_lt_of_le htb hs2
    have e1:w'.heap[h]?=some (.cells #[vo,vc] 86):=(a4 h hl2 fun e=>h5 h e rfl).trans h1
    have hBw:Below w.heap.size w w2:=(hB.out.trans (hb1.mono hB.out.size)).drew.trans q2
    refine⟨pI _ c1 q3,pI _ ((hb2.cell (p:=⟨h,1,none⟩) hl2).trans c1) ((hb2.block _ htl).trans q3),v',w',a1,?_,pI _ (cell_at e1 1) ?_,⟨cell_at e1 1,frz_at e1,?_,?_⟩⟩
    ·obtain⟨pv,cv,rfl,-⟩:=a2.shape
     exact⟨pv,cv,_,rfl⟩
    ·exact(a4 _ htl fun e=>vcT e).trans q3
    ·refine Hs.any (Hs.setC (tb:=wr.heap.size) hbh e1 (h2.keepP fun k hk=>a4 k (h2.ltP k hk).2 fun e=>(h4 k hk).2 e) a2 (fun k hk=>⟨(h4 k hk).1,fun e=>?_⟩) (fun k hk=>?_) h6 h7) (Nat.le_refl _)
     ·rcases a5 k e with e|e
      ·exact(h4 k hk).2 e
      ·have:=(h2.ltP k hk).2;omega
     ·rcases a5 k hk with e|e
      ·exact h5 k e
      ·omega
    ·exact(hBw.trans a3).setCell (p:=⟨h,1,none⟩) hbh _⟩
   obtain⟨pv0,cv0,rfl⟩:∃ pv0 cv0,vc = .slice pv0 cs.length cv0:=by
    obtain⟨vo,-,-,h3,-⟩:=hH.out.c
    obtain⟨pv0,cv0,e,-⟩:=h3.shape
    exact⟨pv0,cv0,e⟩
   have cP':Hid (Calls Tryz.prog 46 #[.pointer (some ⟨h,0,none⟩),tkV t pc cc] W1.drew fun e w'=>∃ v,e = .returned v/\(v = .int .i64 (rc:Int)/\Hid (Hs w' w.heap.size h wr.heap.size rs cs (.slice pv0 cs.length cv0)/\Below w.heap.size W1.drew w'/\w'.heap[wr.heap.size]?=W1.drew.heap[wr.heap.size]?))):=⟨cP.mono fun e w' hP=>⟨_,hP.1,rfl,⟨hP.2⟩⟩⟩
   replace s1:=Hid.mk s1
   replace hA:=Hid.mk hA
   replace hz1:=Hid.mk hz1
   replace H1:=Hid.mk H1
   clear hT1 hTk cP hcell hed hsl hcl es ec hR hst hcs hop hsi htb hw1 vcT ht
   replace hb1:=Hid.mk hb1
   go_wp2_with (first
    | (guard_target =~ wpList _ _ _ (Oper.mk _ (Op.load 40 _) _ _ _ _::_) _ _;go_must (refine wpList_ld 40 _ rfl rfl _ _ rfl l1.out ?_);simp only[pts])
    | (guard_target =~ wpList _ _ _ (Oper.mk _ (Op.store 40 _ _) _ _ _ _::_) _ _;go_must (refine wpList_st 40 _ _ rfl rfl _ _ rfl rfl (s1.out _ rfl) ?_);simp only[pts]))
   refine wp_region_lw 12 (fun V=>∃ θ:CW p,V=θ.w) (by kernel_rfl) (by kernel_rfl) (fun _ _ d _ _ h=>by cases d<;>exact h) ⟨⟨_,p0⟩,rfl⟩ ?_
   repeat (first|(refine lw_ld LT rfl (by rfl) ?_;simp only[pts])|(refine lw_one rfl ?_;(first|go_big_quiet_skip|(go_big_quiet_want;go_big_quiet_op;go_big_quiet_on));refine wpQuiet_nil ?_))
   refine lw_call2 ent_pPass cP'.out rfl rfl (by rfl) (fun v w2 hR=>?_)
   obtain⟨rfl,hR⟩:=hR
   obtain⟨g1,g2,g3⟩:=GO.out w2 hR.out.1 hR.out.2.1 hR.out.2.2
   refine⟨⟨⟨_,g1⟩,rfl⟩,?_⟩
   simp only[pts]
   refine lw_bs1 (bs_int _ w2) ⟨⟨_,g2⟩,rfl⟩ rfl (by rfl) ?_
   simp only[pts]
   refine lw_ap g3 rfl rfl (by rfl) (fun v' w3 hP=>?_)
   obtain⟨⟨pv,cv,nv,rfl⟩,g4,hF⟩:=hP
   refine⟨⟨⟨_,g4⟩,rfl⟩,?_⟩
   simp only[pts]
   repeat (refine lw_one rfl ?_;(first|go_big_quiet_skip|(go_big_quiet_want;go_big_quiet_op;go_big_quiet_on));refine wpQuiet_nil ?_)
   refine lw_st (st_il hF.out.1 hF.out.2.1) rfl rfl (by rfl) ?_
   have hG:Hid _:=⟨hF.out.2.2⟩
   clear hF g1 g2 g3 g4 hR
   go_wp2_with fail
   go_roundw
   case rel=>exact⟨j+1,_,by omega,by go_num,⟨by rw[hES.out.1,hES.out.2];exact hG.out.1,hG.out.2⟩⟩
   case measure=>simp[RowKit.intOf];omega
  ·obtain rfl:j=f.toks.length:=by omega
   have d3:decide ((f.toks.length:Int)<f.toks.length)=false:=by simp
   have hF:=hH.out
   rw[List.take_length] at hF
   obtain⟨vo,h1,h2,h3,-⟩:=hF.c
   have c1:wr.cell? ⟨h,1,none⟩=some vc:=cell_at h1 1
   have h3':Hid _:=⟨h3⟩
   obtain⟨pv,cv,rfl,-⟩:=h3.shape
   clear h1 h2 h3 hF hlt hj
   go_wp2_with fail
   go_ret
   exact⟨_,rfl,h3'.out,hB.out⟩
theorem NRow.setP {W:World} {base g cap n:Nat} {ns:List Nat} (h:NRow W base (.slice (some ⟨g,0,none⟩) n cap) ns) (i x:Nat) (hi:i<ns.length):NRow (W.setCell ⟨g,i,none⟩ (.int .i64 (x:Int))) base (.slice (some ⟨g,0,none⟩) n cap) (ns.set i x)/\(∃ y:Int,W.cell? ⟨g,i,none⟩=some (.int .i64 y))/\W.frozen? ⟨g,i,none⟩=false/\base<=g/\g<W.heap.size:=by
 rcases h.2 with ⟨e0,_⟩|⟨g',cap',cur,e1,h1,h2,h3,h4,h5,h6⟩
 ·cases e0
 ·cases e1
  have hlt:=(Array.getElem?_eq_some_iff.1 h2).1
  refine⟨⟨by simp,.inr ⟨g,cap,cur.setIfInBounds i (.int .i64 (x:Int)),by rw[List.length_set],h1,set_at h2 _,by simpa using h3,h4,by simpa using h5,?_⟩⟩,?_,frz_at h2,h1,hlt⟩
  ·rw[Array.toList_setIfInBounds,List.take_set,List.length_set,h6,List.map_set]
   rfl
  ·have e:(ns.map cI)[i]?=some (.int .i64 (ns[i]:Int)):=by rw[List.getElem?_map,List.getElem?_eq_getElem hi];rfl
   rw[<- h6,List.getElem?_take,if_pos (by omega),Array.getElem?_toList] at e
   exact⟨_,by rw[cell_at h2];exact e⟩
theorem NRow.cellP {W:World} {base n c:Nat} {p:Option Addr} {ns:List Nat} (h:NRow W base (.slice p n c) ns) {i x:Nat} (hi:ns[i]?=some x):∃ g,p=some ⟨g,0,none⟩/\base<=g/\g<W.heap.size/\W.cell? ⟨g,i,none⟩=some (.int .i64 (x:Int)):=by
 obtain⟨pp,cp,e,h2⟩:=h.shape
 cases e
 obtain⟨g,rfl,h3,h4⟩:=h2 i x hi
 exact⟨g,rfl,(h.ltP g rfl).1,h3,h4⟩
theorem NRow.lenP {W:World} {base n c:Nat} {p:Option Addr} {ns:List Nat} (h:NRow W base (.slice p n c) ns):n=ns.length:=by
 obtain⟨pp,cp,e,_⟩:=h.shape
 cases e
 rfl
theorem make_ints (w:World) (n:Nat) (hn:n<=1000000000000):∃ w',(Instr.makeSlice 41 (.int .i64 (n:Int)) (.int .i64 (n:Int))).run Tryz.prog w = .ok (.slice (some ⟨w.heap.size,0,none⟩) n n) w'/\NRow w' w.heap.size (.slice (some ⟨w.heap.size,0,none⟩) n n) (List.replicate n 0)/\Below w.heap.size w w'/\w'.heap.size=w.heap.size+1:=by
 obtain⟨i,hi,hz⟩:=Option.map_eq_some_iff.1 infoInt
 simp only[Prod.mk.injEq] at hz
 have hr:=run_make (P:=Tryz.prog) w 41 3 i (.int .i64 0) Tryz.underlying41 hi hz.1 .i64 .i64 n n (by omega) (Int.le_refl _) (by rw[hz.2.2];omega) (by omega)
 simp only[Int.toNat_natCast] at hr
 refine⟨_,hr,?_,bel1 _ _,by simp⟩
 rw[hz.2.1,Nat.mul_one]
 refine⟨by simp,.inr ⟨w.heap.size,n,madeCells (Value.int .i64 0).cells n,by simp,Nat.le_refl _,heap_al _ _,by simp,by simp only[maxLen];omega,by rw[size_madeCells,Nat.mul_one],?_⟩⟩
 simp only[List.length_replicate,Nat.mul_one]
 rw[List.take_of_length_le (by rw[Array.length_toList,size_madeCells];exact Nat.le_refl _)]
 refine List.ext_getElem (by simp[madeCells]) fun k h1 h2=>?_
 simp[madeCells,cI,Value.cells,Nat.mod_one]
def plF (C:List Nat) (v:Int) (j:Nat):List Nat:=(List.range C.length).map fun i=>if i<j then rnk C v i else 0
theorem plF_zero (C:List Nat) (v:Int):plF C v 0=List.replicate C.length 0:=by
 unfold plF
 refine List.ext_getElem (by simp) fun k h1 h2=>?_
 simp
theorem plF_succ (C:List Nat) (v:Int) (j:Nat):(plF C v j).set j (rnk C v j)=plF C v (j+1):=by
 unfold plF
 refine List.ext_getElem (by simp) fun k h1 h2=>?_
 simp only[List.getElem_set,List.getElem_map,List.getElem_range]
 by_cases e:j=k
 ·subst e
  simp
 ·rw[if_neg e]
  by_cases h3:k<j
  ·rw[if_pos h3,if_pos (by omega)]
  ·rw[if_neg h3,if_neg (by omega)]
theorem plF_get (C:List Nat) (v:Int) {i:Nat} (hi:i<C.length):(plF C v C.length)[i]?=some (rnk C v i):=by
 unfold plF
 rw[List.getElem?_map,List.getElem?_range hi]
 simp[hi]
theorem plF_length (C:List Nat) (v:Int) (j:Nat):(plF C v j).length=C.length:=by simp[plF]
structure Trn (W:World) (B b:Nat) (C:List Nat) (v:Int):Prop where
 c:∃ g n,W.heap[b]?=some (.cells #[.slice (some ⟨g,0,none⟩) n n] 41)/\NRow W B (.slice (some ⟨g,0,none⟩) n n) (plF C v C.length)/\g≠b
 b:B<=b
theorem Trn.below {W W':World} {B b:Nat} {C:List Nat} {v:Int} (h:Trn W B b C v) (hb:Below W.heap.size W W'):Trn W' B b C v:=by
 obtain⟨g,n,h1,h2,h3⟩:=h.c
 exact⟨⟨g,n,(hb.block _ (Array.getElem?_eq_some_iff.1 h1).1).trans h1,h2.below hb,h3⟩,h.b⟩
theorem turner_any (C:List Nat) (v:Int) (vc:Value) (B:Nat) (w:World) (hC:NRow w B vc C) (hl:C.length<=733007751850) :
  Calls Tryz.prog 41 #[vc,.int .i64 v] w fun e w'=>∃ b,e = .returned (.func (.func 56) #[] #[.pointer (some ⟨b,0,none⟩)])/\Trn w' w.heap.size b C v/\Below w.heap.size w w':=by
 obtain⟨pv,cv,rfl,-⟩:=hC.shape
 obtain⟨wm,hmk,hN,hbm,hsm⟩:=make_ints w C.length (by omega)
 have hbx:=bel1 wm (.cells #[.slice (some ⟨w.heap.size,0,none⟩) C.length C.length] 41)
 rw[<- plF_zero C v] at hN
 have H0:Hid (NRow (wm.alloc (.cells #[.slice (some ⟨w.heap.size,0,none⟩) C.length C.length] 41)) w.heap.size (.slice (some ⟨w.heap.size,0,none⟩) C.length C.length) (plF C v 0)):=⟨hN.below hbx⟩
 have HB0:Hid ((wm.alloc (.cells #[.slice (some ⟨w.heap.size,0,none⟩) C.length C.length] 41)).heap[wm.heap.size]?=some (.cells #[.slice (some ⟨w.heap.size,0,none⟩) C.length C.length] 41)):=⟨heap_al _ _⟩
 have B0:Hid (Below w.heap.size w (wm.alloc (.cells #[.slice (some ⟨w.heap.size,0,none⟩) C.length C.length] 41))):=⟨hbm.trans (hbx.mono hbm.size)⟩
 have hC':Hid _:=⟨hC⟩
 clear hbx hN hC
 generalize hh:wm.heap.size=b at H0 B0 hsm HB0
 have hbb:Hid (b=w.heap.size+1):=⟨hsm⟩
 clear hsm hbm
 go_enter Tryz.func41,Tryz.ntmps41
 go_wp2_with fail
 go_loopw [6,14] (fun q6 q wr=>∃ j:Nat,j<=C.length/\q = .int .i64 (j:Int)/\q6 = .int .i64 ((rnk C v j:Nat):Int)/\Hid (NRow wr w.heap.size (.slice (some ⟨w.heap.size,0,none⟩) C.length C.length) (plF C v j)/\wr.heap[b]?=some (.cells #[.slice (some ⟨w.heap.size,0,none⟩) C.length C.length] 41)/\Below w.heap.size w wr)) (fun _ q _=>C.length-(RowKit.intOf q).toNat)
 case atStart=>exact⟨0,Nat.zero_le _,by go_num,rfl,⟨H0.out,HB0.out,B0.out⟩⟩
 case round =>
  clear H0 HB0 B0 hmk
  obtain⟨j,hj,rfl,rfl,hI⟩:=hrel
  obtain⟨hN,hX,hB⟩:=hI.out
  clear hI
  by_cases hlt:j<C.length
  ·obtain⟨c,hc⟩:∃ c,C[j]?=some c:=⟨C[j],List.getElem?_eq_getElem hlt⟩
   obtain⟨g,rfl,-,hgl,hcc⟩:=hC'.out.cellP hc
   have c1:=(hB.cell (p:=⟨g,j,none⟩) hgl).trans hcc
   have c2:wr.cell? ⟨b,0,none⟩=some (.slice (some ⟨w.heap.size,0,none⟩) C.length C.length):=cell_at hX 0
   obtain⟨n1,⟨y,n2⟩,n3,-,-⟩:=hN.setP j (rnk C v j) (by rw[plF_length];exact hlt)
   rw[plF_succ] at n1
   have hji:(j:Int)<C.length:=by omega
   have hF:Hid (NRow (wr.setCell ⟨w.heap.size,j,none⟩ (.int .i64 ((rnk C v j:Nat):Int))) w.heap.size (.slice (some ⟨w.heap.size,0,none⟩) C.length C.length) (plF C v (j+1))/\(wr.setCell ⟨w.heap.size,j,none⟩ (.int .i64 ((rnk C v j:Nat):Int))).heap[b]?=some (.cells #[.slice (some ⟨w.heap.size,0,none⟩) C.length C.length] 41)/\Below w.heap.size w (wr.setCell ⟨w.heap.size,j,none⟩ (.int .i64 ((rnk C v j:Nat):Int)))):=⟨n1,(set_off (by have:=hbb.out;omega)).trans hX,hB.setCell (p:=⟨w.heap.size,j,none⟩) (Nat.le_refl _) _⟩
   have hr:=rnk_succ (v:=v) hc
   have hrl:=rnk_le C v j
   generalize hr0:rnk C v j=r at *
   have hR:Hid (rnk C v (j+1)=r+if (c:Int)<=v then 1 else 0):=⟨hr⟩
   have hrb:(r:Int)<1000000000000:=by omega
   clear hN hX hB n1 hcc hc hr0 hr hrl
   by_cases hcv:(c:Int)<=v
   ·have d1:decide ((c:Int)<=v)=true:=by simp[hcv]
    have hr':Hid (rnk C v (j+1)=r+1):=⟨by rw[hR.out,if_pos hcv]⟩
    clear hcv hR
    go_wp2_with fail
    go_roundw
    case rel=>exact⟨j+1,by omega,by go_num,by rw[hr'.out];go_num,hF⟩
    case measure=>simp[RowKit.intOf];omega
   ·have d1:decide ((c:Int)<=v)=false:=by simp[hcv]
    have hr':Hid (rnk C v (j+1)=r):=⟨by rw[hR.out,if_neg hcv];rfl⟩
    clear hcv hR
    go_wp2_with fail
    go_roundw
    case rel=>exact⟨j+1,by omega,by go_num,by rw[hr'.out],hF⟩
    case measure=>simp[RowKit.intOf];omega
  ·obtain rfl:j=C.length:=by omega
   have d3:decide ((C.length:Int)<C.length)=false:=by simp
   have hF:Hid _:=⟨hN⟩
   have hG:Hid _:=⟨hX⟩
   have hH:Hid _:=⟨hB⟩
   have hne:w.heap.size≠b/\w.heap.size<=b:=by have:=hbb.out;omega
   replace hne:=Hid.mk hne
   clear hN hX hB hlt hj
   go_wp2_with fail
   go_ret
   exact⟨b,rfl,⟨⟨w.heap.size,C.length,hG.out,hF.out,hne.out.1⟩,hne.out.2⟩,hH.out⟩
theorem turned_any {w:World} {B b:Nat} {C:List Nat} {v:Int} (h:Trn w B b C v) (i:Nat) (hi:i<C.length) :
  Calls Tryz.prog 56 #[.int .i64 (i:Int),.pointer (some ⟨b,0,none⟩)] w fun e w'=>e = .returned (.int .i64 ((rnk C v i:Nat):Int))/\w'=w:=by
 obtain⟨g,n,h1,h2,h3⟩:=h.c
 have hn:=h2.lenP
 rw[plF_length] at hn
 subst hn
 obtain⟨g',e,-,-,hc⟩:=h2.cellP (plF_get C v hi)
 cases e
 have c0:w.cell? ⟨b,0,none⟩=_:=cell_at h1 0
 have hii:(i:Int)<C.length:=by omega
 generalize rnk C v i=r at *
 clear h h1 h2 h3
 go_enter Tryz.func56,Tryz.ntmps56
 go_wp2_with fail
 go_ret
 exact⟨rfl,rfl⟩
theorem hasBlock_any (op:Int) (w:World):Calls Tryz.prog 43 #[.int .i64 op] w fun r w'=>r = .returned (.bool (decide (op=0\/op=4)))/\w'=w:=by
 by_cases h0:op=0
 ·subst h0
  go_enter Tryz.func43,Tryz.ntmps43
  go_wp2_with fail
  go_ret
  exact⟨rfl,rfl⟩
 ·have d0:(op==0)=false:=beqN h0
  have d4:(op==4)=decide (op=0\/op=4):=by rw[beqD];simp[h0]
  rw[<- d4]
  clear h0 d4
  go_enter Tryz.func43,Tryz.ntmps43
  go_wp2_with fail
  go_ret
  exact⟨rfl,rfl⟩
theorem end_op {f:Fm} (hz:chkZ f=none) {b n:Nat} {t:Tk} {ks:List Nat} (hg:Bgn f.toks b n t ks) (ho:t.op=0\/t.op=4):∃ u,f.toks[n]?=some u/\u.op=t.op+1:=by
 have hb:bgO t.op=true:=by rcases ho with e|e<;>rw[e]<;>rfl
 obtain⟨hok,H⟩:=val_ok hz hg.et
 have hp:pairB f.toks b t=true:=by
  revert hok H
  generalize stA f b=s
  intro hok H
  obtain⟨o,ids⟩:=s
  cases o with
  | nil=>exact(okZ_nil hok).2.2.2.2.1
  | cons x o =>
   have h:inOk f (x::o) ids b x t=true:=hok
   have he:edO t.op=false:=bgO_end hb
   exact(inOk_in h he).2.2.2.1 hb
 obtain⟨m,u,h1,_,_,h2,h3,_⟩:=pairB_get hp
 have:m=n:=by have:=hg.en;omega
 subst this
 exact⟨u,h2,h3⟩
theorem blockAt_any {f:Fm} (hz:chkZ f=none) {b n:Nat} {t:Tk} {ks:List Nat} (hg:Bgn f.toks b n t ks) (hk:Took f b t ks) (ho:t.op=0\/t.op=4) (pp:Option Addr) (cp:Nat) (w:World) (H:Nat) (hr:TkRow w pp H f.toks) (hlm:f.toks.length*192<=140737488351232) (vc:Value) (B:Nat) (hC:NRow w B vc (camZ f)) (v:Int) :
  Calls Tryz.prog 44 #[.slice pp f.toks.length cp,vc,.int .i64 (b:Int),.int .i64 v] w fun e w'=>e = .returned (.int .i64 (blkZ f.toks (camZ f) v b t))/\w'=w:=by
 obtain⟨pv,cv,rfl,-⟩:=hC.shape
 have hcl:=camZ_length f
 have hkids:=hg.kids
 obtain⟨Z,hZ⟩:∃ Z,blkZ f.toks (camZ f) v b t=Z:=⟨_,rfl⟩
 have hZ':Hid ((fstB f.toks (camZ f) v ks).getD t.blk=Z):=⟨by rw[<- hZ];unfold blkZ;rw[hkids]⟩
 rw[hZ]
 obtain⟨ue,hue,hueo⟩:=end_op hz hg ho
 obtain⟨gf,ofs,pc,cc,rfl,hgf,hTb,-,-⟩:=hr.c b t hg.et
 have bl:=hg.nl
 have bb:=hg.bn
 have hnl:Hid (n<f.toks.length/\b<n/\f.toks.length<=733007751850):=⟨by omega,by omega,by omega⟩
 have q14:=hTb.c14
 have hkn:Hid (∀ k∈ks,k<f.toks.length):=⟨fun k hk=>by have:=(hg.kn k hk).2;omega⟩
 have hKn:Hid (∀ k∈ks,k<n):=⟨fun k hk=>(hg.kn k hk).2⟩
 have hVZ:Hid _:=⟨hz⟩
 have hrr:Hid _:=⟨hr⟩
 have hCC:Hid _:=⟨hC⟩
 have hTT:Hid _:=⟨hk⟩
 have hoo:Hid _:=⟨ho⟩
 have hUE:Hid (∃ u,f.toks[n]?=some u/\u.op≠2):=⟨ue,hue,by rcases ho with e|e<;>rw[hueo,e]<;>decide⟩
 have hCh:Hid (Chn f.toks (b+1) ks n):=⟨hg.ch⟩
 have hcl':Hid _:=⟨hcl⟩
 have hbi:(b:Int)<f.toks.length:=by omega
 have hbb1:(b:Int)<1000000000000:=by omega
 clear hZ hkids hue hueo hTb hr hC hk ho hg hz hlm hcl bl bb
 go_enter Tryz.func44,Tryz.ntmps44
 go_wp2_with fail
 go_loopw [9] (fun q wr=>∃ (i d:Nat),q = .int .i64 (i:Int)/\i<=n/\Hid (Chn f.toks i (ks.drop d) n/\fstB f.toks (camZ f) v ks=fstB f.toks (camZ f) v (ks.drop d))/\wr=w) (fun q _=>n+1-(RowKit.intOf q).toNat)
 case atStart=>exact⟨b+1,0,by go_num,by have:=hnl.out;omega,⟨hCh.out,rfl⟩,rfl⟩
 case round =>
  obtain⟨i,d,rfl,hin,hI,rfl⟩:=hrel
  obtain⟨hch,hfs⟩:=hI.out
  have hil:i<f.toks.length:=by have:=hnl.out;omega
  obtain⟨u,hu⟩:∃ u,f.toks[i]?=some u:=⟨f.toks[i],List.getElem?_eq_getElem hil⟩
  obtain⟨gf',ofs',pc',cc',e,hgf',hTi,-,-⟩:=hrr.out.c i u hu
  cases e
  have a0:=hTi.c0
  have a3:=hTi.c3
  have a4:=hTi.c4
  have a20:=hTi.c20
  have hii:(i:Int)<f.toks.length:=by omega
  have hlb:(i:Int)<1000000000000:=by have:=hnl.out;omega
  clear hTi hI
  by_cases hu2:u.op=2
  ·have d2:(u.op==2)=true:=beq_iff_eq.2 hu2
   obtain⟨r,hdr⟩:∃ r,ks.drop d=i::r:=by
    cases hd:ks.drop d with
    | nil =>
     rw[hd] at hch
     have e:i=n:=hch
     obtain⟨u',h1,h2⟩:=hUE.out
     rw[<- e,hu] at h1
     cases h1
     exact absurd hu2 h2
    | cons k r =>
     rw[hd] at hch
     obtain⟨e,-⟩:=hch
     exact⟨r,by rw[e]⟩
   rw[hdr] at hch hfs
   obtain⟨-,u',m,hu',hm,hch2⟩:=hch
   rw[hu] at hu'
   cases hu'
   obtain⟨c,hc⟩:∃ c,(camZ f)[i]?=some c:=⟨(camZ f)[i]'(by have:=hcl'.out;omega),List.getElem?_eq_getElem _⟩
   obtain⟨gc,rfl,-,-,hcc⟩:=hCC.out.cellP hc
   have hcl2:(i:Int)<(camZ f).length:=by have:=hcl'.out;omega
   have hmn:m+1<=n:=by
    cases r with
    | nil=>exact Nat.le_of_eq hch2
    | cons k r =>
     obtain⟨e,-⟩:=hch2
     have hk:k∈ks:=List.mem_of_mem_drop (i:=d) (by rw[hdr];simp)
     have:=hKn.out k hk
     omega
   have hnew:newB' f.toks (camZ f) v i=(!decide (u.siz=0)&&decide (v<(c:Int))):=by
    unfold newB'
    rw[hu]
    simp only[hu2,decide_true,Bool.true_and,List.getD_eq_getElem?_getD,hc,Option.getD_some]
   rw[fstB,hnew] at hfs
   have hmi:i<=m:=by
    rcases val_tok hVZ.out hu with ⟨e,-⟩|⟨-,-,m',e,e2,-⟩|⟨-,e,-⟩
    ·rw[hu2] at e;cases e
    ·omega
    ·rw[hu2] at e;cases e
   by_cases hs0:u.siz=0
   ·have d4:(u.siz != 0)=false:=by simp[hs0]
    have hN:Hid (Chn f.toks (m+1) (ks.drop (d+1)) n/\fstB f.toks (camZ f) v ks=fstB f.toks (camZ f) v (ks.drop (d+1))):=⟨by
     have e:ks.drop (d+1)=r:=by rw[<- List.tail_drop,hdr];rfl
     rw[e]
     refine⟨hch2,?_⟩
     rw[hfs,hs0]
     rfl⟩
    rw[hm] at a20
    have hmb:(m:Int)<1000000000000:=by have:=hnl.out;omega
    clear hfs hch2 hs0 hu2 hnew hdr hm a3
    go_wp2_with fail
    go_roundw
    case rel=>exact⟨m+1,d+1,by go_num,hmn,hN,trivial⟩
    case measure=>simp[RowKit.intOf];omega
   ·have d4:(u.siz != 0)=true:=by simp[hs0]
    by_cases hcv:v<(c:Int)
    ·have d5:decide (v<(c:Int))=true:=by simp[hcv]
     have hN:Hid (u.off=Z):=⟨by
      rw[<- hZ'.out,hfs,decide_eq_false hs0,d5]
      unfold offAt
      rw[hu]
      rfl⟩
     clear hfs hch2 hs0 hu2 hnew hdr hm hcv
     go_wp2_with fail
     go_ret
     rw[hN.out]
     exact⟨rfl,rfl⟩
    ·have d5:decide (v<(c:Int))=false:=by simp[hcv]
     have hN:Hid (Chn f.toks (m+1) (ks.drop (d+1)) n/\fstB f.toks (camZ f) v ks=fstB f.toks (camZ f) v (ks.drop (d+1))):=⟨by
      have e:ks.drop (d+1)=r:=by rw[<- List.tail_drop,hdr];rfl
      rw[e]
      refine⟨hch2,?_⟩
      rw[hfs,d5,Bool.and_false]
      rfl⟩
     rw[hm] at a20
     have hmb:(m:Int)<1000000000000:=by have:=hnl.out;omega
     clear hfs hch2 hs0 hu2 hnew hdr hm hcv a3
     go_wp2_with fail
     go_roundw
     case rel=>exact⟨m+1,d+1,by go_num,hmn,hN,trivial⟩
     case measure=>simp[RowKit.intOf];omega
  ·have d2:(u.op==2)=false:=beqN hu2
   have hN:Hid (t.blk=Z):=⟨by
    rw[<- hZ'.out,hfs]
    cases hd:ks.drop d with
    | nil=>rfl
    | cons k r =>
     rw[hd] at hch
     obtain⟨e,-⟩:=hch
     have hkd:ks[d]?=some k:=by
      have:=congrArg (fun l=>l[0]?) hd
      simpa using this
     have:=fst_none (C:=camZ f) (v:=v) hTT.out hoo.out hkn.out hkd (by rw[<- e];exact hu) hu2
     rw[<- hd,this]
     rfl⟩
   clear hfs hch hu2 a3 a4 a20
   go_wp2_with fail
   go_ret
   rw[hN.out]
   exact⟨rfl,rfl⟩
def _root_.Go.Proofs.Tryz.laysPu25_ren:Go.Shelf.Ren:=⟨fun|25=>57|n=>n,fun|9=>9|3=>3|4=>4|37=>131|0=>0|47=>132|5=>5|n=>n,fun|n=>n⟩
theorem _root_.Go.Proofs.Tryz.laysPu25:Go.Proofs.LaysPu.n25 Tryz.prog Tryz.laysPu25_ren:={
 mixed:=by kernel_rfl
 f25:=Tryz.func57.trans (congrArg some (by kernel_rfl))
 t0:=Tryz.underlying0
 a0:=Tryz.isAgg0
 z0:=Tryz.sizeOf0
 v0:=Tryz.zeroValue0
 i0:=by kernel_rfl
 t3:=Tryz.underlying3
 a3:=Tryz.isAgg3
 z3:=Tryz.sizeOf3
 v3:=Tryz.zeroValue3
 i3:=by kernel_rfl
 t4:=Tryz.underlying4
 a4:=Tryz.isAgg4
 z4:=Tryz.sizeOf4
 v4:=Tryz.zeroValue4
 i4:=by kernel_rfl
 t5:=Tryz.underlying5
 a5:=Tryz.isAgg5
 z5:=Tryz.sizeOf5
 v5:=Tryz.zeroValue5
 i5:=by kernel_rfl
 t9:=Tryz.underlying9
 a9:=Tryz.isAgg9
 z9:=Tryz.sizeOf9
 v9:=Tryz.zeroValue9
 i9:=by kernel_rfl
 t37:=Tryz.underlying131
 a37:=Tryz.isAgg131
 z37:=Tryz.sizeOf131
 v37:=Tryz.zeroValue131
 i37:=by kernel_rfl
 t47:=Tryz.underlying132
 a47:=Tryz.isAgg132
 z47:=Tryz.sizeOf132
 v47:=Tryz.zeroValue132
 i47:=by kernel_rfl }
theorem strClone0 (s:ByteArray) (w:World) (hs:s.size<=281474976710656):Calls Tryz.prog 57 #[.string s] w fun e w'=>e = .returned (.string s)/\Below w.heap.size w w' :=
 AnyPu.stringslite_Clone Tryz.laysPu25 s w hs
theorem strClone (s:ByteArray) (w:World) (hs:s.size<=281474976710656):Calls Tryz.prog 42 #[.string s] w fun e w'=>e = .returned (.string s)/\Below w.heap.size w w':=by
 have hcon:=fun w=>strClone0 s w hs
 go_enter Tryz.func42,Tryz.ntmps42
 go_wp2_with (go_at_call 57;refine(hcon _).mono ?_;rintro e w' ⟨rfl,hB⟩)
 go_ret
 exact⟨rfl,hB⟩
namespace J
theorem beq_ba {a b:ByteArray} (h:a≠b):(a.toList==b.toList)=false :=
 beq_eq_false_iff_ne.2 fun e=>h (by
  rw[ByteArray.toList_eq,ByteArray.toList_eq] at e
  exact ByteArray.ext (Array.toList_inj.1 e))
theorem drop_at {α:Type} {l:List α} {j:Nat} {a:α} (h:l[j]?=some a):l.drop j=a::l.drop (j+1):=by
 obtain⟨h1,h2⟩:=List.getElem?_eq_some_iff.1 h
 rw[List.drop_eq_getElem_cons h1,h2]
abbrev fmC (f:Fm) (pp:Option Addr) (cp:Nat):Array Value:=#[.int .i64 f.ord,.int .i64 f.sch,.int .i64 f.ver,.int .i64 f.hsz,.int .i64 f.hb.p,.int .i64 f.hb.o,.int .i64 f.ht.p,.int .i64 f.ht.o,.int .i64 f.hs.p,.int .i64 f.hs.o,.int .i64 f.hv.p,.int .i64 f.hv.o,.slice pp f.toks.length cp]
end J
end Go.Proofs.YtcgimchhcaankaaGreatDoor
