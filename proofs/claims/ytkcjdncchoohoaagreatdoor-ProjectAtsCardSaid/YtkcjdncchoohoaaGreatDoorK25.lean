import Derived.Test.YtkcjdncchoohoaaGreatDoorK24
namespace Go.Proofs.YtkcjdncchoohoaaGreatDoor
set_option maxRecDepth 1000000
set_option maxHeartbeats 16000000
open Go.ChangeShapes Go.WideShapes Go.ChangeAt Go.RowKit Go.Shelf Go.Maps
theorem make_int (w:World) (n:Nat) (hn:n<=1000000000000):∃ w',(Instr.makeSlice 38 (.int .i64 0) (.int .i64 (n:Int))).run Tryz.prog w = .ok (.slice (some ⟨w.heap.size,0,none⟩) 0 n) w'/\NRow w' w.heap.size (.slice (some ⟨w.heap.size,0,none⟩) 0 n) []/\Below w.heap.size w w'/\w'.heap.size=w.heap.size+1:=by
 obtain⟨i,hi,hz⟩:=Option.map_eq_some_iff.1 infoInt
 simp only[Prod.mk.injEq] at hz
 have hr:=run_make (P:=Tryz.prog) w 38 3 i (.int .i64 0) Tryz.underlying38 hi hz.1 .i64 .i64 0 n (Int.le_refl _) (by omega) (by rw[hz.2.2];omega) (by omega)
 simp only[Int.toNat_zero,Int.toNat_natCast] at hr
 refine⟨_,hr,?_,bel1 _ _,by simp⟩
 rw[hz.2.1,Nat.mul_one]
 exact World.ownsRow_made w _ n (Nat.le_refl _) (by simp only[maxLen];omega) (by rw[size_madeCells,Nat.mul_one])
theorem stkD_length:∀ (l:List Tk) (st:List Nat),(stkD l st).length<=l.length+st.length
 | [],_=>by simp[stkD]
 | t::r,st=>by
  rw[stkD]
  have:=stkD_length r (camS st t).2
  have h2:(camS st t).2.length<=st.length+1:=by
   unfold camS
   split
   ·simp
    omega
   ·simp only
    split<;>simp
  simp only[List.length_cons]
  omega
theorem bs_int (k:Int) (W:World):(Instr.buildSlice 38 1 #[(0,.int .i64 k)]).run Tryz.prog W = .ok (.slice (some ⟨W.heap.size,0,none⟩) 1 1) (W.alloc (.cells #[.int .i64 k] 3)):=by kernel_rfl
theorem comings_any (f:Fm) (pp:Option Addr) (cp:Nat) (w:World) (hz:chkZ f=none) (tl:TkL w pp w.heap.size f.toks) (hlm:f.toks.length*192<=140737488351232) :
  Calls Tryz.prog 23 #[.slice pp f.toks.length cp] w fun e w'=>∃ v,e = .returned v/\NRow w' w.heap.size v (camZ f)/\Below w.heap.size w w':=by
 obtain⟨wm,hmk,hN,hbm,hsm⟩:=make_int w f.toks.length (by omega)
 have hbx:=bel1 wm (.cells #[.slice none 0 0,.slice (some ⟨w.heap.size,0,none⟩) 0 f.toks.length] 74)
 have H0:Hid (Hs (wm.alloc (.cells #[.slice none 0 0,.slice (some ⟨w.heap.size,0,none⟩) 0 f.toks.length] 74)) w.heap.size wm.heap.size (wm.heap.size+1) [] [] (.slice (some ⟨w.heap.size,0,none⟩) 0 f.toks.length)):=⟨⟨.slice none 0 0,heap_al _ _,NRow.nil _ _,hN.below hbx,fun k hk=>by simp[Value.ownBlock] at hk,fun k hk=>by simp[Value.ownBlock] at hk;omega,by omega,by simp[Value.ownBlock]⟩,by omega⟩
 have B0:Hid (Below w.heap.size w (wm.alloc (.cells #[.slice none 0 0,.slice (some ⟨w.heap.size,0,none⟩) 0 f.toks.length] 74))):=⟨hbm.trans (hbx.mono hbm.size)⟩
 have hll:f.toks.length<=733007751850:=by omega
 have hT:Hid _:=⟨tl⟩
 have hZ:Hid _:=⟨hz⟩
 replace hN:=Hid.mk hN
 replace hbm:=Hid.mk hbm
 clear hbx tl hz hlm
 generalize hh:wm.heap.size=h at H0 B0 hsm
 replace hsm:=Hid.mk hsm
 go_enter Tryz.func23,Tryz.ntmps23
 go_wp2_with fail
 go_loopw [13] (fun q wr=>∃ (j:Nat) (vc:Value),j<=f.toks.length/\q = .int .i64 (j:Int)/\Hid (Hs wr w.heap.size h wr.heap.size (stkD (f.toks.take j) []) (camF (f.toks.take j) []) vc/\Below w.heap.size w wr)) (fun q _=>f.toks.length-(RowKit.intOf q).toNat)
 case atStart=>exact⟨0,_,Nat.zero_le _,by go_num,⟨H0.out.any (Nat.le_refl _),B0.out⟩⟩
 case round =>
  clear H0 B0 hN hbm hmk hsm
  obtain⟨j,vc,hj,rfl,hI⟩:=hrel
  have hH:Hid _:=⟨hI.out.1⟩
  have hB:Hid _:=⟨hI.out.2⟩
  clear hI
  by_cases hlt:j<f.toks.length
  ·obtain⟨t,ht⟩:∃ t,f.toks[j]?=some t:=⟨f.toks[j],List.getElem?_eq_getElem hlt⟩
   obtain⟨gf,ofs,pc,cc,rfl,hgf,hTk,-,-⟩:=hT.out.row.c j t ht
   have hT1:=hTk.below hgf hB.out
   have l1:Hid _:=⟨hT1.load⟩
   obtain⟨W1,s1,hA,hb1,hz1⟩:=ld_new wr t pc cc
   have hji:(j:Int)<f.toks.length:=by omega
   have hop:=val_op hZ.out ht
   have hsi:=val_since hZ.out ht
   have hed:edO t.op=true->stkD (f.toks.take j) []≠[]:=fun he=>by
    rw[stk_open hZ.out j hj]
    rcases val_tok hZ.out ht with ⟨_,_,x,o,e,_⟩|⟨e,_⟩|⟨e,_⟩
    ·rw[e];simp
    ·rw[e] at he;cases he
    ·rw[e] at he;cases he
   have hsl:(stkD (f.toks.take j) []).length+1<=1000000000000:=by
    have:=stkD_length (f.toks.take j) []
    rw[List.length_take] at this
    simp at this
    omega
   have hcl:(camF (f.toks.take j) []).length+1<=1000000000000:=by rw[camF_length,List.length_take];omega
   have H1:=hH.out.below hb1
   have hw1:w.heap.size<=W1.heap.size:=Nat.le_trans hB.out.size hb1.size
   have htb:wr.heap.size<W1.heap.size:=by omega
   have cP:=pPass_any (H1.below (Below.refl _ _).drew) t pc cc hsl hw1 htb hop hsi.1 hed
   have es:stkD (f.toks.take (j+1)) []=(camS (stkD (f.toks.take j) []) t).2:=stkD_succ ht []
   have ec:camF (f.toks.take (j+1)) []=camF (f.toks.take j) []++[(camS (stkD (f.toks.take j) []) t).1]:=by rw[take_snoc ht,camF_append];rfl
   obtain⟨R,hR⟩:∃ R,camS (stkD (f.toks.take j) []) t=R:=⟨_,rfl⟩
   rw[hR] at cP es ec
   generalize hst:stkD (f.toks.take j) []=st at *
   generalize hcs:camF (f.toks.take j) []=cs at *
   obtain⟨rc,rs⟩:=R
   simp only at cP es ec
   have hES:Hid (stkD (f.toks.take (j+1)) []=rs/\camF (f.toks.take (j+1)) []=cs++[rc]):=⟨es,ec⟩
   have hcell:∀ (V:World) (tb:Nat) (s2:List Nat),Hs V w.heap.size h tb s2 cs vc->V.cell? ⟨h,1,none⟩=some vc:=fun V tb s2 hV=>by
    obtain⟨vo,h1,-⟩:=hV.c
    exact cell_at h1 1
   obtain⟨p,pI,pN,k1,LT⟩:∃ p:World->Prop,(∀ V,V.cell? ⟨h,1,none⟩=some vc->V.heap[wr.heap.size]?=W1.heap[wr.heap.size]?->p V)/\Nonempty (CW p)/\(∀ θ:CW p,θ.w.cell? ⟨h,1,none⟩=some vc)/\(∀ V,(∃ θ:CW p,V=θ.w)->(Instr.loadAt 47 (.pointer (some ⟨wr.heap.size,0,none⟩))).run Tryz.prog V = .ok (tkV t pc cc) V) :=
    ⟨fun V=>V.cell? ⟨h,1,none⟩=some vc/\V.heap[wr.heap.size]?=W1.heap[wr.heap.size]?,fun V h1 h2=>⟨h1,h2⟩,⟨⟨W1,hcell _ _ _ H1,rfl⟩⟩,fun θ=>θ.h.1,fun V hV=>by obtain⟨θ,rfl⟩:=hV;exact(hA.same θ.h.2).load⟩
   have vcT:vc.ownBlock≠some wr.heap.size:=fun e=>by
    obtain⟨vo,-,-,h3,-⟩:=hH.out.c
    have:=(h3.ltP _ e).2
    omega
   have p0:p W1.drew:=pI _ (hcell _ _ _ (H1.below (Below.refl _ _).drew)) rfl
   have GO:Hid (∀ w2,Hs w2 w.heap.size h wr.heap.size rs cs vc->Below w.heap.size W1.drew w2->w2.heap[wr.heap.size]?=W1.drew.heap[wr.heap.size]?->p w2/\p (w2.alloc (.cells #[.int .i64 (rc:Int)] 3))/\∃ v' w',(∀ ty,(Builtin.append_ #[38,38] ty #[vc,.slice (some ⟨w2.heap.size,0,none⟩) 1 1]).run Tryz.prog (w2.alloc (.cells #[.int .i64 (rc:Int)] 3)) = .ok v' w')/\((∃ pv cv nv,v' = .slice pv nv cv)/\p w'/\Hid (w'.cell? ⟨h,1,none⟩=some vc/\w'.frozen? ⟨h,1,none⟩=false/\Hs (w'.setCell ⟨h,1,none⟩ v') w.heap.size h (w'.setCell ⟨h,1,none⟩ v').heap.size rs (cs++[rc]) v'/\Below w.heap.size w (w'.setCell ⟨h,1,none⟩ v')))):=⟨fun w2 q1 q2 q3=>by
    have hl2:=q1.lt
    have c1:=hcell _ _ _ q1
    have hbh:=q1.b
    have hs2:W1.heap.size<=w2.heap.size:=q2.size
    have hb2:=bel1 w2 (.cells #[.int .i64 (rc:Int)] 3)
    obtain⟨vo,h1,h2,h3,h4,h5,h6,h7⟩:=q1.c
    obtain⟨v',w',a1,a2,a3,a4,a5⟩:=i_apP rc h3 hcl (Nat.le_trans hw1 hs2)
    have htl:wr.heap.size<w2.heap.size:=Nat.lt_of_lt_of_le htb hs2
    have e1:w'.heap[h]?=some (.cells #[vo,vc] 74):=(a4 h hl2 fun e=>h5 h e rfl).trans h1
    have hBw:Below w.heap.size w w2:=(hB.out.trans (hb1.mono hB.out.size)).drew.trans q2
    refine⟨pI _ c1 q3,pI _ ((hb2.cell (p:=⟨h,1,none⟩) hl2).trans c1) ((hb2.block _ htl).trans q3),v',w',a1,?_,pI _ (cell_at e1 1) ?_,⟨cell_at e1 1,frz_at e1,?_,?_⟩⟩
    ·obtain⟨pv,cv,rfl,-⟩:=a2.shape
     exact⟨pv,cv,_,rfl⟩
    ·exact(a4 _ htl fun e=>vcT e).trans q3
    ·refine Hs.any (Hs.setC (tb:=wr.heap.size) hbh e1 (h2.keepP fun k hk=>a4 k (h2.ltP k hk).2 fun e=>(h4 k hk).2 e) a2 (fun k hk=>⟨(h4 k hk).1,fun e=>?_⟩) (fun k hk=>?_) h6 h7) (Nat.le_refl _)
     ·rcases a5 k e with e|e
      ·exact(h4 k hk).2 e
      ·have:=(h2.ltP k hk).2;omega
     ·rcases a5 k hk with e|e
      ·exact h5 k e
      ·omega
    ·exact(hBw.trans a3).setCell (p:=⟨h,1,none⟩) hbh _⟩
   obtain⟨pv0,cv0,rfl⟩:∃ pv0 cv0,vc = .slice pv0 cs.length cv0:=by
    obtain⟨vo,-,-,h3,-⟩:=hH.out.c
    obtain⟨pv0,cv0,e,-⟩:=h3.shape
    exact⟨pv0,cv0,e⟩
   have cP':Hid (Calls Tryz.prog 37 #[.pointer (some ⟨h,0,none⟩),tkV t pc cc] W1.drew fun e w'=>∃ v,e = .returned v/\(v = .int .i64 (rc:Int)/\Hid (Hs w' w.heap.size h wr.heap.size rs cs (.slice pv0 cs.length cv0)/\Below w.heap.size W1.drew w'/\w'.heap[wr.heap.size]?=W1.drew.heap[wr.heap.size]?))):=⟨cP.mono fun e w' hP=>⟨_,hP.1,rfl,⟨hP.2⟩⟩⟩
   replace s1:=Hid.mk s1
   replace hA:=Hid.mk hA
   replace hz1:=Hid.mk hz1
   replace H1:=Hid.mk H1
   clear hT1 hTk cP hcell hed hsl hcl es ec hR hst hcs hop hsi htb hw1 vcT ht
   replace hb1:=Hid.mk hb1
   go_wp2_with (first
    | (guard_target =~ wpList _ _ _ (Oper.mk _ (Op.load 47 _) _ _ _ _::_) _ _;go_must (refine wpList_ld 47 _ rfl rfl _ _ rfl l1.out ?_);simp only[pts])
    | (guard_target =~ wpList _ _ _ (Oper.mk _ (Op.store 47 _ _) _ _ _ _::_) _ _;go_must (refine wpList_st 47 _ _ rfl rfl _ _ rfl rfl (s1.out _ rfl) ?_);simp only[pts]))
   refine wp_region_lw 12 (fun V=>∃ θ:CW p,V=θ.w) (by kernel_rfl) (by kernel_rfl) (fun _ _ d _ _ h=>by cases d<;>exact h) ⟨⟨_,p0⟩,rfl⟩ ?_
   repeat (first|(refine lw_ld LT rfl (by rfl) ?_;simp only[pts])|(refine lw_one rfl ?_;(first|go_big_quiet_skip|(go_big_quiet_want;go_big_quiet_op;go_big_quiet_on));refine wpQuiet_nil ?_))
   refine lw_call2 ent_pPass cP'.out rfl rfl (by rfl) (fun v w2 hR=>?_)
   obtain⟨rfl,hR⟩:=hR
   obtain⟨g1,g2,g3⟩:=GO.out w2 hR.out.1 hR.out.2.1 hR.out.2.2
   refine⟨⟨⟨_,g1⟩,rfl⟩,?_⟩
   simp only[pts]
   refine lw_bs1 (bs_int _ w2) ⟨⟨_,g2⟩,rfl⟩ rfl (by rfl) ?_
   simp only[pts]
   refine lw_ap g3 rfl rfl (by rfl) (fun v' w3 hP=>?_)
   obtain⟨⟨pv,cv,nv,rfl⟩,g4,hF⟩:=hP
   refine⟨⟨⟨_,g4⟩,rfl⟩,?_⟩
   simp only[pts]
   repeat (refine lw_one rfl ?_;(first|go_big_quiet_skip|(go_big_quiet_want;go_big_quiet_op;go_big_quiet_on));refine wpQuiet_nil ?_)
   refine lw_st (st_il hF.out.1 hF.out.2.1) rfl rfl (by rfl) ?_
   have hG:Hid _:=⟨hF.out.2.2⟩
   clear hF g1 g2 g3 g4 hR
   go_wp2_with fail
   go_roundw
   case rel=>exact⟨j+1,_,by omega,by go_num,⟨by rw[hES.out.1,hES.out.2];exact hG.out.1,hG.out.2⟩⟩
   case measure=>simp[RowKit.intOf];omega
  ·obtain rfl:j=f.toks.length:=by omega
   have d3:decide ((f.toks.length:Int)<f.toks.length)=false:=by simp
   have hF:=hH.out
   rw[List.take_length] at hF
   obtain⟨vo,h1,h2,h3,-⟩:=hF.c
   have c1:wr.cell? ⟨h,1,none⟩=some vc:=cell_at h1 1
   have h3':Hid _:=⟨h3⟩
   obtain⟨pv,cv,rfl,-⟩:=h3.shape
   clear h1 h2 h3 hF hlt hj
   go_wp2_with fail
   go_ret
   exact⟨_,rfl,h3'.out,hB.out⟩
theorem NRow.setP {W:World} {base g cap n:Nat} {ns:List Nat} (h:NRow W base (.slice (some ⟨g,0,none⟩) n cap) ns) (i x:Nat) (hi:i<ns.length):NRow (W.setCell ⟨g,i,none⟩ (.int .i64 (x:Int))) base (.slice (some ⟨g,0,none⟩) n cap) (ns.set i x)/\(∃ y:Int,W.cell? ⟨g,i,none⟩=some (.int .i64 y))/\W.frozen? ⟨g,i,none⟩=false/\base<=g/\g<W.heap.size:=by
 rcases h.2 with ⟨e0,_⟩|⟨g',cap',cur,e1,h1,h2,h3,h4,h5,h6⟩
 ·cases e0
 ·cases e1
  have hlt:=(Array.getElem?_eq_some_iff.1 h2).1
  refine⟨⟨by simp,.inr ⟨g,cap,cur.setIfInBounds i (.int .i64 (x:Int)),by rw[List.length_set],h1,set_at h2 _,by simpa using h3,h4,by simpa using h5,?_⟩⟩,?_,frz_at h2,h1,hlt⟩
  ·rw[Array.toList_setIfInBounds,List.take_set,List.length_set,h6,List.map_set]
   rfl
  ·have e:(ns.map cI)[i]?=some (.int .i64 (ns[i]:Int)):=by rw[List.getElem?_map,List.getElem?_eq_getElem hi];rfl
   rw[<- h6,List.getElem?_take,if_pos (by omega),Array.getElem?_toList] at e
   exact⟨_,by rw[cell_at h2];exact e⟩
theorem NRow.cellP {W:World} {base n c:Nat} {p:Option Addr} {ns:List Nat} (h:NRow W base (.slice p n c) ns) {i x:Nat} (hi:ns[i]?=some x):∃ g,p=some ⟨g,0,none⟩/\base<=g/\g<W.heap.size/\W.cell? ⟨g,i,none⟩=some (.int .i64 (x:Int)):=by
 obtain⟨pp,cp,e,h2⟩:=h.shape
 cases e
 obtain⟨g,rfl,h3,h4⟩:=h2 i x hi
 exact⟨g,rfl,(h.ltP g rfl).1,h3,h4⟩
theorem NRow.lenP {W:World} {base n c:Nat} {p:Option Addr} {ns:List Nat} (h:NRow W base (.slice p n c) ns):n=ns.length:=by
 obtain⟨pp,cp,e,_⟩:=h.shape
 cases e
 rfl
theorem make_ints (w:World) (n:Nat) (hn:n<=1000000000000):∃ w',(Instr.makeSlice 38 (.int .i64 (n:Int)) (.int .i64 (n:Int))).run Tryz.prog w = .ok (.slice (some ⟨w.heap.size,0,none⟩) n n) w'/\NRow w' w.heap.size (.slice (some ⟨w.heap.size,0,none⟩) n n) (List.replicate n 0)/\Below w.heap.size w w'/\w'.heap.size=w.heap.size+1:=by
 obtain⟨i,hi,hz⟩:=Option.map_eq_some_iff.1 infoInt
 simp only[Prod.mk.injEq] at hz
 have hr:=run_make (P:=Tryz.prog) w 38 3 i (.int .i64 0) Tryz.underlying38 hi hz.1 .i64 .i64 n n (by omega) (Int.le_refl _) (by rw[hz.2.2];omega) (by omega)
 simp only[Int.toNat_natCast] at hr
 refine⟨_,hr,?_,bel1 _ _,by simp⟩
 rw[hz.2.1,Nat.mul_one]
 refine⟨by simp,.inr ⟨w.heap.size,n,madeCells (Value.int .i64 0).cells n,by simp,Nat.le_refl _,heap_al _ _,by simp,by simp only[maxLen];omega,by rw[size_madeCells,Nat.mul_one],?_⟩⟩
 simp only[List.length_replicate,Nat.mul_one]
 rw[List.take_of_length_le (by rw[Array.length_toList,size_madeCells];exact Nat.le_refl _)]
 refine List.ext_getElem (by simp[madeCells]) fun k h1 h2=>?_
 simp[madeCells,cI,Value.cells,Nat.mod_one]
def plF (C:List Nat) (v:Int) (j:Nat):List Nat:=(List.range C.length).map fun i=>if i<j then rnk C v i else 0
theorem plF_zero (C:List Nat) (v:Int):plF C v 0=List.replicate C.length 0:=by
 unfold plF
 refine List.ext_getElem (by simp) fun k h1 h2=>?_
 simp
theorem plF_succ (C:List Nat) (v:Int) (j:Nat):(plF C v j).set j (rnk C v j)=plF C v (j+1):=by
 unfold plF
 refine List.ext_getElem (by simp) fun k h1 h2=>?_
 simp only[List.getElem_set,List.getElem_map,List.getElem_range]
 by_cases e:j=k
 ·subst e
  simp
 ·rw[if_neg e]
  by_cases h3:k<j
  ·rw[if_pos h3,if_pos (by omega)]
  ·rw[if_neg h3,if_neg (by omega)]
theorem plF_get (C:List Nat) (v:Int) {i:Nat} (hi:i<C.length):(plF C v C.length)[i]?=some (rnk C v i):=by
 unfold plF
 rw[List.getElem?_map,List.getElem?_range hi]
 simp[hi]
theorem plF_length (C:List Nat) (v:Int) (j:Nat):(plF C v j).length=C.length:=by simp[plF]
structure Trn (W:World) (B b:Nat) (C:List Nat) (v:Int):Prop where
 c:∃ g n,W.heap[b]?=some (.cells #[.slice (some ⟨g,0,none⟩) n n] 38)/\NRow W B (.slice (some ⟨g,0,none⟩) n n) (plF C v C.length)/\g≠b
 b:B<=b
theorem Trn.below {W W':World} {B b:Nat} {C:List Nat} {v:Int} (h:Trn W B b C v) (hb:Below W.heap.size W W'):Trn W' B b C v:=by
 obtain⟨g,n,h1,h2,h3⟩:=h.c
 exact⟨⟨g,n,(hb.block _ (Array.getElem?_eq_some_iff.1 h1).1).trans h1,h2.below hb,h3⟩,h.b⟩
theorem turner_any (C:List Nat) (v:Int) (vc:Value) (B:Nat) (w:World) (hC:NRow w B vc C) (hl:C.length<=733007751850) :
  Calls Tryz.prog 26 #[vc,.int .i64 v] w fun e w'=>∃ b,e = .returned (.func (.func 40) #[] #[.pointer (some ⟨b,0,none⟩)])/\Trn w' w.heap.size b C v/\Below w.heap.size w w':=by
 obtain⟨pv,cv,rfl,-⟩:=hC.shape
 obtain⟨wm,hmk,hN,hbm,hsm⟩:=make_ints w C.length (by omega)
 have hbx:=bel1 wm (.cells #[.slice (some ⟨w.heap.size,0,none⟩) C.length C.length] 38)
 rw[<- plF_zero C v] at hN
 have H0:Hid (NRow (wm.alloc (.cells #[.slice (some ⟨w.heap.size,0,none⟩) C.length C.length] 38)) w.heap.size (.slice (some ⟨w.heap.size,0,none⟩) C.length C.length) (plF C v 0)):=⟨hN.below hbx⟩
 have HB0:Hid ((wm.alloc (.cells #[.slice (some ⟨w.heap.size,0,none⟩) C.length C.length] 38)).heap[wm.heap.size]?=some (.cells #[.slice (some ⟨w.heap.size,0,none⟩) C.length C.length] 38)):=⟨heap_al _ _⟩
 have B0:Hid (Below w.heap.size w (wm.alloc (.cells #[.slice (some ⟨w.heap.size,0,none⟩) C.length C.length] 38))):=⟨hbm.trans (hbx.mono hbm.size)⟩
 have hC':Hid _:=⟨hC⟩
 clear hbx hN hC
 generalize hh:wm.heap.size=b at H0 B0 hsm HB0
 have hbb:Hid (b=w.heap.size+1):=⟨hsm⟩
 clear hsm hbm
 go_enter Tryz.func26,Tryz.ntmps26
 go_wp2_with fail
 go_loopw [6,14] (fun q6 q wr=>∃ j:Nat,j<=C.length/\q = .int .i64 (j:Int)/\q6 = .int .i64 ((rnk C v j:Nat):Int)/\Hid (NRow wr w.heap.size (.slice (some ⟨w.heap.size,0,none⟩) C.length C.length) (plF C v j)/\wr.heap[b]?=some (.cells #[.slice (some ⟨w.heap.size,0,none⟩) C.length C.length] 38)/\Below w.heap.size w wr)) (fun _ q _=>C.length-(RowKit.intOf q).toNat)
 case atStart=>exact⟨0,Nat.zero_le _,by go_num,rfl,⟨H0.out,HB0.out,B0.out⟩⟩
 case round =>
  clear H0 HB0 B0 hmk
  obtain⟨j,hj,rfl,rfl,hI⟩:=hrel
  obtain⟨hN,hX,hB⟩:=hI.out
  clear hI
  by_cases hlt:j<C.length
  ·obtain⟨c,hc⟩:∃ c,C[j]?=some c:=⟨C[j],List.getElem?_eq_getElem hlt⟩
   obtain⟨g,rfl,-,hgl,hcc⟩:=hC'.out.cellP hc
   have c1:=(hB.cell (p:=⟨g,j,none⟩) hgl).trans hcc
   have c2:wr.cell? ⟨b,0,none⟩=some (.slice (some ⟨w.heap.size,0,none⟩) C.length C.length):=cell_at hX 0
   obtain⟨n1,⟨y,n2⟩,n3,-,-⟩:=hN.setP j (rnk C v j) (by rw[plF_length];exact hlt)
   rw[plF_succ] at n1
   have hji:(j:Int)<C.length:=by omega
   have hF:Hid (NRow (wr.setCell ⟨w.heap.size,j,none⟩ (.int .i64 ((rnk C v j:Nat):Int))) w.heap.size (.slice (some ⟨w.heap.size,0,none⟩) C.length C.length) (plF C v (j+1))/\(wr.setCell ⟨w.heap.size,j,none⟩ (.int .i64 ((rnk C v j:Nat):Int))).heap[b]?=some (.cells #[.slice (some ⟨w.heap.size,0,none⟩) C.length C.length] 38)/\Below w.heap.size w (wr.setCell ⟨w.heap.size,j,none⟩ (.int .i64 ((rnk C v j:Nat):Int)))):=⟨n1,(set_off (by have:=hbb.out;omega)).trans hX,hB.setCell (p:=⟨w.heap.size,j,none⟩) (Nat.le_refl _) _⟩
   have hr:=rnk_succ (v:=v) hc
   have hrl:=rnk_le C v j
   generalize hr0:rnk C v j=r at *
   have hR:Hid (rnk C v (j+1)=r+if (c:Int)<=v then 1 else 0):=⟨hr⟩
   have hrb:(r:Int)<1000000000000:=by omega
   clear hN hX hB n1 hcc hc hr0 hr hrl
   by_cases hcv:(c:Int)<=v
   ·have d1:decide ((c:Int)<=v)=true:=by simp[hcv]
    have hr':Hid (rnk C v (j+1)=r+1):=⟨by rw[hR.out,if_pos hcv]⟩
    clear hcv hR
    go_wp2_with fail
    go_roundw
    case rel=>exact⟨j+1,by omega,by go_num,by rw[hr'.out];go_num,hF⟩
    case measure=>simp[RowKit.intOf];omega
   ·have d1:decide ((c:Int)<=v)=false:=by simp[hcv]
    have hr':Hid (rnk C v (j+1)=r):=⟨by rw[hR.out,if_neg hcv];rfl⟩
    clear hcv hR
    go_wp2_with fail
    go_roundw
    case rel=>exact⟨j+1,by omega,by go_num,by rw[hr'.out],hF⟩
    case measure=>simp[RowKit.intOf];omega
  ·obtain rfl:j=C.length:=by omega
   have d3:decide ((C.length:Int)<C.length)=false:=by simp
   have hF:Hid _:=⟨hN⟩
   have hG:Hid _:=⟨hX⟩
   have hH:Hid _:=⟨hB⟩
   have hne:w.heap.size≠b/\w.heap.size<=b:=by have:=hbb.out;omega
   replace hne:=Hid.mk hne
   clear hN hX hB hlt hj
   go_wp2_with fail
   go_ret
   exact⟨b,rfl,⟨⟨w.heap.size,C.length,hG.out,hF.out,hne.out.1⟩,hne.out.2⟩,hH.out⟩
theorem turned_any {w:World} {B b:Nat} {C:List Nat} {v:Int} (h:Trn w B b C v) (i:Nat) (hi:i<C.length) :
  Calls Tryz.prog 40 #[.int .i64 (i:Int),.pointer (some ⟨b,0,none⟩)] w fun e w'=>e = .returned (.int .i64 ((rnk C v i:Nat):Int))/\w'=w:=by
 obtain⟨g,n,h1,h2,h3⟩:=h.c
 have hn:=h2.lenP
 rw[plF_length] at hn
 subst hn
 obtain⟨g',e,-,-,hc⟩:=h2.cellP (plF_get C v hi)
 cases e
 have c0:w.cell? ⟨b,0,none⟩=_:=cell_at h1 0
 have hii:(i:Int)<C.length:=by omega
 generalize rnk C v i=r at *
 clear h h1 h2 h3
 go_enter Tryz.func40,Tryz.ntmps40
 go_wp2_with fail
 go_ret
 exact⟨rfl,rfl⟩
theorem hasBlock_any (op:Int) (w:World):Calls Tryz.prog 28 #[.int .i64 op] w fun r w'=>r = .returned (.bool (decide (op=0\/op=4)))/\w'=w:=by
 by_cases h0:op=0
 ·subst h0
  go_enter Tryz.func28,Tryz.ntmps28
  go_wp2_with fail
  go_ret
  exact⟨rfl,rfl⟩
 ·have d0:(op==0)=false:=beqN h0
  have d4:(op==4)=decide (op=0\/op=4):=by rw[beqD];simp[h0]
  rw[<- d4]
  clear h0 d4
  go_enter Tryz.func28,Tryz.ntmps28
  go_wp2_with fail
  go_ret
  exact⟨rfl,rfl⟩
theorem dSince_any (t:Tk) (pc:Option Addr) (cc:Nat) (w:World) :
  Calls Tryz.prog 35 #[tkV t pc cc] w fun e w'=>e = .returned (.int .i64 (sinD t))/\Below w.heap.size w w':=by
 have HB:=bel1 w (tkO t pc cc)
 have hA:=tk_of (heap_al w (tkO t pc cc))
 generalize hW:w.alloc (tkO t pc cc)=W1 at hA HB
 have c0:W1.cell? ⟨w.heap.size,0,none⟩=some (.int .i64 t.op):=hA.c0
 have c5:W1.cell? ⟨w.heap.size,5,none⟩=some (.int .i64 t.since):=hA.c5
 replace HB:=Hid.mk HB
 simp only[tkO,tkC] at hW
 clear hA
 unfold sinD
 by_cases h:t.op=0\/t.op=2\/t.op=4\/t.op=6\/t.op=15
 ·rw[if_pos h]
  rcases h with h|h|h|h|h
  all_goals
   have e0:(t.op==0)=_:=congrArg (·==0) h
   have e2:(t.op==2)=_:=congrArg (·==2) h
   have e4:(t.op==4)=_:=congrArg (·==4) h
   have e6:(t.op==6)=_:=congrArg (·==6) h
   have e15:(t.op==15)=_:=congrArg (·==15) h
   simp only[Int.reduceBEq] at e0 e2 e4 e6 e15
   clear h
   go_enter Tryz.func35,Tryz.ntmps35
   go_wp2_with fail
   go_ret
   exact⟨rfl,HB.out⟩
 ·rw[if_neg h]
  have e0:(t.op==0)=false:=by simp;omega
  have e2:(t.op==2)=false:=by simp;omega
  have e4:(t.op==4)=false:=by simp;omega
  have e6:(t.op==6)=false:=by simp;omega
  have e15:(t.op==15)=false:=by simp;omega
  clear h
  go_enter Tryz.func35,Tryz.ntmps35
  go_wp2_with fail
  go_ret
  exact⟨rfl,HB.out⟩
structure Cmo (W:World) (B:Nat) (vc vo:Value) (cs os:List Nat):Prop where
 c:NRow W B vc cs
 o:NRow W B vo os
 ap:∀ k,vo.ownBlock=some k->vc.ownBlock≠some k
theorem Cmo.below {W W':World} {B:Nat} {vc vo:Value} {cs os:List Nat} (h:Cmo W B vc vo cs os) (hb:Below W.heap.size W W'):Cmo W' B vc vo cs os:=⟨h.c.below hb,h.o.below hb,h.ap⟩
theorem Cmo.addC {W:World} {B:Nat} {vc vo:Value} {cs os:List Nat} (h:Cmo W B vc vo cs os) (k:Nat) (hl:cs.length+1<=1000000000000) (hB:B<=W.heap.size) :
  ∃ v' w',(∀ ty,(Builtin.append_ #[38,38] ty #[vc,.slice (some ⟨W.heap.size,0,none⟩) 1 1]).run Tryz.prog (W.alloc (.cells #[.int .i64 (k:Int)] 3)) = .ok v' w')/\(Cmo w' B v' vo (cs++[k]) os/\Below B W w'/\∀ j,j<W.heap.size->vc.ownBlock≠some j->w'.heap[j]?=W.heap[j]?):=by
 obtain⟨v',w',a1,a2,a3,a4,a5⟩:=i_apP k h.c hl hB
 refine⟨v',w',a1,⟨a2,h.o.keepP fun j hj=>a4 j (h.o.ltP j hj).2 (h.ap j hj),fun j hj e=>?_⟩,a3,a4⟩
 rcases a5 j e with e|e
 ·exact h.ap j hj e
 ·have:=(h.o.ltP j hj).2;omega
theorem Cmo.addO {W:World} {B:Nat} {vc vo:Value} {cs os:List Nat} (h:Cmo W B vc vo cs os) (k:Nat) (hl:os.length+1<=1000000000000) (hB:B<=W.heap.size) :
  ∃ v' w',(∀ ty,(Builtin.append_ #[38,38] ty #[vo,.slice (some ⟨W.heap.size,0,none⟩) 1 1]).run Tryz.prog (W.alloc (.cells #[.int .i64 (k:Int)] 3)) = .ok v' w')/\(Cmo w' B vc v' cs (os++[k])/\Below B W w'):=by
 obtain⟨v',w',a1,a2,a3,a4,a5⟩:=i_apP k h.o hl hB
 refine⟨v',w',a1,⟨h.c.keepP fun j hj=>a4 j (h.c.ltP j hj).2 fun e=>h.ap j e hj,a2,fun j hj e=>?_⟩,a3⟩
 rcases a5 j hj with e' | e'
 ·exact h.ap j e' e
 ·have:=(h.c.ltP j e).2;omega
def opL (s:St):List Nat:=(s.open_.map Sc.at_).reverse
theorem cam_at {f:Fm} (hz:chkZ f=none) {j:Nat} {t:Tk} (ht:f.toks[j]?=some t) {x:Sc} {o:List Sc} (hx:(stA f j).open_=x::o):∃ c,(camF (f.toks.take j) [])[x.at_]?=some c/\(camS (stkD (f.toks.take j) []) t).1=if edO t.op then c else max t.since.toNat c:=by
 have hj:=(List.getElem?_eq_some_iff.1 ht).1
 obtain⟨_,H⟩:=val_ok hz ht
 have hlt:x.at_<j:=(H.all x (by rw[hx];exact List.mem_cons_self ..)).lt
 have hl:=camZ_length f
 refine⟨(camZ f).getD x.at_ 0,?_,?_⟩
 ·rw[<- camF_take,List.getElem?_take_of_lt hlt,List.getD_eq_getElem?_getD]
  have:(camZ f)[x.at_]?=some ((camZ f)[x.at_]'(by omega)):=List.getElem?_eq_getElem _
  rw[this]
  exact this
 ·rw[stk_open hz j (by omega),hx,List.map_cons]
  unfold camS
  cases edO t.op with
  | true=>rfl
  | false=>simp only[List.headD_cons,Bool.false_eq_true,if_false];exact Nat.max_comm _ _
theorem cam_top {f:Fm} (hz:chkZ f=none) {j:Nat} {t:Tk} (ht:f.toks[j]?=some t) (he:edO t.op=false) (hx:(stA f j).open_=[]):(camS (stkD (f.toks.take j) []) t).1=t.since.toNat:=by
 have hj:=(List.getElem?_eq_some_iff.1 ht).1
 rw[stk_open hz j (by omega),hx]
 unfold camS
 rw[he]
 simp
theorem opL_end {f:Fm} {j:Nat} {t:Tk} (ht:f.toks[j]?=some t) (he:edO t.op=true) {x:Sc} {o:List Sc} (hx:(stA f j).open_=x::o):opL (stA f j)=(o.map Sc.at_).reverse++[x.at_]/\opL (stA f (j+1))=(o.map Sc.at_).reverse:=by
 refine⟨by unfold opL;rw[hx,List.map_cons,List.reverse_cons],?_⟩
 rw[stA_succ ht]
 unfold opL nxt
 rw[if_pos he,hx]
 rfl
theorem opL_begin {f:Fm} {j:Nat} {t:Tk} (ht:f.toks[j]?=some t) (he:edO t.op=false):opL (stA f (j+1))=if bgO t.op then opL (stA f j)++[j] else opL (stA f j):=by
 rw[stA_succ ht]
 unfold opL nxt
 rw[if_neg (by rw[he];decide)]
 cases bgO t.op with
 | true=>simp only[if_true,List.map_cons,List.reverse_cons,metL_ats];rfl
 | false=>simp only[Bool.false_eq_true,if_false,metL_ats]
end Go.Proofs.YtkcjdncchoohoaaGreatDoor
