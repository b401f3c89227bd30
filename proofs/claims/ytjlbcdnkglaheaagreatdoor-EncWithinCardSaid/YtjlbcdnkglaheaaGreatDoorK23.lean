import Derived.Test.YtjlbcdnkglaheaaGreatDoorK22
namespace Go.Proofs.YtjlbcdnkglaheaaGreatDoor
set_option maxRecDepth 1000000
set_option maxHeartbeats 16000000
open Go.ChangeShapes Go.WideShapes Go.ChangeAt Go.RowKit Go.Shelf Go.Maps
theorem takes_no (B g ot:Nat) (op:Int) (w:World) (t0v:w.cell? ⟨g,ot,none⟩=some (.int .i64 op)) (hlg:g<w.heap.size)
  (cMay:∀ W,Below w.heap.size w W->Calls Tryz.prog 85 #[.pointer (some ⟨B,0,none⟩),.int .i64 op] W fun r w'=>r = .returned (.bool false)/\Below W.heap.size W w') :
  Calls Tryz.prog 51 #[.pointer (some ⟨B,0,none⟩),.pointer (some ⟨g,ot,none⟩)] w fun r w'=>r = .returned (.bool false)/\Below w.heap.size w w':=by
 obtain⟨p,pB,pK,hN,t0⟩:∃ p:World->Prop,(∀ W,p W->Kb [] w W) /\
   (∀ W,Kb [] w W->p W) /\
   Nonempty (CW p) /\
   (∀ θ:CW p,θ.w.cell? ⟨g,ot,none⟩=some (.int .i64 op)) :=
  ⟨Kb [] w,
   fun _ h=>h,
   fun _ h=>h,
   ⟨⟨_,Kb.refl _ _⟩⟩,
   fun θ=>(θ.h.cell hlg List.not_mem_nil).trans t0v⟩
 clear t0v hlg
 go_enter Tryz.func51,Tryz.ntmps51
 go_wp2_with fail
 refine wp_region_lx p (by kernel_rfl) (by kernel_rfl) (fun _ _ d _ _ h=>by cases d<;>exact h) (pK _ (Kb.refl _ _).drew) ?_
 repeat (first|(refine lx_one rfl ?_;(first|go_big_quiet_skip|(go_big_quiet_want;go_big_quiet_op;go_big_quiet_on));refine wpQuiet_nil ?_)|(refine lx_call2 ent_mayStand (cMay w.drew (tdr1 (Below.refl _ _))) rfl rfl (by rfl) ?_;intro W1 hb1;have j1:Below w.heap.size w W1:=(tdr1 (Below.refl _ _)).trans hb1;refine⟨⟨⟨_,pK _ (Kb.of_below j1)⟩,rfl⟩,?_⟩;simp only[pts])|(refine lx_skip (by rfl) ?_;simp only[pts]))
 refine lx_done ?_
 go_wp2_with fail
 all_goals
  go_ret
  exact⟨rfl,j1⟩
theorem may_op {l:List Tk} {x:Sc} {op:Int} (h:mayB l x op=true) (hb:bgO x.tk.op=true):0<=op/\op<16:=by
 cases he:edO op with
 | true=>unfold edO at he;have:=decT he;omega
 | false =>
  rcases may_typ h he hb with ⟨_,h,_⟩|⟨_,_,h⟩|⟨_,h⟩|⟨_,⟨_,h⟩|⟨_,h⟩⟩
  ·unfold ptO at h;have:=decT h;omega
  ·unfold tyO at h;have:=decT h;omega
  ·unfold tyO at h;have:=decT h;omega
  ·omega
  ·omega
structure RlC (w:World) (c:Cf) (gr:Nat):Prop where
 lt:gr<w.heap.size
 m1:gr≠c.m1
 m2:gr≠c.m2
 m3:gr≠c.m3
 go:gr≠c.go
 c:∀ q:Nat,w.cell? ⟨gr,q,none⟩=(rulA c.B)[q]?
section
variable {c:Cf} {f:Fm} {x:Sc} {r:List Sc} {t:Tk} {gr:Nat} {dep:Nat->Int} {wh:Bool} {n:Nat} {ids:List Int} {h1 h2 h3:Value->Prop}
theorem nest_at {o:List Sc} (hN:Nest f.toks c.i (x::o)) (hA:∀ a∈x::o,ScOk f.toks c.i a):∀ a∈o,a.at_<x.at_:=out_lt hN.2.2 (fun a ha=>hA a (List.mem_cons_of_mem _ ha))
theorem takes_one (w:World) (h:Ct w c f (r.reverse.map (svOf f.toks)) (svOf f.toks x) x.tk t (.slice (some ⟨gr,0,none⟩) 16 16) dep wh) (hg:RlC w c gr) (hMT:MT w) (hx:ScOk f.toks c.i x) (q fr:Nat) (br bp:Bool) (P:World->Prop) (hq:t.op=q) (hq2:q<16) (hne:edO t.op=false) (hrc:(rulA c.B)[q]?=some (.func (.func fr) #[.pointer (some ⟨c.B,0,none⟩)] #[])) (hen:∀ ag w,(callFunc fr ag).run Tryz.prog w = .ok (.enter fr ag) w)
  (cPair:∀ W,Below w.heap.size w W->Calls Tryz.prog 88 #[.pointer (some ⟨c.B,0,none⟩),.pointer (some ⟨c.g,c.o+c.i*21,none⟩)] W fun r w'=>r = .returned (.bool bp)/\Below W.heap.size W w')
  (cRule:mayB f.toks x t.op=true->plainB t=true->symbolB t.name=true->bp=true->∀ W,Below w.heap.size w W->Calls Tryz.prog fr #[.pointer (some ⟨c.B,0,none⟩),.pointer (some ⟨c.g,c.o+c.i*21,none⟩)] W fun r w'=>r = .returned (.bool br)/\Kb [c.m1,c.m2,c.m3,c.go] W w'/\(br=true->P w')) :
  Calls Tryz.prog 51 #[.pointer (some ⟨c.B,0,none⟩),.pointer (some ⟨c.g,c.o+c.i*21,none⟩)] w fun e w'=>e = .returned (.bool (mayB f.toks x t.op&&plainB t&&symbolB t.name&&(bp&&br)))/\Kb [c.m1,c.m2,c.m3,c.go] w w'/\((mayB f.toks x t.op&&plainB t&&symbolB t.name&&(bp&&br))=true->P w'):=by
 obtain⟨g0,o0,pc,cc,e0,hgH,hT,hU,hUc,kT⟩:=h.tl.at h.ht
 cases e0
 obtain⟨_,_,px,cx,e1,_,hXk,_⟩:=h.tl.at h.hx
 cases e1
 have hap:=h.ap
 have c1:=takes_rule [c.m1,c.m2,c.m3,c.go] c.B c.g (c.o+c.i*21) t pc cc w hT h.lg kT.name h.ck.lt (by simp;have:=hap.g;have:=hap.m1;have:=hap.m2;have:=hap.m3;have:=hap.go;omega) (by simp;exact⟨hap.B1,hap.B2,hap.B3,hap.Bo⟩) q gr fr (mayB f.toks x t.op) br bp (fun W w'=>Kb [c.m1,c.m2,c.m3,c.go] W w'/\(br=true->P w')) hq hq2 hne h.ck.c3 hg.lt (by simp;exact⟨hg.m1,hg.m2,hg.m3,hg.go⟩) (by rw[hg.c];exact hrc) hen hMT
  (fun W hW=>by
   have hC:=(h.below hW)
   have c2:=mayStand_any c.B c.gf c.go (r.reverse.map (svOf f.toks)).length c.cap c.g c.o c.m1 c.m2 c.m3 (c.i:Int) (q:Int) x.tk.op _ dep wh (svOf f.toks x) W hC.ck hC.op.last hC.op.lt hC.lg (by obtain⟨_,_,px,cx,e1,_,hXk,_⟩:=hC.tl.at hC.hx;cases e1;exact hXk.c0) h.ln hx.beg
   rw[show mayP x.tk.op (svOf f.toks x).last (svOf f.toks x).cnt (q:Int)=mayB f.toks x (q:Int) from may_eq f.toks x q,<- hq] at c2
   rw[<- hq]
   exact c2)
  cPair cRule (fun _ _ h=>h.1)
 refine c1.mono ?_
 rintro _ w' ⟨rfl,hL⟩
 have e:(mayB f.toks x t.op&&plainB t&&symbolB t.name&&bp&&br)=(mayB f.toks x t.op&&plainB t&&symbolB t.name&&(bp&&br)):=by rw[Bool.and_assoc]
 rw[e] at hL ⊢
 exact⟨rfl,hL.kb,fun hb=>by
  obtain⟨W,_,_,hP⟩:=hL.ct hb
  simp only[Bool.and_eq_true] at hb
  exact hP hb.2.2⟩
theorem takes_mid (w:World) (h:Ct w c f (r.reverse.map (svOf f.toks)) (svOf f.toks x) x.tk t (.slice (some ⟨gr,0,none⟩) 16 16) dep wh) (hg:RlC w c gr) (hMT:MT w) (hm:Cm w c n h1 h2 h3) (hn:n<17592186043000) (hK:KeysV f.toks (x::r) c.i ids h1 h2 h3) (hA:∀ a∈x::r,ScOk f.toks c.i a) (hN:Nest f.toks c.i (x::r)) (hd:depOk (x::r) dep) (hne:edO t.op=false) :
  Calls Tryz.prog 51 #[.pointer (some ⟨c.B,0,none⟩),.pointer (some ⟨c.g,c.o+c.i*21,none⟩)] w fun e w'=>e = .returned (.bool (inOk f (x::r) ids c.i x t))/\Kb [c.m1,c.m2,c.m3,c.go] w w'/\(inOk f (x::r) ids c.i x t=true->Rst w' c f (r.reverse.map (svOf f.toks)) x r t (.slice (some ⟨gr,0,none⟩) 16 16) dep wh n (if ptO t.op then ids++[t.id] else ids)):=by
 have hx:=hA x (List.mem_cons_self ..)
 have hr:=nest_at hN hA
 have hbl:∀ W,Below w.heap.size w W->Ct W c f (r.reverse.map (svOf f.toks)) (svOf f.toks x) x.tk t (.slice (some ⟨gr,0,none⟩) 16 16) dep wh:=fun W hW=>h.below hW
 have hml:∀ W,Below w.heap.size w W->Cm W c n h1 h2 h3:=fun W hW=>hm.below hW
 unfold inOk
 rw[hne]
 simp only[Bool.false_eq_true,if_false]
 by_cases hmay:mayB f.toks x t.op=true
 rotate_left
 ·have hmay:mayB f.toks x t.op=false:=by simpa using hmay
  rw[hmay]
  simp only[Bool.false_and]
  obtain⟨_,_,pc,cc,e0,hgH,hT,hU,hUc,kT⟩:=h.tl.at h.ht
  cases e0
  refine(takes_no c.B c.g (c.o+c.i*21) t.op w hT.c0 h.lg (fun W hW=>?_)).mono (fun e w' hh=>⟨hh.1,Kb.of_below hh.2,fun e=>by cases e⟩)
  have hC:=hbl W hW
  have c2:=mayStand_any c.B c.gf c.go (r.reverse.map (svOf f.toks)).length c.cap c.g c.o c.m1 c.m2 c.m3 (c.i:Int) t.op x.tk.op _ dep wh (svOf f.toks x) W hC.ck hC.op.last hC.op.lt hC.lg (by obtain⟨_,_,px,cx,e1,_,hXk,_⟩:=hC.tl.at hC.hx;cases e1;exact hXk.c0) h.ln hx.beg
  rw[show mayP x.tk.op (svOf f.toks x).last (svOf f.toks x).cnt t.op=mayB f.toks x t.op from may_eq f.toks x t.op,hmay] at c2
  exact c2
 ·have hty:=may_typ hmay hne hx.beg
  have hop:=may_op hmay hx.beg
  have hN2:=hN.2.1
  have pBeg:bgO t.op=true->∀ W,Below w.heap.size w W->Calls Tryz.prog 88 #[.pointer (some ⟨c.B,0,none⟩),.pointer (some ⟨c.g,c.o+c.i*21,none⟩)] W fun r w'=>r = .returned (.bool (pairB f.toks c.i t))/\Below W.heap.size W w':=fun hb W hW =>
   isPaired_beg c.B c.gf c.g c.o c.i c.H c.m1 c.m2 c.m3 c.cp _ _ dep wh f t W (hbl W hW).ck (hbl W hW).fm (hbl W hW).fl (hbl W hW).tl (hbl W hW).sz h.ht hb
  have pOwn:(t.op=14\/t.op=15)->∀ W,Below w.heap.size w W->Calls Tryz.prog 88 #[.pointer (some ⟨c.B,0,none⟩),.pointer (some ⟨c.g,c.o+c.i*21,none⟩)] W fun r w'=>r = .returned (.bool (decide (t.pair=(c.i:Int))))/\Below W.heap.size W w':=fun hb W hW=>by
   have:=isPaired_own c f (r.reverse.map (svOf f.toks)) (svOf f.toks x) x.tk t _ dep wh W (hbl W hW) hb
   rwa [beqd] at this
  have hTO:tyO t.op=true->x.tk.op=2\/x.tk.op=8\/((x.tk.op=10\/x.tk.op=12)/\x.kids=[]/\c.i=x.at_+1):=fun e=>by
   have e:=decT e
   rcases hty with ⟨_,hp,_⟩|⟨h0,_⟩|⟨h0,_⟩|⟨h0,⟨h3,_⟩|⟨_,h4⟩⟩
   ·unfold ptO at hp;have:=decT hp;omega
   ·exact .inl h0
   ·exact .inr (.inl h0)
   ·refine .inr (.inr ⟨h0,h3,?_⟩)
    have h5:=(hN2 h0).1
    rw[h3] at h5
    have h6:=congrArg List.length h5
    rw[List.length_range'] at h6
    have:=hx.lt
    simp at h6
    omega
   ·omega
  have hPT:ptO t.op=true->x.tk.op=0\/x.tk.op=4:=fun e=>by
   have e:=decT e
   rcases hty with ⟨h0,_⟩|⟨_,_,h3⟩|⟨_,h3⟩|⟨_,⟨_,h4⟩|⟨_,h4⟩⟩
   ·exact h0
   ·unfold tyO at h3;have:=decT h3;omega
   ·unfold tyO at h3;have:=decT h3;omega
   ·omega
   ·omega
  have hcases:t.op=2\/t.op=4\/t.op=6\/t.op=8\/t.op=10\/t.op=12\/t.op=14\/t.op=15:=by
   rcases hty with ⟨_,h3,_⟩|⟨_,_,h3⟩|⟨_,h3⟩|⟨_,⟨_,h4⟩|⟨_,h4⟩⟩
   ·unfold ptO at h3;have:=decT h3;omega
   ·unfold tyO at h3;have:=decT h3;omega
   ·unfold tyO at h3;have:=decT h3;omega
   ·omega
   ·omega
  unfold rulB
  rcases hcases with e|e|e|e|e|e|e|e
  ·rw[if_pos (show bgO t.op=true by rw[e];decide),if_pos (show ptO t.op=true by rw[e];decide),if_pos e]
   exact takes_one w h hg hMT hx 2 _ _ _ _ e (by decide) hne rfl ent_isField (pBeg (by rw[e];decide)) (fun _ _ _ hp W hW=>rule_fld W (hbl W hW) (hml W hW) hn hK hx hr (hPT (by rw[e];decide)) e hp)
  ·rw[if_pos (show bgO t.op=true by rw[e];decide),if_pos (show ptO t.op=true by rw[e];decide),if_neg (by omega),if_pos e]
   exact takes_one w h hg hMT hx 4 _ _ _ _ e (by decide) hne rfl ent_isGroup (pBeg (by rw[e];decide)) (fun _ _ _ hp W hW=>rule_grp W (hbl W hW) (hml W hW) hn hK hx hr (hPT (by rw[e];decide)) e hd)
  ·rw[if_pos (show bgO t.op=true by rw[e];decide),if_pos (show ptO t.op=true by rw[e];decide),if_neg (by omega),if_neg (by omega),if_pos e]
   exact takes_one w h hg hMT hx 6 _ _ _ _ e (by decide) hne rfl ent_isData (pBeg (by rw[e];decide)) (fun _ _ _ hp W hW=>rule_dat W (hbl W hW) (hml W hW) hn hK hx hr (hPT (by rw[e];decide)) e)
  ·rw[if_pos (show bgO t.op=true by rw[e];decide),if_neg (show ¬ ptO t.op=true by rw[e];decide),if_neg (by omega),if_neg (by omega),if_neg (by omega),if_pos e]
   exact takes_one w h hg hMT hx 8 _ _ _ _ e (by decide) hne rfl ent_isComposite (pBeg (by rw[e];decide)) (fun _ _ _ hp W hW=>rule_cmp W (hbl W hW) (hml W hW) hn hK hx (hTO (by rw[e];decide)) e hd)
  ·rw[if_pos (show bgO t.op=true by rw[e];decide),if_neg (show ¬ ptO t.op=true by rw[e];decide),if_neg (by omega),if_neg (by omega),if_neg (by omega),if_neg (by omega),if_pos (.inl e)]
   exact takes_one w h hg hMT hx 10 _ _ _ _ e (by decide) hne rfl ent_isPlaced (pBeg (by rw[e];decide)) (fun _ _ _ hp W hW=>rule_plc W (hbl W hW) (hml W hW) hn hK hx (hTO (by rw[e];decide)) (.inl e))
  ·rw[if_pos (show bgO t.op=true by rw[e];decide),if_neg (show ¬ ptO t.op=true by rw[e];decide),if_neg (by omega),if_neg (by omega),if_neg (by omega),if_neg (by omega),if_pos (.inr e)]
   exact takes_one w h hg hMT hx 12 _ _ _ _ e (by decide) hne rfl ent_isPlaced (pBeg (by rw[e];decide)) (fun _ _ _ hp W hW=>rule_plc W (hbl W hW) (hml W hW) hn hK hx (hTO (by rw[e];decide)) (.inr e))
  ·rw[if_neg (show ¬ bgO t.op=true by rw[e];decide),if_neg (show ¬ ptO t.op=true by rw[e];decide),if_neg (by omega),if_neg (by omega),if_neg (by omega),if_neg (by omega),if_neg (by omega),if_pos e]
   exact takes_one w h hg hMT hx 14 _ _ _ _ e (by decide) hne rfl ent_isEncoding (pOwn (.inl e)) (fun _ _ _ hp W hW=>rule_enc W (hbl W hW) (hml W hW) hn hK hx (hTO (by rw[e];decide)) e)
  ·rw[if_neg (show ¬ bgO t.op=true by rw[e];decide),if_neg (show ¬ ptO t.op=true by rw[e];decide),if_neg (by omega),if_neg (by omega),if_neg (by omega),if_neg (by omega),if_neg (by omega),if_neg (by omega)]
   exact takes_one w h hg hMT hx 15 _ _ _ _ e (by decide) hne rfl ent_isChoice (pOwn (.inr e)) (fun _ _ _ hp W hW=>rule_cho W (hbl W hW) (hml W hW) hn hK hx hr (by rcases hty with ⟨_,h3,_⟩|⟨_,_,h3⟩|⟨_,h3⟩|⟨h0,_⟩;(unfold ptO at h3;have:=decT h3;omega);(unfold tyO at h3;have:=decT h3;omega);(unfold tyO at h3;have:=decT h3;omega);exact h0) (by rcases hty with ⟨_,h3,_⟩|⟨_,_,h3⟩|⟨_,h3⟩|⟨_,⟨_,h4⟩|⟨h3,_⟩⟩;(unfold ptO at h3;have:=decT h3;omega);(unfold tyO at h3;have:=decT h3;omega);(unfold tyO at h3;have:=decT h3;omega);omega;exact h3) e)
end
section
variable {c:Cf} {f:Fm} {x:Sc} {r:List Sc} {t:Tk} {gr:Nat} {dep:Nat->Int} {wh:Bool} {n:Nat} {ids:List Int} {h1 h2 h3:Value->Prop}
theorem takes_fin (w:World) (rl:Value) (h:Ct w c f (r.reverse.map (svOf f.toks)) (svOf f.toks x) x.tk t rl dep wh) (hMT:MT w) (hx:ScOk f.toks c.i x) (hne:edO t.op=true) :
  Calls Tryz.prog 51 #[.pointer (some ⟨c.B,0,none⟩),.pointer (some ⟨c.g,c.o+c.i*21,none⟩)] w fun e w'=>e = .returned (.bool (inOk f (x::r) ids c.i x t))/\Below w.heap.size w w':=by
 obtain⟨_,_,pc,cc,e0,hgH,hT,hU,hUc,kT⟩:=h.tl.at h.ht
 cases e0
 obtain⟨q,hq,hq2⟩:∃ q:Nat,t.op=q/\q<16:=by
  unfold edO at hne
  have:=decT hne
  exact⟨t.op.toNat,by omega,by omega⟩
 have c1:=takes_end c.B c.g (c.o+c.i*21) t pc cc w hT h.lg kT.name q (mayB f.toks x t.op) ((t.pair==(x.at_:Int))&&(x.tk.pair==(c.i:Int))) hq hq2 hne hMT
  (fun W hW=>by
   have hC:=(h.below hW)
   have c2:=mayStand_any c.B c.gf c.go (r.reverse.map (svOf f.toks)).length c.cap c.g c.o c.m1 c.m2 c.m3 (c.i:Int) (q:Int) x.tk.op _ dep wh (svOf f.toks x) W hC.ck hC.op.last hC.op.lt hC.lg (by obtain⟨_,_,px,cx,e1,_,hXk,_⟩:=hC.tl.at hC.hx;cases e1;exact hXk.c0) h.ln hx.beg
   rw[show mayP x.tk.op (svOf f.toks x).last (svOf f.toks x).cnt (q:Int)=mayB f.toks x (q:Int) from may_eq f.toks x q,<- hq] at c2
   rw[<- hq]
   exact c2)
  (fun W hW=>isPaired_end c f (r.reverse.map (svOf f.toks)) (svOf f.toks x) x.tk t rl dep wh W (h.below hW) hne)
 refine c1.mono ?_
 rintro _ w' ⟨rfl,hb⟩
 refine⟨?_,hb⟩
 unfold inOk
 rw[hne,beqd,beqd]
 simp only[if_true]
theorem takes_top (w:World) (p:Option Addr) (cap:Nat) (hC:CkC w c.B c.gf (.slice p 0 cap) (c.i:Int) (.slice (some ⟨gr,0,none⟩) 16 16) c.m1 c.m2 c.m3 dep wh) (hF:FmC w c.gf 0 f (some ⟨c.g,c.o,none⟩) c.cp) (hfl:c.gf<w.heap.size) (tl:TkL w (some ⟨c.g,c.o,none⟩) c.H f.toks) (hs:c.H<=w.heap.size) (ht:f.toks[c.i]?=some t) (kt:KT w) (hg:RlC w c gr) (hMT:MT w) (hwh:wh=decide (c.i≠0)) (s:St) (h0:s.open_=[]) :
  Calls Tryz.prog 51 #[.pointer (some ⟨c.B,0,none⟩),.pointer (some ⟨c.g,c.o+c.i*21,none⟩)] w fun e w'=>e = .returned (.bool (okZ f s c.i t))/\Below w.heap.size w w':=by
 obtain⟨_,_,pc,cc,e0,hgH,hT,hU,hUc,kT⟩:=tl.at ht
 cases e0
 have hlg:c.g<w.heap.size:=Nat.lt_of_lt_of_le hgH hs
 have hCb:∀ W,Below w.heap.size w W->CkC W c.B c.gf (.slice p 0 cap) (c.i:Int) (.slice (some ⟨gr,0,none⟩) 16 16) c.m1 c.m2 c.m3 dep wh:=fun W hW=>hC.same hW.size (hW.block _ hC.lt)
 have hok:okZ f s c.i t=(decide (c.i=0)&&decide (t.op=0)&&plainB t&&symbolB t.name&&pairB f.toks c.i t&&msgB f t):=by
  unfold okZ
  rw[h0]
 rw[hok]
 by_cases hm:c.i=0/\t.op=0
 ·have hq:t.op=((0:Nat):Int):=hm.2
  have hne:edO t.op=false:=by rw[hm.2];decide
  have hbg:bgO t.op=true:=by rw[hm.2];decide
  have c1:=takes_rule [] c.B c.g (c.o+c.i*21) t pc cc w hT hlg kT.name hC.lt List.not_mem_nil List.not_mem_nil 0 gr 77 true (msgB f t) (pairB f.toks c.i t) (fun W w'=>Below W.heap.size W w') hq (by decide) hne hC.c3 hg.lt List.not_mem_nil (by rw[hg.c];rfl) ent_isMessage hMT
   (fun W hW=>by
    have c2:=mayStand_none c.B c.gf cap c.m1 c.m2 c.m3 p (c.i:Int) ((0:Nat):Int) _ dep wh W (hCb W hW)
    rw[hwh,show (decide (((0:Nat):Int)=0) && !decide (c.i≠0))=true by simp[hm.1]] at c2
    exact c2)
   (fun W hW=>isPaired_beg c.B c.gf c.g c.o c.i c.H c.m1 c.m2 c.m3 c.cp _ _ dep wh f t W (hCb W hW) (hF.below hfl hW) (Nat.lt_of_lt_of_le hfl hW.size) (tl.below (hW.mono hs)) (Nat.le_trans hs hW.size) ht hbg)
   (fun _ _ _ _ W hW=>isMessage_any c.B c.gf c.g (c.o+c.i*21) c.m1 c.m2 c.m3 _ _ (c.i:Int) dep wh f _ _ t pc cc W (hCb W hW) (hF.below hfl hW) (Nat.lt_of_lt_of_le hfl hW.size) (hT.below hlg hW) (Nat.lt_of_lt_of_le hlg hW.size) (kt.up hW))
   (fun _ _ h=>Kb.of_below h)
  refine c1.mono ?_
  rintro _ w' ⟨rfl,hL⟩
  refine⟨by simp[hm],?_⟩
  exact⟨hL.kb.os,hL.kb.tape,hL.kb.output,hL.kb.size,fun k hk=>hL.kb.block k hk List.not_mem_nil⟩
 ·refine(takes_no c.B c.g (c.o+c.i*21) t.op w hT.c0 hlg (fun W hW=>?_)).mono (fun e w' hh=>⟨?_,hh.2⟩)
  ·have c2:=mayStand_none c.B c.gf cap c.m1 c.m2 c.m3 p (c.i:Int) t.op _ dep wh W (hCb W hW)
   rw[hwh,show (decide (t.op=0) && !decide (c.i≠0))=false by
    by_cases e:t.op=0
    ·by_cases e2:c.i=0
     ·exact absurd ⟨e2,e⟩ hm
     ·simp[e2]
    ·simp[e]] at c2
   exact c2
  ·rw[hh.1]
   congr 2
   by_cases e:t.op=0
   ·by_cases e2:c.i=0
    ·exact absurd ⟨e2,e⟩ hm
    ·simp[e2]
   ·simp[e]
end
theorem ent_pop:∀ ag w,(callFunc 90 ag).run Tryz.prog w = .ok (.enter 90 ag) w:=enters_of Tryz.func90 (by kernel_rfl) rfl
theorem fldTk (g k:Nat) (a b c d e f h:Value) (w:World):(Instr.field 164 (.agg #[.pointer (some ⟨g,k,none⟩),a,b,c,d,e,f,h]) 0).run Tryz.prog w = .ok (.pointer (some ⟨g,k,none⟩)) w:=by kernel_rfl
theorem pass_end (B gf go n cap g o ot m1 m2 m3:Nat) (i:Int) (rl:Value) (dep:Nat->Int) (wh:Bool) (x:Sv) (w:World) (hH:CkH w B gf (.slice (some ⟨go,0,none⟩) (n+1) cap) i rl m1 m2 m3 dep wh) (hX:ScC w g o go (n*8) x) (hgo:go<w.heap.size) (hn:n<1000000000000) (hcap:n+1<=cap) (q qx:Nat) (ht:w.cell? ⟨g,ot,none⟩=some (.int .i64 (q:Int))) (hx:w.cell? ⟨g,o+x.at_*21,none⟩=some (.int .i64 (qx:Int))) (hg:g<w.heap.size) (hgB:g≠B) (hq:q<16) (hqx:qx<16) (he:edO (q:Int)=true) (hd:-1000000000000<=dep qx/\dep qx<=1000000000000) :
  Calls Tryz.prog 52 #[.pointer (some ⟨B,0,none⟩),.pointer (some ⟨g,ot,none⟩)] w fun r w'=>r = .returned (.tuple #[])/\CkH w' B gf (.slice (some ⟨go,0,none⟩) n cap) i rl m1 m2 m3 (fun k=>if k=qx then dep qx-1 else dep k) (decide (n=0))/\Kb [B] w w':=by
 have cE:=fun W=>ends_any (q:Int) W (by omega)
 rw[he] at cE
 have cP:∀ W,Below w.heap.size w W->Calls Tryz.prog 90 #[.pointer (some ⟨B,0,none⟩)] W fun r w'=>∃ v,r = .returned v/\(v = .agg #[.pointer (some ⟨g,o+x.at_*21,none⟩),.int .i64 (x.at_:Int),.int .i64 x.cnt,.int .i64 x.last,.int .i64 x.fld,.int .i64 x.row,.int .i64 x.en,.int .i64 x.cod]/\CkH w' B gf (.slice (some ⟨go,0,none⟩) n cap) i rl m1 m2 m3 dep wh/\Kb [B] w w'/\w'.cell? ⟨g,o+x.at_*21,none⟩=some (.int .i64 (qx:Int))):=fun W hW=>by
  refine(pop_any B gf go n cap g o m1 m2 m3 i rl dep wh x W (hH.same (hW.block B hH.lt)) (hX.same (hW.block go hgo)) (Nat.lt_of_lt_of_le hgo hW.size) hn hcap).mono ?_
  rintro _ w' ⟨rfl,h1,h2⟩
  have k:Kb [B] w w':=(Kb.of_below hW).trans h2
  exact⟨_,rfl,rfl,h1,k,(k.cell hg (by simpa using hgB)).trans hx⟩
 have hq0:(0:Int)<=(qx:Int):=by omega
 have hq1:(qx:Int)<16:=by omega
 have hs:IntKind.i64.wrap (dep qx-1)=dep qx-1:=by rw[IntKind.wrap_i64];omega
 have fT:=fun W=>fldTk g (o+x.at_*21) (.int .i64 (x.at_:Int)) (.int .i64 x.cnt) (.int .i64 x.last) (.int .i64 x.fld) (.int .i64 x.row) (.int .i64 x.en) (.int .i64 x.cod) W
 clear hX hx he
 replace hH:=Hid.mk hH
 go_enter Tryz.func52,Tryz.ntmps52
 go_wp2_with (go_at_call 89;refine(cE _).mono ?_;rintro _ wq ⟨rfl,e⟩;obtain rfl:w=wq:=e.symm)
 go_region_law (refine xstep1 ?_ _ (.tmp 13) #[127] ?_ ent_pop _ ?_ _ (cP _ (by first|exact Below.refl _ _|exact drw (Below.refl _ _))) ?_;rfl;rfl;rfl;rintro _ w1 ⟨rfl,h1,k1,x1⟩;have y4:=h1.ck.cd qx hqx;have yf:=h1.frz (4+qx))
 have h2:=h1.setDep qx hqx (dep qx-1)
 have k2:Kb [B] w (w1.setCell ⟨B,4+qx,none⟩ (.int .i64 (dep qx-1))):=k1.set (List.mem_singleton.2 rfl) _
 generalize w1.setCell ⟨B,4+qx,none⟩ (.int .i64 (dep qx-1))=w2 at h2 k2 ⊢
 have cI:=isEmpty_any B n cap (some ⟨go,0,none⟩) w2 (h2.cell 0)
 have z23:=h2.ck.c23
 have zf:=h2.frz 23
 clear h1 k1 x1 y4 yf cP cE fT
 replace h2:=Hid.mk h2
 replace k2:=Hid.mk k2
 go_wp2_with (go_at_call 91;refine cI.mono ?_;rintro _ wq ⟨rfl,e⟩;obtain rfl:w2=wq:=e.symm)
 refine bodyPost_ret (v:=.tuple #[]) (results_none (by rfl) _ _ _) rfl ⟨rfl,h2.out.setWh _,k2.out.set (List.mem_singleton.2 rfl) _⟩
end Go.Proofs.YtjlbcdnkglaheaaGreatDoor
