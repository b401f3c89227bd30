import Derived.Test.YtjnafpefolgcoaaGreatDoorK25
namespace Go.Proofs.YtjnafpefolgcoaaGreatDoor
set_option maxRecDepth 1000000
set_option maxHeartbeats 16000000
open Go.ChangeShapes Go.WideShapes Go.ChangeAt Go.RowKit Go.Shelf Go.Maps
theorem ent_rep:∀ ag w,(callFunc 49 ag).run Tryz.prog w = .ok (.enter 49 ag) w:=enters_of Tryz.func49 (by kernel_rfl) rfl
theorem ent_join:∀ ag w,(callFunc 50 ag).run Tryz.prog w = .ok (.enter 50 ag) w:=enters_of Tryz.func50 (by kernel_rfl) rfl
theorem ent_told:∀ ag w,(callFunc 51 ag).run Tryz.prog w = .ok (.enter 51 ag) w:=enters_of Tryz.func51 (by kernel_rfl) rfl
theorem blk_of_own {W:World} {base:Nat} {v:Value} {ss:List ByteArray} (h:SRow W base v ss):∀ k,v.ownBlock=some k->base<=k/\k<W.heap.size:=fun k hk=>World.ownsRow.lt h k hk
theorem show_any (f:Fm) (pp:Option Addr) (cp:Nat) (w:World) (hz:chkZ f=none) (tl:TkL w pp w.heap.size f.toks) (hlm:f.toks.length*192<=140737488351232) (hnm:∀ t∈f.toks,t.name.size<=140737488351232) (tb:ShTb w) :
  Calls Tryz.prog 23 #[.slice pp f.toks.length cp] w fun e w'=>∃ v,e = .returned v/\SRow w' w.heap.size v (shL pnZ f)/\Below w.heap.size w w':=by
 obtain⟨wm,hmk,hN,hbm⟩:=make_strs w f.toks.length (by omega)
 have hll:f.toks.length<=733007751850:=by omega
 have hT:Hid _:=⟨tl⟩
 have hZ:Hid _:=⟨hz⟩
 replace hN:=Hid.mk hN
 replace hbm:=Hid.mk hbm
 replace hnm:=Hid.mk hnm
 replace tb:=Hid.mk tb
 clear tl hz hlm
 go_enter Tryz.func23,Tryz.ntmps23
 go_wp2_with fail
 go_loopw [12,3,4] (fun q u o wr=>∃ (j:Nat) (v:Value),j<=f.toks.length/\q = .int .i64 (j:Int)/\v=u/\o = .int .i64 (opN f j:Int)/\Hid (SRow wr w.heap.size v ((shL pnZ f).take j)/\Below w.heap.size w wr)) (fun q _ _ _=>f.toks.length-(RowKit.intOf q).toNat)
 case atStart=>exact⟨0,_,Nat.zero_le _,by go_num,rfl,rfl,⟨hN.out,hbm.out⟩⟩
 case round =>
  clear hN hbm hmk
  obtain⟨j,v,hj,rfl,rfl,rfl,hI⟩:=hrel
  have hR:Hid _:=⟨hI.out.1⟩
  have hB:Hid _:=⟨hI.out.2⟩
  clear hI
  by_cases hlt:j<f.toks.length
  ·obtain⟨t,ht⟩:∃ t,f.toks[j]?=some t:=⟨f.toks[j],List.getElem?_eq_getElem hlt⟩
   obtain⟨gf,ofs,pc,cc,rfl,hgf,hTk,-,-,htok⟩:=hT.out.at ht
   have hT1:=hTk.below hgf hB.out
   have l1:Hid _:=⟨hT1.load⟩
   obtain⟨W1,s1,hA,hb1,hz1⟩:=ld_new wr t pc cc
   have hji:(j:Int)<f.toks.length:=by omega
   have hSn:=shn_of hZ.out ht
   have hop:=hSn.op
   have hv64:0<=t.val/\t.val<18446744073709551616:=by have:=htok.val;unfold u64ok at this;omega
   have hname:=hnm.out t (List.mem_of_getElem? ht)
   have hos:=opN_succ hZ.out ht
   have hol:=opN_le hZ.out j hj
   have htk:=shL_take f ht
   have hB1:Below w.heap.size w W1:=hB.out.trans (hb1.mono hB.out.size)
   have hR1:=hR.out.below hb1
   have cE:=ends12 t.op hop W1
   have cB:Hid (∀ V,Calls Tryz.prog 52 #[.int .i64 t.op] V fun r w'=>r = .returned (.bool (bgO t.op))/\w'=V):=⟨fun V=>begins12 t.op hop V⟩
   obtain⟨D,hDe⟩:∃ D,lnD f j t=D:=⟨_,rfl⟩
   have hcase:(edO t.op=true/\bgO t.op=false/\opN f j=D+1/\opN f (j+1)=D)\/(edO t.op=false/\bgO t.op=true/\opN f j=D/\opN f (j+1)=D+1)\/(edO t.op=false/\bgO t.op=false/\opN f j=D/\opN f (j+1)=D):=by
    cases he:edO t.op with
    | true =>
     have h1:=hos.1 he
     have h2:bgO t.op=false:=by
      cases hb:bgO t.op with
      | false=>rfl
      | true=>rw[bgO_end hb] at he;cases he
     unfold lnD at hDe
     rw[if_pos he] at hDe
     exact .inl ⟨rfl,h2,by omega,by omega⟩
    | false =>
     have h1:=hos.2 he
     unfold lnD at hDe
     rw[if_neg (by rw[he];decide)] at hDe
     cases hb:bgO t.op with
     | false=>rw[hb] at h1;exact .inr (.inr ⟨rfl,rfl,hDe,by rw[h1];exact hDe⟩)
     | true=>rw[hb] at h1;exact .inr (.inl ⟨rfl,rfl,hDe,by rw[h1];simp[hDe]⟩)
   have hDl:D<=733007751850:=by omega
   have hLn:Hid (shLn f j t=shR D++shJ (shT pnZ t)):=⟨by unfold shLn;rw[hDe]⟩
   have hsz:=shT_size hSn hv64
   have hps:=shT_pos t
   have hrs:=shR_size D
   have cT:Hid (∀ V,Below w.heap.size w V->Calls Tryz.prog 51 #[tkV t pc cc] V fun e w'=>∃ v,e = .returned v/\SRow w' V.heap.size v (shT pnZ t)/\Below V.heap.size V w'):=⟨fun V h=>told_any t pc cc V hSn hv64 (tb.out.below h)⟩
   obtain⟨q0,qN,p,hp0,hp1,hp2,hp3⟩:∃ (_:True) (_:True) (p:World->Prop),p W1/\(∀ V V',p V->V'.heap[wr.heap.size]?=V.heap[wr.heap.size]?->p V')/\(∀ V,p V->(Instr.loadAt 53 (.pointer (some ⟨wr.heap.size,0,none⟩))).run Tryz.prog V = .ok (tkV t pc cc) V)/\Nonempty (CW p) :=
    ⟨trivial,trivial,fun V=>TkC V wr.heap.size 0 t pc cc,hA,fun V V' h h'=>h.same h',fun V h=>h.load,⟨⟨W1,hA⟩⟩⟩
   have z0:W1.cell? ⟨wr.heap.size,0,none⟩=some (.int .i64 t.op):=by simpa using hA.c0
   have zB:Hid (∀ V:World,V.heap[wr.heap.size]?=W1.heap[wr.heap.size]?->V.cell? ⟨wr.heap.size,0,none⟩=some (.int .i64 t.op)):=⟨fun V h=>(cell_blk h).trans z0⟩
   have hwl:w.heap.size<=wr.heap.size:=hB.out.size
   have hvb:Hid (∀ k,v.ownBlock=some k->k≠wr.heap.size):=⟨fun k hk e=>by have:=(blk_of_own hR.out k hk).2;omega⟩
   obtain⟨ws,hws⟩:∃ ws,shT pnZ t=ws:=⟨_,rfl⟩
   rw[hws] at hsz hps hLn cT
   obtain⟨SJ,hSJ⟩:∃ s,shJ ws=s:=⟨_,rfl⟩
   obtain⟨SR,hSR⟩:∃ s,shR D=s:=⟨_,rfl⟩
   rw[hSJ] at hsz hLn
   rw[hSR] at hLn hrs
   have hov:¬ 9223372036854775807<SR.size+SJ.size:=by omega
   have hJl:SJ.size<=140737488355328:=by omega
   have hW1l:wr.heap.size<W1.heap.size:=by omega
   replace hB1:=Hid.mk hB1
   replace hR1:=Hid.mk hR1
   replace htk:=Hid.mk htk
   replace hlt:=Hid.mk hlt
   replace hwl:=Hid.mk hwl
   replace hp0:=Hid.mk hp0
   replace hp1:=Hid.mk hp1
   replace hp2:=Hid.mk hp2
   replace hsz:=Hid.mk hsz
   replace hps:=Hid.mk hps
   replace hSJ:=Hid.mk hSJ
   replace hSR:=Hid.mk hSR
   replace hW1l:=Hid.mk hW1l
   clear hA hT1 hTk hSn hv64 hname hos hol hDe hws hrs hR hB hb1 hz1 ht htok hgf hop
   rcases hcase with ⟨he,hbg,hK,hNx⟩|⟨he,hbg,hK,hNx⟩|⟨he,hbg,hK,hNx⟩
   all_goals
    rw[he] at cE
    rw[hbg] at cB
    rw[hK]
    replace hNx:=Hid.mk hNx
    clear hK he hbg
    go_upto_region 8 with (first
     | (guard_target =~ wpList _ _ _ (Oper.mk _ (Op.load 53 _) _ _ _ _::_) _ _;go_must (refine wpList_ld 53 _ rfl rfl _ _ rfl l1.out ?_);simp only[pts])
     | (guard_target =~ wpList _ _ _ (Oper.mk _ (Op.store 53 _ _) _ _ _ _::_) _ _;go_must (refine wpList_st 53 _ _ rfl rfl _ _ rfl rfl (s1 _ rfl) ?_);simp only[pts])
     | (go_at_call 48;refine cE.mono ?_;rintro _ wq ⟨rfl,e⟩;obtain rfl:W1=wq:=e.symm))
    have hq:Hid _:=⟨hp1.out W1 W1.drew hp0.out rfl⟩
    refine wp_region_lwt 9 (fun V=>∃ θ:CW p,V=θ.w) [0,1,3,2,4,5,6,7,8,9] (by kernel_rfl) (by kernel_rfl) (fun _ _ d _ _ h=>by cases d<;>exact h) ⟨⟨_,hq.out⟩,rfl⟩ ?_
    simp only[List.filterMap_cons,List.filterMap_nil,List.getElem?_cons_zero,List.getElem?_cons_succ]
    have hR2:Hid _:=⟨hR1.out.below (Below.refl _ W1).drew⟩
    have hB2:Hid _:=⟨hB1.out.drew⟩
    have hE2:Hid (W1.drew.heap[wr.heap.size]?=W1.heap[wr.heap.size]?/\wr.heap.size<W1.drew.heap.size):=⟨rfl,hW1l.out⟩
    generalize W1.drew=V at hq hR2 hB2 hE2 ⊢
    repeat (first
     | (guard_target =~ Lw _ _ _ _ (Oper.mk _ (Op.call _) _ _ _ _::_) _ _;fail)
     | (guard_target =~ Lw _ _ _ _ (Oper.mk _ (Op.load 53 _) _ _ _ _::_) _ _;refine lw_ld (fun W h=>by obtain⟨θ,rfl⟩:=h;exact hp2.out θ.w θ.h) rfl (by rfl) ?_;simp only[pts])
     | (refine lw_one rfl ?_;(first|go_big_quiet_skip|(go_big_quiet_want;go_big_quiet_op;go_big_quiet_on));refine wpQuiet_nil ?_))
    refine lw_call2 (R:=fun v w'=>v = .string SR/\Below V.heap.size V w') ent_rep ((Repeat12 D (by omega) V).mono fun e w' h=>⟨_,h.1,by rw[hSR.out],h.2⟩) rfl rfl (by rfl) ?_
    rintro _ w3 ⟨rfl,b3⟩
    have e3:=b3.block wr.heap.size hE2.out.2
    have q3:Hid _:=⟨hp1.out V w3 hq.out e3⟩
    refine⟨⟨⟨_,q3.out⟩,rfl⟩,?_⟩
    simp only[pts]
    have B3:Below w.heap.size w w3:=hB2.out.trans (b3.mono hB2.out.size)
    refine lw_call1 (R:=fun v w'=>SRow w' w3.heap.size v ws/\Below w3.heap.size w3 w') ent_told ((cT.out w3 B3).mono fun e w' h=>by obtain⟨v,h1,h2⟩:=h;exact⟨v,h1,h2⟩) rfl (by rfl) ?_
    rintro vt w4 ⟨r4,b4⟩
    have s3:=b3.size
    have e4:=b4.block wr.heap.size (by have:=hE2.out.2;omega)
    have q4:Hid _:=⟨hp1.out w3 w4 q3.out e4⟩
    refine⟨⟨⟨_,q4.out⟩,rfl⟩,?_⟩
    simp only[pts]
    obtain⟨pt,ct,rfl,hct,hcl⟩:=r4.shape
    obtain⟨s0,hs0⟩:∃ s0,ws[0]?=some s0:=⟨ws[0]'hps.out,List.getElem?_eq_getElem hps.out⟩
    obtain⟨gt,rfl,-,hgt,-⟩:=hcl 0 s0 hs0
    have B4:Below w.heap.size w w4:=B3.trans (b4.mono B3.size)
    refine lw_call2 (R:=fun v w'=>v = .string SJ/\Below w4.heap.size w4 w') ent_join ((Join12 gt 0 ct ws w4 (fun i x hx=>by obtain⟨g',e,_,_,h⟩:=hcl i x hx;cases e;rw[Nat.zero_add];exact h) hgt hsz.out.2 hct (by rw[hSJ.out];exact hJl)).mono fun e w' h=>⟨_,h.1,by rw[hSJ.out],h.2⟩) rfl rfl (by rfl) ?_
    rintro _ w5 ⟨rfl,b5⟩
    have s4:=b4.size
    have e5:=b5.block wr.heap.size (by have:=hE2.out.2;omega)
    have q5:Hid _:=⟨hp1.out w4 w5 q4.out e5⟩
    refine⟨⟨⟨_,q5.out⟩,rfl⟩,?_⟩
    simp only[pts]
    have B5:Below w.heap.size w w5:=B4.trans (b5.mono B4.size)
    have R5:=((hR2.out.below b3).below b4).below b5
    have s5:=b5.size
    have hb5:wr.heap.size<w5.heap.size:=by have:=hE2.out.2;omega
    have E5:w5.heap[wr.heap.size]?=W1.heap[wr.heap.size]?:=e5.trans (e4.trans (e3.trans hE2.out.1))
    replace e3:=Hid.mk e3
    clear e4 e5 r4 hcl hs0 hct
    repeat (first
     | (guard_target =~ Lw _ _ _ _ (Oper.mk _ (Op.buildSlice _ _ _) _ _ _ _::_) _ _;fail)
     | (refine lw_one rfl ?_;(first|go_big_quiet_skip|(go_big_quiet_want;go_big_quiet_op;go_big_quiet_on));refine wpQuiet_nil ?_))
    have E6:(w5.alloc (.cells #[.string (SR++SJ)] 9)).heap[wr.heap.size]?=w5.heap[wr.heap.size]?:=(nbel w5 (.cells #[.string (SR++SJ)] 9)).block _ hb5
    refine lw_bs (ys:=#[(0,.string (SR++SJ))]) (v:=.slice (some ⟨w5.heap.size,0,none⟩) 1 1) (w':=w5.alloc (.cells #[.string (SR++SJ)] 9)) (by kernel_rfl) ⟨⟨_,hp1.out _ _ q5.out E6⟩,rfl⟩ (by simp only[List.map_toArray,List.map_cons,List.map_nil];rfl) (by rfl) ?_
    simp only[pts]
    obtain⟨v9,w9,a1,a2,a3,a4⟩:=str_ap (R5.below (nbel w5 (.cells #[.string (SR++SJ)] 9))) ⟨w5.heap.size,0,none⟩ [SR++SJ] 1 (World.news_of_block' (thnK w5 _) [SR++SJ] rfl) (by rw[List.length_take,shL_len];simp;omega) (by rw[World.size_alloc];have:=B5.size;omega)
    have E9:w9.heap[wr.heap.size]?=w5.heap[wr.heap.size]?:=(a4 wr.heap.size (by rw[World.size_alloc];omega) (fun h=>hvb.out _ h rfl)).trans E6
    have B9:Below w.heap.size w w9:=B5.trans (((nbel w5 _).mono B5.size).trans a3)
    refine lw_ap (Post:=fun v w=>v=v9/\w=w9) ⟨v9,w9,a1,rfl,rfl⟩ rfl rfl (by rfl) ?_
    rintro _ _ ⟨rfl,rfl⟩
    refine⟨⟨⟨_,hp1.out _ _ q5.out E9⟩,rfl⟩,?_⟩
    simp only[pts]
    repeat (refine lw_one rfl ?_;(first|go_big_quiet_skip|(go_big_quiet_want;go_big_quiet_op;go_big_quiet_on));refine wpQuiet_nil ?_)
    refine lw_done ?_
    have z9:=zB.out _ (E9.trans E5)
    have hF:Hid (SRow _ w.heap.size _ ((shL pnZ f).take (j+1))/\Below w.heap.size w _):=⟨by rw[htk.out,hLn.out];exact a2,B9⟩
    clear a1 a2 a3 a4 E9 B9 E6 R5 B5 b5 B4 b4 B3 b3 e3 hE2 hB2 hR2 q3 q4 q5 hq cE cT
    go_wp2_with (go_at_call 52;refine(cB.out _).mono ?_;rintro _ wq ⟨rfl,e⟩;replace e:=e.symm;subst e)
    go_roundw
    case rel=>exact⟨j+1,_,by have:=hlt.out;omega,by go_num,rfl,(by first|(rw[hNx.out];done)|(rw[hNx.out];rfl)|(rw[hNx.out];go_num)),hF⟩
    case measure=>have:=hlt.out;simp[RowKit.intOf];omega
  ·obtain rfl:j=f.toks.length:=by omega
   have d3:decide ((f.toks.length:Int)<f.toks.length)=false:=by simp
   rw[List.take_of_length_le (by rw[shL_len];exact Nat.le_refl _)] at hR
   clear hT hZ hnm tb
   go_wp2_with fail
   go_ret
   exact⟨_,rfl,hR.out,hB.out⟩
end Go.Proofs.YtjnafpefolgcoaaGreatDoor
