import Derived.Test.YtcgimchhcaankaaGreatDoorK50
namespace Go.Proofs.YtcgimchhcaankaaGreatDoor
set_option maxRecDepth 1000000
set_option maxHeartbeats 16000000
open Go.ChangeShapes Go.WideShapes Go.ChangeAt Go.RowKit Go.Shelf Go.Maps
theorem Own_main {f:Fm} {pp:Option Addr} {cp:Nat} {w W1:World} {u v:Int} (hW:w.alloc (fmO f pp cp)=W1) (cS:Calls Tryz.prog 4 #[] W1 fun r w'=>r = .returned (.bool true)/\Below W1.heap.size W1 w') (fo:FmOk f) (hr:TkL w pp w.heap.size f.toks) (kt:KT w) (mt:MT w) (hlm:f.toks.length*192<=140737488351232) (hcm:∀ t∈f.toks,t.cst.length*8<=140737488351232) (hz:chkZ f=none) (hv:fstV f<=v/\v<=f.ver) (huv:(fstV f<=u/\u<=f.ver/\u=v)\/(v=f.ver/\(u<fstV f\/(fstV f<=u/\f.ver<u)))) :
  Calls Tryz.prog 3 #[fmV f pp cp,.int .i64 u] w fun e w'=>e = .returned (.bool true)/\Below w.heap.size w w':=by
 have hb1:Below w.heap.size w W1:=by rw[<- hW];exact bel1 _ _
 have H1:W1.heap[w.heap.size]?=some (fmO f pp cp):=by rw[<- hW];exact heap_al _ _
 have hs1:W1.heap.size=w.heap.size+1:=by rw[<- hW];exact World.size_alloc _ _
 have hQ0:Hid (Q0 f w):=⟨⟨kt,mt,hlm,hcm,hz⟩⟩
 have hEz:errZ (chkZ f)=0:=by rw[hz];rfl
 obtain⟨t0,ht0,-⟩:=first_msg hz
 have hlen:0<f.toks.length:=(List.getElem?_eq_some_iff.1 ht0).1
 have hf:fstV f=t0.since:=by unfold fstV;rw[ht0]
 obtain⟨gf,ofs,pc,cc,rfl,hgf,hTk,-,-⟩:=hr.row.c 0 t0 ht0
 have hA:Hid (∀ w2,Below W1.heap.size W1 w2->(Instr.loadAt 30 (.pointer (some ⟨w.heap.size,0,none⟩))).run Tryz.prog w2 = .ok (fmV f (some ⟨gf,ofs,none⟩) cp) w2/\Calls Tryz.prog 5 #[fmV f (some ⟨gf,ofs,none⟩) cp] w2 fun e w3=>∃ A,e = .returned (.tuple #[.int .i64 0,.int .i64 A])/\w3.cell? ⟨w.heap.size,12,none⟩=some (.slice (some ⟨gf,ofs,none⟩) f.toks.length cp)/\w3.cell? ⟨w.heap.size,2,none⟩=some (.int .i64 f.ver)/\w3.cell? ⟨gf,ofs+5,none⟩=some (.int .i64 t0.since)/\(Instr.loadAt 30 (.pointer (some ⟨w.heap.size,0,none⟩))).run Tryz.prog w3 = .ok (fmV f (some ⟨gf,ofs,none⟩) cp) w3/\Calls Tryz.prog 6 #[fmV f (some ⟨gf,ofs,none⟩) cp] w3 fun e w4=>∃ gl cl,e = .returned (.slice (some ⟨gl,0,none⟩) (verL f).length cl)/\Hid (Q4 f (some ⟨gf,ofs,none⟩) cp w gl cl w4)):=⟨fun w2 h=>by
  have hx:=hb1.trans (h.mono hb1.size)
  have h2:=(h.block w.heap.size (by omega)).trans H1
  refine⟨(J.fm_of h2).load,(refCheck_any f _ cp w2 fo ((hr.below hx).mono hx.size)).mono fun e w3 hP=>?_⟩
  obtain⟨rfl,b3⟩:=hP
  have hx3:=hx.trans (b3.mono hx.size)
  have hh:=h.size
  have h3:=(b3.block w.heap.size (by omega)).trans h2
  exact⟨_,by rw[hEz],cell_at h3 12,cell_at h3 2,by simpa using(hTk.below hgf hx3).c5,(J.fm_of h3).load,q4_of hQ0.out hr hx3 h3⟩⟩
 obtain⟨n0,rest,hV0,hn0⟩:=(verL_all hz).2.2
 obtain⟨vn,rfl⟩:∃ vn:Nat,v=vn:=⟨v.toNat,by omega⟩
 have hVA:Hid _:=⟨verL_all hz⟩
 have hVn:Hid (0<(verL f).length/\(verL f).length<=65535):=⟨verL_pos hz,verL_len hz⟩
 have hV00:Hid ((verL f)[0]?=some n0):=⟨by rw[hV0];rfl⟩
 have hCt:Hid (fstV f<=(vn:Int)-1->(((atF f ((vn:Int)-1)).toks.length≠(atF f (vn:Int)).toks.length)↔vn∈verL f)):=⟨fun _=>by rw[new_len,new_len];exact ver_count hz hv.2⟩
 have hvv:Hid _:=⟨hv⟩
 have hvr:=head_ver hz
 have hv1:(vn:Int)<=65534:=by omega
 have hv2:f.ver<=65534:=hvr.2
 have hv3:0<=f.ver:=hvr.1
 rw[hf] at hn0 hv huv
 have hff:Hid _:=⟨hf⟩
 have hsi:Hid _:=⟨hn0⟩
 rw[hn0] at hA hv huv
 have hlI:(0:Int)<f.toks.length:=by omega
 have e4:((f.toks.length:Int)==0)=false:=beqN (by omega)
 have hl0:¬ f.toks.length=0:=by omega
 have hvs:Hid ((n0:Int)<=vn):=⟨hv.1⟩
 clear hTk hgf hr kt mt hlm hcm hz hf ht0 H1 hb1 hs1 hV0 hvr fo hEz hn0
 simp only[fmO] at hW
 go_enter Tryz.func3,Tryz.ntmps3
 go_upto_region 8 with (first
  | (go_at_call 4;refine cS.mono ?_;rintro _ w2 ⟨rfl,hb2⟩;obtain⟨l2,cK⟩:=hA.out w2 hb2;replace l2:=Hid.mk l2;clear hb2)
  | (go_at_call 5;refine cK.mono ?_;rintro _ w3 ⟨A,rfl,x12,x2,x5,l3,cV⟩;replace l3:=Hid.mk l3)
  | (guard_target =~ wpList _ _ _ (Oper.mk _ (Op.load 30 _) _ _ _ _::_) _ _;go_must (refine wpList_ld 30 _ rfl rfl _ _ rfl l2.out ?_);simp only[pts]))
 clear cS hA l2 cK x12 x5 hW
 obtain⟨bb,hbb⟩:∃ bb:Bool,(bb=false->u=vn)/\(bb=true->f.ver=vn)/\((bb=true/\u<(n0:Int))\/(¬ u<(n0:Int)/\decide (f.ver<u)=bb)):=by
  obtain⟨h1,h2,h3⟩|⟨hve,h1|⟨h1,h2⟩⟩:=huv
  ·exact⟨false,fun _=>h3,fun h=>(by cases h),.inr ⟨by omega,decide_eq_false (by omega)⟩⟩
  ·exact⟨true,fun h=>(by cases h),fun _=>hve.symm,.inl ⟨rfl,h1⟩⟩
  ·exact⟨true,fun h=>(by cases h),fun _=>hve.symm,.inr ⟨by omega,decide_eq_true h2⟩⟩
 clear huv
 go_cut [59] from 51 to 59 (fun s wx=>s = .bool bb/\wx=w3)
 case first =>
  clear cV
  obtain⟨-,-,⟨rfl,h1⟩|⟨h1,h2⟩⟩:=hbb
  ·have d1:decide (u<(n0:Int))=true:=decide_eq_true h1
   go_wp2_with fail
   go_meet
   case rel=>exact⟨rfl,rfl⟩
  ·have d1:decide (u<(n0:Int))=false:=decide_eq_false h1
   go_wp2_with fail
   go_meet
   case rel=>exact⟨rfl,rfl⟩
 case rest =>
 obtain⟨rfl,rfl⟩:=hcut
 go_upto_if 59 with fail
 go_cut [1] from 60 to 61 (fun s wx=>s = .int .i64 (vn:Int)/\wx=wc)
 case first =>
  clear cV
  obtain⟨h1,h2,-⟩:=hbb
  cases bb with
  | true =>
   rw[h2 rfl] at x2
   clear h1 h2
   go_wp2_with fail
   go_meet
   case rel=>exact⟨rfl,rfl⟩
  | false =>
   obtain rfl:=h1 rfl
   clear h1 h2
   go_wp2_with fail
   go_meet
   case rel=>exact⟨rfl,rfl⟩
 case rest =>
 obtain⟨rfl,rfl⟩:=hcut
 clear hbb
 clear x2
 go_wp2_with (first
  | (go_at_call 6;refine cV.mono ?_;rintro _ w4 ⟨gl,cl,rfl,hQ⟩)
  | (guard_target =~ wpList _ _ _ (Oper.mk _ (Op.load 30 _) _ _ _ _::_) _ _;go_must (refine wpList_ld 30 _ rfl rfl _ _ rfl l3.out ?_);simp only[pts]))
 clear l3 cV
 go_loopw [10,11] (fun qb q wr=>∃ j:Nat,j<=(verL f).length/\q = .int .i64 (j:Int)/\qb = .bool (decide (vn∈(verL f).take j))/\Hid (Q4 f (some ⟨gf,ofs,none⟩) cp w gl cl wr)) (fun _ q _=>(verL f).length-(RowKit.intOf q).toNat)
 case atStart=>exact⟨0,Nat.zero_le _,by go_num,by simp,hQ⟩
 case round =>
  clear hQ
  obtain⟨j,hj,rfl,rfl,hI⟩:=hrel
  by_cases hlt:j<(verL f).length
  ·obtain⟨x,hx⟩:∃ x,(verL f)[j]?=some x:=⟨(verL f)[j],List.getElem?_eq_getElem hlt⟩
   obtain⟨hx1,hx2⟩:=hVA.out.1 x (List.mem_of_getElem? hx)
   rw[hff.out,hsi.out] at hx1
   have hji:(j:Int)<(verL f).length:=by omega
   have hjb:(j:Int)<=65535:=by have:=hVn.out.2;omega
   have kx:=hI.out.cell hx
   have dx1:decide ((x:Int)<(n0:Int))=false:=decide_eq_false (by omega)
   have dx1n:decide (x<n0)=false:=decide_eq_false (by omega)
   have dx2:decide (f.ver<(x:Int))=false:=decide_eq_false (by omega)
   have hTM':Hid _:=⟨take_mem (n:=vn) hx⟩
   obtain⟨p,pI,pE,pN⟩:∃ p:World->Prop,(∀ V:World,Q4 f (some ⟨gf,ofs,none⟩) cp w gl cl V->p V)/\(∀ V,p V->Hid (Q4 f (some ⟨gf,ofs,none⟩) cp w gl cl V))/\Nonempty (CW p):=⟨Q4 f (some ⟨gf,ofs,none⟩) cp w gl cl,fun _ h=>h,fun _ h=>⟨h⟩,⟨⟨_,hI.out⟩⟩⟩
   have p0:p wr.drew:=pI _ (hI.out.below (Below.refl _ _).drew)
   have kx':∀ θ:CW p,θ.w.cell? ⟨gl,j,none⟩=some (.int .i64 (x:Int)):=fun θ=>(pE _ θ.h).out.cell hx
   have kv':∀ θ:CW p,θ.w.cell? ⟨w.heap.size,2,none⟩=some (.int .i64 f.ver):=fun θ=>(pE _ θ.h).out.ver
   have hF:=pE _ p0
   rcases Nat.eq_zero_or_pos j with hj0|hj0
   case' inl =>
    have hjz:decide ((0:Int)<(j:Int))=false:=decide_eq_false (by omega)
    have hjzn:decide (0<j)=false:=decide_eq_false (by omega)
    clear hj0
   case' inr =>
    obtain⟨i,hi⟩:∃ i,j=i+1:=⟨j-1,by omega⟩
    obtain⟨y,hy⟩:∃ y,(verL f)[i]?=some y:=⟨(verL f)[i]'(by omega),List.getElem?_eq_getElem _⟩
    have ky':∀ θ:CW p,θ.w.cell? ⟨gl,i,none⟩=some (.int .i64 (y:Int)):=fun θ=>(pE _ θ.h).out.cell hy
    have hyx:y<x:=by
     have hp:=List.pairwise_iff_getElem.1 hVA.out.2.1 i j (by omega) (by omega) (by omega)
     rw[(List.getElem?_eq_some_iff.1 hy).2,(List.getElem?_eq_some_iff.1 hx).2] at hp
     exact hp
    have dy:decide ((x:Int)<=(y:Int))=false:=decide_eq_false (by omega)
    have dyn:decide (x<=y)=false:=decide_eq_false (by omega)
    have hii:(i:Int)<(verL f).length:=by omega
    have hjp:decide ((0:Int)<(j:Int))=true:=decide_eq_true (by omega)
    have hjpn:decide (0<j)=true:=decide_eq_true hj0
    have hsub:(j:Int)-1=(i:Int):=by omega
    have hwi:IntKind.i64.wrap ((j:Int)-1)=(i:Int):=by rw[IntKind.wrap_i64];omega
    replace hi:=Hid.mk hi
    clear hy hyx hj0
   all_goals
    clear pI pE hI hx
    cases hbb:decide (vn∈(verL f).take j) with
    | true =>
     go_wp2_with fail
     refine wp_region_pp p [0,1,2,3,4,5,6,7,8,9,10,11,12,13,14,15,16,17,18,19,20,21,22,23,24,25,26,27,28,29,30] (by kernel_rfl) (by kernel_rfl) (fun _ _ d _ _ h=>by cases d<;>exact h) p0 ?_
     simp only[List.filterMap_cons,List.filterMap_nil,List.getElem?_cons_zero,List.getElem?_cons_succ]
     generalize wr.drew=W at p0 hF ⊢
     repeat (refine lx_one rfl ?_;(first|go_big_quiet_skip|(go_big_quiet_want;go_big_quiet_op;go_big_quiet_on));refine wpQuiet_nil ?_)
     refine lx_done ?_
     clear kx' kv' p0 pN
     go_wp2_with fail
     go_roundw
     case rel=>exact⟨j+1,by omega,by go_num,by rw[hTM'.out,hbb];rfl,hF⟩
     case measure=>simp[RowKit.intOf];omega
    | false =>
     by_cases hxv:x=vn
     ·have hxe:((x:Int)==(vn:Int))=true:=by rw[hxv];simp
      have hxd:Hid (decide (x=vn)=true):=⟨decide_eq_true hxv⟩
      clear hxv
      go_wp2_with fail
      refine wp_region_pp p [0,1,2,3,4,5,6,7,8,9,10,11,12,13,14,15,16,17,18,19,20,21,22,23,24,25,26,27,28,29,30] (by kernel_rfl) (by kernel_rfl) (fun _ _ d _ _ h=>by cases d<;>exact h) p0 ?_
      simp only[List.filterMap_cons,List.filterMap_nil,List.getElem?_cons_zero,List.getElem?_cons_succ]
      generalize wr.drew=W at p0 hF ⊢
      repeat (refine lx_one rfl ?_;(first|go_big_quiet_skip|(go_big_quiet_want;go_big_quiet_op;go_big_quiet_on));refine wpQuiet_nil ?_)
      refine lx_done ?_
      clear kx' kv' p0 pN
      go_wp2_with fail
      go_roundw
      case rel=>exact⟨j+1,by omega,by go_num,by rw[hTM'.out,hbb,hxd.out];rfl,hF⟩
      case measure=>simp[RowKit.intOf];omega
     ·have hxe:((x:Int)==(vn:Int))=false:=beqN (by omega)
      have hxd:Hid (decide (x=vn)=false):=⟨decide_eq_false hxv⟩
      go_wp2_with fail
      refine wp_region_pp p [0,1,2,3,4,5,6,7,8,9,10,11,12,13,14,15,16,17,18,19,20,21,22,23,24,25,26,27,28,29,30] (by kernel_rfl) (by kernel_rfl) (fun _ _ d _ _ h=>by cases d<;>exact h) p0 ?_
      simp only[List.filterMap_cons,List.filterMap_nil,List.getElem?_cons_zero,List.getElem?_cons_succ]
      generalize wr.drew=W at p0 hF ⊢
      repeat (refine lx_one rfl ?_;(first|go_big_quiet_skip|(go_big_quiet_want;go_big_quiet_op;go_big_quiet_on));refine wpQuiet_nil ?_)
      refine lx_done ?_
      clear kx' kv' p0 pN
      go_wp2_with fail
      go_roundw
      case rel=>exact⟨j+1,by omega,by go_num,by rw[hTM'.out,hbb,hxd.out];rfl,hF⟩
      case measure=>simp[RowKit.intOf];omega
  ·obtain rfl:j=(verL f).length:=by omega
   rw[List.take_length]
   have hVN:(verL f).length<=65535:=hVn.out.2
   have hVE:((verL f).length:Int)<=65535:=by omega
   have d3:decide (((verL f).length:Int)<(verL f).length)=false:=by simp
   have e0:(((verL f).length:Int)==0)=false:=beqN (by have:=hVn.out.1;omega)
   have hVI:(0:Int)<(verL f).length:=by have:=hVn.out.1;omega
   have cA:=hI.out.at hQ0.out hvv.out
   have l4:Hid _:=⟨hI.out.ldF⟩
   have A1:Hid (∀ W6 pg cg ks Z gb,Q6 f (some ⟨gf,ofs,none⟩) cp vn pg cg ks Z gb w gl cl W6->W6.cell? ⟨gl,0,none⟩=some (.int .i64 (n0:Int))/\W6.cell? ⟨gb,12,none⟩=some (.slice pg (atF f vn).toks.length cg)/\(Instr.loadAt 30 (.pointer (some ⟨w.heap.size,0,none⟩))).run Tryz.prog W6 = .ok (fmV f (some ⟨gf,ofs,none⟩) cp) W6/\(Instr.loadAt 30 (.pointer (some ⟨gb,0,none⟩))).run Tryz.prog W6 = .ok (fmV (atF f vn) pg cg) W6/\Hid (fstV f<=(vn:Int)-1->Calls Tryz.prog 7 #[fmV f (some ⟨gf,ofs,none⟩) cp,.int .i64 ((vn:Int)-1)] W6 fun e w7=>∃ ph ch W8,e = .returned (.tuple #[fmV (atF f ((vn:Int)-1)) ph ch,.int .i64 0])/\Hid (∀ z:Array Value,z.size=13->(Instr.storeAt 30 (.pointer (some ⟨w7.heap.size,0,none⟩)) (fmV (atF f ((vn:Int)-1)) ph ch)).run Tryz.prog (w7.alloc (.cells z 30)) = .ok () W8)/\W8.cell? ⟨w7.heap.size,12,none⟩=some (.slice ph (atF f ((vn:Int)-1)).toks.length ch)/\W8.cell? ⟨gb,12,none⟩=some (.slice pg (atF f vn).toks.length cg)/\(Instr.loadAt 30 (.pointer (some ⟨gb,0,none⟩))).run Tryz.prog W8 = .ok (fmV (atF f vn) pg cg) W8/\Hid (Q6 f (some ⟨gf,ofs,none⟩) cp vn pg cg ks Z gb w gl cl W8)) /\
     Hid (∀ W8,Q6 f (some ⟨gf,ofs,none⟩) cp vn pg cg ks Z gb w gl cl W8->Calls Tryz.prog 8 #[fmV (atF f vn) pg cg] W8 fun e w9=>∃ gw cap ps W10,e = .returned (fmV (atF f vn) (some ⟨gw,0,none⟩) cap)/\Hid (∀ z:Array Value,z.size=13->(Instr.storeAt 30 (.pointer (some ⟨w9.heap.size,0,none⟩)) (fmV (atF f vn) (some ⟨gw,0,none⟩) cap)).run Tryz.prog (w9.alloc (.cells z 30)) = .ok () W10)/\Hid (Ow f (some ⟨gf,ofs,none⟩) cp vn pg cg ks Z gb w9.heap.size gw cap ps w W10/\OwC f vn w ks ps/\Q4 f (some ⟨gf,ofs,none⟩) cp w gl cl W10/\w.heap.size<=gl/\gl<Z))):=⟨fun W6 pg cg ks Z gb h=>⟨h.q.cell hV00.out,h.c12,h.q.ldF,h.ldG,⟨fun hu=>(h.at2 hQ0.out ⟨hu,by have:=hvv.out.2;omega⟩).mono fun e w7 hP=>by
    obtain⟨ph,ch,W8,h1,h2,h3,h4⟩:=hP
    exact⟨ph,ch,W8,h1,⟨h2⟩,h3,h4.c12,h4.ldG,⟨h4⟩⟩⟩,⟨fun W8 h8=>(h8.cop hQ0.out hvv.out).mono fun e w9 hP=>by
    obtain⟨gw,cap,ps,W10,h1,h2,h3,h4,h5⟩:=hP
    exact⟨gw,cap,ps,W10,h1,⟨h2⟩,⟨h3,h4,h5,Nat.le_of_lt h.zz.1,h.zz.2.1⟩⟩⟩⟩⟩
   clear hI hlt hj hV00
   obtain⟨is,his⟩:∃ is,decide (vn∈verL f)=is:=⟨_,rfl⟩
   rw[his]
   replace his:=Hid.mk his
   go_upto_if 128 with (first
    | (go_at_call 7;refine cA.mono ?_;rintro _ w5 ⟨pg,cg,ks,W6,rfl,s6,q6⟩;obtain⟨y0,y12,lF,lG,cB,cC⟩:=A1.out _ _ _ _ _ _ q6;replace s6:=Hid.mk s6;replace lF:=Hid.mk lF;replace lG:=Hid.mk lG;replace q6:=Hid.mk q6)
    | (guard_target =~ wpList _ _ _ (Oper.mk _ (Op.load 30 _) _ _ _ _::_) _ _;go_must (first|refine wpList_ld 30 _ rfl rfl _ _ rfl l4.out ?_);simp only[pts])
    | (guard_target =~ wpList _ _ _ (Oper.mk _ (Op.store 30 _ _) _ _ _ _::_) _ _;go_must (first|refine wpList_st 30 _ _ rfl rfl _ _ rfl rfl (s6.out _ rfl) ?_);simp only[pts]))
   clear cA l4 s6 A1 y0 hVE e0 hVI
   generalize wr.heap.size=Z at q6 cB cC
   go_cut [14,15] from 126 to 144 (fun _ _ wx=>Hid (Q6 f (some ⟨gf,ofs,none⟩) cp vn pg cg ks Z w5.heap.size w gl cl wx))
   case first =>
    clear cC
    by_cases hlow:n0<vn
    ·have dl:decide (n0<vn)=true:=decide_eq_true hlow
     have dlI:decide ((n0:Int)<(vn:Int))=true:=decide_eq_true (by omega)
     have hst:fstV f<=(vn:Int)-1:=by rw[hff.out,hsi.out];omega
     have hct:=hCt.out hst
     have cE:=cB.out hst
     have hsb:IntKind.i64.wrap ((vn:Int)-1)=(vn:Int)-1:=by rw[IntKind.wrap_i64];omega
     clear hst cB
     generalize (atF f ((vn:Int)-1)).toks.length=lh at hct cE
     generalize (atF f (vn:Int)).toks.length=lg at hct cE y12
     cases is with
     | true =>
      have hne:lh≠lg:=hct.2 (of_decide_eq_true his.out)
      have e1:((lh:Int)==(lg:Int))=false:=beqN (by omega)
      have e2:(lh==lg)=false:=beq_eq_false_iff_ne.2 hne
      have e3:((lh:Int) != (lg:Int))=true:=by simp only[bne,e1];rfl
      have e5:(lh != lg)=true:=by simp only[bne,e2];rfl
      clear hct
      go_wp2_with (first
       | (go_at_call 7;refine cE.mono ?_;rintro _ w7 ⟨ph,ch,W8,rfl,s8,z12,z13,lG8,q8⟩)
       | (guard_target =~ wpList _ _ _ (Oper.mk _ (Op.load 30 _) _ _ _ _::_) _ _;go_must (first|refine wpList_ld 30 _ rfl rfl _ _ rfl lF.out ?_);simp only[pts])
       | (guard_target =~ wpList _ _ _ (Oper.mk _ (Op.store 30 _ _) _ _ _ _::_) _ _;go_must (first|refine wpList_st 30 _ _ rfl rfl _ _ rfl rfl (s8.out _ rfl) ?_);simp only[pts]))
      go_meet
      case rel=>exact q8
     | false =>
      have hne:lh=lg:=Decidable.byContradiction fun h=>of_decide_eq_false his.out (hct.1 h)
      clear hct
      subst hne
      go_wp2_with (first
       | (go_at_call 7;refine cE.mono ?_;rintro _ w7 ⟨ph,ch,W8,rfl,s8,z12,z13,lG8,q8⟩)
       | (guard_target =~ wpList _ _ _ (Oper.mk _ (Op.load 30 _) _ _ _ _::_) _ _;go_must (first|refine wpList_ld 30 _ rfl rfl _ _ rfl lF.out ?_);simp only[pts])
       | (guard_target =~ wpList _ _ _ (Oper.mk _ (Op.store 30 _ _) _ _ _ _::_) _ _;go_must (first|refine wpList_st 30 _ _ rfl rfl _ _ rfl rfl (s8.out _ rfl) ?_);simp only[pts]))
      go_meet
      case rel=>exact q8
    ·have dl:decide (n0<vn)=false:=decide_eq_false hlow
     have dlI:decide ((n0:Int)<(vn:Int))=false:=decide_eq_false (by omega)
     go_wp2_with fail
     go_meet
     case rel=>exact q6
   case rest =>
   have cD:=cC.out wc hcut.out
   have lG8:Hid _:=⟨hcut.out.ldG⟩
   clear hcut cB cC q6 lG lF y12 hCt
   go_wp2_with (first
    | (go_at_call 8;refine cD.mono ?_;rintro _ w9 ⟨gw,cap,ps,W10,rfl,s10,hO⟩)
    | (guard_target =~ wpList _ _ _ (Oper.mk _ (Op.load 30 _) _ _ _ _::_) _ _;go_must (first|refine wpList_ld 30 _ rfl rfl _ _ rfl lG8.out ?_);simp only[pts])
    | (guard_target =~ wpList _ _ _ (Oper.mk _ (Op.store 30 _ _) _ _ _ _::_) _ _;go_must (first|refine wpList_st 30 _ _ rfl rfl _ _ rfl rfl (s10.out _ rfl) ?_);simp only[pts]))
   clear cD s10 lG8
   have hOw:Hid _:=⟨hO.out.1⟩
   have hOc:Hid _:=⟨hO.out.2.1⟩
   have hQ4:Hid _:=⟨hO.out.2.2.1⟩
   have hgl:Hid _:=⟨hO.out.2.2.2⟩
   clear hO
   go_loopw [17,18] (fun qk q wr=>∃ (r:Nat) (L:List Mkv) (pk:Option Addr) (ck:Nat),1<=r/\r<=4/\q = .int .i64 (r:Int)/\qk = .slice pk L.length ck/\L.length=2*(r-1)/\Hid (Kp W10.heap.size (.slice pk L.length ck) L wr/\Below W10.heap.size W10 wr)) (fun _ q _=>4-(RowKit.intOf q).toNat)
   case atStart=>exact⟨1,[],none,0,by omega,by omega,by go_num,rfl,rfl,⟨Kp.nil _ _,Below.refl _ _⟩⟩
   case round =>
    obtain⟨r,L,pk,ck,hr1,hr4,rfl,rfl,hLl,hI⟩:=hrel
    replace hLl:=Hid.mk hLl
    by_cases hlt:r<=3
    ·have cR:=round_any hOw.out hOc.out hI.out.2 hI.out.1 (by have:=hLl.out;omega) hlt (A1:=2*(r:Int)) (A2:=2*(r:Int)+1) (by omega) (by omega)
     have lF:Hid _:=⟨(hOw.out.below hI.out.2).ldF⟩
     have d1:decide ((r:Int)<=3)=true:=decide_eq_true (by omega)
     have d1n:decide (r<=3)=true:=decide_eq_true hlt
     have hri:(r:Int)<=3:=by omega
     have hr0:(0:Int)<=r:=by omega
     clear hI
     go_wp2_with (first
      | (go_at_call 7;refine cR.mono ?_;rintro _ wa ⟨pa,ca,Wa,rfl,sa,lF1,cR1⟩;replace sa:=Hid.mk sa;replace lF1:=Hid.mk lF1;clear cR)
      | (go_at_call 7;refine cR1.mono ?_;rintro _ wb ⟨pb,cb,Wb,rfl,sb,la2,lw2,cR2⟩;replace sb:=Hid.mk sb;replace la2:=Hid.mk la2;replace lw2:=Hid.mk lw2)
      | (go_at_call 9;refine cR2.mono ?_;rintro _ w3 ⟨rfl,lb3,lw3,cR3⟩;replace lb3:=Hid.mk lb3;replace lw3:=Hid.mk lw3;clear cR2)
      | (go_at_call 9;refine cR3.mono ?_;rintro _ w4 ⟨rfl,la4,cR4⟩;replace la4:=Hid.mk la4)
      | (go_at_call 10;refine cR4.mono ?_;rintro _ w5 ⟨x,W5,rfl,sx,lb5,cR5⟩;replace sx:=Hid.mk sx;replace lb5:=Hid.mk lb5;clear cR4)
      | (go_at_call 10;refine cR5.mono ?_;rintro _ w6 ⟨y,W6,rfl,sy,lx6,ly6,hap⟩;replace sy:=Hid.mk sy;replace lx6:=Hid.mk lx6;replace ly6:=Hid.mk ly6;replace hap:=Hid.mk hap)
      | (guard_target =~ wpList _ _ _ (Oper.mk _ (Op.load 30 _) _ _ _ _::_) _ _;go_must (first|refine wpList_ld 30 _ rfl rfl _ _ rfl lF.out ?_|refine wpList_ld 30 _ rfl rfl _ _ rfl lF1.out ?_|refine wpList_ld 30 _ rfl rfl _ _ rfl la2.out ?_|refine wpList_ld 30 _ rfl rfl _ _ rfl lw2.out ?_|refine wpList_ld 30 _ rfl rfl _ _ rfl lb3.out ?_|refine wpList_ld 30 _ rfl rfl _ _ rfl lw3.out ?_|refine wpList_ld 30 _ rfl rfl _ _ rfl la4.out ?_|refine wpList_ld 30 _ rfl rfl _ _ rfl lb5.out ?_);simp only[pts])
      | (guard_target =~ wpList _ _ _ (Oper.mk _ (Op.store 30 _ _) _ _ _ _::_) _ _;go_must (first|refine wpList_st 30 _ _ rfl rfl _ _ rfl rfl (sa.out _ rfl) ?_|refine wpList_st 30 _ _ rfl rfl _ _ rfl rfl (sb.out _ rfl) ?_);simp only[pts])
      | (guard_target =~ wpList _ _ _ (Oper.mk _ (Op.store 50 _ _) _ _ _ _::_) _ _;go_must (first|refine wpList_st 50 _ _ rfl rfl _ _ rfl rfl (sx.out _ rfl) ?_|refine wpList_st 50 _ _ rfl rfl _ _ rfl rfl (sy.out _ rfl) ?_);simp only[pts])
      | (guard_target =~ wpList _ _ _ (Oper.mk _ (Op.load 50 _) _ _ _ _::_) _ _;go_must (first|refine wpList_ld 50 _ rfl rfl _ _ rfl lx6.out ?_|refine wpList_ld 50 _ rfl rfl _ _ rfl ly6.out ?_);simp only[pts])
      | (at_builtin;go_must (refine(ap_step (by rfl) _ _ _ _ (by rfl) _ _ (by rfl) (by rfl) _ hap.out ?_));rintro v8 w8 ⟨⟨p7,c7,rfl⟩,hF⟩))
     go_roundw
     case rel=>exact⟨r+1,L++[x,y],p7,c7,by omega,by omega,by go_num,by rw[List.length_append];rfl,by rw[List.length_append,hLl.out];show 2*(r-1)+2=2*(r+1-1);omega,⟨by rw[List.length_append];exact hF.out.2,hF.out.1⟩⟩
     case measure=>simp[RowKit.intOf];omega
    ·obtain rfl:r=4:=by omega
     have hL6:Hid (L.length=6):=⟨hLl.out⟩
     obtain⟨gk,rfl⟩:∃ gk,pk=some ⟨gk,0,none⟩:=by
      obtain⟨g,_,e⟩:=own_slic hI.out.1.row (by rw[hL6.out];decide)
      injection e with e _ _
      exact⟨g,e⟩
     have cV:=hOw.out.end_ hOc.out hgl.out hQ4.out.lr hI.out.2 hI.out.1
     have lF:Hid _:=⟨(hOw.out.below hI.out.2).ldF⟩
     clear hI hlt
     go_wp2_with (first
      | (go_at_call 6;refine cV.mono ?_;rintro _ wm ⟨gm,cm,rfl,hE⟩)
      | (guard_target =~ wpList _ _ _ (Oper.mk _ (Op.load 30 _) _ _ _ _::_) _ _;go_must (first|refine wpList_ld 30 _ rfl rfl _ _ rfl lF.out ?_);simp only[pts]))
     clear cV lF hOw hQ4
     go_loopw [26] (fun q wr=>∃ (j:Nat) (xs:List Value),j<=(verL f).length/\q = .int .i64 (j:Int)/\Hid (Em f vn pg cg ks Z w5.heap.size w9.heap.size gw cap ps w gl gm cm W10.heap.size (.slice (some ⟨gk,0,none⟩) L.length ck) L wr/\wr.ownsRow (w.heap.size+1) 3 1 (.slice (some ⟨gl,0,none⟩) (verL f).length cl) (verL f).length xs/\∀ i,i<j->xs[i]?=some (.int .i64 (-5)))) (fun q _=>(verL f).length-(RowKit.intOf q).toNat)
     case atStart=>exact⟨0,_,Nat.zero_le _,by go_num,⟨hE.out.1,hE.out.2,fun i hi=>absurd hi (Nat.not_lt_zero _)⟩⟩
     case round =>
      clear hE
      obtain⟨j,xs,hj,rfl,hI⟩:=hrel
      by_cases hlt:j<(verL f).length
      ·obtain⟨o1,⟨y,o2,o3⟩,o4,-,-⟩:=own_set hI.out.2.1 j (.int .i64 (-5)) (by omega)
       have hji:(j:Int)<(verL f).length:=by omega
       have hN:Hid (Em f vn pg cg ks Z w5.heap.size w9.heap.size gw cap ps w gl gm cm W10.heap.size (.slice (some ⟨gk,0,none⟩) L.length ck) L (wr.setCell ⟨gl,j,none⟩ (.int .i64 (-5)))/\(wr.setCell ⟨gl,j,none⟩ (.int .i64 (-5))).ownsRow (w.heap.size+1) 3 1 (.slice (some ⟨gl,0,none⟩) (verL f).length cl) (verL f).length (xs.set j (.int .i64 (-5)))/\∀ i,i<j+1->(xs.set j (.int .i64 (-5)))[i]?=some (.int .i64 (-5))):=⟨hI.out.1.grow i_grow,o1,fun i hi=>by
        rw[List.getElem?_set]
        by_cases e:j=i
        ·rw[if_pos e,if_pos (List.getElem?_eq_some_iff.1 o2).1]
        ·rw[if_neg e]
         exact hI.out.2.2 i (by omega)⟩
       clear hI o1 o2
       go_wp2_with fail
       go_roundw
       case rel=>exact⟨j+1,_,by omega,by go_num,hN⟩
       case measure=>simp[RowKit.intOf];omega
      ·obtain rfl:j=(verL f).length:=by omega
       have d3:decide (((verL f).length:Int)<(verL f).length)=false:=by simp
       have hap:Hid _:=⟨five_more hI.out.2.1 hI.out.2.2 hVN (by have:=hI.out.1.bl.size;have:=(hI.out.2.1.lt gl rfl);omega)⟩
       have hE:Hid _:=⟨hI.out.1⟩
       clear hI hlt
       go_wp2_with (first
        | (at_builtin;go_must (refine(ap_step (by rfl) _ _ _ _ (by rfl) _ _ (by rfl) (by rfl) _ hap.out ?_));rintro v8 w8 ⟨gq,cq,rfl,hF⟩))
       have hE8:Hid (Em f vn pg cg ks Z w5.heap.size w9.heap.size gw cap ps w gl gm cm W10.heap.size (.slice (some ⟨gk,0,none⟩) L.length ck) L w8):=⟨hE.out.grow hF.out.2⟩
       clear hE hap
       go_loopw [28] (fun q wi=>∃ j:Nat,j<=(verL f).length/\q = .int .i64 (j:Int)/\wi=w8) (fun q _=>(verL f).length-(RowKit.intOf q).toNat)
       case atStart=>exact⟨0,Nat.zero_le _,by go_num,rfl⟩
       case round =>
        obtain⟨j,hj,rfl,rfl⟩:=hrel
        by_cases hlt:j<(verL f).length
        ·obtain⟨x,hx⟩:∃ x,(verL f)[j]?=some x:=⟨(verL f)[j],List.getElem?_eq_getElem hlt⟩
         have k1:=(hF.out.1 j hlt).1
         have k2:=(hF.out.1 j hlt).2
         have k3:wr.cell? ⟨gm,j,none⟩=some (.int .i64 (x:Int)):=ownCl hE8.out.mr (by rw[List.getElem?_map,hx];rfl)
         have hji:(j:Int)<(verL f).length:=by omega
         have hjq:(j:Int)<(((verL f).length+1:Nat):Int):=by omega
         have hjq2:(j:Int)<((verL f).length:Int)+1:=by omega
         have dx:decide ((x:Int)<0)=false:=decide_eq_false (by omega)
         clear hx
         go_wp2_with fail
         go_roundw
         case rel=>exact⟨j+1,by omega,by go_num,trivial⟩
         case measure=>simp[RowKit.intOf];omega
        ·obtain rfl:j=(verL f).length:=by omega
         have d4:decide (((verL f).length:Int)<(verL f).length)=false:=by simp
         clear hlt
         go_wp2_with fail
         go_loopw [29] (fun q wi=>∃ j:Nat,j<=L.length/\q = .int .i64 (j:Int)/\Hid (Em f vn pg cg ks Z w5.heap.size w9.heap.size gw cap ps w gl gm cm W10.heap.size (.slice (some ⟨gk,0,none⟩) L.length ck) L wi)) (fun q _=>L.length-(RowKit.intOf q).toNat)
         case atStart=>exact⟨0,Nat.zero_le _,by go_num,hE8⟩
         case round =>
          clear hE8 hF
          obtain⟨j,hj,rfl,hI⟩:=hrel
          have hLb:L.length<=1000:=by rw[hL6.out];decide
          by_cases hlt:j<L.length
          ·obtain⟨x,hx⟩:∃ x,L[j]?=some x:=⟨L[j],List.getElem?_eq_getElem hlt⟩
           have lK:Hid _:=⟨hI.out.kp.load hx⟩
           have cW:=hI.out.whole hx
           have hji:(j:Int)<L.length:=by omega
           clear hI hx
           go_wp2_with (first
            | (go_at_call 11;refine cW.mono ?_;rintro _ w11 ⟨rfl,hN⟩;replace hN:=Hid.mk hN)
            | (guard_target =~ wpList _ _ _ (Oper.mk _ (Op.load 50 _) _ _ _ _::_) _ _;go_must (first|refine wpList_ld 50 _ rfl rfl _ _ rfl lK.out ?_);simp only[pts]))
           go_roundw
           case rel=>exact⟨j+1,by omega,by go_num,hN⟩
           case measure=>simp[RowKit.intOf];omega
          ·obtain rfl:j=L.length:=by omega
           have d5:decide ((L.length:Int)<L.length)=false:=by simp
           obtain⟨lG,lW,cF⟩:=hI.out.fin hOc.out
           replace lG:=Hid.mk lG
           replace lW:=Hid.mk lW
           clear hI hlt
           go_wp2_with (first
            | (go_at_call 9;refine cF.mono ?_;rintro _ w11 ⟨rfl,hZ⟩)
            | (guard_target =~ wpList _ _ _ (Oper.mk _ (Op.load 30 _) _ _ _ _::_) _ _;go_must (first|refine wpList_ld 30 _ rfl rfl _ _ rfl lG.out ?_|refine wpList_ld 30 _ rfl rfl _ _ rfl lW.out ?_);simp only[pts]))
           go_ret
           exact⟨rfl,hZ.out⟩
theorem Own_early {f:Fm} {pp:Option Addr} {cp:Nat} {w W1:World} (u:Int) (hW:w.alloc (fmO f pp cp)=W1) (cS:Calls Tryz.prog 4 #[] W1 fun r w'=>r = .returned (.bool true)/\Below W1.heap.size W1 w') (fo:FmOk f) (hr:TkL w pp w.heap.size f.toks) (hz:chkZ f≠none) :
  Calls Tryz.prog 3 #[fmV f pp cp,.int .i64 u] w fun e w'=>e = .returned (.bool true)/\Below w.heap.size w w':=by
 have hb1:Below w.heap.size w W1:=by rw[<- hW];exact bel1 _ _
 have H1:W1.heap[w.heap.size]?=some (fmO f pp cp):=by rw[<- hW];exact heap_al _ _
 have hs1:W1.heap.size=w.heap.size+1:=by rw[<- hW];exact World.size_alloc _ _
 have hEz:errZ (chkZ f)=121:=by
  cases h:chkZ f with
  | none=>exact absurd h hz
  | some z=>rfl
 have hA:Hid (∀ w2,Below W1.heap.size W1 w2->(Instr.loadAt 30 (.pointer (some ⟨w.heap.size,0,none⟩))).run Tryz.prog w2 = .ok (fmV f pp cp) w2/\Calls Tryz.prog 5 #[fmV f pp cp] w2 fun e w3=>∃ A,e = .returned (.tuple #[.int .i64 121,.int .i64 A])/\w3.cell? ⟨w.heap.size,12,none⟩=some (.slice pp f.toks.length cp)/\Hid (Below w.heap.size w w3)):=⟨fun w2 h=>by
  have hx:=hb1.trans (h.mono hb1.size)
  have h2:=(h.block w.heap.size (by omega)).trans H1
  refine⟨(J.fm_of h2).load,(refCheck_any f pp cp w2 fo ((hr.below hx).mono hx.size)).mono fun e w3 hP=>?_⟩
  obtain⟨rfl,b3⟩:=hP
  have hh:=h.size
  exact⟨_,by rw[hEz],cell_at ((b3.block w.heap.size (by omega)).trans h2) 12,⟨hx.trans (b3.mono hx.size)⟩⟩⟩
 clear hb1 H1 hs1 hEz hr fo hz
 simp only[fmO] at hW
 go_enter Tryz.func3,Tryz.ntmps3
 go_wp2_with (first
  | (go_at_call 4;refine cS.mono ?_;rintro _ w2 ⟨rfl,hb2⟩;obtain⟨l2,cK⟩:=hA.out w2 hb2;replace l2:=Hid.mk l2;clear hb2)
  | (go_at_call 5;refine cK.mono ?_;rintro _ w3 ⟨A,rfl,x12,hZ⟩)
  | (guard_target =~ wpList _ _ _ (Oper.mk _ (Op.load 30 _) _ _ _ _::_) _ _;go_must (refine wpList_ld 30 _ rfl rfl _ _ rfl l2.out ?_);simp only[pts]))
 go_ret
 exact⟨rfl,hZ.out⟩
theorem ProjectOwn_any (f:Fm) (pp:Option Addr) (cp:Nat) (w:World) (u:Int) (fo:FmOk f) (kt:KT w) (mt:MT w) (hr:TkL w pp w.heap.size f.toks) (hlm:f.toks.length*192<=140737488351232) (hcm:∀ t∈f.toks,t.cst.length*8<=140737488351232) :
  Calls Tryz.prog 3 #[fmV f pp cp,.int .i64 u] w fun e w'=>e = .returned (.bool true)/\Below w.heap.size w w':=by
 have hb:=bel1 w (fmO f pp cp)
 have cS:=sure_any (w.alloc (fmO f pp cp)) (kt.up hb) (mt.below mt.pos hb)
 by_cases hz:chkZ f=none
 ·have hfv:fstV f<=f.ver:=by
   obtain⟨h1,-,n,r,e,e2⟩:=verL_all hz
   have:=(h1 n (by rw[e];exact List.mem_cons_self ..)).2
   omega
  by_cases hv:fstV f<=u/\u<=f.ver
  ·exact Own_main (v:=u) rfl cS fo hr kt mt hlm hcm hz hv (.inl ⟨hv.1,hv.2,rfl⟩)
  ·exact Own_main (v:=f.ver) rfl cS fo hr kt mt hlm hcm hz ⟨hfv,Int.le_refl _⟩ (.inr ⟨rfl,by omega⟩)
 ·exact Own_early u rfl cS fo hr hz
end Go.Proofs.YtcgimchhcaankaaGreatDoor
