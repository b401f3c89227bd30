import Derived.Test.YtcgimchhcaankaaGreatDoorK07
namespace Go.Proofs.YtcgimchhcaankaaGreatDoor
set_option maxRecDepth 1000000
set_option maxHeartbeats 16000000
open Go.ChangeShapes Go.WideShapes Go.ChangeAt Go.RowKit Go.Shelf
def hdL (f:Fm):List Sp:=[f.hb,f.ht,f.hs,f.hv]
def headN (f:Fm):Prop:=(f.ord=0\/f.ord=1)/\0<=f.sch/\f.sch<=65535/\0<=f.ver/\f.ver<=65534/\1<=f.hsz/\f.hsz<=65535
theorem headB_iff (f:Fm):headB f=true↔headN f/\spOk f.hsz [] (hdL f)=true/\telB f.hs f.sch=true/\telB f.hv f.ver=true:=by
 unfold headB headN bet hdL
 simp[spOk,Bool.and_assoc]
 try (constructor<;>intro h<;>simp_all)
theorem dhp1 (w:World) (A B:Obj):((w.alloc A).alloc B).heap[w.heap.size]?=some A:=by
 show ((w.heap.push A).push B)[w.heap.size]?=_
 rw[Array.getElem?_push,if_neg (by simp),Array.getElem?_push,if_pos rfl]
theorem dhp2 (w:World) (A B:Obj):((w.alloc A).alloc B).heap[w.heap.size+1]?=some B:=by
 show ((w.heap.push A).push B)[w.heap.size+1]?=_
 rw[Array.getElem?_push,if_pos (by simp)]
theorem sp_new (w:World) (f:Fm) (A:Obj):SpRow ((w.alloc A).alloc (.cells #[.int .i64 f.hb.p,.int .i64 f.hb.o,.int .i64 f.ht.p,.int .i64 f.ht.o,.int .i64 f.hs.p,.int .i64 f.hs.o,.int .i64 f.hv.p,.int .i64 f.hv.o] 67)) (w.heap.size+1) 0 (hdL f):=by
 have hh:=fun k=>cell_at (dhp2 w A (.cells #[.int .i64 f.hb.p,.int .i64 f.hb.o,.int .i64 f.ht.p,.int .i64 f.ht.o,.int .i64 f.hs.p,.int .i64 f.hs.o,.int .i64 f.hv.p,.int .i64 f.hv.o] 67)) k
 refine⟨fun i s hs=>?_⟩
 have hi:i<4:=(List.getElem?_eq_some_iff.1 hs).1
 rcases(show i=0\/i=1\/i=2\/i=3 by omega) with rfl|rfl|rfl|rfl<;>cases Option.some.inj hs
 ·exact⟨hh 0,hh 1⟩
 ·exact⟨hh 2,hh 3⟩
 ·exact⟨hh 4,hh 5⟩
 ·exact⟨hh 6,hh 7⟩
theorem fm_two (w:World) (f:Fm) (pp:Option Addr) (cp:Nat) (B:Obj):FmC ((w.alloc (fmO f pp cp)).alloc B) w.heap.size 0 f pp cp :=
 have hh:=fun k=>cell_at (dhp1 w (fmO f pp cp) B) k
 ⟨hh 0,hh 1,hh 2,hh 3,hh 4,hh 5,hh 6,hh 7,hh 8,hh 9,hh 10,hh 11,hh 12⟩
theorem refHeaded_any (f:Fm) (pp:Option Addr) (cp:Nat) (w:World) (ok:FmOk f):Calls Tryz.prog 14 #[fmV f pp cp] w fun r w'=>r = .returned (.bool (headB f))/\Below w.heap.size w w':=by
 suffices hh:Calls Tryz.prog 14 #[fmV f pp cp] w fun r w'=>Ans r (headB f=true)/\Below w.heap.size w w' from hh.mono fun r w' h=>⟨h.1.same,h.2⟩
 have hb:Hid0 (headB f=true↔_):=⟨headB_iff f⟩
 by_cases hN:headN f
 ·have HN:Hid0 (headN f):=⟨hN⟩
  obtain⟨ho,h1,h2,h3,h4,h5,h6⟩:=hN
  have d1:decide (f.sch<0)=false:=by simp;omega
  have d2:decide (f.sch > 65535)=false:=by simp;omega
  have d3:decide (f.ver<0)=false:=by simp;omega
  have d4:decide (f.ver > 65534)=false:=by simp;omega
  have d5:decide (f.hsz<1)=false:=by simp;omega
  have d6:decide (f.hsz > 65535)=false:=by simp;omega
  have d7:(f.ord != 0)=false\/((f.ord != 0)=true/\(f.ord != 1)=false):=by rcases ho with e|e<;>simp[e]
  clear ho
  rcases d7 with d7|⟨d7,d8⟩
  all_goals
   go_enter Tryz.func14,Tryz.ntmps14
   go_wp2_with fail
   have hS0:SpRow ((w.alloc (fmO f pp cp)).alloc (.cells #[.int .i64 f.hb.p,.int .i64 f.hb.o,.int .i64 f.ht.p,.int .i64 f.ht.o,.int .i64 f.hs.p,.int .i64 f.hs.o,.int .i64 f.hv.p,.int .i64 f.hv.o] 67)) (w.heap.size+1) 0 (hdL f):=sp_new _ _ _
   have HB0:=dbb2 w (fmO f pp cp) (.cells #[.int .i64 f.hb.p,.int .i64 f.hb.o,.int .i64 f.ht.p,.int .i64 f.ht.o,.int .i64 f.hs.p,.int .i64 f.hs.o,.int .i64 f.hv.p,.int .i64 f.hv.o] 67)
   have HF0:FmC ((w.alloc (fmO f pp cp)).alloc (.cells #[.int .i64 f.hb.p,.int .i64 f.hb.o,.int .i64 f.ht.p,.int .i64 f.ht.o,.int .i64 f.hs.p,.int .i64 f.hs.o,.int .i64 f.hv.p,.int .i64 f.hv.o] 67)) w.heap.size 0 f pp cp:=fm_two _ _ _ _ _
   have HS0:w.heap.size+2=((w.alloc (fmO f pp cp)).alloc (.cells #[.int .i64 f.hb.p,.int .i64 f.hb.o,.int .i64 f.ht.p,.int .i64 f.ht.o,.int .i64 f.hs.p,.int .i64 f.hs.o,.int .i64 f.hv.p,.int .i64 f.hv.o] 67)).heap.size:=by simp
   generalize hW0:(w.alloc (.cells #[.int .i64 f.ord,.int .i64 f.sch,.int .i64 f.ver,.int .i64 f.hsz,.int .i64 f.hb.p,.int .i64 f.hb.o,.int .i64 f.ht.p,.int .i64 f.ht.o,.int .i64 f.hs.p,.int .i64 f.hs.o,.int .i64 f.hv.p,.int .i64 f.hv.o,.slice pp f.toks.length cp] 30)).alloc _=W0 at hS0 HB0 HF0 HS0 ⊢
   clear d1 d2 d3 d4 d5 d6 d7
   have hR0:Hid0 (spOk f.hsz [] (hdL f)=true↔spOk f.hsz ((hdL f).take 0) ((hdL f).drop 0)=true):=⟨Iff.rfl⟩
   replace HB0:Hid0 _:=⟨HB0⟩
   replace HF0:Hid0 _:=⟨HF0⟩
   replace hS0:Hid0 _:=⟨hS0⟩
   have hl4:(hdL f).length=4:=rfl
   go_loopw [4,5] (fun q q5 wr=>∃ j:Nat,j<=4/\q = .int .i64 j/\Below W0.heap.size W0 wr/\(∀ t∈(hdL f).take j,lieB t f.hsz=true)/\Hid0 (spOk f.hsz [] (hdL f)=true↔spOk f.hsz ((hdL f).take j) ((hdL f).drop j)=true)/\q5=q5) (fun q _ _=>4-(RowKit.intOf q).toNat)
   case atStart=>exact⟨0,Nat.zero_le _,rfl,Below.refl _ _,fun t ht=>absurd ht List.not_mem_nil,hR0,rfl⟩
   case round =>
    clear hW0
    obtain⟨j,hj,rfl,hB,hL,hR,-⟩:=hrel
    have hf3:wr.cell? ⟨w.heap.size,3,none⟩=some (.int .i64 f.hsz):=(HF0.out.below (by omega) hB).c3
    by_cases hlt:j<4
    ·obtain⟨s,hs⟩:∃ s,(hdL f)[j]?=some s:=⟨(hdL f)[j],List.getElem?_eq_getElem hlt⟩
     obtain⟨c0,c1⟩:=(hS0.out.below (by omega) hB).c j s hs
     have hlti:(j:Int)<4:=by omega
     have hR:=hR.out
     rw[drop_at hs,spOk] at hR
     have cL:=fun W=>refLies_any s f.hsz W (by omega)
     obtain⟨p,p0,pB,hNe,pc,pk⟩:=clsB wr
     have hsz0:=hB.size
     rw[Nat.zero_add] at c0 c1
     have f0:=fun θ=>(pc (w.heap.size+1) (j*2) (by omega) θ).trans c0
     have f1:=fun θ=>(pc (w.heap.size+1) (j*2+1) (by omega) θ).trans c1
     have f3:=fun θ=>(pc w.heap.size 3 (by omega) θ).trans hf3
     have cP:=pk _ _ _ (fun W _=>cL W)
     replace pB:Hid0 _:=⟨pB⟩
     clear pc pk cL c0 c1 hf3
     cases k1:lieB s f.hsz with
     | false =>
      rw[k1] at cP
      have HX:Hid0 (¬ headB f=true):=⟨fun e=>by have:=hR.1 (hb.out.1 e).2.1;rw[k1] at this;simp at this⟩
      clear hR
      go_wp2_with fail
      refine wp_region_lp p (by kernel_rfl) (by kernel_rfl) (fun _ _ d _ _ h=>by cases d<;>exact h) p0 fun W hp=>?_
      repeat (first|(refine lx_one rfl ?_;(first|go_big_quiet_skip|(go_big_quiet_want;go_big_quiet_op;go_big_quiet_on));refine wpQuiet_nil ?_)|(refine lx_p2 ent_lies cP hp rfl rfl (by rfl) ?_;intro W hp;simp only[pts])|(refine lx_skip (by rfl) ?_;simp only[pts]))
      refine lx_done ?_
      go_wp2_with fail
      go_ret
      exact⟨Ans.no HX.out,HB0.out.trans ((hB.trans ((pB.out _ hp).mono hsz0)).mono HB0.out.size)⟩
     | true =>
      rw[k1] at cP
      rw[k1,Bool.true_and] at hR
      go_wp2_with fail
      refine wp_region_lp p (by kernel_rfl) (by kernel_rfl) (fun _ _ d _ _ h=>by cases d<;>exact h) p0 fun W hp=>?_
      repeat (first|(refine lx_one rfl ?_;(first|go_big_quiet_skip|(go_big_quiet_want;go_big_quiet_op;go_big_quiet_on));refine wpQuiet_nil ?_)|(refine lx_p2 ent_lies cP hp rfl rfl (by rfl) ?_;intro W hp;simp only[pts])|(refine lx_skip (by rfl) ?_;simp only[pts]))
      refine lx_done ?_
      go_wp2_with fail
      have hb1:=(pB.out _ hp)
      have hBW:Below W0.heap.size W0 W:=hB.trans (hb1.mono hsz0)
      have hR1:Hid0 (spOk f.hsz [] (hdL f)=true↔(((hdL f).take j).drop 0).all (aptB s)=true/\spOk f.hsz ((hdL f).take j++[s]) ((hdL f).drop (j+1))=true):=⟨by rw[hR,Bool.and_eq_true];rfl⟩
      have ls:=k1
      unfold lieB at ls
      rw[Bool.and_eq_true] at ls
      have ls:=decT ls.2
      have hz:=sz_b s.p
      replace hb1:Hid0 _:=⟨hb1⟩
      clear hR cP f0 f1 f3 hNe pB hp p0
      go_loopw [6,5] (fun q q5 wq=>∃ k:Nat,k<=j/\q = .int .i64 k/\Below W0.heap.size W0 wq/\Hid0 (spOk f.hsz [] (hdL f)=true↔(((hdL f).take j).drop k).all (aptB s)=true/\spOk f.hsz ((hdL f).take j++[s]) ((hdL f).drop (j+1))=true)/\q5=q5) (fun q _ _=>j-(RowKit.intOf q).toNat)
      case atStart=>exact⟨0,Nat.zero_le _,rfl,hBW,hR1,rfl⟩
      case round =>
       obtain⟨k,hk,rfl,hD,hQ,-⟩:=hrel
       have hsz1:=hD.size
       by_cases hkj:k<j
       ·obtain⟨t,ht⟩:∃ t,(hdL f)[k]?=some t:=⟨(hdL f)[k],List.getElem?_eq_getElem (by omega)⟩
        have ht2:((hdL f).take j)[k]?=some t:=by rw[List.getElem?_take,if_pos hkj];exact ht
        obtain⟨c0,c1⟩:=(hS0.out.below (by omega) hD).c j s hs
        obtain⟨e0,e1⟩:=(hS0.out.below (by omega) hD).c k t ht
        have lt:=hL t (List.mem_of_getElem? ht2)
        unfold lieB at lt
        rw[Bool.and_eq_true] at lt
        have lt:=decT lt.2
        have hy:=sz_b t.p
        have hkji:(k:Int)<j:=by omega
        have hk4:(k:Int)<4:=by omega
        have hQ:=hQ.out
        rw[drop_at ht2,List.all_cons,Bool.and_eq_true] at hQ
        rw[Nat.zero_add] at c0 c1 e0 e1
        obtain⟨p,p0,pB,hNe,pc,pk⟩:=clsB wr
        have f0:=fun θ=>(pc (w.heap.size+1) (j*2) (by omega) θ).trans c0
        have f1:=fun θ=>(pc (w.heap.size+1) (j*2+1) (by omega) θ).trans c1
        have f2:=fun θ=>(pc (w.heap.size+1) (k*2) (by omega) θ).trans e0
        have f3:=fun θ=>(pc (w.heap.size+1) (k*2+1) (by omega) θ).trans e1
        have cP:=pk _ _ _ (fun W _=>refApart_any s t W (by omega) (by omega))
        replace pB:Hid0 _:=⟨pB⟩
        clear pc pk c0 c1 e0 e1
        cases k3:aptB s t with
        | false =>
         rw[k3] at cP
         have HX:Hid0 (¬ headB f=true):=⟨fun e=>by have:=(hQ.1 (hb.out.1 e).2.1).1.1;rw[k3] at this;cases this⟩
         clear hQ
         go_wp2_with fail
         refine wp_region_lp p (by kernel_rfl) (by kernel_rfl) (fun _ _ d _ _ h=>by cases d<;>exact h) p0 fun W hp=>?_
         repeat (first|(refine lx_one rfl ?_;(first|go_big_quiet_skip|(go_big_quiet_want;go_big_quiet_op;go_big_quiet_on));refine wpQuiet_nil ?_)|(refine lx_p2 ent_apart cP hp rfl rfl (by rfl) ?_;intro W hp;simp only[pts])|(refine lx_skip (by rfl) ?_;simp only[pts]))
         refine lx_done ?_
         go_wp2_with fail
         go_ret
         exact⟨Ans.no HX.out,HB0.out.trans ((hD.trans ((pB.out _ hp).mono hsz1)).mono HB0.out.size)⟩
        | true =>
         rw[k3] at cP
         have HX:Hid0 (spOk f.hsz [] (hdL f)=true↔(((hdL f).take j).drop (k+1)).all (aptB s)=true/\spOk f.hsz ((hdL f).take j++[s]) ((hdL f).drop (j+1))=true):=⟨by rw[hQ,k3];simp⟩
         clear hQ
         go_wp2_with fail
         refine wp_region_lp p (by kernel_rfl) (by kernel_rfl) (fun _ _ d _ _ h=>by cases d<;>exact h) p0 fun W hp=>?_
         repeat (first|(refine lx_one rfl ?_;(first|go_big_quiet_skip|(go_big_quiet_want;go_big_quiet_op;go_big_quiet_on));refine wpQuiet_nil ?_)|(refine lx_p2 ent_apart cP hp rfl rfl (by rfl) ?_;intro W hp;simp only[pts])|(refine lx_skip (by rfl) ?_;simp only[pts]))
         refine lx_done ?_
         go_wp2_with fail
         go_roundw
         case rel=>exact⟨k+1,by omega,by go_num,hD.trans ((pB.out _ hp).mono hsz1),HX,trivial⟩
         case measure=>simp[RowKit.intOf];omega
       ·obtain rfl:k=j:=by omega
        have hQ:=hQ.out
        rw[List.drop_eq_nil_of_le (by rw[List.length_take];omega)] at hQ
        have HX:Hid0 (spOk f.hsz [] (hdL f)=true↔spOk f.hsz ((hdL f).take (k+1)) ((hdL f).drop (k+1))=true):=⟨by rw[hQ,take_at hs];simp⟩
        clear hQ
        go_wp2_with fail
        go_roundw
        case rel =>
         refine⟨k+1,by omega,by go_num,hD,?_,HX,trivial⟩
         intro t ht
         rw[take_at hs] at ht
         rcases List.mem_append.1 ht with ht|ht
         ·exact hL t ht
         ·rw[List.mem_singleton.1 ht];exact k1
        case measure=>simp[RowKit.intOf];omega
    ·obtain rfl:j=4:=by omega
     have hR:=hR.out
     have hsz0:=hB.size
     have HX:Hid0 (headB f=true↔telB f.hs f.sch=true/\telB f.hv f.ver=true):=⟨by
      rw[hb.out,hR]
      have:spOk f.hsz ((hdL f).take 4) ((hdL f).drop 4)=true:=rfl
      simp[HN.out,this]⟩
     have g:=HF0.out.below (by omega) hB
     have g1:=g.c1
     have g8:=g.c8
     have g9:=g.c9
     have cP:=refTells_any f.hs f.sch wr ok.sch
     have cQ:=fun W=>refTells_any f.hv f.ver W ok.ver
     have gY:∀ W,Below wr.heap.size wr W->FmC W w.heap.size 0 f pp cp:=fun W hW=>g.below (by omega) hW
     replace gY:Hid0 _:=⟨gY⟩
     clear g hR
     cases k1:telB f.hs f.sch with
     | false =>
      rw[k1] at cP
      go_wp2_with (go_at_call_of 27 (Value.agg #[Value.int .i64 f.hs.p,Value.int .i64 f.hs.o]);refine cP.mono ?_;rintro _ w1 ⟨rfl,hb1⟩)
      go_ret
      refine⟨⟨_,rfl,?_⟩,HB0.out.trans ((hB.trans (hb1.mono hsz0)).mono HB0.out.size)⟩
      rw[HX.out,k1]
      simp
     | true =>
      rw[k1] at cP
      go_wp2_with (first|(go_at_call_of 27 (Value.agg #[Value.int .i64 f.hs.p,Value.int .i64 f.hs.o]);refine cP.mono ?_;rintro _ w1 ⟨rfl,hb1⟩;have y:=gY.out _ hb1;have y2:=y.c2;have y10:=y.c10;have y11:=y.c11;clear y)|(go_at_call_of 27 (Value.agg #[Value.int .i64 f.hv.p,Value.int .i64 f.hv.o]);refine(cQ _).mono ?_;rintro _ w2 ⟨rfl,hb2⟩))
      go_ret
      refine⟨⟨_,rfl,?_⟩,HB0.out.trans ((hB.trans ((hb1.trans (hb2.mono hb1.size)).mono hsz0)).mono HB0.out.size)⟩
      rw[HX.out,k1]
      simp
 ·have HN:Hid0 (¬ headB f=true):=⟨fun e=>hN (hb.out.1 e).1⟩
  unfold headN at hN
  go_enter Tryz.func14,Tryz.ntmps14
  go_wp2_with fail
  all_goals first
   | (exfalso;omega)
   | (go_ret;exact⟨Ans.no HN.out,bel1 _ _⟩)
end Go.Proofs.YtcgimchhcaankaaGreatDoor
