import Derived.Test.YtjnafpefolgcoaaGreatDoorK31
namespace Go.Proofs.YtjnafpefolgcoaaGreatDoor
set_option maxRecDepth 1000000
set_option maxHeartbeats 16000000
open Go.ChangeShapes Go.WideShapes Go.ChangeAt Go.RowKit Go.Shelf Go.Maps
theorem fits_sz {p b:Int} (h:sz p=0):fitsP p b=false:=by unfold fitsP fitsF;rw[h];simp
theorem encR_iff {t:Tk}:encR t=true↔sz t.prim≠0/\(1<=t.len/\t.len<=65535)/\fitsP t.prim t.nul=true/\fitsP t.prim t.lo=true/\fitsP t.prim t.hi=true/\((t.pres≠2/\t.siz=t.len*sz t.prim/\t.cst.length=0)\/(t.pres=2/\t.siz=0/\(t.cst.length:Int)=t.len/\t.cst.all (fitsP t.prim)=true)):=by
 by_cases hz:sz t.prim=0
 ·unfold encR
  rw[fits_sz hz]
  simp[hz]
 ·unfold encR bet
  generalize t.cst.all (fitsP t.prim)=q
  generalize fitsP t.prim t.nul=q1
  generalize fitsP t.prim t.lo=q2
  generalize fitsP t.prim t.hi=q3
  generalize t.cst.length=n
  by_cases hp:t.pres=2
  ·simp[hp,hz,and_assoc]
  ·simp[hp,hz,and_assoc]
theorem ent_rsize:∀ ag w,(callFunc 54 ag).run Tryz.prog w = .ok (.enter 54 ag) w:=enters_of Tryz.func54 (by kernel_rfl) rfl
theorem ent_rfits:∀ ag w,(callFunc 59 ag).run Tryz.prog w = .ok (.enter 59 ag) w:=enters_of Tryz.func59 (by kernel_rfl) rfl
theorem rfits_b (p b:Int) (w:World) (h:u64ok b):Calls Tryz.prog 59 #[.int .i64 p,.int .u64 b] w fun e w'=>e = .returned (.bool (fitsP p b))/\w'=w:=by
 unfold u64ok at h
 exact refFits_any p b w h.1 (by omega)
theorem refEncoded_any (t:Tk) (pc:Option Addr) (cc:Nat) (w:World) (hu:URow w pc w.heap.size t.cst) (hO:TkOk t) :
  Calls Tryz.prog 37 #[tkV t pc cc] w fun r w'=>r = .returned (.bool (encR t))/\Below w.heap.size w w':=by
 suffices hh:Calls Tryz.prog 37 #[tkV t pc cc] w fun r w'=>Ans r (encR t=true)/\Below w.heap.size w w' from hh.mono fun r w' h=>⟨h.1.same,h.2⟩
 generalize hPd:(encR t=true)=P
 have hP:Hid (P↔(sz t.prim≠0/\(1<=t.len/\t.len<=65535)/\fitsP t.prim t.nul=true/\fitsP t.prim t.lo=true/\fitsP t.prim t.hi=true/\((t.pres≠2/\t.siz=t.len*sz t.prim/\t.cst.length=0)\/(t.pres=2/\t.siz=0/\(t.cst.length:Int)=t.len/\t.cst.all (fitsP t.prim)=true)))):=⟨hPd▸encR_iff⟩
 clear hPd
 have hA:=tk_of (heap_al w (tkO t pc cc))
 have HB:Below w.heap.size w (w.alloc (tkO t pc cc)):=bel1 _ _
 have HS:w.heap.size<(w.alloc (tkO t pc cc)).heap.size:=by simp
 simp only[tkO,tkC] at hA HB HS
 generalize hW:w.alloc (.cells [Value.int .i64 t.op,.string t.name,.int .i64 t.id,.int .i64 t.off,.int .i64 t.siz,.int .i64 t.since,.int .i64 t.prim,.int .i64 t.len,.int .i64 t.pres,.int .u64 t.nul,.int .u64 t.lo,.int .u64 t.hi,.slice pc t.cst.length cc,.int .u64 t.val,.int .i64 t.blk,.int .i64 t.full,.int .i64 t.a.p,.int .i64 t.a.o,.int .i64 t.b.p,.int .i64 t.b.o,.int .i64 t.pair].toArray 53)=W at hA HB HS
 have c4:W.cell? ⟨w.heap.size,4,none⟩=some (.int .i64 t.siz):=hA.c4
 have c6:W.cell? ⟨w.heap.size,6,none⟩=some (.int .i64 t.prim):=hA.c6
 have c7:W.cell? ⟨w.heap.size,7,none⟩=some (.int .i64 t.len):=hA.c7
 have c8:W.cell? ⟨w.heap.size,8,none⟩=some (.int .i64 t.pres):=hA.c8
 have c9:W.cell? ⟨w.heap.size,9,none⟩=some (.int .u64 t.nul):=hA.c9
 have c10:W.cell? ⟨w.heap.size,10,none⟩=some (.int .u64 t.lo):=hA.c10
 have c11:W.cell? ⟨w.heap.size,11,none⟩=some (.int .u64 t.hi):=hA.c11
 have c12:W.cell? ⟨w.heap.size,12,none⟩=some (.slice pc t.cst.length cc):=hA.c12
 have cS:=refSize_any t.prim W
 have cF1:=rfits_b t.prim t.nul W hO.nul
 have cF2:=rfits_b t.prim t.lo W hO.lo
 have cF3:=rfits_b t.prim t.hi W hO.hi
 have HF:Hid (∀ W2,Below W.heap.size W W2->TkC W2 w.heap.size 0 t pc cc/\URow W2 pc w.heap.size t.cst):=⟨fun W2 h2=>⟨hA.below HS h2,hu.below (HB.trans (h2.mono (Nat.le_of_lt HS)))⟩⟩
 have hlen:=hO.cst
 have hzb:=sz_b t.prim
 replace hA:=Hid.mk hA
 replace HB:=Hid.mk HB
 have hlok:=hO.len
 unfold i64ok at hlok
 have hF:=fun v (hv:v∈t.cst) W2=>rfits_b t.prim v W2 (hO.cs v hv)
 replace hF:=Hid.mk hF
 clear hO hu
 generalize hq1:fitsP t.prim t.nul=q1 at *
 generalize hq2:fitsP t.prim t.lo=q2 at *
 generalize hq3:fitsP t.prim t.hi=q3 at *
 clear hq1 hq2 hq3
 generalize hz:sz t.prim=z at *
 clear hz
 by_cases k1:z=0
 ·have d1:(z==0)=true:=by simp[k1]
  have HX:Hid (¬ P):=⟨by rw[hP.out];simp_all⟩
  clear hP k1
  go_enter Tryz.func37,Tryz.ntmps37
  go_wp2_with (first|(go_at_call 54;refine cS.mono ?_;rintro _ wq ⟨rfl,e⟩;obtain rfl:W=wq:=e.symm)|(go_at_call 59;refine cF1.mono ?_;rintro _ wq ⟨rfl,e⟩;obtain rfl:W=wq:=e.symm;clear cF1)|(go_at_call 59;refine cF2.mono ?_;rintro _ wq ⟨rfl,e⟩;obtain rfl:W=wq:=e.symm;clear cF2)|(go_at_call 59;refine cF3.mono ?_;rintro _ wq ⟨rfl,e⟩;obtain rfl:W=wq:=e.symm;clear cF3))
  go_ret
  exact⟨Ans.no HX.out,HB.out⟩
 have d1:(z==0)=false:=by simp[k1]
 by_cases k2:t.len<1
 ·have d2:decide (t.len<1)=true:=by simp;omega
  have HX:Hid (¬ P):=⟨by rw[hP.out];omega⟩
  clear hP
  go_enter Tryz.func37,Tryz.ntmps37
  go_wp2_with (first|(go_at_call 54;refine cS.mono ?_;rintro _ wq ⟨rfl,e⟩;obtain rfl:W=wq:=e.symm)|(go_at_call 59;refine cF1.mono ?_;rintro _ wq ⟨rfl,e⟩;obtain rfl:W=wq:=e.symm;clear cF1)|(go_at_call 59;refine cF2.mono ?_;rintro _ wq ⟨rfl,e⟩;obtain rfl:W=wq:=e.symm;clear cF2)|(go_at_call 59;refine cF3.mono ?_;rintro _ wq ⟨rfl,e⟩;obtain rfl:W=wq:=e.symm;clear cF3))
  go_ret
  exact⟨Ans.no HX.out,HB.out⟩
 have d2:decide (t.len<1)=false:=by simp;omega
 by_cases k3:65535<t.len
 ·have d3:decide (t.len > 65535)=true:=by simp;omega
  have HX:Hid (¬ P):=⟨by rw[hP.out];omega⟩
  clear hP
  go_enter Tryz.func37,Tryz.ntmps37
  go_wp2_with (first|(go_at_call 54;refine cS.mono ?_;rintro _ wq ⟨rfl,e⟩;obtain rfl:W=wq:=e.symm)|(go_at_call 59;refine cF1.mono ?_;rintro _ wq ⟨rfl,e⟩;obtain rfl:W=wq:=e.symm;clear cF1)|(go_at_call 59;refine cF2.mono ?_;rintro _ wq ⟨rfl,e⟩;obtain rfl:W=wq:=e.symm;clear cF2)|(go_at_call 59;refine cF3.mono ?_;rintro _ wq ⟨rfl,e⟩;obtain rfl:W=wq:=e.symm;clear cF3))
  go_ret
  exact⟨Ans.no HX.out,HB.out⟩
 have d3:decide (t.len > 65535)=false:=by simp;omega
 by_cases eq1:q1=false
 ·subst eq1
  have HX:Hid (¬ P):=⟨by rw[hP.out];simp_all⟩
  clear hP
  go_enter Tryz.func37,Tryz.ntmps37
  go_wp2_with (first|(go_at_call 54;refine cS.mono ?_;rintro _ wq ⟨rfl,e⟩;obtain rfl:W=wq:=e.symm)|(go_at_call 59;refine cF1.mono ?_;rintro _ wq ⟨rfl,e⟩;obtain rfl:W=wq:=e.symm;clear cF1)|(go_at_call 59;refine cF2.mono ?_;rintro _ wq ⟨rfl,e⟩;obtain rfl:W=wq:=e.symm;clear cF2)|(go_at_call 59;refine cF3.mono ?_;rintro _ wq ⟨rfl,e⟩;obtain rfl:W=wq:=e.symm;clear cF3))
  go_ret
  exact⟨Ans.no HX.out,HB.out⟩
 obtain rfl:q1=true:=by simpa using eq1
 by_cases eq2:q2=false
 ·subst eq2
  have HX:Hid (¬ P):=⟨by rw[hP.out];simp_all⟩
  clear hP
  go_enter Tryz.func37,Tryz.ntmps37
  go_wp2_with (first|(go_at_call 54;refine cS.mono ?_;rintro _ wq ⟨rfl,e⟩;obtain rfl:W=wq:=e.symm)|(go_at_call 59;refine cF1.mono ?_;rintro _ wq ⟨rfl,e⟩;obtain rfl:W=wq:=e.symm;clear cF1)|(go_at_call 59;refine cF2.mono ?_;rintro _ wq ⟨rfl,e⟩;obtain rfl:W=wq:=e.symm;clear cF2)|(go_at_call 59;refine cF3.mono ?_;rintro _ wq ⟨rfl,e⟩;obtain rfl:W=wq:=e.symm;clear cF3))
  go_ret
  exact⟨Ans.no HX.out,HB.out⟩
 obtain rfl:q2=true:=by simpa using eq2
 by_cases eq3:q3=false
 ·subst eq3
  have HX:Hid (¬ P):=⟨by rw[hP.out];simp_all⟩
  clear hP
  go_enter Tryz.func37,Tryz.ntmps37
  go_wp2_with (first|(go_at_call 54;refine cS.mono ?_;rintro _ wq ⟨rfl,e⟩;obtain rfl:W=wq:=e.symm)|(go_at_call 59;refine cF1.mono ?_;rintro _ wq ⟨rfl,e⟩;obtain rfl:W=wq:=e.symm;clear cF1)|(go_at_call 59;refine cF2.mono ?_;rintro _ wq ⟨rfl,e⟩;obtain rfl:W=wq:=e.symm;clear cF2)|(go_at_call 59;refine cF3.mono ?_;rintro _ wq ⟨rfl,e⟩;obtain rfl:W=wq:=e.symm;clear cF3))
  go_ret
  exact⟨Ans.no HX.out,HB.out⟩
 obtain rfl:q3=true:=by simpa using eq3
 have hP2:Hid (P↔((t.pres≠2/\t.siz=t.len*z/\t.cst.length=0)\/(t.pres=2/\t.siz=0/\(t.cst.length:Int)=t.len/\t.cst.all (fitsP t.prim)=true))):=⟨by
  rw[hP.out]
  constructor
  ·exact fun h=>h.2.2.2.2.2
  ·exact fun h=>⟨k1,by omega,rfl,rfl,rfl,h⟩⟩
 clear hP
 have hw:IntKind.i64.wrap (t.len*z)=t.len*z:=by
  rw[IntKind.wrap_i64]
  have h0:0<=t.len*z:=Int.mul_nonneg (by omega) (by omega)
  have h1:t.len*z<=65535*8:=Int.mul_le_mul (by omega) (by omega) (by omega) (by omega)
  omega
 replace k1:=Hid.mk k1
 by_cases k4:t.pres=2
 ·have d4:(t.pres != 2)=false:=by simp[k4]
  have hP:Hid (P↔(t.siz=0/\(t.cst.length:Int)=t.len/\t.cst.all (fitsP t.prim)=true)):=⟨by rw[hP2.out];simp[k4]⟩
  clear hP2 k4
  by_cases k5:t.siz=0
  ·have d5:(t.siz != 0)=false:=by simp[k5]
   by_cases k6:(t.cst.length:Int)=t.len
   ·have d6:((t.cst.length:Int) != t.len)=false:=by simp[k6]
    have hP3:Hid (P↔(t.cst.drop 0).all (fitsP t.prim)=true):=⟨by rw[hP.out];simp[k5,k6]⟩
    clear hP k5 k6
    go_enter Tryz.func37,Tryz.ntmps37
    go_wp2_with (first|(go_at_call 54;refine cS.mono ?_;rintro _ wq ⟨rfl,e⟩;obtain rfl:W=wq:=e.symm)|(go_at_call 59;refine cF1.mono ?_;rintro _ wq ⟨rfl,e⟩;obtain rfl:W=wq:=e.symm;clear cF1)|(go_at_call 59;refine cF2.mono ?_;rintro _ wq ⟨rfl,e⟩;obtain rfl:W=wq:=e.symm;clear cF2)|(go_at_call 59;refine cF3.mono ?_;rintro _ wq ⟨rfl,e⟩;obtain rfl:W=wq:=e.symm;clear cF3))
    clear d1 d2 d3 d4 d5 d6 cS c4 c6 c7 c8 c9 c10 c11 c12
    go_loopw [4,5] (fun q q5 wr=>∃ j:Nat,j<=t.cst.length/\q = .int .i64 j/\Below W.heap.size W wr/\Hid (P↔(t.cst.drop j).all (fitsP t.prim)=true)/\q5=q5) (fun q _ _=>t.cst.length-(RowKit.intOf q).toNat)
    case atStart=>exact⟨0,Nat.zero_le _,rfl,Below.refl _ _,hP3,rfl⟩
    case round =>
     obtain⟨j,hj,rfl,hB,hR,-⟩:=hrel
     obtain⟨g,gu⟩:=HF.out wr hB
     have c6:wr.cell? ⟨w.heap.size,6,none⟩=some (.int .i64 t.prim):=g.c6
     have c12:wr.cell? ⟨w.heap.size,12,none⟩=some (.slice pc t.cst.length cc):=g.c12
     clear g
     by_cases hlt:j<t.cst.length
     ·obtain⟨v,hv⟩:∃ v,t.cst[j]?=some v:=⟨t.cst[j],List.getElem?_eq_getElem hlt⟩
      obtain⟨gv,ov,rfl,hg,q0⟩:=gu.c j v hv
      have hlti:(j:Int)<t.cst.length:=by omega
      have hR:=hR.out
      rw[drop_at hv,List.all_cons,Bool.and_eq_true] at hR
      obtain⟨p,p0,pB,hNe,pc',pk⟩:=clsB wr
      have hsz:=hB.size
      have f6:=fun θ=>(pc' w.heap.size 6 (by omega) θ).trans c6
      have f12:=fun θ=>(pc' w.heap.size 12 (by omega) θ).trans c12
      have f0:=fun θ=>(pc' gv (ov+j) (by omega) θ).trans q0
      have cP:=pk _ _ _ (fun W' _=>(hF.out v (List.mem_of_getElem? hv) W').mono fun _ _ hh=>⟨hh.1,hh.2▸Below.refl _ _⟩)
      replace pB:=Hid.mk pB
      clear pc' pk
      cases kv:fitsP t.prim v with
      | false =>
       rw[kv] at cP
       have HX:Hid (¬ P):=⟨fun e=>by have:=(hR.1 e).1;rw[kv] at this;cases this⟩
       clear hR kv
       go_wp2_with fail
       refine wp_region_lp p (by kernel_rfl) (by kernel_rfl) (fun _ _ d _ _ h=>by cases d<;>exact h) p0 fun W hp=>?_
       repeat (first|(refine lx_one rfl ?_;(first|go_big_quiet_skip|(go_big_quiet_want;go_big_quiet_op;go_big_quiet_on));refine wpQuiet_nil ?_)|(refine lx_p2 ent_rfits cP hp rfl rfl (by rfl) ?_;intro W hp;simp only[pts])|(refine lx_skip (by rfl) ?_;simp only[pts]))
       refine lx_done ?_
       go_wp2_with fail
       go_ret
       exact⟨Ans.no HX.out,HB.out.trans ((hB.trans ((pB.out _ hp).mono hsz)).mono (Nat.le_of_lt HS))⟩
      | true =>
       rw[kv] at cP
       have HX:Hid (P↔(t.cst.drop (j+1)).all (fitsP t.prim)=true):=⟨by rw[hR,kv];simp⟩
       clear hR kv
       go_wp2_with fail
       refine wp_region_lp p (by kernel_rfl) (by kernel_rfl) (fun _ _ d _ _ h=>by cases d<;>exact h) p0 fun W hp=>?_
       repeat (first|(refine lx_one rfl ?_;(first|go_big_quiet_skip|(go_big_quiet_want;go_big_quiet_op;go_big_quiet_on));refine wpQuiet_nil ?_)|(refine lx_p2 ent_rfits cP hp rfl rfl (by rfl) ?_;intro W hp;simp only[pts])|(refine lx_skip (by rfl) ?_;simp only[pts]))
       refine lx_done ?_
       go_wp2_with fail
       go_roundw
       case rel=>exact⟨j+1,by omega,by go_num,hB.trans ((pB.out _ hp).mono hsz),HX,trivial⟩
       case measure=>simp[RowKit.intOf];omega
     ·obtain rfl:j=t.cst.length:=by omega
      have HX:Hid P:=⟨by rw[hR.out,List.drop_length];rfl⟩
      clear hR
      go_wp2_with fail
      go_ret
      exact⟨Ans.yes HX.out,HB.out.trans (hB.mono (Nat.le_of_lt HS))⟩
   ·have d6:((t.cst.length:Int) != t.len)=true:=by simp[k6]
    have HX:Hid (¬ P):=⟨by rw[hP.out];simp[k6]⟩
    clear hP k5 k6
    go_enter Tryz.func37,Tryz.ntmps37
    go_wp2_with (first|(go_at_call 54;refine cS.mono ?_;rintro _ wq ⟨rfl,e⟩;obtain rfl:W=wq:=e.symm)|(go_at_call 59;refine cF1.mono ?_;rintro _ wq ⟨rfl,e⟩;obtain rfl:W=wq:=e.symm;clear cF1)|(go_at_call 59;refine cF2.mono ?_;rintro _ wq ⟨rfl,e⟩;obtain rfl:W=wq:=e.symm;clear cF2)|(go_at_call 59;refine cF3.mono ?_;rintro _ wq ⟨rfl,e⟩;obtain rfl:W=wq:=e.symm;clear cF3))
    go_ret
    exact⟨Ans.no HX.out,HB.out⟩
  ·have d5:(t.siz != 0)=true:=by simp[k5]
   have HX:Hid (¬ P):=⟨by rw[hP.out];simp[k5]⟩
   clear hP k5
   go_enter Tryz.func37,Tryz.ntmps37
   go_wp2_with (first|(go_at_call 54;refine cS.mono ?_;rintro _ wq ⟨rfl,e⟩;obtain rfl:W=wq:=e.symm)|(go_at_call 59;refine cF1.mono ?_;rintro _ wq ⟨rfl,e⟩;obtain rfl:W=wq:=e.symm;clear cF1)|(go_at_call 59;refine cF2.mono ?_;rintro _ wq ⟨rfl,e⟩;obtain rfl:W=wq:=e.symm;clear cF2)|(go_at_call 59;refine cF3.mono ?_;rintro _ wq ⟨rfl,e⟩;obtain rfl:W=wq:=e.symm;clear cF3))
   go_ret
   exact⟨Ans.no HX.out,HB.out⟩
 ·have d4:(t.pres != 2)=true:=by simp[k4]
  have hP:Hid (P↔(t.siz=t.len*z/\t.cst.length=0)):=⟨by rw[hP2.out];simp[k4]⟩
  clear hP2 k4
  by_cases k5:t.siz=t.len*z
  ·have d5:(t.siz==t.len*z)=true:=by simp[k5]
   have HX:Hid (P↔t.cst.length=0):=⟨by rw[hP.out];simp[k5]⟩
   clear hP k5
   go_enter Tryz.func37,Tryz.ntmps37
   go_wp2_with (first|(go_at_call 54;refine cS.mono ?_;rintro _ wq ⟨rfl,e⟩;obtain rfl:W=wq:=e.symm)|(go_at_call 59;refine cF1.mono ?_;rintro _ wq ⟨rfl,e⟩;obtain rfl:W=wq:=e.symm;clear cF1)|(go_at_call 59;refine cF2.mono ?_;rintro _ wq ⟨rfl,e⟩;obtain rfl:W=wq:=e.symm;clear cF2)|(go_at_call 59;refine cF3.mono ?_;rintro _ wq ⟨rfl,e⟩;obtain rfl:W=wq:=e.symm;clear cF3))
   go_ret
   refine⟨⟨_,rfl,Iff.trans ?_ HX.out.symm⟩,HB.out⟩
   simp
  ·have d5:(t.siz==t.len*z)=false:=by simp[k5]
   have HX:Hid (¬ P):=⟨by rw[hP.out];simp[k5]⟩
   clear hP k5
   go_enter Tryz.func37,Tryz.ntmps37
   go_wp2_with (first|(go_at_call 54;refine cS.mono ?_;rintro _ wq ⟨rfl,e⟩;obtain rfl:W=wq:=e.symm)|(go_at_call 59;refine cF1.mono ?_;rintro _ wq ⟨rfl,e⟩;obtain rfl:W=wq:=e.symm;clear cF1)|(go_at_call 59;refine cF2.mono ?_;rintro _ wq ⟨rfl,e⟩;obtain rfl:W=wq:=e.symm;clear cF2)|(go_at_call 59;refine cF3.mono ?_;rintro _ wq ⟨rfl,e⟩;obtain rfl:W=wq:=e.symm;clear cF3))
   go_ret
   exact⟨Ans.no HX.out,HB.out⟩
theorem refRowed_md (c:Df) (f:Fm) (L:List Od) (x:Od) (xt t:Tk) (ids:List Int) (vi:Value) (w:World) (P:Prop) (Q:World->Prop) (h:Dt w c f L x xt t ids vi) (ho:xt.op≠4) (hp:t.op=6)
  (hP:Hid (P↔((xt.since<=t.since/\x.row<=t.since/\t.since<=f.ver)/\t.a.o=0/\lieB t.a 4=true/\t.siz=sz t.a.p/\(t.prim=0\/t.prim=5)))) (hQ:Hid (∀ w',Dt w' c f L { x with row:=t.since } xt t ids vi->Q w')) :
  Calls Tryz.prog 34 #[.pointer (some ⟨c.B,0,none⟩),.int .i64 (c.i:Int),.pointer (some ⟨c.go,L.length*5,none⟩)] w fun r w'=>Lfd r P c w w' (Q w'):=by
 have a4:(xt.op==4)=false:=by simp[ho]
 have b6:(t.op==6)=true:=by simp[hp]
 clear ho hp
 obtain⟨pc,cc,hT,hU,hC,hO⟩:=h.tk
 obtain⟨px,cx,hTx,hOx⟩:=h.xk
 have b12:=h.ds.c12
 have hii:(c.i:Int)<f.toks.length:=by have:=h.il;omega
 have hxl:(x.at_:Int)<f.toks.length:=by have:=h.xl;omega
 have hll:=h.ll
 have l1:=hT.load
 have hgo:=h.op.lt
 obtain⟨W1,s1,hA,hb1,hz1⟩:=ld_new w t pc cc
 have h1:=h.below hb1
 have hX1:=hTx.below (B:=w.heap.size) h.lg hb1
 obtain⟨p,p0,pB,pI,hNe,pc',pl,pk⟩:=clsT W1
 have f12:=fun θ=>(pc' c.B 12 h1.ds.lt θ).trans h1.ds.c12
 have f0:=fun θ=>(pc' c.go (L.length*5) h1.op.lt θ).trans h1.sc.c0
 have lu:=pl c.g _ xt px cx h1.lg hX1
 clear pc' pl pk hX1 hTx
 replace l1:=Hid.mk l1
 replace s1:=Hid.mk s1
 replace h:=Hid.mk h
 replace h1:=Hid.mk h1
 replace hA:=Hid.mk hA
 replace hb1:=Hid.mk hb1
 replace hO:=Hid.mk hO
 replace hOx:=Hid.mk hOx
 clear hT hU hC
 go_enter Tryz.func34,Tryz.ntmps34
 go_wp2_with (first
  | (guard_target =~ wpList _ _ _ (Oper.mk _ (Op.load 53 _) _ _ _ _::_) _ _;go_must (first|refine wpList_ld 53 _ rfl rfl _ _ rfl l1.out ?_);simp only[pts])
  | (guard_target =~ wpList _ _ _ (Oper.mk _ (Op.store 53 _ _) _ _ _ _::_) _ _;go_must (refine wpList_st 53 _ _ rfl rfl _ _ rfl rfl (s1.out _ rfl) ?_);simp only[pts]))
 refine wp_region_lp p (by kernel_rfl) (by kernel_rfl) (fun _ _ d _ _ h=>by cases d<;>exact h) p0 fun W hp=>?_
 repeat (first|(guard_target =~ Lx _ _ _ _ (Oper.mk _ (Op.load 53 _) _ _ _ _::_) _ _;(first|refine lx_ld lu rfl rfl ?_);simp only[pts])|(guard_target =~ Lx _ _ _ _ (Oper.mk _ (Op.alloc 53) _ _ _ _::_) _ _;refine lx_act (by rfl) (by rfl) ?_;intro K hK;go_simp;refine hK _ _ ⟨⟨_,pI _ ((pB _ hp).trans ((bel1 W _).mono (pB _ hp).size))⟩,rfl⟩ ?_;clear hK K)|(guard_target =~ Lx _ _ _ _ (Oper.mk _ (Op.store 53 _ _) _ _ _ _::_) _ _;obtain⟨W2,s2,hY,hb2,hz2⟩:=ld_new W xt px cx;refine lx_st (s2 _ rfl) ⟨⟨W2,pI _ ((pB _ hp).trans (hb2.mono (pB _ hp).size))⟩,rfl⟩ rfl rfl (by rfl) ?_;clear s2;simp only[pts])|(refine lx_one rfl ?_;(first|go_big_quiet_skip|(go_big_quiet_want;go_big_quiet_op;go_big_quiet_on));refine wpQuiet_nil ?_)|(refine lx_skip (by rfl) ?_;simp only[pts]))
 refine lx_done ?_
 have hbW:=pB _ hp
 have hb:Below w.heap.size w W2:=hb1.out.trans ((hbW.trans (hb2.mono hbW.size)).mono hb1.out.size)
 have h2:=h.out.below hb
 have hTT:TkC W2 w.heap.size 0 t pc cc:=hA.out.below (B:=W1.heap.size) (by omega) (hbW.trans (hb2.mono hbW.size))
 have gT:w.heap.size≠c.go:=by omega
 have gO:W.heap.size≠c.go:=by have:=hbW.size;omega
 have gTl:w.heap.size<W2.heap.size:=by have:=hbW.size;omega
 have gOl:W.heap.size<W2.heap.size:=by omega
 have t0:=hTT.c0
 have t5:=hTT.c5
 have o0:=hY.c0
 have o5:=hY.c5
 replace h2:=Hid.mk h2
 replace hb:=Hid.mk hb
 replace hTT:=Hid.mk hTT
 replace hYY:Hid _:=⟨hY⟩
 clear pB pI p0 f0 f12 hNe hp lu hY hbW
 simp only[Nat.zero_add] at t0 t5 o0 o5
 have v2:=h2.out.ds.fm.c2
 have x4:=h2.out.sc.c4
 have nB:c.B≠c.go:=h.out.ap.Bo
 have z4:W2.frozen? ⟨c.go,L.length*5+4,none⟩=false:=h2.out.op.frz _
 by_cases k1:t.since<xt.since
 ·have d1_0:decide (t.since<xt.since)=true:=by simp<;>omega
  have HX:Hid (¬ P):=⟨by rw[hP.out];omega⟩
  clear k1
  go_wp2_with fail
  go_quiet (fail)
  go_wp2_with fail
  go_ret
  exact Lfd.no HX.out (Kb.drewM (Kb.of_below hb.out) _)
 have d1_0:decide (t.since<xt.since)=false:=by simp<;>omega
 by_cases k2:t.since<x.row
 ·have d2_0:decide (t.since<x.row)=true:=by simp<;>omega
  have HX:Hid (¬ P):=⟨by rw[hP.out];omega⟩
  clear k2
  go_wp2_with fail
  go_quiet (fail)
  go_wp2_with fail
  go_ret
  exact Lfd.no HX.out (Kb.drewM (Kb.of_below hb.out) _)
 have d2_0:decide (t.since<x.row)=false:=by simp<;>omega
 by_cases k3:f.ver<t.since
 ·have d3_0:decide (t.since > f.ver)=true:=by simp<;>omega
  have HX:Hid (¬ P):=⟨by rw[hP.out];omega⟩
  clear k3
  go_wp2_with fail
  go_quiet (fail)
  go_wp2_with fail
  go_ret
  exact Lfd.no HX.out (Kb.drewM (Kb.of_below hb.out) _)
 have d3_0:decide (t.since > f.ver)=false:=by simp<;>omega
 have hk:Hid (xt.since<=t.since/\x.row<=t.since/\t.since<=f.ver):=⟨by omega,by omega,by omega⟩
 have hP':Hid (P↔(t.a.o=0/\lieB t.a 4=true/\t.siz=sz t.a.p/\(t.prim=0\/t.prim=5))):=⟨by rw[hP.out];have:=hk.out;simp[this]⟩
 clear hP hk k1 k2 k3
 have hP:=hP'
 clear hP'
 go_wp2_with fail
 go_quiet (fail)
 have h3:Dt ((W2.drewN nq).setCell ⟨c.go,L.length*5+4,none⟩ (.int .i64 t.since)) c f L { x with row:=t.since } xt t ids vi:=(h2.out.below (tdr (Below.refl _ _))).wrote (j:=4) (by decide) rfl rfl
 have tT:TkC ((W2.drewN nq).setCell ⟨c.go,L.length*5+4,none⟩ (.int .i64 t.since)) w.heap.size 0 t pc cc:=(hTT.out.same (w':=W2.drewN nq) rfl).same (set_oth gT.symm)
 have KB:Hid (Kb [c.go] w ((W2.drewN nq).setCell ⟨c.go,L.length*5+4,none⟩ (.int .i64 t.since))):=⟨(Kb.drewM (Kb.of_below hb.out) nq).set (List.mem_singleton.2 rfl) _⟩
 have gl3:=KB.out.size
 replace h3:=Hid.mk h3
 replace tT:=Hid.mk tT
 go_wp2_with fail
 generalize (W2.drewN nq).setCell ⟨c.go,L.length*5+4,none⟩ (.int .i64 t.since)=W3 at h3 tT KB gl3 ⊢
 obtain⟨p,p0,pB,hNe,pc',pk⟩:=clsB W3
 have wTl:w.heap.size<W3.heap.size:=by
  have e:=tT.out.c0
  simp only[World.cell?] at e
  cases hh:W3.heap[w.heap.size]? with
  | none=>rw[hh] at e;cases e
  | some o=>exact(Array.getElem?_eq_some_iff.1 hh).1
 have f4:∀ θ:CW p,θ.w.cell? ⟨w.heap.size,4,none⟩=some (.int .i64 t.siz):=fun θ=>(pc' w.heap.size 4 wTl θ).trans tT.out.c4
 have f6:∀ θ:CW p,θ.w.cell? ⟨w.heap.size,6,none⟩=some (.int .i64 t.prim):=fun θ=>(pc' w.heap.size 6 wTl θ).trans tT.out.c6
 have f16:∀ θ:CW p,θ.w.cell? ⟨w.heap.size,16,none⟩=some (.int .i64 t.a.p):=fun θ=>(pc' w.heap.size 16 wTl θ).trans tT.out.c16
 have f17:∀ θ:CW p,θ.w.cell? ⟨w.heap.size,17,none⟩=some (.int .i64 t.a.o):=fun θ=>(pc' w.heap.size 17 wTl θ).trans tT.out.c17
 have cL:=pk _ _ _ (fun W _=>refLies_any t.a 4 W (by omega))
 have cZ:=pk _ _ _ (fun W _=>(refSize_any t.a.p W).mono fun _ _ hh=>⟨hh.1,hh.2▸Below.refl _ _⟩)
 clear pc' pk
 replace pB:=Hid.mk pB
 generalize lieB t.a 4=q1 at *
 generalize sz t.a.p=z at *
 by_cases k4:¬ t.a.o=0
 ·have d4_0:(t.a.o==0)=false:=by simp<;>omega
  have HX:Hid (¬ P):=⟨by rw[hP.out];omega⟩
  clear k4
  refine wp_region_lp p (by kernel_rfl) (by kernel_rfl) (fun _ _ d _ _ h=>by cases d<;>exact h) p0 fun W hp=>?_
  repeat (first|(refine lx_one rfl ?_;(first|go_big_quiet_skip|(go_big_quiet_want;go_big_quiet_op;go_big_quiet_on));refine wpQuiet_nil ?_)|(refine lx_p2 ent_lies cL hp rfl rfl (by rfl) ?_;intro W hp;simp only[pts])|(refine lx_p1 ent_rsize cZ hp rfl (by rfl) ?_;intro W hp;simp only[pts])|(refine lx_skip (by rfl) ?_;simp only[pts]))
  refine lx_done ?_
  go_wp2_with fail
  go_ret
  exact Lfd.no HX.out (KB.out.trans (Kb.of_below (pB.out _ hp)))
 have d4_0:(t.a.o==0)=true:=by simp<;>omega
 by_cases eq1:q1=false
 ·subst eq1
  have HX:Hid (¬ P):=⟨by rw[hP.out];simp⟩
  refine wp_region_lp p (by kernel_rfl) (by kernel_rfl) (fun _ _ d _ _ h=>by cases d<;>exact h) p0 fun W hp=>?_
  repeat (first|(refine lx_one rfl ?_;(first|go_big_quiet_skip|(go_big_quiet_want;go_big_quiet_op;go_big_quiet_on));refine wpQuiet_nil ?_)|(refine lx_p2 ent_lies cL hp rfl rfl (by rfl) ?_;intro W hp;simp only[pts])|(refine lx_p1 ent_rsize cZ hp rfl (by rfl) ?_;intro W hp;simp only[pts])|(refine lx_skip (by rfl) ?_;simp only[pts]))
  refine lx_done ?_
  go_wp2_with fail
  go_ret
  exact Lfd.no HX.out (KB.out.trans (Kb.of_below (pB.out _ hp)))
 obtain rfl:q1=true:=by simpa using eq1
 by_cases k5:¬ t.siz=z
 ·have d5_0:(t.siz==z)=false:=by simp<;>omega
  have HX:Hid (¬ P):=⟨by rw[hP.out];omega⟩
  clear k5
  refine wp_region_lp p (by kernel_rfl) (by kernel_rfl) (fun _ _ d _ _ h=>by cases d<;>exact h) p0 fun W hp=>?_
  repeat (first|(refine lx_one rfl ?_;(first|go_big_quiet_skip|(go_big_quiet_want;go_big_quiet_op;go_big_quiet_on));refine wpQuiet_nil ?_)|(refine lx_p2 ent_lies cL hp rfl rfl (by rfl) ?_;intro W hp;simp only[pts])|(refine lx_p1 ent_rsize cZ hp rfl (by rfl) ?_;intro W hp;simp only[pts])|(refine lx_skip (by rfl) ?_;simp only[pts]))
  refine lx_done ?_
  go_wp2_with fail
  go_ret
  exact Lfd.no HX.out (KB.out.trans (Kb.of_below (pB.out _ hp)))
 have d5_0:(t.siz==z)=true:=by simp<;>omega
 have hr:Hid (P↔(t.prim=0\/t.prim=5)):=⟨by rw[hP.out];simp;omega⟩
 clear hP k4 k5
 by_cases e0:t.prim=0
 ·have m0:(t.prim==0)=true:=by simp[e0]
  have HX:Hid P:=⟨by rw[hr.out];exact .inl e0⟩
  clear e0
  refine wp_region_lp p (by kernel_rfl) (by kernel_rfl) (fun _ _ d _ _ h=>by cases d<;>exact h) p0 fun W hp=>?_
  repeat (first|(refine lx_one rfl ?_;(first|go_big_quiet_skip|(go_big_quiet_want;go_big_quiet_op;go_big_quiet_on));refine wpQuiet_nil ?_)|(refine lx_p2 ent_lies cL hp rfl rfl (by rfl) ?_;intro W hp;simp only[pts])|(refine lx_p1 ent_rsize cZ hp rfl (by rfl) ?_;intro W hp;simp only[pts])|(refine lx_skip (by rfl) ?_;simp only[pts]))
  refine lx_done ?_
  go_wp2_with fail
  go_ret
  exact Lfd.yes HX.out (KB.out.trans (Kb.of_below (pB.out _ hp))) (hQ.out _ (h3.out.below (pB.out _ hp)))
 ·have m0:(t.prim==0)=false:=by simp[e0]
  have HX:Hid (P↔t.prim=5):=⟨by rw[hr.out];simp[e0]⟩
  clear e0
  refine wp_region_lp p (by kernel_rfl) (by kernel_rfl) (fun _ _ d _ _ h=>by cases d<;>exact h) p0 fun W hp=>?_
  repeat (first|(refine lx_one rfl ?_;(first|go_big_quiet_skip|(go_big_quiet_want;go_big_quiet_op;go_big_quiet_on));refine wpQuiet_nil ?_)|(refine lx_p2 ent_lies cL hp rfl rfl (by rfl) ?_;intro W hp;simp only[pts])|(refine lx_p1 ent_rsize cZ hp rfl (by rfl) ?_;intro W hp;simp only[pts])|(refine lx_skip (by rfl) ?_;simp only[pts]))
  refine lx_done ?_
  go_wp2_with fail
  go_ret
  refine⟨_,rfl,Iff.trans ?_ HX.out.symm,KB.out.trans (Kb.of_below (pB.out _ hp)),fun _=>hQ.out _ (h3.out.below (pB.out _ hp))⟩
  simp
theorem refRowed_gd (c:Df) (f:Fm) (L:List Od) (x:Od) (xt t:Tk) (ids:List Int) (vi:Value) (w:World) (P:Prop) (Q:World->Prop) (h:Dt w c f L x xt t ids vi) (ho:xt.op=4) (hp:t.op=6)
  (hP:Hid (P↔((t.since=xt.since)/\t.a.o=0/\lieB t.a 4=true/\t.siz=sz t.a.p/\(t.prim=0\/t.prim=5)))) (hQ:Hid (∀ w',Dt w' c f L x xt t ids vi->Q w')) :
  Calls Tryz.prog 34 #[.pointer (some ⟨c.B,0,none⟩),.int .i64 (c.i:Int),.pointer (some ⟨c.go,L.length*5,none⟩)] w fun r w'=>Lfd r P c w w' (Q w'):=by
 have a4:(xt.op==4)=true:=by simp[ho]
 have b6:(t.op==6)=true:=by simp[hp]
 clear ho hp
 obtain⟨pc,cc,hT,hU,hC,hO⟩:=h.tk
 obtain⟨px,cx,hTx,hOx⟩:=h.xk
 have b12:=h.ds.c12
 have hii:(c.i:Int)<f.toks.length:=by have:=h.il;omega
 have hxl:(x.at_:Int)<f.toks.length:=by have:=h.xl;omega
 have hll:=h.ll
 have l1:=hT.load
 have hgo:=h.op.lt
 obtain⟨W1,s1,hA,hb1,hz1⟩:=ld_new w t pc cc
 have h1:=h.below hb1
 have hX1:=hTx.below (B:=w.heap.size) h.lg hb1
 obtain⟨p,p0,pB,pI,hNe,pc',pl,pk⟩:=clsT W1
 have f12:=fun θ=>(pc' c.B 12 h1.ds.lt θ).trans h1.ds.c12
 have f0:=fun θ=>(pc' c.go (L.length*5) h1.op.lt θ).trans h1.sc.c0
 have lu:=pl c.g _ xt px cx h1.lg hX1
 clear pc' pl pk hX1 hTx
 replace l1:=Hid.mk l1
 replace s1:=Hid.mk s1
 replace h:=Hid.mk h
 replace h1:=Hid.mk h1
 replace hA:=Hid.mk hA
 replace hb1:=Hid.mk hb1
 replace hO:=Hid.mk hO
 replace hOx:=Hid.mk hOx
 clear hT hU hC
 go_enter Tryz.func34,Tryz.ntmps34
 go_wp2_with (first
  | (guard_target =~ wpList _ _ _ (Oper.mk _ (Op.load 53 _) _ _ _ _::_) _ _;go_must (first|refine wpList_ld 53 _ rfl rfl _ _ rfl l1.out ?_);simp only[pts])
  | (guard_target =~ wpList _ _ _ (Oper.mk _ (Op.store 53 _ _) _ _ _ _::_) _ _;go_must (refine wpList_st 53 _ _ rfl rfl _ _ rfl rfl (s1.out _ rfl) ?_);simp only[pts]))
 refine wp_region_lp p (by kernel_rfl) (by kernel_rfl) (fun _ _ d _ _ h=>by cases d<;>exact h) p0 fun W hp=>?_
 repeat (first|(guard_target =~ Lx _ _ _ _ (Oper.mk _ (Op.load 53 _) _ _ _ _::_) _ _;(first|refine lx_ld lu rfl rfl ?_);simp only[pts])|(guard_target =~ Lx _ _ _ _ (Oper.mk _ (Op.alloc 53) _ _ _ _::_) _ _;refine lx_act (by rfl) (by rfl) ?_;intro K hK;go_simp;refine hK _ _ ⟨⟨_,pI _ ((pB _ hp).trans ((bel1 W _).mono (pB _ hp).size))⟩,rfl⟩ ?_;clear hK K)|(guard_target =~ Lx _ _ _ _ (Oper.mk _ (Op.store 53 _ _) _ _ _ _::_) _ _;obtain⟨W2,s2,hY,hb2,hz2⟩:=ld_new W xt px cx;refine lx_st (s2 _ rfl) ⟨⟨W2,pI _ ((pB _ hp).trans (hb2.mono (pB _ hp).size))⟩,rfl⟩ rfl rfl (by rfl) ?_;clear s2;simp only[pts])|(refine lx_one rfl ?_;(first|go_big_quiet_skip|(go_big_quiet_want;go_big_quiet_op;go_big_quiet_on));refine wpQuiet_nil ?_)|(refine lx_skip (by rfl) ?_;simp only[pts]))
 refine lx_done ?_
 have hbW:=pB _ hp
 have hb:Below w.heap.size w W2:=hb1.out.trans ((hbW.trans (hb2.mono hbW.size)).mono hb1.out.size)
 have h2:=h.out.below hb
 have hTT:TkC W2 w.heap.size 0 t pc cc:=hA.out.below (B:=W1.heap.size) (by omega) (hbW.trans (hb2.mono hbW.size))
 have gT:w.heap.size≠c.go:=by omega
 have gO:W.heap.size≠c.go:=by have:=hbW.size;omega
 have gTl:w.heap.size<W2.heap.size:=by have:=hbW.size;omega
 have gOl:W.heap.size<W2.heap.size:=by omega
 have t0:=hTT.c0
 have t5:=hTT.c5
 have o0:=hY.c0
 have o5:=hY.c5
 replace h2:=Hid.mk h2
 replace hb:=Hid.mk hb
 replace hTT:=Hid.mk hTT
 replace hYY:Hid _:=⟨hY⟩
 clear pB pI p0 f0 f12 hNe hp lu hY hbW
 simp only[Nat.zero_add] at t0 t5 o0 o5
 by_cases k6:¬ t.since=xt.since
 ·have d6_0:(t.since != xt.since)=true:=by simp<;>omega
  have HX:Hid (¬ P):=⟨by rw[hP.out];omega⟩
  clear k6
  go_wp2_with fail
  go_ret
  exact Lfd.no HX.out (Kb.of_below hb.out)
 have d6_0:(t.since != xt.since)=false:=by simp<;>omega
 have hk:Hid _:=⟨Decidable.not_not.1 k6⟩
 have hP':Hid (P↔(t.a.o=0/\lieB t.a 4=true/\t.siz=sz t.a.p/\(t.prim=0\/t.prim=5))):=⟨by rw[hP.out];have:=hk.out;simp[this]⟩
 clear hP k6 hk
 have hP:=hP'
 clear hP'
 have KB:Hid (Kb [c.go] w W2):=⟨Kb.of_below hb.out⟩
 have h3:=h2.out
 have tT:=hTT.out
 have gl3:=KB.out.size
 replace h3:=Hid.mk h3
 replace tT:=Hid.mk tT
 go_wp2_with fail
 obtain⟨p,p0,pB,hNe,pc',pk⟩:=clsB W2
 have wTl:w.heap.size<W2.heap.size:=by
  have e:=tT.out.c0
  simp only[World.cell?] at e
  cases hh:W2.heap[w.heap.size]? with
  | none=>rw[hh] at e;cases e
  | some o=>exact(Array.getElem?_eq_some_iff.1 hh).1
 have f4:∀ θ:CW p,θ.w.cell? ⟨w.heap.size,4,none⟩=some (.int .i64 t.siz):=fun θ=>(pc' w.heap.size 4 wTl θ).trans tT.out.c4
 have f6:∀ θ:CW p,θ.w.cell? ⟨w.heap.size,6,none⟩=some (.int .i64 t.prim):=fun θ=>(pc' w.heap.size 6 wTl θ).trans tT.out.c6
 have f16:∀ θ:CW p,θ.w.cell? ⟨w.heap.size,16,none⟩=some (.int .i64 t.a.p):=fun θ=>(pc' w.heap.size 16 wTl θ).trans tT.out.c16
 have f17:∀ θ:CW p,θ.w.cell? ⟨w.heap.size,17,none⟩=some (.int .i64 t.a.o):=fun θ=>(pc' w.heap.size 17 wTl θ).trans tT.out.c17
 have cL:=pk _ _ _ (fun W _=>refLies_any t.a 4 W (by omega))
 have cZ:=pk _ _ _ (fun W _=>(refSize_any t.a.p W).mono fun _ _ hh=>⟨hh.1,hh.2▸Below.refl _ _⟩)
 clear pc' pk
 replace pB:=Hid.mk pB
 generalize lieB t.a 4=q1 at *
 generalize sz t.a.p=z at *
 by_cases k7:¬ t.a.o=0
 ·have d7_0:(t.a.o==0)=false:=by simp<;>omega
  have HX:Hid (¬ P):=⟨by rw[hP.out];omega⟩
  clear k7
  refine wp_region_lp p (by kernel_rfl) (by kernel_rfl) (fun _ _ d _ _ h=>by cases d<;>exact h) p0 fun W hp=>?_
  repeat (first|(refine lx_one rfl ?_;(first|go_big_quiet_skip|(go_big_quiet_want;go_big_quiet_op;go_big_quiet_on));refine wpQuiet_nil ?_)|(refine lx_p2 ent_lies cL hp rfl rfl (by rfl) ?_;intro W hp;simp only[pts])|(refine lx_p1 ent_rsize cZ hp rfl (by rfl) ?_;intro W hp;simp only[pts])|(refine lx_skip (by rfl) ?_;simp only[pts]))
  refine lx_done ?_
  go_wp2_with fail
  go_ret
  exact Lfd.no HX.out (KB.out.trans (Kb.of_below (pB.out _ hp)))
 have d7_0:(t.a.o==0)=true:=by simp<;>omega
 by_cases eq1:q1=false
 ·subst eq1
  have HX:Hid (¬ P):=⟨by rw[hP.out];simp⟩
  refine wp_region_lp p (by kernel_rfl) (by kernel_rfl) (fun _ _ d _ _ h=>by cases d<;>exact h) p0 fun W hp=>?_
  repeat (first|(refine lx_one rfl ?_;(first|go_big_quiet_skip|(go_big_quiet_want;go_big_quiet_op;go_big_quiet_on));refine wpQuiet_nil ?_)|(refine lx_p2 ent_lies cL hp rfl rfl (by rfl) ?_;intro W hp;simp only[pts])|(refine lx_p1 ent_rsize cZ hp rfl (by rfl) ?_;intro W hp;simp only[pts])|(refine lx_skip (by rfl) ?_;simp only[pts]))
  refine lx_done ?_
  go_wp2_with fail
  go_ret
  exact Lfd.no HX.out (KB.out.trans (Kb.of_below (pB.out _ hp)))
 obtain rfl:q1=true:=by simpa using eq1
 by_cases k8:¬ t.siz=z
 ·have d8_0:(t.siz==z)=false:=by simp<;>omega
  have HX:Hid (¬ P):=⟨by rw[hP.out];omega⟩
  clear k8
  refine wp_region_lp p (by kernel_rfl) (by kernel_rfl) (fun _ _ d _ _ h=>by cases d<;>exact h) p0 fun W hp=>?_
  repeat (first|(refine lx_one rfl ?_;(first|go_big_quiet_skip|(go_big_quiet_want;go_big_quiet_op;go_big_quiet_on));refine wpQuiet_nil ?_)|(refine lx_p2 ent_lies cL hp rfl rfl (by rfl) ?_;intro W hp;simp only[pts])|(refine lx_p1 ent_rsize cZ hp rfl (by rfl) ?_;intro W hp;simp only[pts])|(refine lx_skip (by rfl) ?_;simp only[pts]))
  refine lx_done ?_
  go_wp2_with fail
  go_ret
  exact Lfd.no HX.out (KB.out.trans (Kb.of_below (pB.out _ hp)))
 have d8_0:(t.siz==z)=true:=by simp<;>omega
 have hr:Hid (P↔(t.prim=0\/t.prim=5)):=⟨by rw[hP.out];simp;omega⟩
 clear hP k7 k8
 by_cases e0:t.prim=0
 ·have m0:(t.prim==0)=true:=by simp[e0]
  have HX:Hid P:=⟨by rw[hr.out];exact .inl e0⟩
  clear e0
  refine wp_region_lp p (by kernel_rfl) (by kernel_rfl) (fun _ _ d _ _ h=>by cases d<;>exact h) p0 fun W hp=>?_
  repeat (first|(refine lx_one rfl ?_;(first|go_big_quiet_skip|(go_big_quiet_want;go_big_quiet_op;go_big_quiet_on));refine wpQuiet_nil ?_)|(refine lx_p2 ent_lies cL hp rfl rfl (by rfl) ?_;intro W hp;simp only[pts])|(refine lx_p1 ent_rsize cZ hp rfl (by rfl) ?_;intro W hp;simp only[pts])|(refine lx_skip (by rfl) ?_;simp only[pts]))
  refine lx_done ?_
  go_wp2_with fail
  go_ret
  exact Lfd.yes HX.out (KB.out.trans (Kb.of_below (pB.out _ hp))) (hQ.out _ (h3.out.below (pB.out _ hp)))
 ·have m0:(t.prim==0)=false:=by simp[e0]
  have HX:Hid (P↔t.prim=5):=⟨by rw[hr.out];simp[e0]⟩
  clear e0
  refine wp_region_lp p (by kernel_rfl) (by kernel_rfl) (fun _ _ d _ _ h=>by cases d<;>exact h) p0 fun W hp=>?_
  repeat (first|(refine lx_one rfl ?_;(first|go_big_quiet_skip|(go_big_quiet_want;go_big_quiet_op;go_big_quiet_on));refine wpQuiet_nil ?_)|(refine lx_p2 ent_lies cL hp rfl rfl (by rfl) ?_;intro W hp;simp only[pts])|(refine lx_p1 ent_rsize cZ hp rfl (by rfl) ?_;intro W hp;simp only[pts])|(refine lx_skip (by rfl) ?_;simp only[pts]))
  refine lx_done ?_
  go_wp2_with fail
  go_ret
  refine⟨_,rfl,Iff.trans ?_ HX.out.symm,KB.out.trans (Kb.of_below (pB.out _ hp)),fun _=>hQ.out _ (h3.out.below (pB.out _ hp))⟩
  simp
end Go.Proofs.YtjnafpefolgcoaaGreatDoor
