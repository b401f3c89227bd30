import Derived.Test.YtcgimchhcaankaaGreatDoorK24
namespace Go.Proofs.YtcgimchhcaankaaGreatDoor
set_option maxRecDepth 1000000
set_option maxHeartbeats 16000000
open Go.ChangeShapes Go.WideShapes Go.ChangeAt Go.RowKit Go.Shelf Go.Maps
theorem fits_sz {p b:Int} (h:sz p=0):fitsP p b=false:=by unfold fitsP fitsF;rw[h];simp
theorem encR_iff {t:Tk}:encR t=true↔sz t.prim≠0/\(1<=t.len/\t.len<=65535)/\fitsP t.prim t.nul=true/\fitsP t.prim t.lo=true/\fitsP t.prim t.hi=true/\((t.pres≠2/\t.siz=t.len*sz t.prim/\t.cst.length=0)\/(t.pres=2/\t.siz=0/\(t.cst.length:Int)=t.len/\t.cst.all (fitsP t.prim)=true)):=by
 by_cases hz:sz t.prim=0
 ·unfold encR
  rw[fits_sz hz]
  simp[hz]
 ·unfold encR bet
  generalize t.cst.all (fitsP t.prim)=q
  generalize fitsP t.prim t.nul=q1
  generalize fitsP t.prim t.lo=q2
  generalize fitsP t.prim t.hi=q3
  generalize t.cst.length=n
  by_cases hp:t.pres=2
  ·simp[hp,hz,and_assoc]
  ·simp[hp,hz,and_assoc]
theorem ent_rsize:∀ ag w,(callFunc 47 ag).run Tryz.prog w = .ok (.enter 47 ag) w:=enters_of Tryz.func47 (by kernel_rfl) rfl
theorem ent_rfits:∀ ag w,(callFunc 52 ag).run Tryz.prog w = .ok (.enter 52 ag) w:=enters_of Tryz.func52 (by kernel_rfl) rfl
theorem rfits_b (p b:Int) (w:World) (h:u64ok b):Calls Tryz.prog 52 #[.int .i64 p,.int .u64 b] w fun e w'=>e = .returned (.bool (fitsP p b))/\w'=w:=by
 unfold u64ok at h
 exact refFits_any p b w h.1 (by omega)
theorem refEncoded_any (t:Tk) (pc:Option Addr) (cc:Nat) (w:World) (hu:URow w pc w.heap.size t.cst) (hO:TkOk t) :
  Calls Tryz.prog 37 #[tkV t pc cc] w fun r w'=>r = .returned (.bool (encR t))/\Below w.heap.size w w':=by
 suffices hh:Calls Tryz.prog 37 #[tkV t pc cc] w fun r w'=>Ans r (encR t=true)/\Below w.heap.size w w' from hh.mono fun r w' h=>⟨h.1.same,h.2⟩
 generalize hPd:(encR t=true)=P
 have hP:Hid (P↔(sz t.prim≠0/\(1<=t.len/\t.len<=65535)/\fitsP t.prim t.nul=true/\fitsP t.prim t.lo=true/\fitsP t.prim t.hi=true/\((t.pres≠2/\t.siz=t.len*sz t.prim/\t.cst.length=0)\/(t.pres=2/\t.siz=0/\(t.cst.length:Int)=t.len/\t.cst.all (fitsP t.prim)=true)))):=⟨hPd▸encR_iff⟩
 clear hPd
 have hA:=tk_of (heap_al w (tkO t pc cc))
 have HB:Below w.heap.size w (w.alloc (tkO t pc cc)):=bel1 _ _
 have HS:w.heap.size<(w.alloc (tkO t pc cc)).heap.size:=by simp
 simp only[tkO,tkC] at hA HB HS
 generalize hW:w.alloc (.cells [Value.int .i64 t.op,.string t.name,.int .i64 t.id,.int .i64 t.off,.int .i64 t.siz,.int .i64 t.since,.int .i64 t.prim,.int .i64 t.len,.int .i64 t.pres,.int .u64 t.nul,.int .u64 t.lo,.int .u64 t.hi,.slice pc t.cst.length cc,.int .u64 t.val,.int .i64 t.blk,.int .i64 t.full,.int .i64 t.a.p,.int .i64 t.a.o,.int .i64 t.b.p,.int .i64 t.b.o,.int .i64 t.pair].toArray 40)=W at hA HB HS
 have c4:W.cell? ⟨w.heap.size,4,none⟩=some (.int .i64 t.siz):=hA.c4
 have c6:W.cell? ⟨w.heap.size,6,none⟩=some (.int .i64 t.prim):=hA.c6
 have c7:W.cell? ⟨w.heap.size,7,none⟩=some (.int .i64 t.len):=hA.c7
 have c8:W.cell? ⟨w.heap.size,8,none⟩=some (.int .i64 t.pres):=hA.c8
 have c9:W.cell? ⟨w.heap.size,9,none⟩=some (.int .u64 t.nul):=hA.c9
 have c10:W.cell? ⟨w.heap.size,10,none⟩=some (.int .u64 t.lo):=hA.c10
 have c11:W.cell? ⟨w.heap.size,11,none⟩=some (.int .u64 t.hi):=hA.c11
 have c12:W.cell? ⟨w.heap.size,12,none⟩=some (.slice pc t.cst.length cc):=hA.c12
 have cS:=refSize_any t.prim W
 have cF1:=rfits_b t.prim t.nul W hO.nul
 have cF2:=rfits_b t.prim t.lo W hO.lo
 have cF3:=rfits_b t.prim t.hi W hO.hi
 have HF:Hid (∀ W2,Below W.heap.size W W2->TkC W2 w.heap.size 0 t pc cc/\URow W2 pc w.heap.size t.cst):=⟨fun W2 h2=>⟨hA.below HS h2,hu.below (HB.trans (h2.mono (Nat.le_of_lt HS)))⟩⟩
 have hlen:=hO.cst
 have hzb:=sz_b t.prim
 replace hA:=Hid.mk hA
 replace HB:=Hid.mk HB
 have hlok:=hO.len
 unfold i64ok at hlok
 have hF:=fun v (hv:v∈t.cst) W2=>rfits_b t.prim v W2 (hO.cs v hv)
 replace hF:=Hid.mk hF
 clear hO hu
 generalize hq1:fitsP t.prim t.nul=q1 at *
 generalize hq2:fitsP t.prim t.lo=q2 at *
 generalize hq3:fitsP t.prim t.hi=q3 at *
 clear hq1 hq2 hq3
 generalize hz:sz t.prim=z at *
 clear hz
 by_cases k1:z=0
 ·have d1:(z==0)=true:=by simp[k1]
  have HX:Hid (¬ P):=⟨by rw[hP.out];simp_all⟩
  clear hP k1
  go_enter Tryz.func37,Tryz.ntmps37
  go_wp2_with (first|(go_at_call 47;refine cS.mono ?_;rintro _ wq ⟨rfl,e⟩;obtain rfl:W=wq:=e.symm)|(go_at_call 52;refine cF1.mono ?_;rintro _ wq ⟨rfl,e⟩;obtain rfl:W=wq:=e.symm;clear cF1)|(go_at_call 52;refine cF2.mono ?_;rintro _ wq ⟨rfl,e⟩;obtain rfl:W=wq:=e.symm;clear cF2)|(go_at_call 52;refine cF3.mono ?_;rintro _ wq ⟨rfl,e⟩;obtain rfl:W=wq:=e.symm;clear cF3))
  go_ret
  exact⟨Ans.no HX.out,HB.out⟩
 have d1:(z==0)=false:=by simp[k1]
 by_cases k2:t.len<1
 ·have d2:decide (t.len<1)=true:=by simp;omega
  have HX:Hid (¬ P):=⟨by rw[hP.out];omega⟩
  clear hP
  go_enter Tryz.func37,Tryz.ntmps37
  go_wp2_with (first|(go_at_call 47;refine cS.mono ?_;rintro _ wq ⟨rfl,e⟩;obtain rfl:W=wq:=e.symm)|(go_at_call 52;refine cF1.mono ?_;rintro _ wq ⟨rfl,e⟩;obtain rfl:W=wq:=e.symm;clear cF1)|(go_at_call 52;refine cF2.mono ?_;rintro _ wq ⟨rfl,e⟩;obtain rfl:W=wq:=e.symm;clear cF2)|(go_at_call 52;refine cF3.mono ?_;rintro _ wq ⟨rfl,e⟩;obtain rfl:W=wq:=e.symm;clear cF3))
  go_ret
  exact⟨Ans.no HX.out,HB.out⟩
 have d2:decide (t.len<1)=false:=by simp;omega
 by_cases k3:65535<t.len
 ·have d3:decide (t.len > 65535)=true:=by simp;omega
  have HX:Hid (¬ P):=⟨by rw[hP.out];omega⟩
  clear hP
  go_enter Tryz.func37,Tryz.ntmps37
  go_wp2_with (first|(go_at_call 47;refine cS.mono ?_;rintro _ wq ⟨rfl,e⟩;obtain rfl:W=wq:=e.symm)|(go_at_call 52;refine cF1.mono ?_;rintro _ wq ⟨rfl,e⟩;obtain rfl:W=wq:=e.symm;clear cF1)|(go_at_call 52;refine cF2.mono ?_;rintro _ wq ⟨rfl,e⟩;obtain rfl:W=wq:=e.symm;clear cF2)|(go_at_call 52;refine cF3.mono ?_;rintro _ wq ⟨rfl,e⟩;obtain rfl:W=wq:=e.symm;clear cF3))
  go_ret
  exact⟨Ans.no HX.out,HB.out⟩
 have d3:decide (t.len > 65535)=false:=by simp;omega
 by_cases eq1:q1=false
 ·subst eq1
  have HX:Hid (¬ P):=⟨by rw[hP.out];simp_all⟩
  clear hP
  go_enter Tryz.func37,Tryz.ntmps37
  go_wp2_with (first|(go_at_call 47;refine cS.mono ?_;rintro _ wq ⟨rfl,e⟩;obtain rfl:W=wq:=e.symm)|(go_at_call 52;refine cF1.mono ?_;rintro _ wq ⟨rfl,e⟩;obtain rfl:W=wq:=e.symm;clear cF1)|(go_at_call 52;refine cF2.mono ?_;rintro _ wq ⟨rfl,e⟩;obtain rfl:W=wq:=e.symm;clear cF2)|(go_at_call 52;refine cF3.mono ?_;rintro _ wq ⟨rfl,e⟩;obtain rfl:W=wq:=e.symm;clear cF3))
  go_ret
  exact⟨Ans.no HX.out,HB.out⟩
 obtain rfl:q1=true:=by simpa using eq1
 by_cases eq2:q2=false
 ·subst eq2
  have HX:Hid (¬ P):=⟨by rw[hP.out];simp_all⟩
  clear hP
  go_enter Tryz.func37,Tryz.ntmps37
  go_wp2_with (first|(go_at_call 47;refine cS.mono ?_;rintro _ wq ⟨rfl,e⟩;obtain rfl:W=wq:=e.symm)|(go_at_call 52;refine cF1.mono ?_;rintro _ wq ⟨rfl,e⟩;obtain rfl:W=wq:=e.symm;clear cF1)|(go_at_call 52;refine cF2.mono ?_;rintro _ wq ⟨rfl,e⟩;obtain rfl:W=wq:=e.symm;clear cF2)|(go_at_call 52;refine cF3.mono ?_;rintro _ wq ⟨rfl,e⟩;obtain rfl:W=wq:=e.symm;clear cF3))
  go_ret
  exact⟨Ans.no HX.out,HB.out⟩
 obtain rfl:q2=true:=by simpa using eq2
 by_cases eq3:q3=false
 ·subst eq3
  have HX:Hid (¬ P):=⟨by rw[hP.out];simp_all⟩
  clear hP
  go_enter Tryz.func37,Tryz.ntmps37
  go_wp2_with (first|(go_at_call 47;refine cS.mono ?_;rintro _ wq ⟨rfl,e⟩;obtain rfl:W=wq:=e.symm)|(go_at_call 52;refine cF1.mono ?_;rintro _ wq ⟨rfl,e⟩;obtain rfl:W=wq:=e.symm;clear cF1)|(go_at_call 52;refine cF2.mono ?_;rintro _ wq ⟨rfl,e⟩;obtain rfl:W=wq:=e.symm;clear cF2)|(go_at_call 52;refine cF3.mono ?_;rintro _ wq ⟨rfl,e⟩;obtain rfl:W=wq:=e.symm;clear cF3))
  go_ret
  exact⟨Ans.no HX.out,HB.out⟩
 obtain rfl:q3=true:=by simpa using eq3
 have hP2:Hid (P↔((t.pres≠2/\t.siz=t.len*z/\t.cst.length=0)\/(t.pres=2/\t.siz=0/\(t.cst.length:Int)=t.len/\t.cst.all (fitsP t.prim)=true))):=⟨by
  rw[hP.out]
  constructor
  ·exact fun h=>h.2.2.2.2.2
  ·exact fun h=>⟨k1,by omega,rfl,rfl,rfl,h⟩⟩
 clear hP
 have hw:IntKind.i64.wrap (t.len*z)=t.len*z:=by
  rw[IntKind.wrap_i64]
  have h0:0<=t.len*z:=Int.mul_nonneg (by omega) (by omega)
  have h1:t.len*z<=65535*8:=Int.mul_le_mul (by omega) (by omega) (by omega) (by omega)
  omega
 replace k1:=Hid.mk k1
 by_cases k4:t.pres=2
 ·have d4:(t.pres != 2)=false:=by simp[k4]
  have hP:Hid (P↔(t.siz=0/\(t.cst.length:Int)=t.len/\t.cst.all (fitsP t.prim)=true)):=⟨by rw[hP2.out];simp[k4]⟩
  clear hP2 k4
  by_cases k5:t.siz=0
  ·have d5:(t.siz != 0)=false:=by simp[k5]
   by_cases k6:(t.cst.length:Int)=t.len
   ·have d6:((t.cst.length:Int) != t.len)=false:=by simp[k6]
    have hP3:Hid (P↔(t.cst.drop 0).all (fitsP t.prim)=true):=⟨by rw[hP.out];simp[k5,k6]⟩
    clear hP k5 k6
    go_enter Tryz.func37,Tryz.ntmps37
    go_wp2_with (first|(go_at_call 47;refine cS.mono ?_;rintro _ wq ⟨rfl,e⟩;obtain rfl:W=wq:=e.symm)|(go_at_call 52;refine cF1.mono ?_;rintro _ wq ⟨rfl,e⟩;obtain rfl:W=wq:=e.symm;clear cF1)|(go_at_call 52;refine cF2.mono ?_;rintro _ wq ⟨rfl,e⟩;obtain rfl:W=wq:=e.symm;clear cF2)|(go_at_call 52;refine cF3.mono ?_;rintro _ wq ⟨rfl,e⟩;obtain rfl:W=wq:=e.symm;clear cF3))
    clear d1 d2 d3 d4 d5 d6 cS c4 c6 c7 c8 c9 c10 c11 c12
    go_loopw [4,5] (fun q q5 wr=>∃ j:Nat,j<=t.cst.length/\q = .int .i64 j/\Below W.heap.size W wr/\Hid (P↔(t.cst.drop j).all (fitsP t.prim)=true)/\q5=q5) (fun q _ _=>t.cst.length-(RowKit.intOf q).toNat)
    case atStart=>exact⟨0,Nat.zero_le _,rfl,Below.refl _ _,hP3,rfl⟩
    case round =>
     obtain⟨j,hj,rfl,hB,hR,-⟩:=hrel
     obtain⟨g,gu⟩:=HF.out wr hB
     have c6:wr.cell? ⟨w.heap.size,6,none⟩=some (.int .i64 t.prim):=g.c6
     have c12:wr.cell? ⟨w.heap.size,12,none⟩=some (.slice pc t.cst.length cc):=g.c12
     clear g
     by_cases hlt:j<t.cst.length
     ·obtain⟨v,hv⟩:∃ v,t.cst[j]?=some v:=⟨t.cst[j],List.getElem?_eq_getElem hlt⟩
      obtain⟨gv,ov,rfl,hg,q0⟩:=gu.c j v hv
      have hlti:(j:Int)<t.cst.length:=by omega
      have hR:=hR.out
      rw[drop_at hv,List.all_cons,Bool.and_eq_true] at hR
      obtain⟨p,p0,pB,hNe,pc',pk⟩:=clsB wr
      have hsz:=hB.size
      have f6:=fun θ=>(pc' w.heap.size 6 (by omega) θ).trans c6
      have f12:=fun θ=>(pc' w.heap.size 12 (by omega) θ).trans c12
      have f0:=fun θ=>(pc' gv (ov+j) (by omega) θ).trans q0
      have cP:=pk _ _ _ (fun W' _=>(hF.out v (List.mem_of_getElem? hv) W').mono fun _ _ hh=>⟨hh.1,hh.2▸Below.refl _ _⟩)
      replace pB:=Hid.mk pB
      clear pc' pk
      cases kv:fitsP t.prim v with
      | false =>
       rw[kv] at cP
       have HX:Hid (¬ P):=⟨fun e=>by have:=(hR.1 e).1;rw[kv] at this;cases this⟩
       clear hR kv
       go_wp2_with fail
       refine wp_region_lp p (by kernel_rfl) (by kernel_rfl) (fun _ _ d _ _ h=>by cases d<;>exact h) p0 fun W hp=>?_
       repeat (first|(refine lx_one rfl ?_;(first|go_big_quiet_skip|(go_big_quiet_want;go_big_quiet_op;go_big_quiet_on));refine wpQuiet_nil ?_)|(refine lx_p2 ent_rfits cP hp rfl rfl (by rfl) ?_;intro W hp;simp only[pts])|(refine lx_skip (by rfl) ?_;simp only[pts]))
       refine lx_done ?_
       go_wp2_with fail
       go_ret
       exact⟨Ans.no HX.out,HB.out.trans ((hB.trans ((pB.out _ hp).mono hsz)).mono (Nat.le_of_lt HS))⟩
      | true =>
       rw[kv] at cP
       have HX:Hid (P↔(t.cst.drop (j+1)).all (fitsP t.prim)=true):=⟨by rw[hR,kv];simp⟩
       clear hR kv
       go_wp2_with fail
       refine wp_region_lp p (by kernel_rfl) (by kernel_rfl) (fun _ _ d _ _ h=>by cases d<;>exact h) p0 fun W hp=>?_
       repeat (first|(refine lx_one rfl ?_;(first|go_big_quiet_skip|(go_big_quiet_want;go_big_quiet_op;go_big_quiet_on));refine wpQuiet_nil ?_)|(refine lx_p2 ent_rfits cP hp rfl rfl (by rfl) ?_;intro W hp;simp only[pts])|(refine lx_skip (by rfl) ?_;simp only[pts]))
       refine lx_done ?_
       go_wp2_with fail
       go_roundw
       case rel=>exact⟨j+1,by omega,by go_num,hB.trans ((pB.out _ hp).mono hsz),HX,trivial⟩
       case measure=>simp[RowKit.intOf];omega
     ·obtain rfl:j=t.cst.length:=by omega
      have HX:Hid P:=⟨by rw[hR.out,List.drop_length];rfl⟩
      clear hR
      go_wp2_with fail
      go_ret
      exact⟨Ans.yes HX.out,HB.out.trans (hB.mono (Nat.le_of_lt HS))⟩
   ·have d6:((t.cst.length:Int) != t.len)=true:=by simp[k6]
    have HX:Hid (¬ P):=⟨by rw[hP.out];simp[k6]⟩
    clear hP k5 k6
    go_enter Tryz.func37,Tryz.ntmps37
    go_wp2_with (first|(go_at_call 47;refine cS.mono ?_;rintro _ wq ⟨rfl,e⟩;obtain rfl:W=wq:=e.symm)|(go_at_call 52;refine cF1.mono ?_;rintro _ wq ⟨rfl,e⟩;obtain rfl:W=wq:=e.symm;clear cF1)|(go_at_call 52;refine cF2.mono ?_;rintro _ wq ⟨rfl,e⟩;obtain rfl:W=wq:=e.symm;clear cF2)|(go_at_call 52;refine cF3.mono ?_;rintro _ wq ⟨rfl,e⟩;obtain rfl:W=wq:=e.symm;clear cF3))
    go_ret
    exact⟨Ans.no HX.out,HB.out⟩
  ·have d5:(t.siz != 0)=true:=by simp[k5]
   have HX:Hid (¬ P):=⟨by rw[hP.out];simp[k5]⟩
   clear hP k5
   go_enter Tryz.func37,Tryz.ntmps37
   go_wp2_with (first|(go_at_call 47;refine cS.mono ?_;rintro _ wq ⟨rfl,e⟩;obtain rfl:W=wq:=e.symm)|(go_at_call 52;refine cF1.mono ?_;rintro _ wq ⟨rfl,e⟩;obtain rfl:W=wq:=e.symm;clear cF1)|(go_at_call 52;refine cF2.mono ?_;rintro _ wq ⟨rfl,e⟩;obtain rfl:W=wq:=e.symm;clear cF2)|(go_at_call 52;refine cF3.mono ?_;rintro _ wq ⟨rfl,e⟩;obtain rfl:W=wq:=e.symm;clear cF3))
   go_ret
   exact⟨Ans.no HX.out,HB.out⟩
 ·have d4:(t.pres != 2)=true:=by simp[k4]
  have hP:Hid (P↔(t.siz=t.len*z/\t.cst.length=0)):=⟨by rw[hP2.out];simp[k4]⟩
  clear hP2 k4
  by_cases k5:t.siz=t.len*z
  ·have d5:(t.siz==t.len*z)=true:=by simp[k5]
   have HX:Hid (P↔t.cst.length=0):=⟨by rw[hP.out];simp[k5]⟩
   clear hP k5
   go_enter Tryz.func37,Tryz.ntmps37
   go_wp2_with (first|(go_at_call 47;refine cS.mono ?_;rintro _ wq ⟨rfl,e⟩;obtain rfl:W=wq:=e.symm)|(go_at_call 52;refine cF1.mono ?_;rintro _ wq ⟨rfl,e⟩;obtain rfl:W=wq:=e.symm;clear cF1)|(go_at_call 52;refine cF2.mono ?_;rintro _ wq ⟨rfl,e⟩;obtain rfl:W=wq:=e.symm;clear cF2)|(go_at_call 52;refine cF3.mono ?_;rintro _ wq ⟨rfl,e⟩;obtain rfl:W=wq:=e.symm;clear cF3))
   go_ret
   refine⟨⟨_,rfl,Iff.trans ?_ HX.out.symm⟩,HB.out⟩
   simp
  ·have d5:(t.siz==t.len*z)=false:=by simp[k5]
   have HX:Hid (¬ P):=⟨by rw[hP.out];simp[k5]⟩
   clear hP k5
   go_enter Tryz.func37,Tryz.ntmps37
   go_wp2_with (first|(go_at_call 47;refine cS.mono ?_;rintro _ wq ⟨rfl,e⟩;obtain rfl:W=wq:=e.symm)|(go_at_call 52;refine cF1.mono ?_;rintro _ wq ⟨rfl,e⟩;obtain rfl:W=wq:=e.symm;clear cF1)|(go_at_call 52;refine cF2.mono ?_;rintro _ wq ⟨rfl,e⟩;obtain rfl:W=wq:=e.symm;clear cF2)|(go_at_call 52;refine cF3.mono ?_;rintro _ wq ⟨rfl,e⟩;obtain rfl:W=wq:=e.symm;clear cF3))
   go_ret
   exact⟨Ans.no HX.out,HB.out⟩
end Go.Proofs.YtcgimchhcaankaaGreatDoor
