import Derived.Test.YtekpgklllfobfaaGreatDoorK02
import Derived.Shelf.Pu.Clone
import Derived.Deep.WholeRow
namespace Go.Proofs.YtekpgklllfobfaaGreatDoor
open Go.Shelf
def _root_.Go.Proofs.Tryz.laysPu25_ren:Go.Shelf.Ren:=⟨fun|25=>116|n=>n,fun|9=>9|3=>3|4=>4|37=>29|0=>0|47=>47|5=>5|n=>n,fun|n=>n⟩
theorem _root_.Go.Proofs.Tryz.laysPu25:Go.Proofs.LaysPu.n25 Tryz.prog Tryz.laysPu25_ren:={
 mixed:=by kernel_rfl
 f25:=Tryz.func116.trans (congrArg some (by kernel_rfl))
 t0:=Tryz.underlying0
 a0:=Tryz.isAgg0
 z0:=Tryz.sizeOf0
 v0:=Tryz.zeroValue0
 i0:=by kernel_rfl
 t3:=Tryz.underlying3
 a3:=Tryz.isAgg3
 z3:=Tryz.sizeOf3
 v3:=Tryz.zeroValue3
 i3:=by kernel_rfl
 t4:=Tryz.underlying4
 a4:=Tryz.isAgg4
 z4:=Tryz.sizeOf4
 v4:=Tryz.zeroValue4
 i4:=by kernel_rfl
 t5:=Tryz.underlying5
 a5:=Tryz.isAgg5
 z5:=Tryz.sizeOf5
 v5:=Tryz.zeroValue5
 i5:=by kernel_rfl
 t9:=Tryz.underlying9
 a9:=Tryz.isAgg9
 z9:=Tryz.sizeOf9
 v9:=Tryz.zeroValue9
 i9:=by kernel_rfl
 t37:=Tryz.underlying29
 a37:=Tryz.isAgg29
 z37:=Tryz.sizeOf29
 v37:=Tryz.zeroValue29
 i37:=by kernel_rfl
 t47:=Tryz.underlying47
 a47:=Tryz.isAgg47
 z47:=Tryz.sizeOf47
 v47:=Tryz.zeroValue47
 i47:=by kernel_rfl }
set_option maxRecDepth 1000000
set_option maxHeartbeats 16000000
open Go.ChangeShapes Go.WideShapes Go.ChangeAt Go.RowKit
theorem strClone0 (s:ByteArray) (w:World) (hs:s.size<=281474976710656):Calls Tryz.prog 116 #[.string s] w fun e w'=>e = .returned (.string s)/\Below w.heap.size w w' :=
 AnyPu.stringslite_Clone Tryz.laysPu25 s w hs
theorem strClone (s:ByteArray) (w:World) (hs:s.size<=281474976710656):Calls Tryz.prog 113 #[.string s] w fun e w'=>e = .returned (.string s)/\Below w.heap.size w w':=by
 have hcon:=fun w=>strClone0 s w hs
 go_enter Tryz.func113,Tryz.ntmps113
 go_wp2_with (go_at_call 116;refine(hcon _).mono ?_;rintro e w' ⟨rfl,hB⟩)
 go_ret
 exact⟨rfl,hB⟩
theorem ent_sym:∀ ag w,(callFunc 75 ag).run Tryz.prog w = .ok (.enter 75 ag) w:=enters_of Tryz.func75 (by kernel_rfl) rfl
theorem ent_clone:∀ ag w,(callFunc 113 ag).run Tryz.prog w = .ok (.enter 113 ag) w:=enters_of Tryz.func113 (by kernel_rfl) rfl
def plcR (w:World) (R:Nat):Nat:=(RowKit.intOf ((w.cell? ⟨R,1,none⟩).getD undef)).toNat
theorem plc_of {w:World} {R a:Nat} (h:w.cell? ⟨R,1,none⟩=some (.int .i64 (a:Int))):plcR w R=a:=by
 unfold plcR
 rw[h]
 simp[RowKit.intOf]
theorem nmE_stop {s:ByteArray} {a b:Nat} (h:¬ (b<s.size/\b-a<64/\symC (ch s b) (decide (b=a))=true)):nmE s a (64-(b-a)) b=b:=by
 cases hk:64-(b-a) with
 | zero=>rfl
 | succ k =>
  unfold nmE
  rw[if_neg (fun hh=>h ⟨hh.1,by omega,hh.2⟩)]
theorem nmE_go {s:ByteArray} {a b:Nat} (hab:a<=b) (h:b<s.size/\b-a<64/\symC (ch s b) (decide (b=a))=true):nmE s a (64-(b-a)) b=nmE s a (64-(b+1-a)) (b+1):=by
 obtain⟨k,hk⟩:∃ k,64-(b-a)=k+1:=⟨64-(b-a)-1,by omega⟩
 rw[hk,nmE,if_pos ⟨h.1,h.2.2⟩]
 congr 1
 omega
structure NmS (s:ByteArray) (a b:Nat):Prop where
 ab:a<=b
 bs:b<=s.size
 b64:b-a<=64
 all:∀ i,a<=i->i<b->symC (ch s i) (decide (i=a))=true
 e:nmE s a (64-(b-a)) b=nmE s a 64 a
theorem name_any (R:Nat) (s:ByteArray) (a:Nat) (hs:s.size<=281474976710656) (ha:a<=s.size) (w w0:World) (h:Rd w0 R s a w):Calls Tryz.prog 98 #[.pointer (some ⟨R,0,none⟩)] w fun e w'=>Rd w0 R s (nmE s a 64 a) w'/\((nmE s a 64 a=a/\e = .panicked [pvE])\/(nmE s a 64 a≠a/\e = .returned (.string (s.extract a (nmE s a 64 a))))):=by
 obtain⟨E,hE⟩:∃ E,nmE s a 64 a=E:=⟨_,rfl⟩
 rw[hE]
 replace hE:=Hid.mk hE
 have k1:=h.ra.h1
 have H0:Hid (NmS s a a/\Rd w0 R s a w):=⟨⟨Nat.le_refl _,ha,by omega,fun i h1 h2=>by omega,by rw[Nat.sub_self]⟩,h⟩
 clear h
 go_enter Tryz.func98,Tryz.ntmps98
 go_wp2_with fail
 go_loopw [] (fun wr=>∃ b:Nat,Hid (NmS s a b/\Rd w0 R s b wr)) (fun wr=>s.size-plcR wr R)
 case atStart=>exact⟨a,H0⟩
 case round =>
  clear H0 k1
  obtain⟨b,hI⟩:=hrel
  obtain⟨p,p0,pN,pE,pI,k0,k1⟩:=rd_class hI.out.2
  have hbs:=hI.out.1.bs
  have hbi:(b:Int)<=281474976710656:=by omega
  have hab:=hI.out.1.ab
  have habI:(a:Int)<=b:=by omega
  by_cases hlt:b<s.size
  ·have d1:decide ((b:Int)<(s.size:Int))=true:=decide_eq_true (by omega)
   have d1n:decide (b<s.size)=true:=decide_eq_true hlt
   have hb1:(b:Int)+1<=s.size:=by omega
   have hab1:(a:Int)<=(b:Int)+1:=by omega
   cases hS:symbolB (s.extract a (b+1)) with
   | true =>
    have hNx:Hid (NmS s a (b+1)):=⟨by
     have h64:b-a<64:=by
      rcases Nat.lt_or_ge (b-a) 64 with h|h
      ·exact h
      ·rw[sym_long hlt h] at hS
       cases hS
     have hc:symC (ch s b) (decide (b=a))=true:=by rw[<- sym_piece hlt hab hI.out.1.all h64];exact hS
     refine⟨by omega,by omega,by omega,fun i h1 h2=>?_,?_⟩
     ·by_cases e:i=b
      ·rw[e];exact hc
      ·exact hI.out.1.all i h1 (by omega)
     ·rw[<- hI.out.1.e]
      exact(nmE_go hab ⟨hlt,h64,hc⟩).symm⟩
    have cSy:Hid (∀ W,p W->Calls Tryz.prog 75 #[.string (s.extract a (b+1))] W fun e w'=>e = .returned (.bool true)/\p w'):=⟨fun W hW=>(Symbol_any _ (by rw[size_ext s a (b+1) (by omega)];omega) W).mono fun e w' hP=>⟨by rw[hP.1,hS],by rw[hP.2];exact hW⟩⟩
    go_wp2_with fail
    refine wp_region_pp p [0,1,2,3,4,5,6,7,8,9,10,11,12,13,14,15,16,17,18,19,20,21,22,23] (by kernel_rfl) (by kernel_rfl) (fun _ _ d _ _ h=>by cases d<;>exact h) p0 ?_
    simp only[List.filterMap_cons,List.filterMap_nil,List.getElem?_cons_zero,List.getElem?_cons_succ]
    generalize wr.drew=W at p0 ⊢
    repeat (first
     | (guard_target =~ Lx _ _ _ _ (Oper.mk _ (Op.call { callee:=Callee.value (Operand.func 75),args:=_,argTypes:=_ }) _ _ _ _::_) _ _;refine lx_p1 ent_sym cSy.out p0 rfl (by rfl) ?_;intro W p0;simp only[pts])
     | (refine lx_one rfl ?_;(first|go_big_quiet_skip|(go_big_quiet_want;go_big_quiet_op;go_big_quiet_on));refine wpQuiet_nil ?_)
     | (refine lx_skip (by rfl) ?_;simp only[pts]))
    refine lx_done ?_
    have hF:=pE _ p0
    have j1:=hF.out.ra.h1
    have j2:=hF.out.ra.fz 1
    have hN:Hid (NmS s a (b+1)/\Rd w0 R s (b+1) (W.setCell ⟨R,1,none⟩ (.int .i64 ((b:Int)+1)))):=⟨hNx.out,hF.out.put _ (b+1) (by omega)⟩
    have hM:Hid (plcR (W.setCell ⟨R,1,none⟩ (.int .i64 ((b:Int)+1))) R=b+1):=⟨plc_of hN.out.2.ra.h1⟩
    have hM0:Hid (plcR wr R=b):=⟨plc_of hI.out.2.ra.h1⟩
    clear hI hF hNx k0 k1 pN p0 pE pI cSy hS
    go_wp2_with fail
    go_roundw
    case rel=>exact⟨b+1,hN⟩
    case measure=>rw[hM.out,hM0.out];omega
   | false =>
    have cSy:Hid (∀ W,p W->Calls Tryz.prog 75 #[.string (s.extract a (b+1))] W fun e w'=>e = .returned (.bool false)/\p w'):=⟨fun W hW=>(Symbol_any _ (by rw[size_ext s a (b+1) (by omega)];omega) W).mono fun e w' hP=>⟨by rw[hP.1,hS],by rw[hP.2];exact hW⟩⟩
    have hNO:Hid (¬ (b<s.size/\b-a<64/\symC (ch s b) (decide (b=a))=true)):=⟨fun ⟨_,h2,h3⟩=>by
     rw[sym_piece hlt hab hI.out.1.all h2,h3] at hS
     cases hS⟩
    clear hS
    go_wp2_with fail
    refine wp_region_pp p [0,1,2,3,4,5,6,7,8,9,10,11,12,13,14,15,16,17,18,19,20,21,22,23] (by kernel_rfl) (by kernel_rfl) (fun _ _ d _ _ h=>by cases d<;>exact h) p0 ?_
    simp only[List.filterMap_cons,List.filterMap_nil,List.getElem?_cons_zero,List.getElem?_cons_succ]
    generalize wr.drew=W at p0 ⊢
    repeat (first
     | (guard_target =~ Lx _ _ _ _ (Oper.mk _ (Op.call { callee:=Callee.value (Operand.func 75),args:=_,argTypes:=_ }) _ _ _ _::_) _ _;refine lx_p1 ent_sym cSy.out p0 rfl (by rfl) ?_;intro W p0;simp only[pts])
     | (refine lx_one rfl ?_;(first|go_big_quiet_skip|(go_big_quiet_want;go_big_quiet_op;go_big_quiet_on));refine wpQuiet_nil ?_)
     | (refine lx_skip (by rfl) ?_;simp only[pts]))
    refine lx_done ?_
    obtain rfl:E=b:=by rw[<- hE.out,<- hI.out.1.e];exact nmE_stop hNO.out
    have hF:=pE _ p0
    by_cases hba:E=a
    ·obtain rfl:a=E:=hba.symm
     have cN:=needSome_no R s a _ w0 hF.out
     clear hI hF k0 k1 pN p0 pE pI
     go_wp2_with (go_at_call 112;refine cN.mono ?_;rintro _ w1 ⟨rfl,h1⟩)
     exact⟨rfl,h1,rfl⟩
    ·have cN:=needSome_ok R s E a hba _ w0 hF.out
     have hbsI:(E:Int)<=s.size:=by omega
     clear hI hF k0 k1 pN p0 pE pI
     go_wp2_with (go_at_call 112;refine cN.mono ?_;rintro _ w1 ⟨rfl,h1⟩)
     obtain⟨p,p0,pN,pE,pI,k0,k1⟩:=rd_class h1
     have cCl:Hid (∀ W,p W->Calls Tryz.prog 113 #[.string (s.extract a E)] W fun e w'=>e = .returned (.string (s.extract a E))/\p w'):=⟨fun W hW=>(strClone _ W (by rw[size_ext s a E (by omega)];omega)).mono fun e w' hP=>⟨hP.1,pI _ ((pE _ hW).out.below hP.2)⟩⟩
     clear h1 pI
     refine wp_region_pp p [0,1,2,3,4,5,6,7,8,9,10,11] (by kernel_rfl) (by kernel_rfl) (fun _ _ d _ _ h=>by cases d<;>exact h) p0 ?_
     simp only[List.filterMap_cons,List.filterMap_nil,List.getElem?_cons_zero,List.getElem?_cons_succ]
     generalize w1.drew=W at p0 ⊢
     repeat (first
      | (guard_target =~ Lx _ _ _ _ (Oper.mk _ (Op.call { callee:=Callee.value (Operand.func 113),args:=_,argTypes:=_ }) _ _ _ _::_) _ _;refine lx_p1 ent_clone cCl.out p0 rfl (by rfl) ?_;intro W p0;simp only[pts])
      | (refine lx_one rfl ?_;(first|go_big_quiet_skip|(go_big_quiet_want;go_big_quiet_op;go_big_quiet_on));refine wpQuiet_nil ?_)
      | (refine lx_skip (by rfl) ?_;simp only[pts]))
     refine lx_done ?_
     have hF:=pE _ p0
     clear k0 k1 pN p0 pE cCl cN
     go_wp2_with fail
     go_ret
     exact⟨hF.out,.inr ⟨hba,rfl⟩⟩
  ·have d1:decide ((b:Int)<(s.size:Int))=false:=decide_eq_false (by omega)
   have d1n:decide (b<s.size)=false:=decide_eq_false hlt
   go_wp2_with fail
   refine wp_region_pp p [0,1,2,3,4,5,6,7,8,9,10,11,12,13,14,15,16,17,18,19,20,21,22,23] (by kernel_rfl) (by kernel_rfl) (fun _ _ d _ _ h=>by cases d<;>exact h) p0 ?_
   simp only[List.filterMap_cons,List.filterMap_nil,List.getElem?_cons_zero,List.getElem?_cons_succ]
   generalize wr.drew=W at p0 ⊢
   repeat (first
    | (guard_target =~ Lx _ _ _ _ (Oper.mk _ (Op.call { callee:=Callee.value (Operand.func 75),args:=_,argTypes:=_ }) _ _ _ _::_) _ _;refine lx_p1 ent_sym cSy.out p0 rfl (by rfl) ?_;intro W p0;simp only[pts])
    | (refine lx_one rfl ?_;(first|go_big_quiet_skip|(go_big_quiet_want;go_big_quiet_op;go_big_quiet_on));refine wpQuiet_nil ?_)
    | (refine lx_skip (by rfl) ?_;simp only[pts]))
   refine lx_done ?_
   obtain rfl:E=b:=by rw[<- hE.out,<- hI.out.1.e];exact nmE_stop fun hh=>hlt hh.1
   have hF:=pE _ p0
   by_cases hba:E=a
   ·obtain rfl:a=E:=hba.symm
    have cN:=needSome_no R s a _ w0 hF.out
    clear hI hF k0 k1 pN p0 pE pI
    go_wp2_with (go_at_call 112;refine cN.mono ?_;rintro _ w1 ⟨rfl,h1⟩)
    exact⟨rfl,h1,rfl⟩
   ·have cN:=needSome_ok R s E a hba _ w0 hF.out
    have hbsI:(E:Int)<=s.size:=by omega
    clear hI hF k0 k1 pN p0 pE pI
    go_wp2_with (go_at_call 112;refine cN.mono ?_;rintro _ w1 ⟨rfl,h1⟩)
    obtain⟨p,p0,pN,pE,pI,k0,k1⟩:=rd_class h1
    have cCl:Hid (∀ W,p W->Calls Tryz.prog 113 #[.string (s.extract a E)] W fun e w'=>e = .returned (.string (s.extract a E))/\p w'):=⟨fun W hW=>(strClone _ W (by rw[size_ext s a E (by omega)];omega)).mono fun e w' hP=>⟨hP.1,pI _ ((pE _ hW).out.below hP.2)⟩⟩
    clear h1 pI
    refine wp_region_pp p [0,1,2,3,4,5,6,7,8,9,10,11] (by kernel_rfl) (by kernel_rfl) (fun _ _ d _ _ h=>by cases d<;>exact h) p0 ?_
    simp only[List.filterMap_cons,List.filterMap_nil,List.getElem?_cons_zero,List.getElem?_cons_succ]
    generalize w1.drew=W at p0 ⊢
    repeat (first
     | (guard_target =~ Lx _ _ _ _ (Oper.mk _ (Op.call { callee:=Callee.value (Operand.func 113),args:=_,argTypes:=_ }) _ _ _ _::_) _ _;refine lx_p1 ent_clone cCl.out p0 rfl (by rfl) ?_;intro W p0;simp only[pts])
     | (refine lx_one rfl ?_;(first|go_big_quiet_skip|(go_big_quiet_want;go_big_quiet_op;go_big_quiet_on));refine wpQuiet_nil ?_)
     | (refine lx_skip (by rfl) ?_;simp only[pts]))
    refine lx_done ?_
    have hF:=pE _ p0
    clear k0 k1 pN p0 pE cCl cN
    go_wp2_with fail
    go_ret
    exact⟨hF.out,.inr ⟨hba,rfl⟩⟩
theorem nuE_stop {s:ByteArray} {f b n:Nat} (h:¬ (b<s.size/\ndig (ch s b)=true/\(b=f\/0<n)/\10*n+(ch s b-48)<=65535)):nuE s f (s.size-b) b n=(b,n):=by
 cases hk:s.size-b with
 | zero=>rfl
 | succ k =>
  unfold nuE
  rw[if_neg h]
theorem nuE_go {s:ByteArray} {f b n:Nat} (h:b<s.size/\ndig (ch s b)=true/\(b=f\/0<n)/\10*n+(ch s b-48)<=65535):nuE s f (s.size-b) b n=nuE s f (s.size-(b+1)) (b+1) (10*n+(ch s b-48)):=by
 obtain⟨k,hk⟩:∃ k,s.size-b=k+1:=⟨s.size-b-1,by omega⟩
 rw[hk,nuE,if_pos h]
 congr 1
 omega
structure NuS (s:ByteArray) (f b n:Nat):Prop where
 fb:f<=b
 bs:b<=s.size
 nn:n<=65535
 e:nuE s f (s.size-b) b n=nuE s f (s.size-f) f 0
theorem number_any (R:Nat) (s:ByteArray) (f:Nat) (hs:s.size<=281474976710656) (hf:f<=s.size) (w w0:World) (h:Rd w0 R s f w) {E N:Nat} (hE:nuE s f (s.size-f) f 0=(E,N)):Calls Tryz.prog 100 #[.pointer (some ⟨R,0,none⟩)] w fun e w'=>Rd w0 R s E w'/\((E=f/\e = .panicked [pvE])\/(E≠f/\e = .returned (.int .i64 (N:Int)))):=by
 replace hE:=Hid.mk hE
 have k1:=h.ra.h1
 have H0:Hid (NuS s f f 0/\Rd w0 R s f w):=⟨⟨Nat.le_refl _,hf,by omega,rfl⟩,h⟩
 clear h
 go_enter Tryz.func100,Tryz.ntmps100
 go_wp2_with fail
 go_loopw [4] (fun q wr=>∃ b n:Nat,q = .int .i64 (n:Int)/\Hid (NuS s f b n/\Rd w0 R s b wr)) (fun _ wr=>s.size-plcR wr R)
 case atStart=>exact⟨f,0,by go_num,H0⟩
 case round =>
  clear H0 k1
  obtain⟨b,n,rfl,hI⟩:=hrel
  obtain⟨p,p0,pN,pE,pI,k0,k1⟩:=rd_class hI.out.2
  have hbs:=hI.out.1.bs
  have hbi:(b:Int)<=281474976710656:=by omega
  have hfb:=hI.out.1.fb
  have hn:=hI.out.1.nn
  have hnI:(n:Int)<=65535:=by omega
  have hn0:(0:Int)<=n:=by omega
  by_cases hlt:b<s.size
  ·have d1:decide ((b:Int)<(s.size:Int))=true:=decide_eq_true (by omega)
   have d1n:decide (b<s.size)=true:=decide_eq_true hlt
   have ix:∀ w:World,(Instr.index 9 (.string s) (.int .i64 (b:Int))).run Tryz.prog w = .ok (.int .u8 (ch s b:Int)) w:=fun w=>nidx (w:=w) s b hlt .i64
   have hc6:=ch_lt s b
   obtain⟨c,hc⟩:∃ c,ch s b=c:=⟨_,rfl⟩
   rw[hc] at ix hc6
   replace hc:=Hid.mk hc
   have hcI:(c:Int)<256:=by omega
   by_cases h48:48<=c
   ·have d2:decide ((48:Int)<=(c:Int))=true:=decide_eq_true (by omega)
    have d2n:decide (48<=c)=true:=decide_eq_true h48
    by_cases h57:c<=57
    ·have d3:decide ((c:Int)<=57)=true:=decide_eq_true (by omega)
     have d3n:decide (c<=57)=true:=decide_eq_true h57
     have hdg:Hid (ndig (ch s b)=true):=⟨by rw[hc.out];unfold ndig;rw[d2n,d3n];rfl⟩
     have hw8:IntKind.u8.wrap ((c:Int)-48)=((c-48:Nat):Int):=by rw[IntKind.wrap_u8];omega
     obtain⟨d,hd⟩:∃ d,c-48=d:=⟨_,rfl⟩
     rw[hd] at hw8
     have hd9:(d:Int)<=9:=by omega
     have hd0:(0:Int)<=d:=by omega
     replace hd:=Hid.mk hd
     go_wp2_with fail
     refine wp_region_pp p [0,1,2,3,4,5,6,7,8,9,10,11,12,13,14,15,16,17,18,19,20,21,22,23,24,25,26,27,28,29,30,31,32,33] (by kernel_rfl) (by kernel_rfl) (fun _ _ d _ _ h=>by cases d<;>exact h) p0 ?_
     simp only[List.filterMap_cons,List.filterMap_nil,List.getElem?_cons_zero,List.getElem?_cons_succ]
     generalize wr.drew=W at p0 ⊢
     repeat (first
      | (refine lx_one rfl ?_;(first|go_big_quiet_skip|(go_big_quiet_want;go_big_quiet_op;go_big_quiet_on));refine wpQuiet_nil ?_)
      | (refine lx_skip (by rfl) ?_;simp only[pts]))
     refine lx_done ?_
     replace p0:=pI _ (pE _ p0).out.drew
     go_wp2_with fail
     refine wp_region_pp p [0,1,2,3,4,5,6,7,8,9,10,11,12,13,14] (by kernel_rfl) (by kernel_rfl) (fun _ _ d _ _ h=>by cases d<;>exact h) p0 ?_
     simp only[List.filterMap_cons,List.filterMap_nil,List.getElem?_cons_zero,List.getElem?_cons_succ]
     generalize W.drew=W at p0 ⊢
     repeat (first
      | (refine lx_one rfl ?_;(first|go_big_quiet_skip|(go_big_quiet_want;go_big_quiet_op;go_big_quiet_on));refine wpQuiet_nil ?_)
      | (refine lx_skip (by rfl) ?_;simp only[pts]))
     refine lx_done ?_
     have hF:=pE _ p0
     have j1:=hF.out.ra.h1
     have j2:=hF.out.ra.fz 1
     clear k0 k1 pN p0 pE pI
     have hM0:Hid (plcR wr R=b):=⟨plc_of hI.out.2.ra.h1⟩
     by_cases h65:10*n+d<=65535
     ·have m1:decide ((65535:Int)<10*(n:Int)+(d:Int))=false:=decide_eq_false (by omega)
      by_cases hfn:b=f\/0<n
      ·have hN:Hid (NuS s f (b+1) (10*n+d)/\Rd w0 R s (b+1) (W.setCell ⟨R,1,none⟩ (.int .i64 ((b:Int)+1)))):=⟨⟨by omega,by omega,h65,by
        have hg:=nuE_go (s:=s) (f:=f) (b:=b) (n:=n) ⟨hlt,hdg.out,hfn,by rw[hc.out,hd.out];exact h65⟩
        rw[hc.out,hd.out] at hg
        rw[<- hg]
        exact hI.out.1.e⟩,hF.out.put _ (b+1) (by omega)⟩
       have hM:Hid (plcR (W.setCell ⟨R,1,none⟩ (.int .i64 ((b:Int)+1))) R=b+1):=⟨plc_of hN.out.2.ra.h1⟩
       have hcase:(decide ((f:Int)<(b:Int))=false/\decide (f<b)=false)\/((decide ((f:Int)<(b:Int))=true/\decide (f<b)=true)/\((n:Int)==0)=false/\(n==0)=false):=by
        rcases Nat.lt_or_ge f b with h|h
        ·exact .inr ⟨⟨decide_eq_true (by omega),decide_eq_true h⟩,beqN (by omega),beq_eq_false_iff_ne.2 (by omega)⟩
        ·exact .inl ⟨decide_eq_false (by omega),decide_eq_false (by omega)⟩
       clear hI hF hfn
       rcases hcase with ⟨m2,m2n⟩|⟨⟨m2,m2n⟩,m3,m3n⟩
       all_goals
        go_wp2_with fail
        go_roundw
        case rel=>exact⟨b+1,10*n+d,by go_num,hN⟩
        case measure=>rw[hM.out,hM0.out];omega
      ·have m2:decide ((f:Int)<(b:Int))=true:=decide_eq_true (by omega)
       have m2n:decide (f<b)=true:=decide_eq_true (by omega)
       have hnz:n=0:=by omega
       have m3:((n:Int)==0)=true:=by rw[hnz];rfl
       have m3n:(n==0)=true:=by rw[hnz];rfl
       have hNO:Hid (¬ (b<s.size/\ndig (ch s b)=true/\(b=f\/0<n)/\10*n+(ch s b-48)<=65535)):=⟨fun hh=>hfn hh.2.2.1⟩
       clear hnz
       obtain⟨rfl,rfl⟩:E=b/\N=n:=by
        have h1:=hE.out
        rw[<- hI.out.1.e,nuE_stop hNO.out] at h1
        injection h1 with h1 h2
        exact⟨h1.symm,h2.symm⟩
       have hba:E≠f:=fun e=>hfn (.inl e)
       have cN:=needSome_ok R s E f hba _ w0 hF.out
       clear hI hF
       go_wp2_with (go_at_call 112;refine cN.mono ?_;rintro _ w1 ⟨rfl,h1⟩)
       go_ret
       exact⟨h1,.inr ⟨hba,rfl⟩⟩
     ·have m1:decide ((65535:Int)<10*(n:Int)+(d:Int))=true:=decide_eq_true (by omega)
      have hNO:Hid (¬ (b<s.size/\ndig (ch s b)=true/\(b=f\/0<n)/\10*n+(ch s b-48)<=65535)):=⟨fun hh=>h65 (by have:=hh.2.2.2;rw[hc.out,hd.out] at this;exact this)⟩
      obtain⟨rfl,rfl⟩:E=b/\N=n:=by
       have h1:=hE.out
       rw[<- hI.out.1.e,nuE_stop hNO.out] at h1
       injection h1 with h1 h2
       exact⟨h1.symm,h2.symm⟩
      by_cases hba:E=f
      ·obtain rfl:f=E:=hba.symm
       have cN:=needSome_no R s f _ w0 hF.out
       clear hI hF
       go_wp2_with (go_at_call 112;refine cN.mono ?_;rintro _ w1 ⟨rfl,h1⟩)
       exact⟨rfl,h1,rfl⟩
      ·have cN:=needSome_ok R s E f hba _ w0 hF.out
       clear hI hF
       go_wp2_with (go_at_call 112;refine cN.mono ?_;rintro _ w1 ⟨rfl,h1⟩)
       go_ret
       exact⟨h1,.inr ⟨hba,rfl⟩⟩
    ·have d3:decide ((c:Int)<=57)=false:=decide_eq_false (by omega)
     have d3n:decide (c<=57)=false:=decide_eq_false h57
     have hNO:Hid (¬ (b<s.size/\ndig (ch s b)=true/\(b=f\/0<n)/\10*n+(ch s b-48)<=65535)):=⟨fun hh=>by
      have:=hh.2.1
      rw[hc.out] at this
      unfold ndig at this
      rw[d3n] at this
      simp at this⟩
     go_wp2_with fail
     refine wp_region_pp p [0,1,2,3,4,5,6,7,8,9,10,11,12,13,14,15,16,17,18,19,20,21,22,23,24,25,26,27,28,29,30,31,32,33] (by kernel_rfl) (by kernel_rfl) (fun _ _ d _ _ h=>by cases d<;>exact h) p0 ?_
     simp only[List.filterMap_cons,List.filterMap_nil,List.getElem?_cons_zero,List.getElem?_cons_succ]
     generalize wr.drew=W at p0 ⊢
     repeat (first
      | (refine lx_one rfl ?_;(first|go_big_quiet_skip|(go_big_quiet_want;go_big_quiet_op;go_big_quiet_on));refine wpQuiet_nil ?_)
      | (refine lx_skip (by rfl) ?_;simp only[pts]))
     refine lx_done ?_
     have hF:=pE _ p0
     clear k0 k1 pN p0 pE pI
     obtain⟨rfl,rfl⟩:E=b/\N=n:=by
      have h1:=hE.out
      rw[<- hI.out.1.e,nuE_stop hNO.out] at h1
      injection h1 with h1 h2
      exact⟨h1.symm,h2.symm⟩
     by_cases hba:E=f
     ·obtain rfl:f=E:=hba.symm
      have cN:=needSome_no R s f _ w0 hF.out
      clear hI hF
      go_wp2_with (go_at_call 112;refine cN.mono ?_;rintro _ w1 ⟨rfl,h1⟩)
      exact⟨rfl,h1,rfl⟩
     ·have cN:=needSome_ok R s E f hba _ w0 hF.out
      clear hI hF
      go_wp2_with (go_at_call 112;refine cN.mono ?_;rintro _ w1 ⟨rfl,h1⟩)
      go_ret
      exact⟨h1,.inr ⟨hba,rfl⟩⟩
   ·have d2:decide ((48:Int)<=(c:Int))=false:=decide_eq_false (by omega)
    have d2n:decide (48<=c)=false:=decide_eq_false h48
    have hNO:Hid (¬ (b<s.size/\ndig (ch s b)=true/\(b=f\/0<n)/\10*n+(ch s b-48)<=65535)):=⟨fun hh=>by
     have:=hh.2.1
     rw[hc.out] at this
     unfold ndig at this
     rw[d2n] at this
     simp at this⟩
    go_wp2_with fail
    refine wp_region_pp p [0,1,2,3,4,5,6,7,8,9,10,11,12,13,14,15,16,17,18,19,20,21,22,23,24,25,26,27,28,29,30,31,32,33] (by kernel_rfl) (by kernel_rfl) (fun _ _ d _ _ h=>by cases d<;>exact h) p0 ?_
    simp only[List.filterMap_cons,List.filterMap_nil,List.getElem?_cons_zero,List.getElem?_cons_succ]
    generalize wr.drew=W at p0 ⊢
    repeat (first
     | (refine lx_one rfl ?_;(first|go_big_quiet_skip|(go_big_quiet_want;go_big_quiet_op;go_big_quiet_on));refine wpQuiet_nil ?_)
     | (refine lx_skip (by rfl) ?_;simp only[pts]))
    refine lx_done ?_
    have hF:=pE _ p0
    clear k0 k1 pN p0 pE pI
    obtain⟨rfl,rfl⟩:E=b/\N=n:=by
     have h1:=hE.out
     rw[<- hI.out.1.e,nuE_stop hNO.out] at h1
     injection h1 with h1 h2
     exact⟨h1.symm,h2.symm⟩
    by_cases hba:E=f
    ·obtain rfl:f=E:=hba.symm
     have cN:=needSome_no R s f _ w0 hF.out
     clear hI hF
     go_wp2_with (go_at_call 112;refine cN.mono ?_;rintro _ w1 ⟨rfl,h1⟩)
     exact⟨rfl,h1,rfl⟩
    ·have cN:=needSome_ok R s E f hba _ w0 hF.out
     clear hI hF
     go_wp2_with (go_at_call 112;refine cN.mono ?_;rintro _ w1 ⟨rfl,h1⟩)
     go_ret
     exact⟨h1,.inr ⟨hba,rfl⟩⟩
  ·have d1:decide ((b:Int)<(s.size:Int))=false:=decide_eq_false (by omega)
   have d1n:decide (b<s.size)=false:=decide_eq_false hlt
   go_wp2_with fail
   refine wp_region_pp p [0,1,2,3,4,5,6,7,8,9,10,11,12,13,14,15,16,17,18,19,20,21,22,23,24,25,26,27,28,29,30,31,32,33] (by kernel_rfl) (by kernel_rfl) (fun _ _ d _ _ h=>by cases d<;>exact h) p0 ?_
   simp only[List.filterMap_cons,List.filterMap_nil,List.getElem?_cons_zero,List.getElem?_cons_succ]
   generalize wr.drew=W at p0 ⊢
   repeat (first
    | (refine lx_one rfl ?_;(first|go_big_quiet_skip|(go_big_quiet_want;go_big_quiet_op;go_big_quiet_on));refine wpQuiet_nil ?_)
    | (refine lx_skip (by rfl) ?_;simp only[pts]))
   refine lx_done ?_
   have hF:=pE _ p0
   clear k0 k1 pN p0 pE pI
   obtain⟨rfl,rfl⟩:E=b/\N=n:=by
    have h1:=hE.out
    rw[<- hI.out.1.e,nuE_stop (fun hh=>hlt hh.1)] at h1
    injection h1 with h1 h2
    exact⟨h1.symm,h2.symm⟩
   by_cases hba:E=f
   ·obtain rfl:f=E:=hba.symm
    have cN:=needSome_no R s f _ w0 hF.out
    clear hI hF
    go_wp2_with (go_at_call 112;refine cN.mono ?_;rintro _ w1 ⟨rfl,h1⟩)
    exact⟨rfl,h1,rfl⟩
   ·have cN:=needSome_ok R s E f hba _ w0 hF.out
    clear hI hF
    go_wp2_with (go_at_call 112;refine cN.mono ?_;rintro _ w1 ⟨rfl,h1⟩)
    go_ret
    exact⟨h1,.inr ⟨hba,rfl⟩⟩
theorem wpList_ld {P:Program} {ops:Array Oper} {Q:Exit->Act->World->Prop} {a:Act} {w:World} {rest:List Oper} {o:Oper} (ty:TypeId) (x:Operand) (ho:o.op = .load ty x)
  (hw:Region.wanted o (yielded ops a.tmps)=true) (p v:Value) (hx:a.eval x=p) (hr:(Instr.loadAt ty p).run P w = .ok v w) (h:wpList P ops Q rest (a.put o.dst v) w):wpList P ops Q (o::rest) a w:=by
 refine wpList_step fun K hK=>?_
 rw[if_pos hw]
 unfold Oper.wp execOp
 simp only[ho,hx,hr,Sem.run_bind,Result.andThen_ok]
 exact hK _ _ h
theorem wpList_st {P:Program} {ops:Array Oper} {Q:Exit->Act->World->Prop} {a:Act} {w w':World} {rest:List Oper} {o:Oper} (ty:TypeId) (x y:Operand) (ho:o.op = .store ty x y)
  (hw:Region.wanted o (yielded ops a.tmps)=true) (p v:Value) (hx:a.eval x=p) (hy:a.eval y=v) (hr:(Instr.storeAt ty p v).run P w = .ok () w') (h:wpList P ops Q rest (a.put o.dst undef) w'):wpList P ops Q (o::rest) a w:=by
 refine wpList_step fun K hK=>?_
 rw[if_pos hw]
 unfold Oper.wp execOp
 simp only[ho,hx,hy,hr,Sem.run_bind,Result.andThen_ok]
 exact hK _ _ h
abbrev spC (x:ByteArray×Int):Array Value:=#[.string x.1,.int .i64 x.2]
abbrev spO (x:ByteArray×Int):Obj:=.cells (spC x) 74
abbrev spV (x:ByteArray×Int):Value:=.agg (spC x)
abbrev zSp:Obj:=.cells #[.string ⟨#[]⟩,.int .i64 0] 74
theorem infoSp:(Tryz.prog.info? 74).map (·.size)=some 2:=by kernel_rfl
theorem undSp:∃ d,Tryz.prog.underlying 74=some d/\d.isRow=true:=⟨_,Tryz.underlying74,rfl⟩
theorem sp_one (x:ByteArray×Int):(spC x).all (·.oneCell')=true:=by simp[Value.oneCell']
theorem heap_al (w:World) (o:Obj):(w.alloc o).heap[w.heap.size]?=some o:=by show (w.heap.push o)[w.heap.size]?=_;rw[Array.getElem?_push,if_pos rfl]
theorem cell_at {w:World} {g:Nat} {cs:Array Value} {ty:TypeId} (h:w.heap[g]?=some (.cells cs ty)) (o:Nat):w.cell? ⟨g,o,none⟩=cs[o]?:=by simp only[World.cell?,h];rfl
theorem frz_at {W:World} {h i:Nat} {cs:Array Value} {ty:TypeId} (h1:W.heap[h]?=some (.cells cs ty)):W.frozen? ⟨h,i,none⟩=false:=by simp[World.frozen?,h1]
theorem set_at {W:World} {h i:Nat} {cs:Array Value} {ty:TypeId} (h1:W.heap[h]?=some (.cells cs ty)) (v:Value):(W.setCell ⟨h,i,none⟩ v).heap[h]?=some (.cells (cs.setIfInBounds i v) ty):=by
 show (W.heap.modify h _)[h]?=_
 rw[Array.getElem?_modify,if_pos rfl,h1]
 rfl
theorem set_off {W:World} {h i k:Nat} {v:Value} (hk:k≠h):(W.setCell ⟨h,i,none⟩ v).heap[k]?=W.heap[k]?:=by
 show (W.heap.modify h _)[k]?=_
 rw[Array.getElem?_modify,if_neg (Ne.symm hk)]
theorem sp_new (w:World) (z:Array Value) (hz:z.size=2) (x:ByteArray×Int):(Instr.storeAt 74 (.pointer (some ⟨w.heap.size,0,none⟩)) (spV x)).run Tryz.prog (w.alloc (.cells z 74)) = .ok () (w.alloc (spO x)) :=
 run_storeAt_new w 74 z _ infoSp hz (sp_one x)
theorem sp_st {w:World} {b:Nat} {old:Array Value} (hb:w.heap[b]?=some (.cells old 74)) (ho:old.size=2) (x:ByteArray×Int):(Instr.storeAt 74 (.pointer (some ⟨b,0,none⟩)) (spV x)).run Tryz.prog w = .ok () (w.setRow b (spC x)):=by
 simp only[Instr.storeAt,Instr.sureAddr,Sem.run_bind,Sem.run_pure,Result.andThen]
 exact run_storeVar_row _ _ _ _ _ _ hb infoSp (by rw[ho];rfl) (sp_one x)
theorem sp_ld {w:World} {b:Nat} (x:ByteArray×Int) (hb:w.heap[b]?=some (spO x)):(Instr.loadAt 74 (.pointer (some ⟨b,0,none⟩))).run Tryz.prog w = .ok (spV x) w:=by
 obtain⟨d,hu,hd⟩:=undSp
 refine run_loadAt_mid w b 0 74 (spC x).toList d (fun j v hj=>?_) hu hd infoSp
 rw[Nat.zero_add,cell_at hb]
 simpa using hj
end Go.Proofs.YtekpgklllfobfaaGreatDoor
