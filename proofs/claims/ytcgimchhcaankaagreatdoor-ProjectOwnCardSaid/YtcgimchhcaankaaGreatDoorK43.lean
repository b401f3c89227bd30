import Derived.Deep.DeepCutAuto
import Derived.Test.YtcgimchhcaankaaGreatDoorK41
import Derived.Test.YtcgimchhcaankaaGreatDoorK42
namespace Go.Proofs.YtcgimchhcaankaaGreatDoor
set_option maxRecDepth 1000000
set_option maxHeartbeats 16000000
open Go.ChangeShapes Go.WideShapes Go.ChangeAt Go.RowKit
theorem rdigit (c:Nat) (w:World):Calls Tryz.prog 67 #[.int .u8 (c:Int)] w fun e w'=>e = .returned (.bool (ndig c))/\w'=w:=by
 unfold ndig
 by_cases h:48<=c
 ·go_enter Tryz.func67,Tryz.ntmps67
  go_wp2
  go_ret
  exact⟨nret (by simp[h];omega),rfl⟩
 ·have d:decide (48<=(c:Int))=false:=by simp;omega
  go_enter Tryz.func67,Tryz.ntmps67
  go_wp2
  go_ret
  exact⟨nret (by simp;omega),rfl⟩
theorem rletter (c:Nat) (w:World):Calls Tryz.prog 66 #[.int .u8 (c:Int)] w fun e w'=>e = .returned (.bool (nlet c))/\w'=w:=by
 have:(c<65)\/(65<=c/\c<=90)\/(90<c/\c<97)\/(97<=c/\c<=122)\/122<c:=by omega
 rcases this with h|h|h|h|h
 ·have d1:decide (65<=(c:Int))=false:=by simp;omega
  have d3:decide (97<=(c:Int))=false:=by simp;omega
  have g:nlet c=false:=by unfold nlet;simp;omega
  rw[g]
  go_enter Tryz.func66,Tryz.ntmps66
  go_wp2
  go_ret
  exact⟨rfl,rfl⟩
 ·have d1:decide (65<=(c:Int))=true:=by simp;omega
  have d2:decide ((c:Int)<=90)=true:=by simp;omega
  have d3:decide (97<=(c:Int))=false:=by simp;omega
  have g:nlet c=true:=by unfold nlet;simp;omega
  rw[g]
  go_enter Tryz.func66,Tryz.ntmps66
  go_wp2
  go_ret
  exact⟨rfl,rfl⟩
 ·have d1:decide (65<=(c:Int))=true:=by simp;omega
  have d2:decide ((c:Int)<=90)=false:=by simp;omega
  have d3:decide (97<=(c:Int))=false:=by simp;omega
  have g:nlet c=false:=by unfold nlet;simp;omega
  rw[g]
  go_enter Tryz.func66,Tryz.ntmps66
  go_wp2
  go_ret
  exact⟨rfl,rfl⟩
 ·have d3:decide (97<=(c:Int))=true:=by simp;omega
  have d4:decide ((c:Int)<=122)=true:=by simp;omega
  have g:nlet c=true:=by unfold nlet;simp;omega
  rw[g]
  go_enter Tryz.func66,Tryz.ntmps66
  go_wp2
  go_ret
  exact⟨rfl,rfl⟩
 ·have d1:decide (65<=(c:Int))=true:=by simp;omega
  have d2:decide ((c:Int)<=90)=false:=by simp;omega
  have d3:decide (97<=(c:Int))=true:=by simp;omega
  have d4:decide ((c:Int)<=122)=false:=by simp;omega
  have g:nlet c=false:=by unfold nlet;simp;omega
  rw[g]
  go_enter Tryz.func66,Tryz.ntmps66
  go_wp2
  go_ret
  exact⟨rfl,rfl⟩
def inSet (S:ByteArray) (c k:Nat):Bool:=(List.range k).any fun j=>decide (ch S j=c)
theorem inSet_succ (S:ByteArray) (c k:Nat):inSet S c (k+1)=(inSet S c k||decide (ch S k=c)):=by
 unfold inSet
 rw[List.range_succ,List.any_append]
 simp
def madeC (F M:ByteArray) (i c:Nat):Bool:=(nlet c||(decide (0<i)&&ndig c))||inSet (if i=0 then F else M) c (if i=0 then F else M).size
def madeB (s F M:ByteArray):Bool:=decide (0<s.size/\∀ i,i<s.size->madeC F M i (ch s i)=true)
theorem rb3 {a b:World} (h:Below a.heap.size a b) (n:Nat):Below a.heap.size a (b.drewN n):=⟨h.os,h.tape,h.output,h.size,h.block⟩
theorem rmade (s F M:ByteArray) (hs:s.size<=9223372036854775806) (hF:F.size<=100) (hM:M.size<=100) (w:World):Calls Tryz.prog 50 #[.string s,.string F,.string M] w fun e w'=>e = .returned (.bool (madeB s F M))/\Below w.heap.size w w':=by
 go_enter Tryz.func50,Tryz.ntmps50
 go_wp2_with fail
 go_loopw [7] (fun v wr=>∃ i:Nat,i<=s.size/\v = .int .i64 (i:Int)/\(∀ j,j<i->madeC F M j (ch s j)=true)/\Below w.heap.size w wr) (fun v _=>s.size-(intOf v).toNat)
 case atStart=>exact⟨0,Nat.zero_le _,rfl,fun j hj=>absurd hj (Nat.not_lt_zero j),Below.refl _ _⟩
 case round =>
  obtain⟨i,hi,rfl,hall,HB⟩:=hrel
  by_cases hlt:i<s.size
  ·have d1:decide ((i:Int)<(s.size:Int))=true:=by simp;omega
   have ix:∀ w:World,(Instr.index 9 (.string s) (.int .i64 (i:Int))).run Tryz.prog w = .ok (.int .u8 (ch s i:Int)) w:=fun w=>nidx (w:=w) s i hlt .i64
   by_cases hi0:i=0
   ·subst hi0
    obtain⟨c,hc⟩:∃ c,Go.RowKit.Hid (c=ch s 0):=⟨_,rfl⟩
    have ix:∀ w:World,(Instr.index 9 (.string s) (.int .i64 0)).run Tryz.prog w = .ok (.int .u8 (c:Int)) w:=fun w=>by rw[hc.out];exact nidx (w:=w) s 0 hlt .i64
    have d1:decide (0<(s.size:Int))=true:=by simp;omega
    obtain⟨b0,hb0⟩:∃ b0,nlet c=b0:=⟨_,rfl⟩
    have hX:Go.RowKit.Hid (madeC F M 0 c=(b0||inSet F c F.size)):=by show _=_;unfold madeC;simp[hb0]
    go_upto_region 7 with fail
    go_cut [8,9] (fun s8 s9 wx=>s8 = .string F/\s9 = .bool b0/\wx=wr)
    case first =>
     cases hl:nlet c<;>rw[hl] at hb0
     all_goals
      have hb1:Go.RowKit.Hid (_=b0):=hb0
      clear hb0
      go_wp2_with (first|(go_at_call 66;refine(rletter _ _).mono ?_;rintro e w1 ⟨rfl,hw1⟩;subst w1)|(go_at_call 67;refine(rdigit _ _).mono ?_;rintro e w1 ⟨rfl,hw1⟩;subst w1))
      go_meet
      case rel=>exact⟨rfl,by rw[<- hb1.out]<;>rfl,rfl⟩
    case rest =>
    obtain⟨rfl,rfl,rfl⟩:=hcut
    rename World=>wr
    go_wp2_with fail
    go_loopw [9,10] (fun ok v w2=>∃ k:Nat,k<=F.size/\v = .int .i64 (k:Int)/\ok = .bool (b0||inSet F c k)/\Below w.heap.size w w2) (fun _ v _=>F.size-(intOf v).toNat)
    case atStart=>exact⟨0,Nat.zero_le _,rfl,by simp[inSet],HB⟩
    case round =>
     obtain⟨k,hk,rfl,rfl,HB⟩:=hrel
     by_cases hkl:k<F.size
     ·have d2:decide ((k:Int)<(F.size:Int))=true:=by simp;omega
      have ix2:∀ w:World,(Instr.index 9 (.string F) (.int .i64 (k:Int))).run Tryz.prog w = .ok (.int .u8 (ch F k:Int)) w:=fun w=>nidx (w:=w) F k hkl .i64
      have hsu:=inSet_succ F c k
      by_cases hcc:ch F k=c
      ·have ec:((ch F k:Int)==(c:Int))=true:=by simp;omega
       have hv:Go.RowKit.Hid ((b0||inSet F c (k+1))=true):=by show _=_;rw[hsu,decide_eq_true hcc,Bool.or_true,Bool.or_true]
       clear hcc hsu
       go_wp2_with fail
       go_quiet (fail)
       go_wp2_with fail
       go_round
       case rel=>exact⟨k+1,by omega,by go_num,by rw[hv.out],rb3 HB _⟩
       case measure=>simp[intOf];omega
      ·have ec:((ch F k:Int)==(c:Int))=false:=by simp;omega
       have hv:Go.RowKit.Hid ((b0||inSet F c (k+1))=(b0||inSet F c k)):=by show _=_;rw[hsu,decide_eq_false hcc,Bool.or_false]
       clear hcc hsu
       go_wp2_with fail
       go_quiet (fail)
       go_wp2_with fail
       go_round
       case rel=>exact⟨k+1,by omega,by go_num,by rw[hv.out],rb3 HB _⟩
       case measure=>simp[intOf];omega
     ·obtain rfl:k=F.size:=by omega
      have d2:decide ((F.size:Int)<(F.size:Int))=false:=by simp
      have hX:=hX.out
      generalize (b0||inSet F c F.size)=bb at hX ⊢
      cases bb
      ·have g:madeB s F M=false:=by
        unfold madeB
        simp only[decide_eq_false_iff_not]
        rintro⟨-,h⟩
        have:=h 0 hlt
        rw[<- hc.out,hX] at this
        cases this
       clear hX
       go_wp2_with fail
       go_ret
       first|exact⟨rfl,HB⟩|exact⟨nret g.symm,HB⟩
      ·have hX:Go.RowKit.Hid (_=true):=hX
       go_wp2_with fail
       go_round
       case rel=>exact⟨1,by omega,by go_num,fun j hj=>by
        by_cases h:j=0
        ·rw[h,<- hc.out];exact hX.out
        ·exact hall j (by omega),HB⟩
       case measure=>simp[intOf];omega
   ·have e0:((i:Int)==0)=false:=by simp[hi0]
    have p0:0<i:=by omega
    obtain⟨c,hc⟩:∃ c,Go.RowKit.Hid (c=ch s i):=⟨_,rfl⟩
    rw[<- hc.out] at ix
    obtain⟨b0,hb0⟩:∃ b0,(nlet c||ndig c)=b0:=⟨_,rfl⟩
    have hX:Go.RowKit.Hid (madeC F M i c=(b0||inSet M c M.size)):=by show _=_;unfold madeC;rw[if_neg hi0,<- hb0,decide_eq_true (show 0<i by omega),Bool.true_and]
    clear hi0
    go_upto_region 7 with fail
    go_cut [8,9] (fun s8 s9 wx=>s8 = .string M/\s9 = .bool b0/\wx=wr)
    case first =>
     cases hl:nlet c<;>cases hd:ndig c<;>rw[hl,hd] at hb0
     all_goals
      have hb1:Go.RowKit.Hid (_=b0):=hb0
      clear hb0
      go_wp2_with (first|(go_at_call 66;refine(rletter _ _).mono ?_;rintro e w1 ⟨rfl,hw1⟩;subst w1)|(go_at_call 67;refine(rdigit _ _).mono ?_;rintro e w1 ⟨rfl,hw1⟩;subst w1))
      go_meet
      case rel=>exact⟨rfl,by rw[<- hb1.out]<;>rfl,rfl⟩
    case rest =>
    obtain⟨rfl,rfl,rfl⟩:=hcut
    rename World=>wr
    go_wp2_with fail
    go_loopw [9,10] (fun ok v w2=>∃ k:Nat,k<=M.size/\v = .int .i64 (k:Int)/\ok = .bool (b0||inSet M c k)/\Below w.heap.size w w2) (fun _ v _=>M.size-(intOf v).toNat)
    case atStart=>exact⟨0,Nat.zero_le _,rfl,by simp[inSet],HB⟩
    case round =>
     obtain⟨k,hk,rfl,rfl,HB⟩:=hrel
     by_cases hkl:k<M.size
     ·have d2:decide ((k:Int)<(M.size:Int))=true:=by simp;omega
      have ix2:∀ w:World,(Instr.index 9 (.string M) (.int .i64 (k:Int))).run Tryz.prog w = .ok (.int .u8 (ch M k:Int)) w:=fun w=>nidx (w:=w) M k hkl .i64
      have hsu:=inSet_succ M c k
      by_cases hcc:ch M k=c
      ·have ec:((ch M k:Int)==(c:Int))=true:=by simp;omega
       have hv:Go.RowKit.Hid ((b0||inSet M c (k+1))=true):=by show _=_;rw[hsu,decide_eq_true hcc,Bool.or_true,Bool.or_true]
       clear hcc hsu
       go_wp2_with fail
       go_quiet (fail)
       go_wp2_with fail
       go_round
       case rel=>exact⟨k+1,by omega,by go_num,by rw[hv.out],rb3 HB _⟩
       case measure=>simp[intOf];omega
      ·have ec:((ch M k:Int)==(c:Int))=false:=by simp;omega
       have hv:Go.RowKit.Hid ((b0||inSet M c (k+1))=(b0||inSet M c k)):=by show _=_;rw[hsu,decide_eq_false hcc,Bool.or_false]
       clear hcc hsu
       go_wp2_with fail
       go_quiet (fail)
       go_wp2_with fail
       go_round
       case rel=>exact⟨k+1,by omega,by go_num,by rw[hv.out],rb3 HB _⟩
       case measure=>simp[intOf];omega
     ·obtain rfl:k=M.size:=by omega
      have d2:decide ((M.size:Int)<(M.size:Int))=false:=by simp
      have hX:=hX.out
      generalize (b0||inSet M c M.size)=bb at hX ⊢
      cases bb
      ·have g:madeB s F M=false:=by
        unfold madeB
        simp only[decide_eq_false_iff_not]
        rintro⟨-,h⟩
        have:=h i hlt
        rw[<- hc.out,hX] at this
        cases this
       clear hX
       go_wp2_with fail
       go_ret
       first|exact⟨rfl,HB⟩|exact⟨nret g.symm,HB⟩
      ·have hX:Go.RowKit.Hid (_=true):=hX
       go_wp2_with fail
       go_round
       case rel=>exact⟨i+1,by omega,by go_num,fun j hj=>by
        by_cases h:j=i
        ·rw[h,<- hc.out];exact hX.out
        ·exact hall j (by omega),HB⟩
       case measure=>simp[intOf];omega
  ·obtain rfl:i=s.size:=by omega
   have g:madeB s F M = !(s.toList==[]):=by
    rw[nempty]
    unfold madeB
    by_cases h0:s.size=0
    ·simp[h0]
    ·simp only[h0,decide_false,Bool.not_false,decide_eq_true_eq]
     exact⟨by omega,hall⟩
   clear hall
   have d2:decide ((s.size:Int)<(s.size:Int))=false:=by simp
   have g:Go.RowKit.Hid (madeB s F M = !(s.toList==[])):=g
   go_wp2_with fail
   go_ret
   exact⟨nret (by rw[g.out];cases s.toList<;>rfl),HB⟩
abbrev yF:ByteArray:=⟨#[95]⟩
theorem inSet_yF (c:Nat):inSet yF c yF.size=decide (95=c):=by
 show (decide (95=c)||false)=_
 rw[Bool.or_false]
theorem madeC_y (i c:Nat):madeC yF yF i c=(nsym c && !(decide (i=0)&&ndig c && !nlet c && !decide (c=95))):=by
 unfold madeC nsym
 simp only[ite_self]
 rw[inSet_yF]
 by_cases hi:i=0
 ·rw[hi]
  simp only[eq_comm (a:=c)]
  cases nlet c<;>cases ndig c<;>cases decide (95=c)<;>simp
 ·rw[decide_eq_true (show 0<i by omega),decide_eq_false hi]
  simp only[eq_comm (a:=c)]
  cases nlet c<;>cases ndig c<;>cases decide (95=c)<;>rfl
theorem dig_not (c:Nat) (h:ndig c=true):nlet c=false/\decide (c=95)=false:=by
 unfold ndig at h
 simp only[Bool.and_eq_true,decide_eq_true_eq] at h
 unfold nlet
 constructor
 ·simp;omega
 ·simp;omega
theorem madeB_y (s:ByteArray):(decide (s.size<=64)&&madeB s yF yF)=symbolB s:=by
 unfold madeB symbolB
 rw[<- Bool.decide_and]
 apply decide_eq_decide.2
 constructor
 ·rintro⟨h1,h2,h3⟩
  refine⟨h2,h1,?_,fun i hi=>?_⟩
  ·have:=h3 0 h2
   rw[madeC_y] at this
   cases hd:ndig (ch s 0)
   ·rfl
   ·obtain⟨a,b⟩:=dig_not _ hd
    rw[hd,a,b] at this
    simp at this
  ·have:=h3 i hi
   rw[madeC_y,Bool.and_eq_true] at this
   exact this.1
 ·rintro⟨h1,h2,h3,h4⟩
  refine⟨h2,h1,fun i hi=>?_⟩
  rw[madeC_y,h4 i hi]
  by_cases h0:i=0
  ·rw[h0,h3];simp
  ·simp[h0]
theorem rSymbol (s:ByteArray) (hs:s.size<=9223372036854775806) (w:World):Calls Tryz.prog 30 #[.string s] w fun e w'=>e = .returned (.bool (symbolB s))/\Below w.heap.size w w':=by
 have hm:=fun w=>rmade s yF yF hs (by decide) (by decide) w
 have hy:=madeB_y s
 by_cases h:s.size<=64
 ·have d:decide ((s.size:Int)<=64)=true:=by simp;omega
  rw[decide_eq_true h,Bool.true_and] at hy
  rw[hy] at hm
  clear hy
  go_enter Tryz.func30,Tryz.ntmps30
  go_wp2_with (go_at_call 50;refine(hm _).mono ?_;rintro e w1 ⟨rfl,hb⟩)
  go_ret
  exact⟨rfl,hb⟩
 ·have d:decide ((s.size:Int)<=64)=false:=by simp;omega
  rw[decide_eq_false h,Bool.false_and] at hy
  rw[<- hy]
  clear hy hm h
  go_enter Tryz.func30,Tryz.ntmps30
  go_wp2
  go_ret
  exact⟨rfl,Below.refl _ _⟩
open Go.Shelf Go.Maps
theorem refTakes_p (K:Int) (F:FuncId) (c:Df) (f:Fm) (L:List Od) (x x1 x2:Od) (xt t:Tk) (ids:List Int) (vi:Value) (w:World) (N R:Prop) (Q:World->Prop) (h:Dt w c f L x xt t ids vi) (ho:t.op=K) (hK:(K=2/\F=33/\x=x1)\/(K=4/\F=34/\{ x with stg:=1 }=x1)\/(K=6/\F=34/\{ x with stg:=2 }=x1)) (hm:mayD xt.op x.stg t.op=true) (hp:plainB t=true) (hs:symbolB t.name=true) (hq:(if bgO t.op then pairB f.toks c.i t else decide (t.pair=c.i))=true) (hidl:ids.length+1<=977343669134)
  (cN:∀ W,Dt W c f L x1 xt t ids vi->Calls Tryz.prog 31 #[.pointer (some ⟨c.B,0,none⟩),.int .i64 (c.i:Int)] W fun r w'=>Ans r N/\Below W.heap.size W w')
  (cF:∀ W,Dt W c f L x1 xt t ids vi->Calls Tryz.prog F #[.pointer (some ⟨c.B,0,none⟩),.int .i64 (c.i:Int),.pointer (some ⟨c.go,L.length*5,none⟩)] W fun r w'=>Lfd r R c W w' (Dt w' c f L x2 xt t ids vi))
  (hQ:Hid (∀ w' vi',Dt w' c f L x2 xt t (ids++[t.id]) vi'->Q w')) :
  Calls Tryz.prog 17 #[.pointer (some ⟨c.B,0,none⟩),.int .i64 (c.i:Int)] w fun r w'=>∃ b,r = .returned (.bool b)/\(b=true↔N/\R)/\Kb (c.go::c.B::vi.ownBlock.toList) w w'/\(b=true->Q w'):=by
 have o2:(t.op==2)=(K==2):=by rw[ho]
 have o4:(t.op==4)=(K==4):=by rw[ho]
 have o6:(t.op==6)=(K==6):=by rw[ho]
 obtain⟨pc,cc,hT,hU,hC,hO⟩:=h.d0.tk
 have b12:=h.ds.c12
 have hii:(c.i:Int)<f.toks.length:=by have:=h.il;omega
 have hll:=h.ll
 have hln:=h.ln
 have e1:((L.length+1:Nat):Int)-1=(L.length:Int):=by omega
 have e2:(L.length:Int)<((L.length+1:Nat):Int):=by omega
 have l1:=hT.load
 obtain⟨W1,s1,hA,hb1,hz1⟩:=ld_new w t pc cc
 have h1:=h.below hb1
 have a0:W1.cell? ⟨w.heap.size,0,none⟩=some (.int .i64 t.op):=hA.c0
 have hwl:w.heap.size<W1.heap.size:=by omega
 have cM:=refMay_any c f L x xt t ids vi t.op W1 h1
 have cPl:=fun W (hW:Below W1.heap.size W1 W)=>refPlain_any t pc cc W ((hU.below (hb1.trans (hW.mono hb1.size))).mono (Nat.le_trans hb1.size hW.size)) hO.cst
 have cSy:=fun W=>rSymbol t.name (by have:=hO.name;omega) W
 have cPr:=fun W (hW:Below W1.heap.size W1 W)=>refPaired_any c f t _ vi W (h1.below hW).d0
 have hR:Hid (∀ W,Below W1.heap.size W1 W->TkC W w.heap.size 0 t pc cc/\Dt W c f L x xt t ids vi/\Below w.heap.size w W):=⟨fun W hW=>⟨hA.below hwl hW,h1.below hW,hb1.trans (hW.mono hb1.size)⟩⟩
 have hLd:Hid (∀ W,Below W1.heap.size W1 W->(Instr.loadAt 40 (.pointer (some ⟨w.heap.size,0,none⟩))).run Tryz.prog W = .ok (tkV t pc cc) W):=⟨fun W hW=>(hA.below hwl hW).load⟩
 replace l1:=Hid.mk l1
 replace s1:=Hid.mk s1
 replace h:=Hid.mk h
 replace h1:=Hid.mk h1
 replace hb1:=Hid.mk hb1
 replace hz1:=Hid.mk hz1
 replace hO:=Hid.mk hO
 clear hT hC hA
 rw[hm] at cM
 rw[hp] at cPl
 rw[hs] at cSy
 rw[hq] at cPr
 clear ho hm hp hs hq
 replace cN:=Hid.mk cN
 replace cF:=Hid.mk cF
 have gne:Hid (c.go≠w.heap.size):=⟨by have:=h.out.op.lt;omega⟩
 have ZZ:Hid (∀ (wd:World) (nq:Nat) (V:World),TkC wd w.heap.size 0 t pc cc->Dt wd c f L x xt t ids vi->Below w.heap.size w wd->Below W1.heap.size W1 wd->((wd.drewN nq=V/\x=x1)\/∃ q:Int,(wd.drewN nq).setCell ⟨c.go,L.length*5+1,none⟩ (.int .i64 q)=V/\{ x with stg:=q }=x1)->Dt V c f L x1 xt t ids vi/\TkC V w.heap.size 0 t pc cc/\Kb (c.go::c.B::vi.ownBlock.toList) w V/\w.heap.size<V.heap.size):=⟨fun wd nq V y1 y2 y3 ed hV=>by
  rcases hV with ⟨rfl,rfl⟩|⟨q,rfl,rfl⟩
  ·exact⟨y2.below (tdr (Below.refl _ _)),y1.same rfl,Kb.of_below (tdr y3),Nat.lt_of_lt_of_le hwl ed.size⟩
  ·exact⟨(y2.below (tdr (Below.refl _ _))).wrote (j:=1) (by decide) rfl rfl,(y1.same (w':=wd.drewN nq) rfl).same (set_oth gne.out),kb_go ((Kb.drewM (Kb.of_below y3) nq).set (List.mem_singleton.2 rfl) _),Nat.lt_of_lt_of_le (Nat.lt_of_lt_of_le hwl ed.size) ((Kb.refl [c.go] (wd.drewN nq)).set (List.mem_singleton.2 rfl) _).size⟩⟩
 rcases hK with ⟨rfl,rfl,rfl⟩|⟨rfl,rfl,rfl⟩|⟨rfl,rfl,rfl⟩
 all_goals
  simp only[Int.reduceBEq] at o2 o4 o6
  go_enter Tryz.func17,Tryz.ntmps17
  go_wp2_with (first
   | (guard_target =~ wpList _ _ _ (Oper.mk _ (Op.load 40 _) _ _ _ _::_) _ _;(first|refine wpList_ld 40 _ rfl rfl _ _ rfl l1.out ?_|refine wpList_ld 40 _ rfl rfl _ _ rfl (hLd.out _ ea) ?_);simp only[pts])
   | (guard_target =~ wpList _ _ _ (Oper.mk _ (Op.store 40 _ _) _ _ _ _::_) _ _;go_must (refine wpList_st 40 _ _ rfl rfl _ _ rfl rfl (s1.out _ rfl) ?_);simp only[pts])
   | (go_at_call 32;refine cM.mono ?_;rintro _ wa ⟨rfl,ea⟩)
   | (go_at_call 28;refine(cPl _ ea).mono ?_;rintro _ wb ⟨rfl,eb'⟩;have eb:Below W1.heap.size W1 wb:=ea.trans (eb'.mono ea.size);have t1:=(hR.out _ eb).1.c1;simp only[Nat.zero_add] at t1)
   | (go_at_call 30;refine(cSy _).mono ?_;rintro _ wc ⟨rfl,ec'⟩;have ec:Below W1.heap.size W1 wc:=eb.trans (ec'.mono eb.size))
   | (go_at_call 29;refine(cPr _ ec).mono ?_;rintro _ wd ⟨rfl,ed'⟩;have ed:Below W1.heap.size W1 wd:=ec.trans (ed'.mono ec.size);obtain⟨y1,y2,y3⟩:=hR.out _ ed;have t0:=y1.c0;have b13:=y2.ds.c13;replace y1:=Hid.mk y1;replace y2:=Hid.mk y2;replace y3:=Hid.mk y3))
  go_quiet (fail)
  have zx:=y2.out.sc.c1
  have zf:wd.frozen? ⟨c.go,L.length*5+1,none⟩=false:=y2.out.op.frz _
  first
   | have Z:=ZZ.out wd nq (wd.drewN nq) y1.out y2.out y3.out ed (Or.inl ⟨rfl,True.intro⟩)
   | have Z:=ZZ.out wd nq _ y1.out y2.out y3.out ed (.inr ⟨_,rfl,rfl⟩)
  have hD:Hid _:=⟨Z.1⟩
  have hTd:Hid _:=⟨Z.2.1⟩
  have hk0:Hid _:=⟨Z.2.2.1⟩
  have hlW:Hid _:=⟨Z.2.2.2⟩
  clear Z
  go_wp2_with fail
  refine(cN.out _ hD.out).mono ?_
  rintro _ we ⟨⟨(_|_),rfl,hbN⟩,ee⟩
  ·have hI:=(hD.out.below ee).di
   have hTe:=hTd.out.below hlW.out ee
   have hlX:w.heap.size<we.heap.size:=Nat.lt_of_lt_of_le hlW.out ee.size
   have HN:Hid (¬ N):=⟨fun e=>by have:=hbN.2 e;cases this⟩
   clear hbN
   have t0:=hTe.c0
   have t2:=hTe.c2
   have b14:=hI.ds.c14
   simp only[Nat.zero_add] at t2
   have fz:=hI.ds.frz 14
   have hBn:c.B≠we.heap.size:=by have:=hI.ds.lt;omega
   have b14':∀ o,(we.alloc o).cell? ⟨c.B,14,none⟩=some vi:=fun o=>((bel1 _ _).cell (p:=⟨c.B,14,none⟩) hI.ds.lt).trans b14
   have t2':∀ o,(we.alloc o).cell? ⟨w.heap.size,2,none⟩=some (.int .i64 t.id):=fun o=>((bel1 _ _).cell (p:=⟨w.heap.size,2,none⟩) hlX).trans t2
   clear hTe
   replace hI:=Hid.mk hI
   go_wp2_with fail
   go_region_law ((refine step_append_ex rfl _ _ _ _ (by rfl) vi (.slice (some ⟨we.heap.size,0,none⟩) 1 1) (by rfl) (by rfl) _ (i_ap (bl:=[t.id]) 1 (own_alloc2 hI.out.ir (by first|exact bel1 _ _|exact drw (bel1 _ _))) (lit1 (heap_al _ _)) hidl (by first|(rw[World.size_alloc];have:=hI.out.sz;omega)|(show c.H<=(we.alloc _).heap.size;rw[World.size_alloc];have:=hI.out.sz;omega))) ?_;rintro v' w' ⟨q1,q2,q3⟩;rw[show (ids++[t.id]).length=ids.length+1 by simp] at q1;obtain⟨gi,ci,rfl⟩:=own_slice q1 (by omega);have hk2:w'.heap[c.B]?=we.heap[c.B]?:=(q2.block c.B (Nat.lt_of_lt_of_le hI.out.ds.lt (al_le _ _)) (fun e=>hI.out.ap.iB e.symm)).trans ((bel1 _ _).block c.B hI.out.ds.lt);have c4:=hI.out.ds.same hk2;have y14:w'.cell? ⟨c.B,14,none⟩=some vi:=c4.c14;have yf:=c4.frz 14;replace c4:=Hid.mk c4))
   all_goals
    go_wp2_with fail
    go_ret
    refine⟨false,rfl,by simp[HN.out],?_,fun e=>by cases e⟩
    exact(hk0.out.trans (Kb.of_below ee)).trans (kb_tl (ids_kb (by first|exact bel1 _ _|exact drw (bel1 _ _)) q2))
  ·have hE:=hD.out.below ee
   have HN:Hid N:=⟨hbN.1 rfl⟩
   clear hbN
   go_wp2_with fail
   refine(cF.out _ hE).mono ?_
   rintro _ wf ⟨b,rfl,hbR,kf,dF⟩
   have hI:=hE.di.kept kf
   have hgt:w.heap.size∉[c.go]:=notin1 (by have:=h.out.op.lt;omega)
   have hle:w.heap.size<we.heap.size:=Nat.lt_of_lt_of_le hlW.out ee.size
   have hTe:=(hTd.out.below hlW.out ee).same (kf.block _ hle hgt)
   have hlX:w.heap.size<wf.heap.size:=Nat.lt_of_lt_of_le hle kf.size
   replace hbR:=Hid.mk hbR
   replace dF:=Hid.mk dF
   replace kf:=Hid.mk kf
   have t0:=hTe.c0
   have t2:=hTe.c2
   have b14:=hI.ds.c14
   simp only[Nat.zero_add] at t2
   have fz:=hI.ds.frz 14
   have hBn:c.B≠wf.heap.size:=by have:=hI.ds.lt;omega
   have b14':∀ o,(wf.alloc o).cell? ⟨c.B,14,none⟩=some vi:=fun o=>((bel1 _ _).cell (p:=⟨c.B,14,none⟩) hI.ds.lt).trans b14
   have t2':∀ o,(wf.alloc o).cell? ⟨w.heap.size,2,none⟩=some (.int .i64 t.id):=fun o=>((bel1 _ _).cell (p:=⟨w.heap.size,2,none⟩) hlX).trans t2
   clear hTe
   replace hI:=Hid.mk hI
   go_wp2_with fail
   go_region_law ((refine step_append_ex rfl _ _ _ _ (by rfl) vi (.slice (some ⟨wf.heap.size,0,none⟩) 1 1) (by rfl) (by rfl) _ (i_ap (bl:=[t.id]) 1 (own_alloc2 hI.out.ir (by first|exact bel1 _ _|exact drw (bel1 _ _))) (lit1 (heap_al _ _)) hidl (by first|(rw[World.size_alloc];have:=hI.out.sz;omega)|(show c.H<=(wf.alloc _).heap.size;rw[World.size_alloc];have:=hI.out.sz;omega))) ?_;rintro v' w' ⟨q1,q2,q3⟩;rw[show (ids++[t.id]).length=ids.length+1 by simp] at q1;obtain⟨gi,ci,rfl⟩:=own_slice q1 (by omega);have hk2:w'.heap[c.B]?=wf.heap[c.B]?:=(q2.block c.B (Nat.lt_of_lt_of_le hI.out.ds.lt (al_le _ _)) (fun e=>hI.out.ap.iB e.symm)).trans ((bel1 _ _).block c.B hI.out.ds.lt);have c4:=hI.out.ds.same hk2;have y14:w'.cell? ⟨c.B,14,none⟩=some vi:=c4.c14;have yf:=c4.frz 14;replace c4:=Hid.mk c4))
   all_goals
    go_wp2_with fail
    go_ret
    refine⟨b,rfl,by rw[hbR.out];simp[HN.out],?_,fun e=>hQ.out _ _ (ids_fin (dF.out e) (by first|exact bel1 _ _|exact drw (bel1 _ _)) q1 q2 q3).1⟩
    exact(hk0.out.trans (Kb.of_below ee)).trans ((kb_go kf.out).trans (kb_tl (ids_kb (by first|exact bel1 _ _|exact drw (bel1 _ _)) q2)))
theorem refTakes_no (c:Df) (f:Fm) (L:List Od) (x:Od) (xt t:Tk) (ids:List Int) (vi:Value) (w:World) (h:Dt w c f L x xt t ids vi)
  (hN:¬ (mayD xt.op x.stg t.op=true/\plainB t=true/\symbolB t.name=true/\(if bgO t.op then pairB f.toks c.i t else decide (t.pair=c.i))=true)) :
  Calls Tryz.prog 17 #[.pointer (some ⟨c.B,0,none⟩),.int .i64 (c.i:Int)] w fun r w'=>r = .returned (.bool false)/\Below w.heap.size w w':=by
 obtain⟨pc,cc,hT,hU,hC,hO⟩:=h.d0.tk
 have b12:=h.ds.c12
 have hii:(c.i:Int)<f.toks.length:=by have:=h.il;omega
 have hll:=h.ll
 have hln:=h.ln
 have e1:((L.length+1:Nat):Int)-1=(L.length:Int):=by omega
 have e2:(L.length:Int)<((L.length+1:Nat):Int):=by omega
 have l1:=hT.load
 obtain⟨W1,s1,hA,hb1,hz1⟩:=ld_new w t pc cc
 have h1:=h.below hb1
 have a0:W1.cell? ⟨w.heap.size,0,none⟩=some (.int .i64 t.op):=hA.c0
 have hwl:w.heap.size<W1.heap.size:=by omega
 have cM:=refMay_any c f L x xt t ids vi t.op W1 h1
 have cPl:=fun W (hW:Below W1.heap.size W1 W)=>refPlain_any t pc cc W ((hU.below (hb1.trans (hW.mono hb1.size))).mono (Nat.le_trans hb1.size hW.size)) hO.cst
 have cSy:=fun W=>rSymbol t.name (by have:=hO.name;omega) W
 have cPr:=fun W (hW:Below W1.heap.size W1 W)=>refPaired_any c f t _ vi W (h1.below hW).d0
 have hR:Hid (∀ W,Below W1.heap.size W1 W->TkC W w.heap.size 0 t pc cc/\Dt W c f L x xt t ids vi/\Below w.heap.size w W):=⟨fun W hW=>⟨hA.below hwl hW,h1.below hW,hb1.trans (hW.mono hb1.size)⟩⟩
 have hLd:Hid (∀ W,Below W1.heap.size W1 W->(Instr.loadAt 40 (.pointer (some ⟨w.heap.size,0,none⟩))).run Tryz.prog W = .ok (tkV t pc cc) W):=⟨fun W hW=>(hA.below hwl hW).load⟩
 replace l1:=Hid.mk l1
 replace s1:=Hid.mk s1
 replace h:=Hid.mk h
 replace h1:=Hid.mk h1
 replace hb1:=Hid.mk hb1
 replace hz1:=Hid.mk hz1
 replace hO:=Hid.mk hO
 clear hT hC hA
 generalize mayD xt.op x.stg t.op=q1 at *
 generalize plainB t=q2 at *
 generalize symbolB t.name=q3 at *
 generalize (if bgO t.op then pairB f.toks c.i t else decide (t.pair=c.i))=q4 at *
 replace hN:=Hid.mk hN
 by_cases eq1:q1=false
 ·subst eq1
  go_enter Tryz.func17,Tryz.ntmps17
  go_wp2_with (first
   | (guard_target =~ wpList _ _ _ (Oper.mk _ (Op.load 40 _) _ _ _ _::_) _ _;(first|refine wpList_ld 40 _ rfl rfl _ _ rfl l1.out ?_|refine wpList_ld 40 _ rfl rfl _ _ rfl (hLd.out _ ea) ?_);simp only[pts])
   | (guard_target =~ wpList _ _ _ (Oper.mk _ (Op.store 40 _ _) _ _ _ _::_) _ _;go_must (refine wpList_st 40 _ _ rfl rfl _ _ rfl rfl (s1.out _ rfl) ?_);simp only[pts])
   | (go_at_call 32;refine cM.mono ?_;rintro _ wa ⟨rfl,ea⟩)
   | (go_at_call 28;refine(cPl _ ea).mono ?_;rintro _ wb ⟨rfl,eb'⟩;have eb:Below W1.heap.size W1 wb:=ea.trans (eb'.mono ea.size);have t1:=(hR.out _ eb).1.c1;simp only[Nat.zero_add] at t1)
   | (go_at_call 30;refine(cSy _).mono ?_;rintro _ wc ⟨rfl,ec'⟩;have ec:Below W1.heap.size W1 wc:=eb.trans (ec'.mono eb.size))
   | (go_at_call 29;refine(cPr _ ec).mono ?_;rintro _ wd ⟨rfl,ed'⟩;have ed:Below W1.heap.size W1 wd:=ec.trans (ed'.mono ec.size);obtain⟨y1,y2,y3⟩:=hR.out _ ed;have t0:=y1.c0;have b13:=y2.ds.c13;replace y1:=Hid.mk y1;replace y2:=Hid.mk y2;replace y3:=Hid.mk y3))
  go_ret
  exact⟨rfl,(hR.out _ ea).2.2⟩
 obtain rfl:q1=true:=by simpa using eq1
 by_cases eq2:q2=false
 ·subst eq2
  go_enter Tryz.func17,Tryz.ntmps17
  go_wp2_with (first
   | (guard_target =~ wpList _ _ _ (Oper.mk _ (Op.load 40 _) _ _ _ _::_) _ _;(first|refine wpList_ld 40 _ rfl rfl _ _ rfl l1.out ?_|refine wpList_ld 40 _ rfl rfl _ _ rfl (hLd.out _ ea) ?_);simp only[pts])
   | (guard_target =~ wpList _ _ _ (Oper.mk _ (Op.store 40 _ _) _ _ _ _::_) _ _;go_must (refine wpList_st 40 _ _ rfl rfl _ _ rfl rfl (s1.out _ rfl) ?_);simp only[pts])
   | (go_at_call 32;refine cM.mono ?_;rintro _ wa ⟨rfl,ea⟩)
   | (go_at_call 28;refine(cPl _ ea).mono ?_;rintro _ wb ⟨rfl,eb'⟩;have eb:Below W1.heap.size W1 wb:=ea.trans (eb'.mono ea.size);have t1:=(hR.out _ eb).1.c1;simp only[Nat.zero_add] at t1)
   | (go_at_call 30;refine(cSy _).mono ?_;rintro _ wc ⟨rfl,ec'⟩;have ec:Below W1.heap.size W1 wc:=eb.trans (ec'.mono eb.size))
   | (go_at_call 29;refine(cPr _ ec).mono ?_;rintro _ wd ⟨rfl,ed'⟩;have ed:Below W1.heap.size W1 wd:=ec.trans (ed'.mono ec.size);obtain⟨y1,y2,y3⟩:=hR.out _ ed;have t0:=y1.c0;have b13:=y2.ds.c13;replace y1:=Hid.mk y1;replace y2:=Hid.mk y2;replace y3:=Hid.mk y3))
  go_ret
  exact⟨rfl,(hR.out _ eb).2.2⟩
 obtain rfl:q2=true:=by simpa using eq2
 by_cases eq3:q3=false
 ·subst eq3
  go_enter Tryz.func17,Tryz.ntmps17
  go_wp2_with (first
   | (guard_target =~ wpList _ _ _ (Oper.mk _ (Op.load 40 _) _ _ _ _::_) _ _;(first|refine wpList_ld 40 _ rfl rfl _ _ rfl l1.out ?_|refine wpList_ld 40 _ rfl rfl _ _ rfl (hLd.out _ ea) ?_);simp only[pts])
   | (guard_target =~ wpList _ _ _ (Oper.mk _ (Op.store 40 _ _) _ _ _ _::_) _ _;go_must (refine wpList_st 40 _ _ rfl rfl _ _ rfl rfl (s1.out _ rfl) ?_);simp only[pts])
   | (go_at_call 32;refine cM.mono ?_;rintro _ wa ⟨rfl,ea⟩)
   | (go_at_call 28;refine(cPl _ ea).mono ?_;rintro _ wb ⟨rfl,eb'⟩;have eb:Below W1.heap.size W1 wb:=ea.trans (eb'.mono ea.size);have t1:=(hR.out _ eb).1.c1;simp only[Nat.zero_add] at t1)
   | (go_at_call 30;refine(cSy _).mono ?_;rintro _ wc ⟨rfl,ec'⟩;have ec:Below W1.heap.size W1 wc:=eb.trans (ec'.mono eb.size))
   | (go_at_call 29;refine(cPr _ ec).mono ?_;rintro _ wd ⟨rfl,ed'⟩;have ed:Below W1.heap.size W1 wd:=ec.trans (ed'.mono ec.size);obtain⟨y1,y2,y3⟩:=hR.out _ ed;have t0:=y1.c0;have b13:=y2.ds.c13;replace y1:=Hid.mk y1;replace y2:=Hid.mk y2;replace y3:=Hid.mk y3))
  go_ret
  exact⟨rfl,(hR.out _ ec).2.2⟩
 obtain rfl:q3=true:=by simpa using eq3
 by_cases eq4:q4=false
 ·subst eq4
  go_enter Tryz.func17,Tryz.ntmps17
  go_wp2_with (first
   | (guard_target =~ wpList _ _ _ (Oper.mk _ (Op.load 40 _) _ _ _ _::_) _ _;(first|refine wpList_ld 40 _ rfl rfl _ _ rfl l1.out ?_|refine wpList_ld 40 _ rfl rfl _ _ rfl (hLd.out _ ea) ?_);simp only[pts])
   | (guard_target =~ wpList _ _ _ (Oper.mk _ (Op.store 40 _ _) _ _ _ _::_) _ _;go_must (refine wpList_st 40 _ _ rfl rfl _ _ rfl rfl (s1.out _ rfl) ?_);simp only[pts])
   | (go_at_call 32;refine cM.mono ?_;rintro _ wa ⟨rfl,ea⟩)
   | (go_at_call 28;refine(cPl _ ea).mono ?_;rintro _ wb ⟨rfl,eb'⟩;have eb:Below W1.heap.size W1 wb:=ea.trans (eb'.mono ea.size);have t1:=(hR.out _ eb).1.c1;simp only[Nat.zero_add] at t1)
   | (go_at_call 30;refine(cSy _).mono ?_;rintro _ wc ⟨rfl,ec'⟩;have ec:Below W1.heap.size W1 wc:=eb.trans (ec'.mono eb.size))
   | (go_at_call 29;refine(cPr _ ec).mono ?_;rintro _ wd ⟨rfl,ed'⟩;have ed:Below W1.heap.size W1 wd:=ec.trans (ed'.mono ec.size);obtain⟨y1,y2,y3⟩:=hR.out _ ed;have t0:=y1.c0;have b13:=y2.ds.c13;replace y1:=Hid.mk y1;replace y2:=Hid.mk y2;replace y3:=Hid.mk y3))
  go_ret
  exact⟨rfl,(hR.out _ ed).2.2⟩
 obtain rfl:q4=true:=by simpa using eq4
 exact absurd ⟨rfl,rfl,rfl,rfl⟩ hN.out
end Go.Proofs.YtcgimchhcaankaaGreatDoor
