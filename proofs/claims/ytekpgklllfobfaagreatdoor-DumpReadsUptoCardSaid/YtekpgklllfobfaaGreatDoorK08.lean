import Derived.Deep.CutBlock
import Derived.Test.YtekpgklllfobfaaGreatDoorK07
namespace Go.Proofs.YtekpgklllfobfaaGreatDoor
set_option maxRecDepth 1000000
set_option maxHeartbeats 16000000
open Go.ChangeShapes Go.WideShapes Go.ChangeAt Go.RowKit Go.Shelf Go.Maps
structure Dw (w:World) (l:List (ByteArray×Int)) (v:Value) (W:World):Prop where
 st:StR W w.heap.size v l
 bl:Below w.heap.size w W
theorem Dw.below {w W W':World} {l:List (ByteArray×Int)} {v:Value} (h:Dw w l v W) (hb:Below W.heap.size W W'):Dw w l v W' :=
 ⟨own_stay h.st fun g hg=>hb.block g (World.ownsRow.lt h.st g hg).2,h.bl.trans (hb.mono h.bl.size)⟩
structure Dp (w:World) (s:ByteArray) (k a:Nat) (l:List (ByteArray×Int)) (v:Value) (W:World):Prop where
 d:Dw w l v W
 az:a<=s.size
 ll:l.length<=a
 kk:s.size-a+1<=k
 e:pathZ s=paP s k a l
structure Dx (w:World) (s:ByteArray) (l:List (ByteArray×Int)) (v:Value) (X:Nat) (x:ByteArray×Int) (W:World):Prop where
 d:Dw w l v W
 xb:W.heap[X]?=some (spO x)
 ng:v.ownBlock≠some X
 lt:w.heap.size<=X
def DE (w:World) (o:Option (List (ByteArray×Int))) (b:Nat) (e:Ending) (w':World):Prop:=Below w.heap.size w w'/\((o=none/\e = .returned (.tuple #[.slice none 0 0,.int .i64 210,.int .i64 (b:Int)]))\/(∃ l v,o=some l/\e = .returned (.tuple #[v,.int .i64 0,.int .i64 0])/\StR w' w.heap.size v l))
theorem res_P21 (tmps:Array Value) (v:Value) (n m:Int) (h2:tmps[2]?.getD undef=v) (h3:tmps[3]?.getD undef = .int .i64 n) (h4:tmps[4]?.getD undef = .int .i64 m) (W:World) :
  (results Tryz.f23 tmps).run Tryz.prog W = .ok (.tuple #[v,.int .i64 n,.int .i64 m]) W:=by
 simp[results,Tryz.results23,go_sem,h2,h3,h4]
theorem Dx.ent {w W:World} {s:ByteArray} {l:List (ByteArray×Int)} {v:Value} {X:Nat} {x:ByteArray×Int} (h:Dx w s l v X x W) (n:Int):Dx w s l v X (x.1,n) (W.setCell ⟨X,1,none⟩ (.int .i64 n)) :=
 ⟨⟨own_stay h.d.st fun g hg=>set_off (fun e=>h.ng (by rw[<- e];exact hg)),h.d.bl.setCell (p:=⟨X,1,none⟩) h.lt _⟩,by rw[set_at h.xb];rfl,h.ng,h.lt⟩
theorem Dx.push {w W:World} {s:ByteArray} (hs:s.size<=1048576) {l:List (ByteArray×Int)} {v:Value} {X:Nat} {x:ByteArray×Int} (h:Dx w s l v X x W) (hl:l.length<=s.size):∃ v' w',(∀ ty,(Builtin.append_ #[52,52] ty #[v,.slice (some ⟨W.heap.size,0,none⟩) 1 1]).run Tryz.prog (W.alloc (spO x)) = .ok v' w')/\((∃ pv cv,v' = .slice pv (l.length+1) cv)/\Hid (Dw w (l++[x]) v' w')):=by
 have hr:=h.d.bl.size
 obtain⟨v',w',q1,q2,q3,q4,q5⟩:=ap_genP (W:=W) Tryz.underlying52 infoSpK rfl (by decide) h.d.st [.string x.1,.int .i64 x.2] rfl (by simp[Value.oneCell']) (by omega) (by omega) hr
 obtain⟨g,cc,e⟩:=own_slic q2 (by omega)
 refine⟨v',w',q1,⟨_,_,e⟩,⟨?_,h.d.bl.trans q3⟩⟩
 unfold StR
 rw[List.length_append,spL_snoc]
 exact q2
theorem Path21 (s:ByteArray) (hs:s.size<=1048576) (w:World) {o:Option (List (ByteArray×Int))} {b0:Nat} (hp:pathZ s=(o,b0)):Calls Tryz.prog 23 #[.string s] w fun e w'=>DE w o b0 e w':=by
 by_cases h0:s.size=0
 ·have e0:(s.toList==[])=true:=by rw[nempty];simp[h0]
  have hF:Hid (DE w o b0 (.returned (.tuple #[.slice none 0 0,.int .i64 0,.int .i64 0])) w):=⟨Below.refl _ _,.inr ⟨[],_,by unfold pathZ at hp;rw[if_pos h0] at hp;injection hp with e1 _;exact e1.symm,rfl,World.ownsRow_nil _ _ _ 2⟩⟩
  clear hp
  go_enter Tryz.func23,Tryz.ntmps23
  go_wp2_with fail
  go_loopw [5,6] (fun v q wr=>v = .slice none 0 0/\q = .int .i64 0/\wr=w) (fun _ _ _=>0)
  case atStart=>exact⟨rfl,rfl,rfl⟩
  case round =>
   obtain⟨rfl,rfl,rfl⟩:=hrel
   go_wp2_with fail
   exact bodyPost_ret (res_P21 _ _ _ _ rfl rfl rfl _) rfl hF.out
 ·have e0:(s.toList==[])=false:=by rw[nempty];simp[h0]
  have H0:Hid (Dp w s (s.size+1) 0 [] (.slice none 0 0) w):=⟨⟨(World.ownsRow_nil _ _ _ 2:World.ownsRow w w.heap.size 74 2 (.slice none 0 0) 0 []),Below.refl _ _⟩,Nat.zero_le _,Nat.le_refl _,by omega,by unfold pathZ;rw[if_neg h0]⟩
  replace hp:=Hid.mk hp
  go_enter Tryz.func23,Tryz.ntmps23
  go_wp2_with fail
  go_loopw [5,6] (fun v q wr=>∃ (k a:Nat) (l:List (ByteArray×Int)) (pv:Option Addr) (cv:Nat),v = .slice pv l.length cv/\q = .int .i64 (a:Int)/\Hid (Dp w s k a l (.slice pv l.length cv) wr)) (fun _ q _=>s.size-(RowKit.intOf q).toNat)
  case atStart=>exact⟨_,0,[],none,0,rfl,by go_num,H0⟩
  case round =>
   clear H0
   obtain⟨k,a,l,pv,cv,rfl,rfl,hI⟩:=hrel
   have has:=hI.out.az
   have haI:(a:Int)<=1048576:=by omega
   have hN0:Hid (NmS s a a/\Dw w l (.slice pv l.length cv) wr):=⟨⟨Nat.le_refl _,has,by omega,fun i h1 h2=>by omega,by rw[Nat.sub_self]⟩,hI.out.d⟩
   obtain⟨E,hEE⟩:∃ E,nmE s a 64 a=E:=⟨_,rfl⟩
   obtain⟨g1,-,g3⟩:=nmE_ge s a 64 a
   rw[hEE] at g1 g3
   have hEs:=g3 has
   replace hEE:=Hid.mk hEE
   clear g3
   go_upto_block 2 with fail
   go_cut [6] from 14 to 34 (fun q wx=>q = .int .i64 (E:Int)/\Hid (Dw w l (.slice pv l.length cv) wx))
   case first =>
    clear hI
    go_wp2_with fail
    go_loopw [6] (fun q wi=>∃ b:Nat,q = .int .i64 (b:Int)/\Hid (NmS s a b/\Dw w l (.slice pv l.length cv) wi)) (fun q _=>s.size-(RowKit.intOf q).toNat)
    case atStart=>exact⟨a,rfl,hN0⟩
    case round =>
     clear hN0
     obtain⟨b,rfl,hN⟩:=hrel
     have hab:=hN.out.1.ab
     have hbs:=hN.out.1.bs
     have h64:=hN.out.1.b64
     have hbI:(b:Int)<=1048576:=by omega
     have hba:(b:Int)-(a:Int)<=64:=by omega
     by_cases hgo:b<s.size/\b-a<64/\symC (ch s b) (decide (b=a))=true
     ·obtain⟨hlt,hl6,hsy⟩:=hgo
      have d1:decide ((b:Int)<(s.size:Int))=true:=decide_eq_true (by omega)
      have d1n:decide (b<s.size)=true:=decide_eq_true hlt
      have d2:decide ((b:Int)-(a:Int)<64)=true:=decide_eq_true (by omega)
      have eba:((b:Int)==(a:Int))=decide (b=a):=by
       by_cases e:b=a
       ·subst e;simp
       ·rw[beqN (by omega),decide_eq_false e]
      have ix:∀ w:World,(Instr.index 9 (.string s) (.int .i64 (b:Int))).run Tryz.prog w = .ok (.int .u8 (ch s b:Int)) w:=fun w=>nidx (w:=w) s b hlt .i64
      have cL:=letter21 (ch s b) (ch_lt s b) (decide (b=a)) wr
      rw[hsy] at cL
      have hNx:Hid (∀ w1,Below wr.heap.size wr w1->NmS s a (b+1)/\Dw w l (.slice pv l.length cv) w1):=⟨fun w1 h1=>⟨⟨by omega,by omega,by omega,fun i g1 g2=>by
       by_cases e:i=b
       ·rw[e];exact hsy
       ·exact hN.out.1.all i g1 (by omega),by
       rw[<- hN.out.1.e]
       exact(nmE_go hab ⟨hlt,hl6,hsy⟩).symm⟩,hN.out.2.below h1⟩⟩
      obtain⟨q,hq⟩:∃ q,decide (b=a)=q:=⟨_,rfl⟩
      rw[hq] at cL eba
      generalize ch s b=c at *
      clear hN hq hsy
      go_wp2_with (go_at_call 39;refine cL.mono ?_;rintro _ w1 ⟨rfl,h1⟩;have hR:=hNx.out w1 h1;replace hR:=Hid.mk hR;clear h1)
      go_roundw
      case rel=>exact⟨b+1,by go_num,hR⟩
      case measure=>simp[RowKit.intOf];omega
     ·have hE:nmE s a 64 a=b:=by rw[<- hN.out.1.e];exact nmE_stop hgo
      have hR:Hid (Dw w l (.slice pv l.length cv) wr):=⟨hN.out.2⟩
      by_cases hlt:b<s.size
      ·have d1:decide ((b:Int)<(s.size:Int))=true:=decide_eq_true (by omega)
       have d1n:decide (b<s.size)=true:=decide_eq_true hlt
       by_cases hl6:b-a<64
       ·have d2:decide ((b:Int)-(a:Int)<64)=true:=decide_eq_true (by omega)
        have hsy:symC (ch s b) (decide (b=a))=false:=by
         cases h:symC (ch s b) (decide (b=a)) with
         | false=>rfl
         | true=>exact absurd ⟨hlt,hl6,h⟩ hgo
        have eba:((b:Int)==(a:Int))=decide (b=a):=by
         by_cases e:b=a
         ·subst e;simp
         ·rw[beqN (by omega),decide_eq_false e]
        have ix:∀ w:World,(Instr.index 9 (.string s) (.int .i64 (b:Int))).run Tryz.prog w = .ok (.int .u8 (ch s b:Int)) w:=fun w=>nidx (w:=w) s b hlt .i64
        have cL:=letter21 (ch s b) (ch_lt s b) (decide (b=a)) wr
        rw[hsy] at cL
        obtain⟨q,hq⟩:∃ q,decide (b=a)=q:=⟨_,rfl⟩
        rw[hq] at cL eba
        replace hE:=Hid.mk hE
        generalize ch s b=c at *
        clear hN hq hsy hgo
        go_wp2_with (go_at_call 39;refine cL.mono ?_;rintro _ w1 ⟨rfl,h1⟩;have hR2:=hR.out.below h1;replace hR2:=Hid.mk hR2;clear h1)
        go_meet
        case rel=>exact⟨by rw[<- hEE.out,hE.out],hR2⟩
       ·have d2:decide ((b:Int)-(a:Int)<64)=false:=decide_eq_false (by omega)
        replace hE:=Hid.mk hE
        clear hN hgo
        go_wp2_with fail
        go_meet
        case rel=>exact⟨by rw[<- hEE.out,hE.out],hR⟩
      ·have d1:decide ((b:Int)<(s.size:Int))=false:=decide_eq_false (by omega)
       have d1n:decide (b<s.size)=false:=decide_eq_false hlt
       replace hE:=Hid.mk hE
       clear hN hgo
       go_wp2_with fail
       go_meet
       case rel=>exact⟨by rw[<- hEE.out,hE.out],hR⟩
   case rest =>
   obtain⟨rfl,hD⟩:=hcut
   clear hN0
   have hEI:(E:Int)<=1048576:=by omega
   obtain⟨k',hk'⟩:∃ k',k=k'+1:=⟨k-1,by have:=hI.out.kk;omega⟩
   by_cases hEa:E=a
   ·have hF:Hid (DE w o b0 (.returned (.tuple #[.slice none 0 0,.int .i64 210,.int .i64 (E:Int)])) wc):=⟨hD.out.bl,.inl (by
     have hpp:=hI.out.e
     rw[hk',paP_none (b:=a) (by unfold stP;rw[hEE.out,if_pos hEa]),hp.out] at hpp
     injection hpp with e1 e2
     exact⟨e1,by rw[e2,hEa]⟩)⟩
    have eEa:((E:Int)==(a:Int))=true:=by rw[hEa];simp
    have eEan:(E==a)=true:=by rw[hEa];simp
    clear hEa hI hD
    go_wp2_with fail
    exact bodyPost_ret (res_P21 _ _ _ _ rfl rfl rfl _) rfl hF.out
   ·have eEa:((E:Int)==(a:Int))=false:=beqN (by omega)
    have eEan:(E==a)=false:=beq_eq_false_iff_ne.2 hEa
    have haE:(a:Int)<=E:=by omega
    have hESI:(E:Int)<=s.size:=by omega
    have s3:Hid _:=⟨fun z hz=>sp_new wc z hz (s.extract a E,-1)⟩
    have hX:Hid (Dx w s l (.slice pv l.length cv) wc.heap.size (s.extract a E,-1) (wc.alloc (spO (s.extract a E,-1)))):=⟨hD.out.below (bel1 _ _),heap_al _ _,fun e=>by have:=(World.ownsRow.lt hD.out.st _ e).2;omega,hD.out.bl.size⟩
    obtain⟨XBB,hXB⟩:∃ X,wc.heap.size=X:=⟨_,rfl⟩
    rw[hXB] at hX s3
    generalize hWX:wc.alloc (spO (s.extract a E,-1))=WX at s3 hX
    clear hD
    go_upto_region 10 with (guard_target =~ wpList _ _ _ (Oper.mk _ (Op.store 74 _ _) _ _ _ _::_) _ _;go_must (refine wpList_st 74 _ _ rfl rfl _ _ rfl rfl (s3.out _ rfl) ?_);simp only[pts])
    by_cases h91:E<s.size/\ch s E=91
    ·have d1:decide ((E:Int)<(s.size:Int))=true:=decide_eq_true (by omega)
     have d1n:decide (E<s.size)=true:=decide_eq_true h91.1
     have ix:∀ w:World,(Instr.index 9 (.string s) (.int .i64 (E:Int))).run Tryz.prog w = .ok (.int .u8 91) w:=fun w=>by have:=nidx (w:=w) s E h91.1 .i64;rw[h91.2] at this;exact this
     obtain⟨F,N,hFN⟩:∃ F N,nuE s (E+1) (s.size-(E+1)) (E+1) 0=(F,N):=⟨_,_,rfl⟩
     have hFg:=nuE_ge s (E+1) (s.size-(E+1)) (E+1) 0
     rw[hFN] at hFg
     have hFs:F<=s.size:=hFg.2.1 (by omega)
     have hFE:E+1<=F:=hFg.1
     have hFI:(F:Int)<=1048576:=by omega
     have hNN:N<=65535:=hFg.2.2 (by omega)
     have hst0:Hid (stP s a=if F=E+1\/¬ (F<s.size/\ch s F=93) then (none,F) else (some (s.extract a E,(N:Int)),F+1)):=⟨by unfold stP;rw[hEE.out,if_neg hEa,if_pos h91,hFN]⟩
     have hE1:E+1<=s.size:=h91.1
     replace hFN:=Hid.mk hFN
     clear hFg h91
     go_upto_block 4 with fail
     go_cut [6,9] from 57 to 96 (fun q6 q9 wx=>q6 = .int .i64 (F:Int)/\q9 = .int .i64 (N:Int)/\wx=WX)
     case first =>
      clear hI hX
      go_wp2_with fail
      go_loopw [6,9] (fun q6 q9 wi=>∃ b n:Nat,q6 = .int .i64 (b:Int)/\q9 = .int .i64 (n:Int)/\Hid (NuS s (E+1) b n)/\wi=WX) (fun q6 _ _=>s.size-(RowKit.intOf q6).toNat)
      case atStart=>exact⟨E+1,0,by go_num,by go_num,⟨Nat.le_refl _,hE1,by omega,rfl⟩,rfl⟩
      case round =>
       obtain⟨b,n,rfl,rfl,hNu,rfl⟩:=hrel
       have hbs:=hNu.out.bs
       have hfb:=hNu.out.fb
       have hn:=hNu.out.nn
       have hbI:(b:Int)<=1048576:=by omega
       have hnI:(n:Int)<=65535:=by omega
       by_cases hlt:b<s.size
       ·have k1:decide ((b:Int)<(s.size:Int))=true:=decide_eq_true (by omega)
        have k1n:decide (b<s.size)=true:=decide_eq_true hlt
        have ixb:∀ w:World,(Instr.index 9 (.string s) (.int .i64 (b:Int))).run Tryz.prog w = .ok (.int .u8 (ch s b:Int)) w:=fun w=>nidx (w:=w) s b hlt .i64
        have cDg:=digit21 (ch s b) wr
        obtain⟨c,hc⟩:∃ c,ch s b=c:=⟨_,rfl⟩
        rw[hc] at ixb cDg
        replace hc:=Hid.mk hc
        cases hdg:ndig c with
        | false =>
         rw[hdg] at cDg
         have hNO:Hid (¬ (b<s.size/\ndig (ch s b)=true/\(b=E+1\/0<n)/\10*n+(ch s b-48)<=65535)):=⟨fun hh=>by have:=hh.2.1;rw[hc.out,hdg] at this;cases this⟩
         have hEE2:=hNu.out.e
         rw[hFN.out,nuE_stop hNO.out] at hEE2
         injection hEE2 with q1 q2
         obtain rfl:=q1
         obtain rfl:=q2
         clear hNu
         go_wp2_with (go_at_call 40;refine cDg.mono ?_;rintro _ w1 ⟨rfl,rfl⟩)
         go_meet
         case rel=>exact⟨rfl,rfl,rfl⟩
        | true =>
         rw[hdg] at cDg
         have h4857:48<=c/\c<=57:=by unfold ndig at hdg;simp at hdg;exact hdg
         have hw8:IntKind.u8.wrap ((c:Int)-48)=((c-48:Nat):Int):=by rw[IntKind.wrap_u8];omega
         obtain⟨d,hd⟩:∃ d,c-48=d:=⟨_,rfl⟩
         rw[hd] at hw8
         have hd9:(d:Int)<=9:=by omega
         have hd0:(0:Int)<=d:=by omega
         have hcI:(48:Int)<=c:=by omega
         have hcI2:(c:Int)<=57:=by omega
         have hcd:Hid (ch s b-48=d/\ndig (ch s b)=true):=⟨by rw[hc.out];exact hd,by rw[hc.out];exact hdg⟩
         clear hd hdg h4857
         by_cases hfn:b=E+1\/0<n
         ·have hcase:((((b:Int)==(E:Int)+1)=true)\/((((b:Int)==(E:Int)+1)=false)/\decide ((0:Int)<(n:Int))=true/\decide (0<n)=true)):=by
           by_cases e:b=E+1
           ·exact .inl (by rw[e];simp)
           ·exact .inr ⟨beqN (by omega),decide_eq_true (by omega),decide_eq_true (by omega)⟩
          by_cases h65:10*n+d<=65535
          ·have m1:decide ((n:Int)*10+(d:Int)<=65535)=true:=decide_eq_true (by omega)
           have hNx:Hid (NuS s (E+1) (b+1) (10*n+d)):=⟨by omega,by omega,h65,by
            have hg:=nuE_go (s:=s) (f:=E+1) (b:=b) (n:=n) ⟨hlt,hcd.out.2,hfn,by rw[hcd.out.1];exact h65⟩
            rw[hcd.out.1] at hg
            rw[<- hg]
            exact hNu.out.e⟩
           clear hNu hfn
           rcases hcase with m2|⟨m2,m3,m3n⟩
           all_goals
            go_wp2_with (go_at_call 40;refine cDg.mono ?_;rintro _ w1 ⟨rfl,rfl⟩)
            go_roundw
            case rel=>exact⟨b+1,10*n+d,by go_num,by rw[show ((10*n+d:Nat):Int)=(n:Int)*10+(d:Int) by omega],hNx,trivial⟩
            case measure=>simp[RowKit.intOf];omega
          ·have m1:decide ((n:Int)*10+(d:Int)<=65535)=false:=decide_eq_false (by omega)
           have hNO:Hid (¬ (b<s.size/\ndig (ch s b)=true/\(b=E+1\/0<n)/\10*n+(ch s b-48)<=65535)):=⟨fun hh=>h65 (by have:=hh.2.2.2;rw[hcd.out.1] at this;exact this)⟩
           clear hfn
           rcases hcase with m2|⟨m2,m3,m3n⟩
           all_goals
            have hEE2:=hNu.out.e
            rw[hFN.out,nuE_stop hNO.out] at hEE2
            injection hEE2 with q1 q2
            obtain rfl:=q1
            obtain rfl:=q2
            clear hNu
            go_wp2_with (go_at_call 40;refine cDg.mono ?_;rintro _ w1 ⟨rfl,rfl⟩)
            go_meet
            case rel=>exact⟨rfl,rfl,rfl⟩
         ·have m2:((b:Int)==(E:Int)+1)=false:=beqN (by omega)
          have m3:decide ((0:Int)<(n:Int))=false:=decide_eq_false (by omega)
          have m3n:decide (0<n)=false:=decide_eq_false (by omega)
          have hNO:Hid (¬ (b<s.size/\ndig (ch s b)=true/\(b=E+1\/0<n)/\10*n+(ch s b-48)<=65535)):=⟨fun hh=>hfn hh.2.2.1⟩
          clear hfn
          have hEE2:=hNu.out.e
          rw[hFN.out,nuE_stop hNO.out] at hEE2
          injection hEE2 with q1 q2
          obtain rfl:=q1
          obtain rfl:=q2
          clear hNu
          go_wp2_with (go_at_call 40;refine cDg.mono ?_;rintro _ w1 ⟨rfl,rfl⟩)
          go_meet
          case rel=>exact⟨rfl,rfl,rfl⟩
       ·have k1:decide ((b:Int)<(s.size:Int))=false:=decide_eq_false (by omega)
        have k1n:decide (b<s.size)=false:=decide_eq_false hlt
        have hNO:Hid (¬ (b<s.size/\ndig (ch s b)=true/\(b=E+1\/0<n)/\10*n+(ch s b-48)<=65535)):=⟨fun hh=>hlt hh.1⟩
        have hEE2:=hNu.out.e
        rw[hFN.out,nuE_stop hNO.out] at hEE2
        injection hEE2 with q1 q2
        obtain rfl:=q1
        obtain rfl:=q2
        clear hNu
        go_wp2_with fail
        go_meet
        case rel=>exact⟨rfl,rfl,rfl⟩
     case rest =>
     obtain⟨rfl,rfl,rfl⟩:=hcut
     clear ix d1 d1n
     by_cases hFe:F=E+1
     ·have hst:Hid (stP s a=(none,F)):=⟨by rw[hst0.out,if_pos (.inl hFe)]⟩
      have m1:((F:Int)==(E:Int)+1)=true:=by rw[hFe];simp
      clear hFe hst0
      have hF:Hid (DE w o b0 (.returned (.tuple #[.slice none 0 0,.int .i64 210,.int .i64 (F:Int)])) wc):=⟨hX.out.d.bl,.inl (by
       have hpp:=hI.out.e
       rw[hk',paP_none hst.out,hp.out] at hpp
       injection hpp with e1 e2
       exact⟨e1,by rw[e2]⟩)⟩
      clear hI hX hst
      go_wp2_with fail
      exact bodyPost_ret (res_P21 _ _ _ _ rfl rfl rfl _) rfl hF.out
     ·have m1:((F:Int)==(E:Int)+1)=false:=beqN (by omega)
      by_cases hFz:F=s.size
      ·have hst:Hid (stP s a=(none,F)):=⟨by rw[hst0.out,if_pos (.inr (fun hh=>by omega))]⟩
       have m2:((F:Int)==(s.size:Int))=true:=by rw[hFz];simp
       have m2n:(F==s.size)=true:=by rw[hFz];simp
       clear hFz hst0
       have hF:Hid (DE w o b0 (.returned (.tuple #[.slice none 0 0,.int .i64 210,.int .i64 (F:Int)])) wc):=⟨hX.out.d.bl,.inl (by
        have hpp:=hI.out.e
        rw[hk',paP_none hst.out,hp.out] at hpp
        injection hpp with e1 e2
        exact⟨e1,by rw[e2]⟩)⟩
       clear hI hX hst
       go_wp2_with fail
       exact bodyPost_ret (res_P21 _ _ _ _ rfl rfl rfl _) rfl hF.out
      ·have m2:((F:Int)==(s.size:Int))=false:=beqN (by omega)
       have m2n:(F==s.size)=false:=beq_eq_false_iff_ne.2 hFz
       have ixF:∀ w:World,(Instr.index 9 (.string s) (.int .i64 (F:Int))).run Tryz.prog w = .ok (.int .u8 (ch s F:Int)) w:=fun w=>nidx (w:=w) s F (by omega) .i64
       by_cases h93:ch s F=93
       ·have hst:Hid (stP s a=(some (s.extract a E,(N:Int)),F+1)):=⟨by rw[hst0.out,if_neg (fun hh=>hh.elim hFe (fun h=>h ⟨by omega,h93⟩))]⟩
        rw[h93] at ixF
        have x1:=cell_at hX.out.xb 1
        replace x1:wc.cell? ⟨XBB,1,none⟩=some (.int .i64 (-1)):=x1
        have xf:wc.frozen? ⟨XBB,1,none⟩=false:=frz_at hX.out.xb
        have hY:Hid (Dx w s l (.slice pv l.length cv) XBB (s.extract a E,(N:Int)) (wc.setCell ⟨XBB,1,none⟩ (.int .i64 (N:Int)))):=⟨hX.out.ent N⟩
        obtain⟨c,hc⟩:∃ c,F+1=c:=⟨_,rfl⟩
        rw[hc] at hst
        have hFa:a<c:=by omega
        have hF1:c<=s.size:=by omega
        have hcI:(F:Int)+1=(c:Int):=by omega
        have hcb:(c:Int)<=1048577:=by omega
        clear hc
        generalize hWY:wc.setCell ⟨XBB,1,none⟩ (.int .i64 (N:Int))=WY at hY
        clear hX h93 hst0
        have hll:l.length<=a:=hI.out.ll
        have hap:Hid _:=⟨hY.out.push hs (by omega)⟩
        have l4:Hid _:=⟨sp_ld _ hY.out.xb⟩
        have hcon:Hid (pathZ s=conP s k' (c) (l++[(s.extract a E,(N:Int))])):=⟨by rw[hI.out.e,hk',paP_some hst.out]⟩
        have hkk:Hid (s.size-a+1<=k):=⟨hI.out.kk⟩
        by_cases hcs:c=s.size
        ·have ecs:(((c:Nat):Int)==(s.size:Int))=true:=by rw[hcs];simp
         have ecsn:((c)==s.size)=true:=by rw[hcs];simp
         have hF:Hid (∀ v' w',Dw w (l++[(s.extract a E,(N:Int))]) v' w'->DE w o b0 (.returned (.tuple #[v',.int .i64 0,.int .i64 0])) w'):=⟨fun v' w' hd=>⟨hd.bl,.inr ⟨l++[(s.extract a E,(N:Int))],v',by
          have hpp:=hcon.out
          unfold conP at hpp
          rw[if_pos hcs,hp.out] at hpp
          injection hpp with e1 e2,rfl,hd.st⟩⟩⟩
         clear hcs hI hY hcon hst
         go_wp2_with (first
          | (guard_target =~ wpList _ _ _ (Oper.mk _ (Op.load 74 _) _ _ _ _::_) _ _;go_must (refine wpList_ld 74 _ rfl rfl _ _ rfl l4.out ?_);simp only[pts])
          | (at_builtin;go_must (refine(ap_step (by rfl) _ _ _ _ (by rfl) _ _ (by rfl) (by rfl) _ hap.out ?_));rintro v8 w8 ⟨⟨p8,c8,rfl⟩,hG⟩))
         exact bodyPost_ret (res_P21 _ _ _ _ rfl rfl rfl _) rfl (hF.out _ _ hG.out)
        ·have ecs:(((c:Nat):Int)==(s.size:Int))=false:=beqN (by omega)
         have ecsn:((c)==s.size)=false:=beq_eq_false_iff_ne.2 hcs
         have hclt:c<s.size:=by omega
         have ix2:∀ w:World,(Instr.index 9 (.string s) (.int .i64 ((c:Nat):Int))).run Tryz.prog w = .ok (.int .u8 (ch s (c):Int)) w:=fun w=>nidx (w:=w) s (c) hclt .i64
         by_cases h46:ch s (c)=46
         ·have e46:((ch s (c):Int)==46)=true:=by rw[h46];rfl
          have e46n:(ch s (c)==46)=true:=by rw[h46];rfl
          have e46b:((ch s (c):Int) != 46)=false:=by rw[h46];rfl
          have e46m:(ch s (c) != 46)=false:=by rw[h46];rfl
          have hR:Hid (∀ v' w',Dw w (l++[(s.extract a E,(N:Int))]) v' w'->Dp w s k' (c+1) (l++[(s.extract a E,(N:Int))]) v' w'):=⟨fun v' w' hd=>⟨hd,by omega,by rw[List.length_append];show l.length+1<=_;omega,by have:=hkk.out;omega,by
           rw[hcon.out]
           unfold conP
           rw[if_neg hcs,if_pos h46]⟩⟩
          clear hI hY hcon hst h46
          generalize ch s (c)=d at *
          go_wp2_with (first
           | (guard_target =~ wpList _ _ _ (Oper.mk _ (Op.load 74 _) _ _ _ _::_) _ _;go_must (refine wpList_ld 74 _ rfl rfl _ _ rfl l4.out ?_);simp only[pts])
           | (at_builtin;go_must (refine(ap_step (by rfl) _ _ _ _ (by rfl) _ _ (by rfl) (by rfl) _ hap.out ?_));rintro v8 w8 ⟨⟨p8,c8,rfl⟩,hG⟩))
          go_roundw
          case rel=>exact⟨k',c+1,l++[(s.extract a E,(N:Int))],p8,c8,by rw[List.length_append];rfl,by go_num,⟨by have:=hR.out _ _ hG.out;rw[List.length_append];exact this⟩⟩
          case measure=>simp[RowKit.intOf];omega
         ·have hF2:Hid (∀ v' w',Dw w (l++[(s.extract a E,(N:Int))]) v' w'->DE w o b0 (.returned (.tuple #[.slice none 0 0,.int .i64 210,.int .i64 ((c:Nat):Int)])) w'):=⟨fun v' w' hd=>⟨hd.bl,.inl (by
           have hpp:=hcon.out
           unfold conP at hpp
           rw[if_neg hcs,if_neg h46,hp.out] at hpp
           injection hpp with e1 e2
           exact⟨e1,by rw[e2]⟩)⟩⟩
          have e46:((ch s (c):Int)==46)=false:=beqN (by omega)
          have e46n:(ch s (c)==46)=false:=beq_eq_false_iff_ne.2 h46
          generalize ch s (c)=d at *
          clear hI hY hcon hst h46
          go_wp2_with (first
           | (guard_target =~ wpList _ _ _ (Oper.mk _ (Op.load 74 _) _ _ _ _::_) _ _;go_must (refine wpList_ld 74 _ rfl rfl _ _ rfl l4.out ?_);simp only[pts])
           | (at_builtin;go_must (refine(ap_step (by rfl) _ _ _ _ (by rfl) _ _ (by rfl) (by rfl) _ hap.out ?_));rintro v8 w8 ⟨⟨p8,c8,rfl⟩,hG⟩))
          exact bodyPost_ret (res_P21 _ _ _ _ rfl rfl rfl _) rfl (hF2.out _ _ hG.out)
       ·have hst:Hid (stP s a=(none,F)):=⟨by rw[hst0.out,if_pos (.inr (fun hh=>h93 hh.2))]⟩
        have m3:((ch s F:Int)==93)=false:=beqN (by omega)
        have m3n:(ch s F==93)=false:=beq_eq_false_iff_ne.2 h93
        generalize ch s F=c at *
        clear h93 hst0
        have hF:Hid (DE w o b0 (.returned (.tuple #[.slice none 0 0,.int .i64 210,.int .i64 (F:Int)])) wc):=⟨hX.out.d.bl,.inl (by
         have hpp:=hI.out.e
         rw[hk',paP_none hst.out,hp.out] at hpp
         injection hpp with e1 e2
         exact⟨e1,by rw[e2]⟩)⟩
        clear hI hX hst
        go_wp2_with fail
        exact bodyPost_ret (res_P21 _ _ _ _ rfl rfl rfl _) rfl hF.out
    ·have hst:Hid (stP s a=(some (s.extract a E,-1),E)):=⟨by unfold stP;rw[hEE.out,if_neg hEa,if_neg h91]⟩
     have hcase:(decide ((E:Int)<(s.size:Int))=false/\decide (E<s.size)=false)\/(decide ((E:Int)<(s.size:Int))=true/\decide (E<s.size)=true/\((ch s E:Int)==91)=false/\(ch s E==91)=false/\∀ w:World,(Instr.index 9 (.string s) (.int .i64 (E:Int))).run Tryz.prog w = .ok (.int .u8 (ch s E:Int)) w):=by
      by_cases h:E<s.size
      ·exact .inr ⟨decide_eq_true (by omega),decide_eq_true h,beqN (by have:ch s E≠91:=fun e=>h91 ⟨h,e⟩;omega),beq_eq_false_iff_ne.2 (fun e=>h91 ⟨h,e⟩),fun w=>nidx (w:=w) s E h .i64⟩
      ·exact .inl ⟨decide_eq_false (by omega),decide_eq_false h⟩
     clear h91
     rcases hcase with ⟨d1,d1n⟩|⟨d1,d1n,e9,e9n,ix⟩
     ·have hE0:E=s.size:=by have:=of_decide_eq_false d1n;omega
      have hll:l.length<=a:=hI.out.ll
      have hap:Hid _:=⟨hX.out.push hs (by omega)⟩
      have l4:Hid _:=⟨sp_ld _ hX.out.xb⟩
      have hcon:Hid (pathZ s=conP s k' (E) (l++[(s.extract a E,-1)])):=⟨by rw[hI.out.e,hk',paP_some hst.out]⟩
      have hkk:Hid (s.size-a+1<=k):=⟨hI.out.kk⟩
      have hcs:E=s.size:=hE0
      have ecs:(((E:Nat):Int)==(s.size:Int))=true:=by rw[hcs];simp
      have ecsn:((E)==s.size)=true:=by rw[hcs];simp
      have hF:Hid (∀ v' w',Dw w (l++[(s.extract a E,-1)]) v' w'->DE w o b0 (.returned (.tuple #[v',.int .i64 0,.int .i64 0])) w'):=⟨fun v' w' hd=>⟨hd.bl,.inr ⟨l++[(s.extract a E,-1)],v',by
       have hpp:=hcon.out
       unfold conP at hpp
       rw[if_pos hcs,hp.out] at hpp
       injection hpp with e1 e2,rfl,hd.st⟩⟩⟩
      clear hE0 hcs hI hX hcon hst
      go_wp2_with (first
       | (guard_target =~ wpList _ _ _ (Oper.mk _ (Op.load 74 _) _ _ _ _::_) _ _;go_must (refine wpList_ld 74 _ rfl rfl _ _ rfl l4.out ?_);simp only[pts])
       | (at_builtin;go_must (refine(ap_step (by rfl) _ _ _ _ (by rfl) _ _ (by rfl) (by rfl) _ hap.out ?_));rintro v8 w8 ⟨⟨p8,c8,rfl⟩,hG⟩))
      exact bodyPost_ret (res_P21 _ _ _ _ rfl rfl rfl _) rfl (hF.out _ _ hG.out)
     ·skip
      have hll:l.length<=a:=hI.out.ll
      have hap:Hid _:=⟨hX.out.push hs (by omega)⟩
      have l4:Hid _:=⟨sp_ld _ hX.out.xb⟩
      have hcon:Hid (pathZ s=conP s k' (E) (l++[(s.extract a E,-1)])):=⟨by rw[hI.out.e,hk',paP_some hst.out]⟩
      have hkk:Hid (s.size-a+1<=k):=⟨hI.out.kk⟩
      by_cases hcs:E=s.size
      ·have ecs:(((E:Nat):Int)==(s.size:Int))=true:=by rw[hcs];simp
       have ecsn:((E)==s.size)=true:=by rw[hcs];simp
       have hF:Hid (∀ v' w',Dw w (l++[(s.extract a E,-1)]) v' w'->DE w o b0 (.returned (.tuple #[v',.int .i64 0,.int .i64 0])) w'):=⟨fun v' w' hd=>⟨hd.bl,.inr ⟨l++[(s.extract a E,-1)],v',by
        have hpp:=hcon.out
        unfold conP at hpp
        rw[if_pos hcs,hp.out] at hpp
        injection hpp with e1 e2,rfl,hd.st⟩⟩⟩
       clear hcs hI hX hcon hst
       go_wp2_with (first
        | (guard_target =~ wpList _ _ _ (Oper.mk _ (Op.load 74 _) _ _ _ _::_) _ _;go_must (refine wpList_ld 74 _ rfl rfl _ _ rfl l4.out ?_);simp only[pts])
        | (at_builtin;go_must (refine(ap_step (by rfl) _ _ _ _ (by rfl) _ _ (by rfl) (by rfl) _ hap.out ?_));rintro v8 w8 ⟨⟨p8,c8,rfl⟩,hG⟩))
       exact bodyPost_ret (res_P21 _ _ _ _ rfl rfl rfl _) rfl (hF.out _ _ hG.out)
      ·have ecs:(((E:Nat):Int)==(s.size:Int))=false:=beqN (by omega)
       have ecsn:((E)==s.size)=false:=beq_eq_false_iff_ne.2 hcs
       have hclt:E<s.size:=by omega
       have ix2:∀ w:World,(Instr.index 9 (.string s) (.int .i64 ((E:Nat):Int))).run Tryz.prog w = .ok (.int .u8 (ch s (E):Int)) w:=fun w=>nidx (w:=w) s (E) hclt .i64
       by_cases h46:ch s (E)=46
       ·have e46:((ch s (E):Int)==46)=true:=by rw[h46];rfl
        have e46n:(ch s (E)==46)=true:=by rw[h46];rfl
        have e46b:((ch s (E):Int) != 46)=false:=by rw[h46];rfl
        have e46m:(ch s (E) != 46)=false:=by rw[h46];rfl
        have hR:Hid (∀ v' w',Dw w (l++[(s.extract a E,-1)]) v' w'->Dp w s k' (E+1) (l++[(s.extract a E,-1)]) v' w'):=⟨fun v' w' hd=>⟨hd,by omega,by rw[List.length_append];show l.length+1<=_;omega,by have:=hkk.out;omega,by
         rw[hcon.out]
         unfold conP
         rw[if_neg hcs,if_pos h46]⟩⟩
        clear hI hX hcon hst h46
        generalize ch s (E)=d at *
        go_wp2_with (first
         | (guard_target =~ wpList _ _ _ (Oper.mk _ (Op.load 74 _) _ _ _ _::_) _ _;go_must (refine wpList_ld 74 _ rfl rfl _ _ rfl l4.out ?_);simp only[pts])
         | (at_builtin;go_must (refine(ap_step (by rfl) _ _ _ _ (by rfl) _ _ (by rfl) (by rfl) _ hap.out ?_));rintro v8 w8 ⟨⟨p8,c8,rfl⟩,hG⟩))
        go_roundw
        case rel=>exact⟨k',E+1,l++[(s.extract a E,-1)],p8,c8,by rw[List.length_append];rfl,by go_num,⟨by have:=hR.out _ _ hG.out;rw[List.length_append];exact this⟩⟩
        case measure=>simp[RowKit.intOf];omega
       ·have hF2:Hid (∀ v' w',Dw w (l++[(s.extract a E,-1)]) v' w'->DE w o b0 (.returned (.tuple #[.slice none 0 0,.int .i64 210,.int .i64 ((E:Nat):Int)])) w'):=⟨fun v' w' hd=>⟨hd.bl,.inl (by
         have hpp:=hcon.out
         unfold conP at hpp
         rw[if_neg hcs,if_neg h46,hp.out] at hpp
         injection hpp with e1 e2
         exact⟨e1,by rw[e2]⟩)⟩⟩
        have e46:((ch s (E):Int)==46)=false:=beqN (by omega)
        have e46n:(ch s (E)==46)=false:=beq_eq_false_iff_ne.2 h46
        generalize ch s (E)=d at *
        clear hI hX hcon hst h46
        go_wp2_with (first
         | (guard_target =~ wpList _ _ _ (Oper.mk _ (Op.load 74 _) _ _ _ _::_) _ _;go_must (refine wpList_ld 74 _ rfl rfl _ _ rfl l4.out ?_);simp only[pts])
         | (at_builtin;go_must (refine(ap_step (by rfl) _ _ _ _ (by rfl) _ _ (by rfl) (by rfl) _ hap.out ?_));rintro v8 w8 ⟨⟨p8,c8,rfl⟩,hG⟩))
        exact bodyPost_ret (res_P21 _ _ _ _ rfl rfl rfl _) rfl (hF2.out _ _ hG.out)
theorem Text_any (l:List (ByteArray×Int)) (pp:Option Addr) (cp:Nat) (w:World) (hr:SpRow w pp w.heap.size l) (hl:l.length<=1048576) (hsz:∀ x∈l,x.1.size<=1048576) (htab:∀ W,Below w.heap.size w W->Tab W):Calls Tryz.prog 32 #[.slice pp l.length cp] w fun e w'=>TE w l e w':=by
 have cT:Calls Tryz.prog 53 #[.slice pp l.length cp] w fun e w'=>∃ t n,e = .returned (.tuple #[.string t,.int .i64 n])/\Hid (TE w l (.returned (.tuple #[.string t,.int .i64 n])) w'):=(textOf_any l pp cp w hr hl hsz htab).mono fun e w' h=>by
  obtain⟨h0,⟨t,h1,rfl⟩|⟨h1,rfl⟩⟩:=h
  ·exact⟨t,0,rfl,⟨h0,.inl ⟨t,h1,rfl⟩⟩⟩
  ·exact⟨_,210,rfl,⟨h0,.inr ⟨h1,rfl⟩⟩⟩
 clear hr hl hsz htab
 go_enter Tryz.func32,Tryz.ntmps32
 go_wp2_with (go_at_call 53;refine cT.mono ?_;rintro _ w1 ⟨t,n,rfl,hF⟩)
 exact bodyPost_ret (by simp[results,Tryz.results32,go_sem]) rfl hF.out
theorem ownC {w:World} {b e z n:Nat} {g m c:Nat} {xs:List Value} (h:w.ownsRow b e z (.slice (some ⟨g,0,none⟩) m c) n xs) {k:Nat} {v:Value} (hk:xs[k]?=some v):w.cell? ⟨g,k,none⟩=some v:=by
 have:=World.ownsRow.cells h (g:=g) rfl k v hk
 rwa [addrI,Nat.zero_add] at this
end Go.Proofs.YtekpgklllfobfaaGreatDoor
