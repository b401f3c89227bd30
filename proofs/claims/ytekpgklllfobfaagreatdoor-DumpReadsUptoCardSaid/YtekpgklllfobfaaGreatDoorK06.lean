import Derived.Test.YtekpgklllfobfaaGreatDoorK05
import Derived.Laws.EntriesVeiled
namespace Go.Proofs.YtekpgklllfobfaaGreatDoor
set_option maxRecDepth 1000000
set_option maxHeartbeats 16000000
open Go.ChangeShapes Go.WideShapes Go.ChangeAt Go.RowKit Go.Shelf Go.Maps
theorem res_tO (tmps:Array Value) (t:ByteArray) (n:Int) (h2:tmps[2]?.getD undef = .string t) (h3:tmps[3]?.getD undef = .int .i64 n) (W:World) :
  (results Tryz.f53 tmps).run Tryz.prog W = .ok (.tuple #[.string t,.int .i64 n]) W:=by
 simp[results,Tryz.results53,go_sem,h2,h3]
theorem itoa_nat (m:Nat):Lib.itoa (m:Int)=Lib.decDigits m:=by
 unfold Lib.itoa
 rw[if_neg (by omega)]
 rfl
abbrev Tab (W:World):Prop:=Lib.TabIs Tryz.prog W "internal/strconv.uint64pow10" .u64 Lib.pow10Tab
abbrev bdO:Obj:=.cells #[.pointer none,.slice none 0 0] 31
theorem textOf_any (l:List (ByteArray×Int)) (pp:Option Addr) (cp:Nat) (w:World) (hr:SpRow w pp w.heap.size l) (hl:l.length<=1048576) (hsz:∀ x∈l,x.1.size<=1048576) (htab:∀ W,Below w.heap.size w W->Tab W):Calls Tryz.prog 53 #[.slice pp l.length cp] w fun e w'=>TE w l e w':=by
 have H0:Hid (IsB w.heap.size w.heap.size (Lib.strCells (txN l 0)) (w.alloc bdO)/\Below w.heap.size w (w.alloc bdO)/\∀ j x,j<0->l[j]?=some x->okT x=true):=⟨.inl ⟨Nat.le_refl _,_,heap_al _ _,World.ownsRow_nil _ _ _ 1,by simp[Value.ownBlock]⟩,bel1 _ _,fun j x hj=>absurd hj (Nat.not_lt_zero _)⟩
 have hz0:(w.alloc bdO).heap.size=w.heap.size+1:=World.size_alloc _ _
 generalize hW0:w.alloc bdO=W0 at H0 hz0
 simp only[bdO] at hW0
 have HS:Hid (w.heap.size<W0.heap.size):=⟨by omega⟩
 replace hr:=Hid.mk hr
 replace hsz:=Hid.mk hsz
 replace htab:=Hid.mk htab
 clear hz0
 go_enter Tryz.func53,Tryz.ntmps53
 go_wp2_with fail
 go_loopw [9] (fun q wr=>∃ j:Nat,j<=l.length/\q = .int .i64 (j:Int)/\Hid ((IsB w.heap.size w.heap.size (Lib.strCells (txN l j)) wr/\w.heap.size<wr.heap.size)/\Below w.heap.size w wr/\∀ i x,i<j->l[i]?=some x->okT x=true)) (fun q _=>l.length-(RowKit.intOf q).toNat)
 case atStart=>exact⟨0,Nat.zero_le _,by go_num,⟨⟨H0.out.1,HS.out⟩,H0.out.2⟩⟩
 case round =>
  clear H0 HS hW0
  obtain⟨j,hj,rfl,hI⟩:=hrel
  by_cases hlt:j<l.length
  ·obtain⟨x,hx⟩:∃ x,l[j]?=some x:=⟨l[j],List.getElem?_eq_getElem hlt⟩
   obtain⟨g,o,rfl,hg,-,-⟩:=hr.out.c j x hx
   have l46:Hid ((Instr.loadAt 74 (.pointer (some ⟨g,o+j*2,none⟩))).run Tryz.prog wr = .ok (spV x) wr):=⟨by
    obtain⟨g',o',e,-,h1,h2⟩:=(hr.out.below hI.out.2.1).c j x hx
    cases e
    obtain⟨d,hu,hd⟩:=undSp
    refine run_loadAt_mid wr g (o+j*2) 74 (spC x).toList d (fun i v hi=>?_) hu hd infoSp
    have h2i:i<2:=(List.getElem?_eq_some_iff.1 hi).1
    have:i=0\/i=1:=by omega
    rcases this with rfl|rfl
    ·cases hi;exact h1
    ·cases hi;exact h2⟩
   have s3:Hid _:=⟨fun z hz=>sp_new wr z hz x⟩
   have hT:Hid (Tx w (txN l j) wr.heap.size x (wr.alloc (spO x))):=⟨hI.out.1.1.below (bel1 _ _),hI.out.2.1.trans ((bel1 _ _).mono hI.out.2.1.size),heap_al _ _,hI.out.1.2⟩
   have b0:(wr.alloc (spO x)).cell? ⟨wr.heap.size,0,none⟩=some (.string x.1):=cell_at hT.out.xb 0
   have b1:(wr.alloc (spO x)).cell? ⟨wr.heap.size,1,none⟩=some (.int .i64 x.2):=cell_at hT.out.xb 1
   obtain⟨X,hX⟩:∃ X,wr.heap.size=X:=⟨_,rfl⟩
   rw[hX] at s3 hT b0 b1
   generalize hWX:wr.alloc (spO x)=WX at s3 hT b0 b1
   have cS:=Symbol_any x.1 (by have:=hsz.out x (List.mem_of_getElem? hx);omega) WX
   have hji:(j:Int)<l.length:=by omega
   have hjb:(j:Int)<=1048576:=by omega
   simp only[spO,spC] at hWX
   cases hok:okT x with
   | false =>
    have hF:Hid (TE w l (.returned (.tuple #[.string ⟨#[]⟩,.int .i64 210])) WX):=⟨hT.out.bl,.inr ⟨textZ_none hx hok,rfl⟩⟩
    have hcase:symbolB x.1=false\/(symbolB x.1=true/\decide (x.2 < -1)=true)\/(symbolB x.1=true/\decide (x.2 < -1)=false/\decide ((65535:Int)<x.2)=true):=by
     unfold okT at hok
     cases hs:symbolB x.1 with
     | false=>exact .inl rfl
     | true =>
      rw[hs,Bool.true_and] at hok
      by_cases h1:x.2 < -1
      ·exact .inr (.inl ⟨rfl,decide_eq_true h1⟩)
      ·refine .inr (.inr ⟨rfl,decide_eq_false h1,decide_eq_true ?_⟩)
       rw[decide_eq_true (show -1<=x.2 by omega),Bool.true_and] at hok
       have:=of_decide_eq_false hok
       omega
    clear hI hok hT
    rcases hcase with hs|⟨hs,d1⟩|⟨hs,d1,d2⟩
    all_goals
     rw[hs] at cS
     go_wp2_with (first
      | (go_at_call 75;refine cS.mono ?_;rintro _ w1 ⟨rfl,rfl⟩)
      | (guard_target =~ wpList _ _ _ (Oper.mk _ (Op.load 74 _) _ _ _ _::_) _ _;go_must (refine wpList_ld 74 _ rfl rfl _ _ rfl l46.out ?_);simp only[pts])
      | (guard_target =~ wpList _ _ _ (Oper.mk _ (Op.store 74 _ _) _ _ _ _::_) _ _;go_must (refine wpList_st 74 _ _ rfl rfl _ _ rfl rfl (s3.out _ rfl) ?_);simp only[pts]))
     exact bodyPost_ret (res_tO _ _ _ rfl rfl _) rfl hF.out
   | true =>
    obtain⟨hsy,hm1,h65,h64⟩:=okT_of hok
    rw[hsy] at cS
    have hs0:=txN_size (l:=l) (i:=j) fun i y hi=>hI.out.2.2 i y hi
    have hsB:(txN l j).size<=90000000000:=by omega
    have d1:decide (x.2 < -1)=false:=decide_eq_false (by omega)
    have d2:decide ((65535:Int)<x.2)=false:=decide_eq_false (by omega)
    have hall:Hid (∀ i y,i<j+1->l[i]?=some y->okT y=true):=⟨fun i y hi hy=>by
     by_cases e:i=j
     ·subst e
      rw[hx] at hy
      cases hy
      exact hok
     ·exact hI.out.2.2 i y (by omega) hy⟩
    have hsu:=txN_succ hx
    replace hsu:=Hid.mk hsu
    have hfin:Hid (∀ W,Tx w (txN l (j+1)) X x W->(IsB w.heap.size w.heap.size (Lib.strCells (txN l (j+1))) W/\w.heap.size<W.heap.size)/\Below w.heap.size w W/\∀ i y,i<j+1->l[i]?=some y->okT y=true):=⟨fun W h=>⟨⟨h.ib,by have:=(Array.getElem?_eq_some_iff.1 h.xb).1;have:=h.lt;omega⟩,h.bl,hall.out⟩⟩
    clear hall
    obtain⟨nm,n⟩:=x
    simp only[] at *
    generalize txN l j=s0 at *
    have hz:∀ a b:ByteArray,(a++b).size=a.size+b.size:=fun a b=>ByteArray.size_append ..
    have z1:(⟨#[46]⟩:ByteArray).size=1:=rfl
    have z2:(⟨#[91]⟩:ByteArray).size=1:=rfl
    have z3:(⟨#[93]⟩:ByteArray).size=1:=rfl
    by_cases hn0:0<=n
    ·obtain⟨m,hm⟩:∃ m:Nat,n=m:=⟨n.toNat,by omega⟩
     have d4:decide ((0:Int)<=n)=true:=decide_eq_true hn0
     have hdm:=decB_size m
     have hse:seT (nm,n)=((⟨#[91]⟩:ByteArray)++decB m)++(⟨#[93]⟩:ByteArray):=by
      unfold seT
      rw[if_pos hn0,hm]
      rfl
     have CI:Hid (∀ t W,t.size<=90000000100->Tx w t X (nm,n) W->Calls Tryz.prog 15 #[.int .i64 n] W fun e w4=>e = .returned (.string (decB m))/\Calls Tryz.prog 9 #[.pointer (some ⟨w.heap.size,0,none⟩),.string ((⟨#[91]⟩:ByteArray)++decB m++(⟨#[93]⟩:ByteArray))] w4 fun e w5=>e = .returned (.tuple #[.int .i64 ((((⟨#[91]⟩:ByteArray)++decB m++(⟨#[93]⟩:ByteArray)).size:Nat):Int),.nilIface])/\Hid (Tx w (t++((⟨#[91]⟩:ByteArray)++decB m++(⟨#[93]⟩:ByteArray))) X (nm,n) w5)):=⟨fun t W ht hT=>by
      rw[hm]
      refine(Itoa_any m (by omega) W (htab.out W hT.bl)).mono fun e w4 ⟨h1,h2⟩=>⟨by rw[h1,itoa_nat];rfl,?_⟩
      rw[hm] at hT
      exact((hT.below h2).str _ (by rw[hz,hz,z2,z3];omega)).mono fun e w5 ⟨h3,h4⟩=>⟨h3,⟨h4⟩⟩⟩
     have hm6:m<=65535:=by omega
     clear hm
     generalize decB m=dd at *
     have p1:¬ 9223372036854775807<1+dd.size:=by omega
     have p2:¬ 9223372036854775807<1+dd.size+1:=by omega
     by_cases hj0:j=0
     ·have dj:decide ((0:Int)<(j:Int))=false:=decide_eq_false (by omega)
      have djn:decide (0<j)=false:=decide_eq_false (by omega)
      have hR:Hid (txN l (j+1)=(s0++nm)++((⟨#[91]⟩:ByteArray)++dd++(⟨#[93]⟩:ByteArray))):=⟨by rw[hsu.out,if_pos hj0,hse]⟩
      have cW:Calls Tryz.prog 9 #[.pointer (some ⟨w.heap.size,0,none⟩),.string nm] WX fun e w3=>e = .returned (.tuple #[.int .i64 (nm.size:Int),.nilIface])/\w3.cell? ⟨X,1,none⟩=some (.int .i64 n)/\Hid (Tx w (s0++nm) X (nm,n) w3):=(hT.out.str nm (by omega)).mono fun e w3 ⟨h1,h2⟩=>⟨h1,cell_at h2.xb 1,⟨h2⟩⟩
      have hq:Hid ((s0++nm).size<=90000000100):=⟨by rw[hz];omega⟩
      clear hj0 hI hok hsu hT hz z1 z2 z3 hse hn0 hdm
      go_wp2_with (first
       | (go_at_call 75;refine cS.mono ?_;rintro _ w1 ⟨rfl,rfl⟩)
       | (go_at_call 9;refine cW.mono ?_;rintro _ w3 ⟨rfl,e1,HN⟩;have cI:=CI.out _ w3 hq.out HN.out;clear cW)
       | (go_at_call 15;refine cI.mono ?_;rintro _ w4 ⟨rfl,cV⟩)
       | (go_at_call 9;refine cV.mono ?_;rintro _ w5 ⟨rfl,HM⟩)
       | (guard_target =~ wpList _ _ _ (Oper.mk _ (Op.load 74 _) _ _ _ _::_) _ _;go_must (refine wpList_ld 74 _ rfl rfl _ _ rfl l46.out ?_);simp only[pts])
       | (guard_target =~ wpList _ _ _ (Oper.mk _ (Op.store 74 _ _) _ _ _ _::_) _ _;go_must (refine wpList_st 74 _ _ rfl rfl _ _ rfl rfl (s3.out _ rfl) ?_);simp only[pts]))
      go_roundw
      case rel=>exact⟨j+1,by omega,by go_num,⟨hfin.out _ (by rw[hR.out];exact HM.out)⟩⟩
      case measure=>simp[RowKit.intOf];omega
     ·have dj:decide ((0:Int)<(j:Int))=true:=decide_eq_true (by omega)
      have djn:decide (0<j)=true:=decide_eq_true (by omega)
      have hR:Hid (txN l (j+1)=(s0++(⟨#[46]⟩:ByteArray)++nm)++((⟨#[91]⟩:ByteArray)++dd++(⟨#[93]⟩:ByteArray))):=⟨by rw[hsu.out,if_neg hj0,hse]⟩
      have cB:Calls Tryz.prog 76 #[.pointer (some ⟨w.heap.size,0,none⟩),.int .u8 46] WX fun e w2=>e = .returned .nilIface/\w2.cell? ⟨X,0,none⟩=some (.string nm)/\Calls Tryz.prog 9 #[.pointer (some ⟨w.heap.size,0,none⟩),.string nm] w2 fun e w3=>e = .returned (.tuple #[.int .i64 (nm.size:Int),.nilIface])/\w3.cell? ⟨X,1,none⟩=some (.int .i64 n)/\Hid (Tx w (s0++(⟨#[46]⟩:ByteArray)++nm) X (nm,n) w3):=(hT.out.dot (by omega)).mono fun e w2 ⟨h1,h2⟩=>⟨h1,cell_at h2.xb 0,(h2.str nm (by rw[hz,z1];omega)).mono fun e w3 ⟨h3,h4⟩=>⟨h3,cell_at h4.xb 1,⟨h4⟩⟩⟩
      have hq:Hid ((s0++(⟨#[46]⟩:ByteArray)++nm).size<=90000000100):=⟨by rw[hz,hz,z1];omega⟩
      clear hj0 hI hok hsu hT hz z1 z2 z3 hse hn0 hdm
      go_wp2_with (first
       | (go_at_call 75;refine cS.mono ?_;rintro _ w1 ⟨rfl,rfl⟩)
       | (go_at_call 76;refine cB.mono ?_;rintro _ w2 ⟨rfl,a0,cW⟩)
       | (go_at_call 9;refine cW.mono ?_;rintro _ w3 ⟨rfl,e1,HN⟩;have cI:=CI.out _ w3 hq.out HN.out;clear cW)
       | (go_at_call 15;refine cI.mono ?_;rintro _ w4 ⟨rfl,cV⟩)
       | (go_at_call 9;refine cV.mono ?_;rintro _ w5 ⟨rfl,HM⟩)
       | (guard_target =~ wpList _ _ _ (Oper.mk _ (Op.load 74 _) _ _ _ _::_) _ _;go_must (refine wpList_ld 74 _ rfl rfl _ _ rfl l46.out ?_);simp only[pts])
       | (guard_target =~ wpList _ _ _ (Oper.mk _ (Op.store 74 _ _) _ _ _ _::_) _ _;go_must (refine wpList_st 74 _ _ rfl rfl _ _ rfl rfl (s3.out _ rfl) ?_);simp only[pts]))
      go_roundw
      case rel=>exact⟨j+1,by omega,by go_num,⟨hfin.out _ (by rw[hR.out];exact HM.out)⟩⟩
      case measure=>simp[RowKit.intOf];omega
    ·have d4:decide ((0:Int)<=n)=false:=decide_eq_false hn0
     by_cases hj0:j=0
     ·have dj:decide ((0:Int)<(j:Int))=false:=decide_eq_false (by omega)
      have djn:decide (0<j)=false:=decide_eq_false (by omega)
      have hR:Hid (txN l (j+1)=s0++nm):=⟨by rw[hsu.out,if_pos hj0];unfold seT;rw[if_neg hn0,ba_nil]⟩
      have cW:Calls Tryz.prog 9 #[.pointer (some ⟨w.heap.size,0,none⟩),.string nm] WX fun e w3=>e = .returned (.tuple #[.int .i64 (nm.size:Int),.nilIface])/\w3.cell? ⟨X,1,none⟩=some (.int .i64 n)/\Hid (Tx w (s0++nm) X (nm,n) w3):=(hT.out.str nm (by omega)).mono fun e w3 ⟨h1,h2⟩=>⟨h1,cell_at h2.xb 1,⟨h2⟩⟩
      clear hj0 hI hok hsu hT hz z1 z2 z3
      go_wp2_with (first
       | (go_at_call 75;refine cS.mono ?_;rintro _ w1 ⟨rfl,rfl⟩)
       | (go_at_call 9;refine cW.mono ?_;rintro _ w3 ⟨rfl,e1,HN⟩)
       | (guard_target =~ wpList _ _ _ (Oper.mk _ (Op.load 74 _) _ _ _ _::_) _ _;go_must (refine wpList_ld 74 _ rfl rfl _ _ rfl l46.out ?_);simp only[pts])
       | (guard_target =~ wpList _ _ _ (Oper.mk _ (Op.store 74 _ _) _ _ _ _::_) _ _;go_must (refine wpList_st 74 _ _ rfl rfl _ _ rfl rfl (s3.out _ rfl) ?_);simp only[pts]))
      go_roundw
      case rel=>exact⟨j+1,by omega,by go_num,⟨hfin.out _ (by rw[hR.out];exact HN.out)⟩⟩
      case measure=>simp[RowKit.intOf];omega
     ·have dj:decide ((0:Int)<(j:Int))=true:=decide_eq_true (by omega)
      have djn:decide (0<j)=true:=decide_eq_true (by omega)
      have hR:Hid (txN l (j+1)=(s0++(⟨#[46]⟩:ByteArray))++nm):=⟨by rw[hsu.out,if_neg hj0];unfold seT;rw[if_neg hn0,ba_nil]⟩
      have cB:Calls Tryz.prog 76 #[.pointer (some ⟨w.heap.size,0,none⟩),.int .u8 46] WX fun e w2=>e = .returned .nilIface/\w2.cell? ⟨X,0,none⟩=some (.string nm)/\Calls Tryz.prog 9 #[.pointer (some ⟨w.heap.size,0,none⟩),.string nm] w2 fun e w3=>e = .returned (.tuple #[.int .i64 (nm.size:Int),.nilIface])/\w3.cell? ⟨X,1,none⟩=some (.int .i64 n)/\Hid (Tx w (s0++(⟨#[46]⟩:ByteArray)++nm) X (nm,n) w3):=(hT.out.dot (by omega)).mono fun e w2 ⟨h1,h2⟩=>⟨h1,cell_at h2.xb 0,(h2.str nm (by rw[hz,z1];omega)).mono fun e w3 ⟨h3,h4⟩=>⟨h3,cell_at h4.xb 1,⟨h4⟩⟩⟩
      clear hj0 hI hok hsu hT hz z1 z2 z3
      go_wp2_with (first
       | (go_at_call 75;refine cS.mono ?_;rintro _ w1 ⟨rfl,rfl⟩)
       | (go_at_call 76;refine cB.mono ?_;rintro _ w2 ⟨rfl,a0,cW⟩)
       | (go_at_call 9;refine cW.mono ?_;rintro _ w3 ⟨rfl,e1,HN⟩)
       | (guard_target =~ wpList _ _ _ (Oper.mk _ (Op.load 74 _) _ _ _ _::_) _ _;go_must (refine wpList_ld 74 _ rfl rfl _ _ rfl l46.out ?_);simp only[pts])
       | (guard_target =~ wpList _ _ _ (Oper.mk _ (Op.store 74 _ _) _ _ _ _::_) _ _;go_must (refine wpList_st 74 _ _ rfl rfl _ _ rfl rfl (s3.out _ rfl) ?_);simp only[pts]))
      go_roundw
      case rel=>exact⟨j+1,by omega,by go_num,⟨hfin.out _ (by rw[hR.out];exact HN.out)⟩⟩
      case measure=>simp[RowKit.intOf];omega
  ·obtain rfl:j=l.length:=by omega
   have d3:decide ((l.length:Int)<l.length)=false:=by simp
   have cB:Calls Tryz.prog 10 #[.pointer (some ⟨w.heap.size,0,none⟩)] wr fun e w'=>e = .returned (.string (txN l l.length))/\Hid (TE w l (.returned (.tuple #[.string (txN l l.length),.int .i64 0])) w'):=(bString w.heap.size w.heap.size (txN l l.length).data.toList wr hI.out.1.1 (Nat.le_of_lt hI.out.1.2)).mono fun e w' ⟨h1,h2⟩=>⟨h1,⟨⟨hI.out.2.1.trans h2,.inl ⟨_,textZ_some hI.out.2.2,rfl⟩⟩⟩⟩
   clear hI hlt
   go_wp2_with (go_at_call 10;refine cB.mono ?_;rintro _ w2 ⟨rfl,hF⟩)
   exact bodyPost_ret (res_tO _ _ _ rfl rfl _) rfl hF.out
structure Pa (w:World) (R:Nat) (s:ByteArray) (k b:Nat) (l:List (ByteArray×Int)) (v:Value) (W:World):Prop where
 kk:s.size-b+1<=k
 bs:b<=s.size
 ll:l.length<=b
 e:pathZ s=conP s k b l
 rd:Rd w R s b W
 st:StR W w.heap.size v l
theorem StR.call {w W W':World} {R:Nat} {s:ByteArray} {c:Nat} {v:Value} {l:List (ByteArray×Int)} (h:StR W w.heap.size v l) (hR:R<w.heap.size) (k:Rd W R s c W'):StR W' w.heap.size v l :=
 own_stay h fun g hg=>k.mv.but.block g (World.ownsRow.lt h g hg).2 (by have:=(World.ownsRow.lt h g hg).1;omega)
theorem Pa.first {w w1:World} {R:Nat} {s:ByteArray} {b:Nat} {x:ByteArray×Int} (h0:s.size≠0) (hst:stP s 0=(some x,b)) (h:Rd w R s b w1):Pa w R s s.size b [x] (.slice (some ⟨w1.heap.size,0,none⟩) 1 1) (w1.alloc (spO x)):=by
 obtain⟨g1,g2,g3⟩:=stP_ge (s:=s) (a:=0) (Nat.zero_le _)
 rw[hst] at g1 g2 g3
 have g4:0<b:=g3 (by simp)
 replace g2:b<=s.size:=g2
 refine⟨by omega,g2,by show 1<=b;omega,?_,h.below (bel1 _ _),by rfl,.inr ⟨w1.heap.size,1,spC x,rfl,h.mv.but.size,heap_al _ _,Nat.le_refl _,by decide,rfl,rfl⟩⟩
 unfold pathZ
 rw[if_neg h0,paP_some hst]
 rfl
theorem Pa.next {w W w2:World} {R:Nat} {s:ByteArray} {k b c:Nat} {l:List (ByteArray×Int)} {v:Value} {x:ByteArray×Int} (hs:s.size<=1048576) (h:Pa w R s k b l v W) (hR:R<w.heap.size) (hb:b<s.size) (h46:ch s b=46) (hst:stP s (b+1)=(some x,c)) (h2:Rd W R s c w2):∃ v' w',(∀ ty,(Builtin.append_ #[52,52] ty #[v,.slice (some ⟨w2.heap.size,0,none⟩) 1 1]).run Tryz.prog (w2.alloc (spO x)) = .ok v' w')/\((∃ pv cv,v' = .slice pv (l++[x]).length cv)/\Hid (Pa w R s (k-1) c (l++[x]) v' w'/\b<c)):=by
 obtain⟨g1,g2,g3⟩:=stP_ge (s:=s) (a:=b+1) (by omega)
 rw[hst] at g1 g2 g3
 have g4:b+1<c:=g3 (by simp)
 replace g2:c<=s.size:=g2
 have hll:=h.ll
 have hbs:=h.bs
 have hkk:=h.kk
 have hr:=h.rd.mv.but.size
 have h2s:=h2.mv.but.size
 have hst2:=h.st.call hR h2
 obtain⟨v',w',q1,q2,q3,q4,q5⟩:=ap_genP (W:=w2) Tryz.underlying52 infoSpK rfl (by decide) hst2 [.string x.1,.int .i64 x.2] rfl (by simp[Value.oneCell']) (by omega) (by omega) (by omega)
 have hlen:(l++[x]).length=l.length+1:=by simp
 have hq2:StR w' w.heap.size v' (l++[x]):=by
  unfold StR
  rw[hlen,spL_snoc]
  exact q2
 obtain⟨g,cc,e⟩:=own_slic q2 (by omega)
 have hrd:=h.rd.from h2
 have hbR:w'.heap[R]?=w2.heap[R]?:=q4 R h2.ra.lt fun e=>by have:=(World.ownsRow.lt hst2 R e).1;omega
 have hcl:∀ o,w'.cell? ⟨R,o,none⟩=w2.cell? ⟨R,o,none⟩:=fun o=>by simp only[World.cell?,hbR]
 have hfz:∀ o,w'.frozen? ⟨R,o,none⟩=w2.frozen? ⟨R,o,none⟩:=fun o=>by simp only[World.frozen?,hbR]
 refine⟨v',w',q1,⟨_,_,by rw[hlen];exact e⟩,⟨⟨by omega,g2,by rw[hlen];omega,?_,?_,hq2⟩,by omega⟩⟩
 ·rw[h.e]
  unfold conP
  rw[if_neg (by omega),if_pos h46]
  obtain⟨k',rfl⟩:∃ k',k=k'+1:=⟨k-1,by omega⟩
  rw[paP_some hst]
  rfl
 ·exact⟨⟨(hcl 0).trans hrd.ra.h0,(hcl 1).trans hrd.ra.h1,fun o=>(hfz o).trans (hrd.ra.fz o),by have:=q3.size;have:=hrd.ra.lt;omega⟩,⟨⟨q3.os.trans hrd.mv.but.os,q3.tape.trans hrd.mv.but.tape,q3.output.trans hrd.mv.but.output,by have:=q3.size;have:=hrd.mv.but.size;omega,fun j hj hj2=>(q3.block j hj).trans (hrd.mv.but.block j hj hj2)⟩,fun o ho=>(hcl o).trans (hrd.mv.cell o ho),fun o=>(hfz o).trans (hrd.mv.fz o)⟩⟩
def PaE (w:World) (R:Nat) (s:ByteArray) (o:Option (List (ByteArray×Int))) (b:Nat) (e:Ending) (w':World):Prop:=(o=none/\e = .panicked [pvE]/\Rd w R s b w')\/(∃ l v c,o=some l/\e = .returned v/\StR w' w.heap.size v l/\Rd w R s c w')
theorem path_any (R:Nat) (s:ByteArray) (hs:s.size<=1048576) (w:World) (h:RA w R s 0) {o:Option (List (ByteArray×Int))} {b0:Nat} (hp:pathZ s=(o,b0)):Calls Tryz.prog 52 #[.pointer (some ⟨R,0,none⟩)] w fun e w'=>PaE w R s o b0 e w':=by
 have hR:=h.lt
 have k0:=h.h0
 by_cases h0:s.size=0
 ·have e0:(s.toList==[])=true:=by rw[nempty];simp[h0]
  have hF:Hid (PaE w R s o b0 (.returned (.slice none 0 0)) w):=⟨.inr ⟨[],_,0,by unfold pathZ at hp;rw[if_pos h0] at hp;injection hp with e1 _;exact e1.symm,rfl,World.ownsRow_nil _ _ _ 2,Rd.refl h⟩⟩
  clear h hp
  go_enter Tryz.func52,Tryz.ntmps52
  go_wp2_with fail
  go_ret
  exact hF.out
 ·have e0:(s.toList==[])=false:=by rw[nempty];simp[h0]
  obtain⟨o1,b1,hst⟩:∃ o1 b1,stP s 0=(o1,b1):=⟨_,_,rfl⟩
  have cS:=step_any R s 0 (by omega) (Nat.zero_le _) w h hst
  cases o1 with
  | none =>
   have hF:Hid (o=none/\b0=b1):=⟨by
    unfold pathZ at hp
    rw[if_neg h0,paP_none hst] at hp
    injection hp with e1 e2
    exact⟨e1.symm,e2.symm⟩⟩
   have cS2:Calls Tryz.prog 73 #[.pointer (some ⟨R,0,none⟩)] w fun e w'=>e = .panicked [pvE]/\Hid (PaE w R s o b0 (.panicked [pvE]) w'):=cS.mono fun e w' ⟨h1,h2⟩=>by
    rcases h2 with ⟨-,h2⟩|⟨x,h2,-⟩
    ·exact⟨h2,⟨.inl ⟨hF.out.1,rfl,by rw[hF.out.2];exact h1⟩⟩⟩
    ·cases h2
   clear cS h hp hF
   go_enter Tryz.func52,Tryz.ntmps52
   go_wp2_with (go_at_call 73;refine cS2.mono ?_;rintro _ w1 ⟨rfl,h1⟩)
   exact⟨rfl,h1.out⟩
  | some x =>
   have cS2:Calls Tryz.prog 73 #[.pointer (some ⟨R,0,none⟩)] w fun e w1=>e = .returned (spV x)/\Hid (Pa w R s s.size b1 [x] (.slice (some ⟨w1.heap.size,0,none⟩) 1 1) (w1.alloc (spO x))):=cS.mono fun e w' ⟨h1,h2⟩=>by
    rcases h2 with ⟨h2,-⟩|⟨y,h2,h3⟩
    ·cases h2
    ·cases h2
     exact⟨h3,⟨Pa.first h0 hst h1⟩⟩
   clear cS h hst
   go_enter Tryz.func52,Tryz.ntmps52
   go_wp2_with (go_at_call 73;refine cS2.mono ?_;rintro _ w1 ⟨rfl,h1⟩)
   clear cS2 k0 e0
   go_loopw [3] (fun q wr=>∃ (k b:Nat) (l:List (ByteArray×Int)) (pv:Option Addr) (cv:Nat),q = .slice pv l.length cv/\Hid (Pa w R s k b l (.slice pv l.length cv) wr)) (fun _ wr=>s.size-plcR wr R)
   case atStart=>exact⟨_,_,[x],_,_,rfl,h1⟩
   case round =>
    clear h1
    obtain⟨k,b,l,pv,cv,rfl,hI⟩:=hrel
    obtain⟨p,p0,pN,pE,-,k0,k1⟩:=rd_class hI.out.rd
    have hM0:Hid (plcR wr R=b):=⟨plc_of hI.out.rd.ra.h1⟩
    have hD:Hid (Pa w R s k b l (.slice pv l.length cv) wr.drew):=⟨⟨hI.out.kk,hI.out.bs,hI.out.ll,hI.out.e,hI.out.rd.drew,hI.out.st⟩⟩
    have hbs:=hI.out.bs
    clear hI
    by_cases hlt:b<s.size
    ·have d1:decide ((b:Int)<(s.size:Int))=true:=decide_eq_true (by omega)
     have d1n:decide (b<s.size)=true:=decide_eq_true hlt
     go_wp2_with fail
     refine wp_region_pp p [0,1,2,3,4,5,6,7,8,9] (by kernel_rfl) (by kernel_rfl) (fun _ _ d _ _ h=>by cases d<;>exact h) p0 ?_
     simp only[List.filterMap_cons,List.filterMap_nil,List.getElem?_cons_zero,List.getElem?_cons_succ]
     repeat (first
      | (refine lx_one rfl ?_;(first|go_big_quiet_skip|(go_big_quiet_want;go_big_quiet_op;go_big_quiet_on));refine wpQuiet_nil ?_)
      | (refine lx_skip (by rfl) ?_;simp only[pts]))
     refine lx_done ?_
     clear k0 k1 pN pE
     by_cases h46:ch s b=46
     ·obtain⟨o2,c,hst⟩:∃ o2 c,stP s (b+1)=(o2,c):=⟨_,_,rfl⟩
      have cW:=want_ok R s b 46 (by omega) ⟨hlt,h46⟩ wr.drew wr.drew (Rd.refl hD.out.rd.ra)
      cases o2 with
      | none =>
       have cT:Hid (∀ w2,Rd wr.drew R s (b+1) w2->Calls Tryz.prog 73 #[.pointer (some ⟨R,0,none⟩)] w2 fun e w'=>e = .panicked [pvE]/\Hid (PaE w R s o b0 (.panicked [pvE]) w')):=⟨fun w2 h2=>(step_any R s (b+1) (by omega) (by omega) w2 h2.ra hst).mono fun e w' ⟨h3,h4⟩=>by
        rcases h4 with ⟨-,h4⟩|⟨x,h4,-⟩
        ·refine⟨h4,⟨.inl ?_⟩⟩
         have hpp:=hD.out.e
         unfold conP at hpp
         obtain⟨k',rfl⟩:∃ k',k=k'+1:=⟨k-1,by have:=hD.out.kk;omega⟩
         rw[if_neg (by omega),if_pos h46,paP_none hst,hp] at hpp
         injection hpp with e1 e2
         exact⟨e1,rfl,by rw[e2];exact(hD.out.rd.from h2).from h3⟩
        ·cases h4⟩
       clear hD p0
       generalize wr.drew=W at *
       go_wp2_with (first
        | (go_at_call 74;refine cW.mono ?_;rintro _ w2 ⟨rfl,h2⟩;have cS:=cT.out w2 h2;clear h2)
        | (go_at_call 73;refine cS.mono ?_;rintro _ w3 ⟨rfl,h3⟩))
       exact⟨rfl,h3.out⟩
      | some y =>
       have cT:Hid (∀ w2,Rd wr.drew R s (b+1) w2->Calls Tryz.prog 73 #[.pointer (some ⟨R,0,none⟩)] w2 fun e w3=>e = .returned (spV y)/\Hid (∃ v' w',(∀ ty,(Builtin.append_ #[52,52] ty #[.slice pv l.length cv,.slice (some ⟨w3.heap.size,0,none⟩) 1 1]).run Tryz.prog (w3.alloc (spO y)) = .ok v' w')/\((∃ pv cv,v' = .slice pv (l++[y]).length cv)/\Hid (Pa w R s (k-1) c (l++[y]) v' w'/\b<c)))):=⟨fun w2 h2=>(step_any R s (b+1) (by omega) (by omega) w2 h2.ra hst).mono fun e w' ⟨h3,h4⟩=>by
        rcases h4 with ⟨h4,-⟩|⟨x,h4,h5⟩
        ·cases h4
        ·cases h4
         exact⟨h5,⟨Pa.next hs hD.out hR hlt h46 hst (h2.from h3)⟩⟩⟩
       clear hD p0 hst
       generalize wr.drew=W at *
       go_wp2_with (first
        | (go_at_call 74;refine cW.mono ?_;rintro _ w2 ⟨rfl,h2⟩;have cS:=cT.out w2 h2;clear h2)
        | (go_at_call 73;refine cS.mono ?_;rintro _ w3 ⟨rfl,hap⟩)
        | (at_builtin;go_must (refine(ap_step (by rfl) _ _ _ _ (by rfl) _ _ (by rfl) (by rfl) _ hap.out ?_));rintro v8 w8 ⟨⟨p8,c8,rfl⟩,hF⟩))
       have hM:Hid (plcR w8 R=c):=⟨plc_of hF.out.1.rd.ra.h1⟩
       go_roundw
       case rel=>exact⟨k-1,c,l++[y],p8,c8,by rw[List.length_append];rfl,⟨hF.out.1⟩⟩
       case measure=>rw[hM.out,hM0.out];have:=hF.out.2;omega
     ·have cW:Calls Tryz.prog 74 #[.pointer (some ⟨R,0,none⟩),.int .u8 46] wr.drew fun e w'=>e = .panicked [pvE]/\Hid (PaE w R s o b0 (.panicked [pvE]) w'):=(want_no R s b 46 (fun hh=>h46 hh.2) wr.drew wr.drew (Rd.refl hD.out.rd.ra)).mono fun e w' ⟨h3,h4⟩=>by
       refine⟨h3,⟨.inl ?_⟩⟩
       have hpp:=hD.out.e
       unfold conP at hpp
       rw[if_neg (by omega),if_neg h46,hp] at hpp
       injection hpp with e1 e2
       exact⟨e1,rfl,by rw[e2];exact hD.out.rd.from h4⟩
      clear hD p0
      generalize wr.drew=W at *
      go_wp2_with (go_at_call 74;refine cW.mono ?_;rintro _ w2 ⟨rfl,h2⟩)
      exact⟨rfl,h2.out⟩
    ·have d1:decide ((b:Int)<(s.size:Int))=false:=decide_eq_false (by omega)
     have d1n:decide (b<s.size)=false:=decide_eq_false hlt
     have hF:Hid (PaE w R s o b0 (.returned (.slice pv l.length cv)) wr.drew):=⟨.inr ⟨l,_,b,by
      have hpp:=hD.out.e
      unfold conP at hpp
      rw[if_pos (by omega),hp] at hpp
      injection hpp with e1 e2,rfl,hD.out.st,hD.out.rd⟩⟩
     clear hD
     go_wp2_with fail
     refine wp_region_pp p [0,1,2,3,4,5,6,7,8,9] (by kernel_rfl) (by kernel_rfl) (fun _ _ d _ _ h=>by cases d<;>exact h) p0 ?_
     simp only[List.filterMap_cons,List.filterMap_nil,List.getElem?_cons_zero,List.getElem?_cons_succ]
     repeat (first
      | (refine lx_one rfl ?_;(first|go_big_quiet_skip|(go_big_quiet_want;go_big_quiet_op;go_big_quiet_on));refine wpQuiet_nil ?_)
      | (refine lx_skip (by rfl) ?_;simp only[pts]))
     refine lx_done ?_
     clear k0 k1 pN pE p0
     go_wp2_with fail
     go_ret
     exact hF.out
theorem catch_idle (p:Addr) (w:World) :
  CallsD Tryz.prog 72 #[.pointer (some p)] .returning w fun e u' w'=>e = .returned (.tuple #[])/\u' = .returning/\w'=w:=by
 refine callsD_of_wpS Tryz.func72 rfl fun c₀ cs hu=>?_
 apply wpS_seq
 apply wpS_region
 simp[wpOpsS,go_sem,recoverD,hu,Tryz.ntmps72,Exit.thenS]
 refine wpS_of_wp ?_
 simp only[Array.replicate_succ,Array.replicate_zero,List.push_toArray,List.nil_append,List.cons_append,Array.setIfInBounds,List.size_toArray,List.length_cons,List.length_nil,Nat.reduceAdd]
 simp only[Nat.reduceLT,dite_true,List.set_toArray,List.set_cons_succ,List.set_cons_zero]
 go_wp2_with fail
 exact⟨rfl,.returning,by cases c₀;simp_all,_,by simp[results,Tryz.results72,go_sem],rfl,rfl,rfl⟩
theorem run_assert_e (x:Value) (w:World):(Instr.typeAssert (.iface 23 x) 20 23 false).run Tryz.prog w = .ok x w:=by
 simp[Instr.typeAssert,run_underlying Tryz.underlying23]
theorem catch_pan (g:Nat) (c:Value) (w:World) (hc:w.cell? ⟨g,0,none⟩=some c) (hf:w.frozen? ⟨g,0,none⟩=false) :
  CallsD Tryz.prog 72 #[.pointer (some ⟨g,0,none⟩)] (.panicking [pvE]) w fun r u' w'=>r = .returned (.tuple #[])/\u' = .panicking [{ pvE with recovered:=true }]/\w'=w.setCell ⟨g,0,none⟩ (.int .i64 210):=by
 have hta:=run_assert_e
 refine callsD_of_wpS Tryz.func72 rfl fun c₀ cs hu=>?_
 apply wpS_seq
 apply wpS_region
 simp[wpOpsS,go_sem,recoverD,hu,Tryz.ntmps72,Exit.thenS]
 refine wpS_of_wp ?_
 simp only[Array.replicate_succ,Array.replicate_zero,List.push_toArray,List.nil_append,List.cons_append,Array.setIfInBounds,List.size_toArray,List.length_cons,List.length_nil,Nat.reduceAdd]
 simp only[Nat.reduceLT,dite_true,List.set_toArray,List.set_cons_succ,List.set_cons_zero]
 go_wp2_with fail
 exact⟨rfl,_,rfl,_,by simp[results,Tryz.results72,go_sem],rfl,rfl,rfl⟩
abbrev eO (n:Int):Obj:=.cells #[.int .i64 n] 23
abbrev doV (p q:Value):Value:=.func (.func 51) #[] #[p,q]
theorem res_caught (tmps:Array Value) (b:Nat) (n:Int) (h2:tmps[2]?.getD undef = .pointer (some ⟨b,0,none⟩)) (W:World) (hT:W.cell? ⟨b,0,none⟩=some (.int .i64 n)) :
  (results Tryz.f50 tmps).run Tryz.prog W = .ok (.int .i64 n) W:=by
 simp[results,Tryz.results50,go_sem,h2,hT]
theorem caught_ok (p q:Value) (w:World) (Q:World->Prop) (hd:Calls Tryz.prog 51 #[p,q] (w.alloc (eO 0)) fun e w'=>e = .returned (.tuple #[])/\(Q w'/\w'.heap[w.heap.size]?=some (eO 0))) :
  Calls Tryz.prog 50 #[doV p q] w fun e w'=>∃ w1,Q w1/\w1.heap[w.heap.size]?=some (eO 0)/\e = .returned (.int .i64 0)/\w'=w1.setCell ⟨w.heap.size,0,none⟩ (.int .i64 0):=by
 go_enter_defers Tryz.func50,Tryz.ntmps50
 go_wp2_with (go_at_call 51;refine hd.mono ?_;rintro _ w1 ⟨rfl,h1,h2⟩;have c1:=cell_at h2 0;have f1:w1.frozen? ⟨w.heap.size,0,none⟩=false:=frz_at h2)
 have hT:(w1.setCell ⟨w.heap.size,0,none⟩ (.int .i64 0)).cell? ⟨w.heap.size,0,none⟩=some (.int .i64 0):=World.cell?_setCell_same w1 ⟨w.heap.size,0,none⟩ _ c1
 refine leaves_cons (f:=72) (args:=#[.pointer (some ⟨w.heap.size,0,none⟩)]) (by simp) (by simp[go_sem]) ?_
 refine(catch_idle _ _).mono ?_
 rintro e u' w'' ⟨rfl,rfl,rfl⟩
 exact⟨_,res_caught _ _ _ rfl _ hT,w1,h1,h2,rfl,rfl⟩
theorem caught_no (p q:Value) (w:World) (Q:World->Prop) (hd:Calls Tryz.prog 51 #[p,q] (w.alloc (eO 0)) fun e w'=>e = .panicked [pvE]/\(Q w'/\w'.heap[w.heap.size]?=some (eO 0))) :
  Calls Tryz.prog 50 #[doV p q] w fun e w'=>∃ w1,Q w1/\w1.heap[w.heap.size]?=some (eO 0)/\e = .returned (.int .i64 210)/\w'=w1.setCell ⟨w.heap.size,0,none⟩ (.int .i64 210):=by
 go_enter_defers Tryz.func50,Tryz.ntmps50
 go_wp2_with (go_at_call 51;refine hd.mono ?_;rintro _ w1 ⟨rfl,h1,h2⟩;have c1:=cell_at h2 0;have f1:w1.frozen? ⟨w.heap.size,0,none⟩=false:=frz_at h2)
 have hT:(w1.setCell ⟨w.heap.size,0,none⟩ (.int .i64 210)).cell? ⟨w.heap.size,0,none⟩=some (.int .i64 210):=World.cell?_setCell_same w1 ⟨w.heap.size,0,none⟩ _ c1
 refine leaves_cons (f:=72) (args:=#[.pointer (some ⟨w.heap.size,0,none⟩)]) (by simp) (by simp[go_sem]) ?_
 refine(catch_pan _ _ _ c1 f1).mono ?_
 rintro e u' w'' ⟨rfl,rfl,rfl⟩
 exact⟨_,res_caught _ _ _ rfl _ hT,w1,h1,h2,rfl,rfl⟩
theorem do_ok (R X P:Nat) (s:ByteArray) (hs:s.size<=1048576) (w:World) (h:RA w R s 0) (hX:w.heap[X]?=some (.cells #[.pointer (some ⟨R,0,none⟩)] 84)) (hP:w.heap[P]?=some (.cells #[.slice none 0 0] 52)) (hPR:P≠R) {l:List (ByteArray×Int)} {b0:Nat} (hp:pathZ s=(some l,b0)) :
  Calls Tryz.prog 51 #[.pointer (some ⟨X,0,none⟩),.pointer (some ⟨P,0,none⟩)] w fun e w'=>e = .returned (.tuple #[])/\∃ w1 v c,StR w1 w.heap.size v l/\Rd w R s c w1/\w'=w1.setCell ⟨P,0,none⟩ v:=by
 have hc:=path_any R s hs w h hp
 have x0:=cell_at hX 0
 have hPl:=(Array.getElem?_eq_some_iff.1 hP).1
 have cP:Calls Tryz.prog 52 #[.pointer (some ⟨R,0,none⟩)] w fun e w1=>∃ pv cv c,e = .returned (.slice pv l.length cv)/\w1.cell? ⟨P,0,none⟩=some (.slice none 0 0)/\w1.frozen? ⟨P,0,none⟩=false/\Hid (StR w1 w.heap.size (.slice pv l.length cv) l/\Rd w R s c w1):=hc.mono fun e w1 hE=>by
  rcases hE with ⟨h1,-⟩|⟨l',v,c,h1,h2,h3,h4⟩
  ·cases h1
  ·cases h1
   have hP1:=(h4.mv.but.block P hPl hPR).trans hP
   obtain⟨pv,cv,rfl⟩:∃ pv cv,v = .slice pv l.length cv:=by
    rcases(show World.ownsRow _ _ _ _ _ _ _ from h3).2 with ⟨e,e0⟩|⟨g,cap,cur,e,-⟩
    ·exact⟨none,0,by rw[e,e0]⟩
    ·exact⟨_,_,e⟩
   exact⟨pv,cv,c,h2,cell_at hP1 0,frz_at hP1,⟨h3,h4⟩⟩
 clear hc h hX hP hp
 go_enter Tryz.func51,Tryz.ntmps51
 go_wp2_with (go_at_call 52;refine cP.mono ?_;rintro _ w1 ⟨pv,cv,c,rfl,k1,k2,hF⟩)
 go_end0
 exact⟨rfl,w1,_,c,hF.out.1,hF.out.2,rfl⟩
theorem do_no (R X P:Nat) (s:ByteArray) (hs:s.size<=1048576) (w:World) (h:RA w R s 0) (hX:w.heap[X]?=some (.cells #[.pointer (some ⟨R,0,none⟩)] 84)) {b0:Nat} (hp:pathZ s=(none,b0)) :
  Calls Tryz.prog 51 #[.pointer (some ⟨X,0,none⟩),.pointer (some ⟨P,0,none⟩)] w fun e w'=>e = .panicked [pvE]/\Rd w R s b0 w':=by
 have x0:=cell_at hX 0
 have cP:Calls Tryz.prog 52 #[.pointer (some ⟨R,0,none⟩)] w fun e w1=>e = .panicked [pvE]/\Hid (Rd w R s b0 w1):=(path_any R s hs w h hp).mono fun e w1 hE=>by
  rcases hE with ⟨-,h1,h2⟩|⟨l',v,c,h1,-⟩
  ·exact⟨h1,⟨h2⟩⟩
  ·cases h1
 clear h hX hp
 go_enter Tryz.func51,Tryz.ntmps51
 go_wp2_with (go_at_call 52;refine cP.mono ?_;rintro _ w1 ⟨rfl,hF⟩)
 exact⟨rfl,rfl,hF.out⟩
end Go.Proofs.YtekpgklllfobfaaGreatDoor
