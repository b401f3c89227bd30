import Derived.Test.YtekpgklllfobfaaGreatDoorK01
namespace Go.Proofs.YtekpgklllfobfaaGreatDoor
set_option maxRecDepth 1000000
set_option maxHeartbeats 16000000
open Go.ChangeShapes Go.WideShapes Go.ChangeAt Go.RowKit Go.Shelf Go.Maps
theorem NRow.cut {W:World} {base:Nat} {v:Value} {b:List Nat} {x:Nat} (h:NRow W base v (b++[x])):∃ g cp,v = .slice (some ⟨g,0,none⟩) (b.length+1) cp/\b.length+1<=cp/\g<W.heap.size/\W.cell? ⟨g,b.length,none⟩=some (.int .i64 (x:Int))/\NRow W base (.slice (some ⟨g,0,none⟩) b.length cp) b:=by
 obtain⟨pp,cp0,hv0,hc⟩:=h.shape
 obtain⟨g0,rfl,hg0,kc⟩:=hc b.length x (by simp)
 have h1:=h.1
 rcases h.2 with ⟨_,hn⟩|⟨g,cap,cur,hv,hb,hg,hle,hm,hs,ht⟩
 ·simp at hn
 ·rw[hv] at hv0
  injection hv0 with e1 e2 e3
  injection e1 with e1
  injection e1 with e1
  subst e1 e3
  rw[List.length_append,List.length_singleton] at hv hle ht
  refine⟨g,cap,hv,hle,hg0,kc,by simp,.inr ⟨g,cap,cur,rfl,hb,hg,by omega,hm,hs,?_⟩⟩
  rw[Nat.mul_one] at ht ⊢
  have:=congrArg (List.take b.length) ht
  rw[List.take_take,Nat.min_eq_left (by omega),List.map_append,List.take_left' (by simp)] at this
  exact this
def trL:List Nat->List Nat
 | []=>[]
 | x::r=>if trL r=[]/\x=0 then [] else x::trL r
theorem trL_zero:∀ b:List Nat,trL (b++[0])=trL b
 | []=>by simp[trL]
 | x::r=>by rw[List.cons_append,trL,trL,trL_zero r]
theorem trL_last:∀ {b:List Nat} {x:Nat},x≠0->trL (b++[x])=b++[x]
 | [],x,h=>by simp[trL,h]
 | y::r,x,h=>by rw[List.cons_append,trL,trL_last h,if_neg (by simp)]
theorem trL_all (l:List Nat):∃ b,trL l=b/\trm b/\lv b=lv l/\b.length<=l.length/\(lok l->lok b):=by
 generalize hn:l.length=n
 induction n generalizing l with
 | zero =>
  obtain rfl:l=[]:=List.eq_nil_of_length_eq_zero hn
  exact⟨[],rfl,trm_nil,rfl,Nat.le_refl _,id⟩
 | succ n ih =>
  obtain⟨b,x,rfl⟩:=snoc_of (a:=l) (fun e=>by rw[e] at hn;simp at hn)
  have hb:b.length=n:=by simpa using hn
  by_cases hx:x=0
  ·subst hx
   obtain⟨c,h1,h2,h3,h4,h5⟩:=ih b hb
   refine⟨c,(trL_zero b).trans h1,h2,h3.trans (lv_pop rfl).symm,by omega,fun hl=>h5 fun y hy=>hl y (List.mem_append_left _ hy)⟩
  ·exact⟨b++[x],trL_last hx,trm_pos hx,rfl,by omega,id⟩
def slN:Value->Nat
 | .slice _ n _=>n
 | _=>0
theorem rtrim3 (W:World) (base:Nat) (v:Value) (ns:List Nat) (h:NRow W base v ns) (hl:ns.length<=977343669134) :
  Calls Tryz.prog 77 #[v] W fun e W'=>∃ v',e = .returned v'/\NRow W base v' (trL ns)/\W'=W:=by
 go_enter Tryz.func77,Tryz.ntmps77
 go_wp2_with fail
 go_loop [0] (fun q=>∃ ms:List Nat,NRow W base q ms/\ms.length<=ns.length/\Hid (trL ns=trL ms)) (fun q=>slN q)
 case atStart=>exact⟨ns,h,Nat.le_refl _,rfl⟩
 case round =>
  obtain⟨ms,hR,hm,hI⟩:=hrel
  clear h
  by_cases he:ms=[]
  ·subst he
   obtain⟨pp,cp,rfl,-⟩:=hR.shape
   have hz:Hid (trL ns=[]):=hI.out
   replace hR:Hid (NRow _ _ _ _):=hR
   clear hI
   go_wp2_with fail
   go_ret
   exact⟨_,rfl,by rw[hz.out];exact hR.out,rfl⟩
  ·obtain⟨b,x,rfl⟩:=snoc_of he
   obtain⟨g,cp,rfl,hcp,hg,kc,hB⟩:=hR.cut
   rw[List.length_append,List.length_singleton] at hm
   by_cases hx:x=0
   ·subst hx
    have hz:Hid (trL ns=trL b):=hI.out.trans (trL_zero b)
    clear hI hR
    replace hB:Hid (NRow _ _ _ _):=hB
    go_wp2_with fail
    go_round
    case rel=>exact⟨b,hB.out,by omega,hz⟩
    case measure=>simp[slN]
   ·have hz:Hid (trL ns=b++[x]):=hI.out.trans (trL_last hx)
    clear hI hB
    replace hR:Hid (NRow _ _ _ _):=hR
    go_wp2_with fail
    go_ret
    exact⟨_,rfl,by rw[hz.out];exact hR.out,rfl⟩
theorem pow_step (i c:Nat):16777216 ^ (i+1)*(c / 16777216)+16777216 ^ i*(c % 16777216)=16777216 ^ i*c:=by
 have h:=Nat.div_add_mod c 16777216
 rw[Nat.pow_succ,Nat.mul_assoc,<- Nat.mul_add,h]
theorem rtimes3 (W:World) (base:Nat) (v:Value) (l:List Nat) (k c0:Nat) (h:NRow W base v l) (hok:lok l) (hk:k<16777216) (hc0:c0<16777216) (hl:l.length+2<=977343669134) :
  Calls Tryz.prog 56 #[v,.int .i64 (k:Int),.int .i64 (c0:Int)] W fun e W'=>∃ v' ns,e = .returned v'/\NRow W' W.heap.size v' ns/\lok ns/\trm ns/\lv ns=lv l*k+c0/\ns.length<=l.length+1/\Below W.heap.size W W':=by
 obtain⟨pp,cp,rfl,hcell⟩:=h.shape
 have hA:Hid (∀ W',Below W.heap.size W W'->∀ (i n:Nat),l[i]?=some n->∃ g,pp=some ⟨g,0,none⟩/\W'.cell? ⟨g,i,none⟩=some (.int .i64 (n:Int))):=fun W' hb i n hi=>by
  obtain⟨g,h1,h2,h3⟩:=hcell i n hi
  exact⟨g,h1,by rw[hb.cell (by exact h2)];exact h3⟩
 clear h hcell
 go_enter Tryz.func56,Tryz.ntmps56
 go_wp2_with fail
 go_loopw [7,8,2] (fun b q c wr=>∃ (i cc:Nat) (ns:List Nat),q = .int .i64 (i:Int)/\c = .int .i64 (cc:Int)/\i<=l.length/\cc<16777216/\NRow wr W.heap.size b ns/\ns.length=i/\Hid (lok ns)/\Hid (lv ns+16777216 ^ i*cc=lv (l.take i)*k+c0)/\Below W.heap.size W wr) (fun _ q _ _=>l.length-(RowKit.intOf q).toNat)
 case atStart=>exact⟨0,c0,[],rfl,rfl,Nat.zero_le _,hc0,NRow.nil _ _,rfl,(fun x hx=>by cases hx),by show _=_;simp[lv],Below.refl _ _⟩
 case round =>
  obtain⟨i,cc,ns,rfl,rfl,hi,hcc,hR,hlen,hN,hI,hB⟩:=hrel
  by_cases hlt:i<l.length
  ·obtain⟨x,hx⟩:∃ x,l[i]?=some x:=⟨l[i],List.getElem?_eq_getElem hlt⟩
   have hxb:=hok x (List.mem_of_getElem? hx)
   obtain⟨g,rfl,kc⟩:=hA.out wr hB i x hx
   obtain⟨p,hp⟩:∃ p,x*k=p:=⟨_,rfl⟩
   have hpb:p<=281474943156225:=by rw[<- hp];exact Nat.mul_le_mul (Nat.le_of_lt_succ hxb) (Nat.le_of_lt_succ hk)
   have hpi:(x:Int)*(k:Int)=(p:Int):=by rw[<- hp];simp
   have hap:Hid _:=n_ap ((cc+p) % 16777216) hR (by omega) hB.size
   have l1:decide ((i:Int)<(l.length:Int))=true:=by simp;omega
   have hN2:Hid (lok (ns++[(cc+p) % 16777216])):=lok_snoc hN (Nat.mod_lt _ (by decide))
   have hI2:Hid (lv (ns++[(cc+p) % 16777216])+16777216 ^ (i+1)*((cc+p) / 16777216)=lv (l.take (i+1))*k+c0):=by
    show _=_
    have h1:=pow_step i (cc+p)
    have h2:lv ns+16777216 ^ i*cc=lv (l.take i)*k+c0:=hI
    rw[lv_snoc,hlen,lv_take_succ hx,Nat.add_mul,Nat.mul_assoc,hp]
    rw[Nat.mul_add] at h1
    omega
   replace hB:Hid (Below _ _ _):=hB
   clear hA hR hI hp hN
   go_wp2_with (at_builtin;go_must (refine(ap_step (by rfl) _ _ _ _ (by rfl) _ _ (by rfl) (by rfl) _ hap.out ?_));rintro v' w' ⟨q1,q2⟩;replace q1:Hid (NRow _ _ _ _):=q1;replace q2:Hid (Below _ _ _):=q2)
   go_roundw
   case rel=>exact⟨i+1,(cc+p) / 16777216,ns++[(cc+p) % 16777216],by go_num,by go_num,by omega,by omega,q1,by simp[hlen],hN2,hI2,hB.trans q2⟩
   case measure=>simp[RowKit.intOf];omega
  ·obtain rfl:i=l.length:=by omega
   have l1:decide ((l.length:Int)<(l.length:Int))=false:=by simp
   have hV:Hid (lv ns+16777216 ^ ns.length*cc=lv l*k+c0):=by
    have h2:lv ns+16777216 ^ l.length*cc=lv (l.take l.length)*k+c0:=hI
    rw[List.take_length] at h2
    rw[hlen]
    exact h2
   have hL:ns.length+(if cc=0 then 0 else 1)<=l.length+1:=by split<;>omega
   clear hI hA hlen
   replace hB:Hid (Below _ _ _):=hB
   replace hR:Hid (NRow _ _ _ _):=hR
   go_wp2_with fail
   go_loopw [7,2] (fun b c wz=>∃ (c2:Nat) (ms:List Nat),c = .int .i64 (c2:Int)/\c2<16777216/\ms.length+(if c2=0 then 0 else 1)<=l.length+1/\Hid (NRow wz W.heap.size b ms)/\Hid (lok ms)/\Hid (lv ms+16777216 ^ ms.length*c2=lv l*k+c0)/\Hid (Below W.heap.size W wz)) (fun _ c _=>(RowKit.intOf c).toNat)
   case atStart=>exact⟨cc,ns,rfl,hcc,hL,hR,hN,hV,hB⟩
   case round =>
    clear hL hR hN hV hB
    obtain⟨c2,ms,rfl,hc2,hL,hR,hN,hV,hB⟩:=hrel
    by_cases hz:c2=0
    ·subst hz
     have hV2:lv ms=lv l*k+c0:=by
      have:lv ms+16777216 ^ ms.length*0=lv l*k+c0:=hV
      omega
     have cT:=rtrim3 _ W.heap.size _ ms hR (by simp at hL;omega)
     obtain⟨b1,e1,e2,e3,e4,e5⟩:=trL_all ms
     have hfin:Hid (lok b1/\trm b1/\lv b1=lv l*k+c0/\b1.length<=l.length+1):=⟨e5 hN,e2,e3.trans hV2,by simp at hL;omega⟩
     rw[e1] at cT
     clear hV hV2 hN hL e2 e3 e4 e5 hR
     go_wp2_with (go_at_call 77;refine cT.mono ?_;clear cT;rintro _ w1 ⟨v1,rfl,r1,rfl⟩;replace r1:Hid (NRow _ _ _ _):=r1)
     go_ret
     exact⟨_,_,rfl,r1,hfin.1,hfin.2.1,hfin.2.2.1,hfin.2.2.2,hB⟩
    ·rw[if_neg hz] at hL
     have hN2:Hid (lok (ms++[c2 % 16777216])):=lok_snoc hN (Nat.mod_lt _ (by decide))
     have hV2:Hid (lv (ms++[c2 % 16777216])+16777216 ^ (ms++[c2 % 16777216]).length*(c2 / 16777216)=lv l*k+c0):=by
      show _=_
      have h1:=pow_step ms.length c2
      have h2:lv ms+16777216 ^ ms.length*c2=lv l*k+c0:=hV
      rw[lv_snoc,List.length_append,List.length_singleton]
      omega
     have hap:Hid _:=n_ap (c2 % 16777216) hR (by omega) hB.size
     have hq:c2 / 16777216=0:=Nat.div_eq_of_lt hc2
     have l1:decide ((c2:Int) > 0)=true:=by simp;omega
     replace hB:Hid (Below _ _ _):=hB
     clear hV hN hR
     go_wp2_with (at_builtin;go_must (refine(ap_step (by rfl) _ _ _ _ (by rfl) _ _ (by rfl) (by rfl) _ hap.out ?_));rintro v' w' ⟨q1,q2⟩;replace q1:Hid (NRow _ _ _ _):=q1;replace q2:Hid (Below _ _ _):=q2)
     go_roundw
     case rel=>exact⟨c2 / 16777216,ms++[c2 % 16777216],by go_num,by omega,by rw[hq,List.length_append,List.length_singleton,if_pos rfl];omega,q1,hN2,hV2,hB.trans q2⟩
     case measure=>simp[RowKit.intOf];omega
def nV (base:Nat) (s:ByteArray):Nat->Nat
 | 0=>0
 | i+1=>nV base s i*base+(wtZ (ch s i)).toNat
theorem wtZ_lt (c:Nat):wtZ c<16:=by unfold wtZ;repeat (first|omega|split)
theorem rnumber3 (W:World) (s:ByteArray) (k:Nat) (hk:k<16777216) (hs:s.size<=549755813888) (hd:∀ i,i<s.size->0<=wtZ (ch s i)) :
  Calls Tryz.prog 35 #[.string s,.int .i64 (k:Int)] W fun e W'=>∃ v' ns,e = .returned v'/\NRow W' W.heap.size v' ns/\lok ns/\trm ns/\lv ns=nV k s s.size/\ns.length<=s.size/\Below W.heap.size W W':=by
 replace hd:Hid _:=hd
 go_enter Tryz.func35,Tryz.ntmps35
 go_wp2_with fail
 go_loopw [5,6] (fun b q wr=>∃ (i:Nat) (ns:List Nat),q = .int .i64 (i:Int)/\i<=s.size/\Hid (NRow wr W.heap.size b ns)/\ns.length<=i/\Hid (lok ns/\trm ns)/\Hid (lv ns=nV k s i)/\Hid (Below W.heap.size W wr)) (fun _ q _=>s.size-(RowKit.intOf q).toNat)
 case atStart=>exact⟨0,[],rfl,Nat.zero_le _,NRow.nil _ _,Nat.le_refl _,⟨fun x hx=>(by cases hx),trm_nil⟩,rfl,Below.refl _ _⟩
 case round =>
  obtain⟨i,ns,rfl,hi,hR,hlen,hN,hI,hB⟩:=hrel
  by_cases hlt:i<s.size
  ·have l1:decide ((i:Int)<(s.size:Int))=true:=by simp;omega
   have ix:∀ w:World,(Instr.index 9 (.string s) (.int .i64 (i:Int))).run Tryz.prog w = .ok (.int .u8 (ch s i:Int)) w:=fun w=>idx (w:=w) s i hlt .i64
   have ch256:=ch_lt s i
   obtain⟨d,hdd⟩:∃ d:Nat,wtZ (ch s i)=(d:Int):=⟨_,(Int.toNat_of_nonneg (hd i hlt)).symm⟩
   have hd16:d<16:=by have:=wtZ_lt (ch s i);omega
   have cW:=fun w=>rworth3 (ch s i) ch256 w
   rw[hdd] at cW
   have cT2:=rtimes3 _ W.heap.size _ ns k d hR hN.1 hk (by omega) (by omega)
   have hI2:Hid (nV k s (i+1)=lv ns*k+d):=by
    show _=_
    rw[nV,hdd,(show lv ns=nV k s i from hI)]
    rfl
   clear hN hI hR
   go_wp2_with (first|(go_at_call 55;refine(cW _).mono ?_;rintro e w1 ⟨rfl,rfl⟩)|(go_at_call 56;refine cT2.mono ?_;clear cT2;rintro _ w1 ⟨v1,n1,rfl,r1,o1,t1,e1,z1,b1⟩;replace r1:Hid (NRow _ _ _ _):=r1;replace o1:Hid (lok _):=o1;replace t1:Hid (trm _):=t1;replace e1:Hid (_=_):=e1;replace b1:Hid (Below _ _ _):=b1))
   go_roundw
   case rel=>exact⟨i+1,n1,by go_num,by omega,NRow.low r1 hB.size,by omega,⟨o1,t1⟩,Eq.trans e1 (Eq.symm hI2),hB.trans (b1.mono hB.size)⟩
   case measure=>simp[RowKit.intOf];omega
  ·obtain rfl:i=s.size:=by omega
   have l1:decide ((s.size:Int)<(s.size:Int))=false:=by simp
   go_wp2_with fail
   go_ret
   exact⟨_,_,rfl,hR,hN.1,hN.2,hI,hlen,hB⟩
theorem rofWord3 (W:World) (x:Nat) (hx:x<18446744073709551616) :
  Calls Tryz.prog 36 #[.int .u64 (x:Int)] W fun e W'=>∃ v' ns,e = .returned v'/\NRow W' W.heap.size v' ns/\lok ns/\trm ns/\lv ns=x/\ns.length<=3/\Below W.heap.size W W':=by
 go_enter Tryz.func36,Tryz.ntmps36
 go_wp2_with fail
 go_loopw [3,0] (fun b q wr=>∃ (y:Nat) (ns:List Nat),q = .int .u64 (y:Int)/\y<18446744073709551616/\Hid (NRow wr W.heap.size b ns)/\ns.length<=3/\Hid (lok ns/\(y=0->trm ns))/\Hid (lv ns+16777216 ^ ns.length*y=x)/\Hid (Below W.heap.size W wr)) (fun _ q _=>(RowKit.intOf q).toNat)
 case atStart=>exact⟨x,[],rfl,hx,NRow.nil _ _,by simp,⟨fun x hx=>(by cases hx),fun _=>trm_nil⟩,by show _=_;simp[lv],Below.refl _ _⟩
 case round =>
  obtain⟨y,ns,rfl,hy,hR,hlen,hN,hI,hB⟩:=hrel
  by_cases hz:y=0
  ·subst hz
   have hV2:lv ns=x:=by
    have:lv ns+16777216 ^ ns.length*0=x:=hI
    omega
   have hT:Hid (lok ns/\trm ns):=⟨hN.1,hN.2 rfl⟩
   clear hN hI
   go_wp2_with fail
   go_ret
   exact⟨_,ns,rfl,hR,hT.1,hT.2,hV2,hlen,hB⟩
  ·have hl2:ns.length<=2:=by
    refine Nat.le_of_not_lt fun h3=>?_
    obtain e3:ns.length=3:=by omega
    have:lv ns+16777216 ^ ns.length*y=x:=hI
    rw[e3] at this
    omega
   have hN2:Hid (lok (ns++[y % 16777216])/\(y / 16777216=0->trm (ns++[y % 16777216]))):=⟨lok_snoc hN.1 (Nat.mod_lt _ (by decide)),fun h0=>trm_pos (by omega)⟩
   have hV2:Hid (lv (ns++[y % 16777216])+16777216 ^ (ns++[y % 16777216]).length*(y / 16777216)=x):=by
    show _=_
    have h1:=pow_step ns.length y
    have h2:lv ns+16777216 ^ ns.length*y=x:=hI
    rw[lv_snoc,List.length_append,List.length_singleton]
    omega
   have hap:Hid _:=n_ap (y % 16777216) hR (by omega) hB.size
   have l1:decide ((y:Int) > 0)=true:=by simp;omega
   clear hI hN hR
   go_wp2_with (at_builtin;go_must (refine(ap_step (by rfl) _ _ _ _ (by rfl) _ _ (by rfl) (by rfl) _ hap.out ?_));rintro v' w' ⟨q1,q2⟩;replace q1:Hid (NRow _ _ _ _):=q1;replace q2:Hid (Below _ _ _):=q2)
   go_roundw
   case rel=>exact⟨y / 16777216,ns++[y % 16777216],by go_num,by omega,q1,by simp;omega,hN2,hV2,hB.trans q2⟩
   case measure=>simp[RowKit.intOf];omega
def cmpZ (a b:Nat):Int:=if a<b then -1 else if a=b then 0 else 1
theorem cmpZ_lt {a b:Nat} (h:a<b):cmpZ a b = -1:=if_pos h
theorem cmpZ_gt {a b:Nat} (h:b<a):cmpZ a b=1:=by unfold cmpZ;rw[if_neg (by omega),if_neg (by omega)]
theorem cmpZ_eq {a b:Nat} (h:a=b):cmpZ a b=0:=by unfold cmpZ;rw[if_neg (by omega),if_pos h]
theorem rcompare3 (W:World) (ba bb:Nat) (va vb:Value) (la lb:List Nat) (hA:NRow W ba va la) (hB:NRow W bb vb lb) (oa:lok la) (ob:lok lb) (ta:trm la) (tb:trm lb) (hla:la.length<=977343669134) :
  Calls Tryz.prog 37 #[va,vb] W fun e W'=>e = .returned (.int .i64 (cmpZ (lv la) (lv lb)))/\Below W.heap.size W W':=by
 obtain⟨pa,ca,rfl,cA⟩:=hA.shape
 obtain⟨pb,cb,rfl,cB⟩:=hB.shape
 clear hA hB
 obtain⟨Z,hZ⟩:∃ Z,cmpZ (lv la) (lv lb)=Z:=⟨_,rfl⟩
 rw[hZ]
 by_cases hl:la.length=lb.length
 ·have hcA:Hid (∀ W',Below W.heap.size W W'->∀ (i n:Nat),la[i]?=some n->∃ g,pa=some ⟨g,0,none⟩/\W'.cell? ⟨g,i,none⟩=some (.int .i64 (n:Int))):=fun W' hb i n hi=>by
   obtain⟨g,h1,h2,h3⟩:=cA i n hi
   exact⟨g,h1,by rw[hb.cell (by exact h2)];exact h3⟩
  have hcB:Hid (∀ W',Below W.heap.size W W'->∀ (i n:Nat),lb[i]?=some n->∃ g,pb=some ⟨g,0,none⟩/\W'.cell? ⟨g,i,none⟩=some (.int .i64 (n:Int))):=fun W' hb i n hi=>by
   obtain⟨g,h1,h2,h3⟩:=cB i n hi
   exact⟨g,h1,by rw[hb.cell (by exact h2)];exact h3⟩
  replace hZ:Hid (cmpZ (lv la) (lv lb)=Z):=hZ
  replace ta:Hid (trm la):=ta
  replace tb:Hid (trm lb):=tb
  replace oa:Hid (lok la):=oa
  replace ob:Hid (lok lb):=ob
  rw[hl] at hla
  clear cA cB
  rw[hl]
  go_enter Tryz.func37,Tryz.ntmps37
  go_wp2_with fail
  go_loopw [5] (fun q wr=>∃ (z:Int) (n:Nat),q = .int .i64 z/\z+1=n/\n<=lb.length/\Hid (la.drop n=lb.drop n)/\Hid (Below W.heap.size W wr)) (fun q _=>(RowKit.intOf q+1).toNat)
  case atStart=>exact⟨_,lb.length,rfl,by omega,Nat.le_refl _,(by show _=_;rw[List.drop_length,List.drop_eq_nil_of_le (by omega)]),Below.refl _ _⟩
  case round =>
   obtain⟨z,n,rfl,hz,hn,hI,hB⟩:=hrel
   by_cases h0:n=0
   ·subst h0
    obtain rfl:z = -1:=by omega
    have hE:Hid (Z=0):=by
     show _=_
     rw[<- (show cmpZ (lv la) (lv lb)=Z from hZ)]
     have:la.drop 0=lb.drop 0:=hI
     rw[List.drop_zero,List.drop_zero] at this
     exact cmpZ_eq (by rw[this])
    go_wp2_with fail
    go_ret
    exact⟨by rw[hE.out];rfl,hB⟩
   ·obtain⟨m,rfl⟩:∃ m,n=m+1:=⟨n-1,by omega⟩
    obtain rfl:z=(m:Int):=by omega
    obtain⟨x,hx⟩:∃ x,la[m]?=some x:=⟨la[m]'(by omega),List.getElem?_eq_getElem _⟩
    obtain⟨y,hy⟩:∃ y,lb[m]?=some y:=⟨lb[m]'(by omega),List.getElem?_eq_getElem _⟩
    have hxb:=(show lok la from oa) x (List.mem_of_getElem? hx)
    have hyb:=(show lok lb from ob) y (List.mem_of_getElem? hy)
    obtain⟨p,p0,pD,pN,pE,ka,kb⟩:∃ p:World->Prop,p wr.drew/\(∀ V,p V->p V.drew)/\Nonempty (CW p)/\(∀ V,p V->Hid (Below W.heap.size W V))/\(∃ g,pa=some ⟨g,0,none⟩/\∀ θ:CW p,θ.w.cell? ⟨g,m,none⟩=some (.int .i64 (x:Int)))/\(∃ g,pb=some ⟨g,0,none⟩/\∀ θ:CW p,θ.w.cell? ⟨g,m,none⟩=some (.int .i64 (y:Int))):=by
     obtain⟨g1,e1,-⟩:=hcA W (Below.refl _ _) m x hx
     obtain⟨g2,e2,-⟩:=hcB W (Below.refl _ _) m y hy
     refine⟨fun V=>Below W.heap.size W V,(show Below _ _ _ from hB).drew,fun V h=>h.drew,⟨⟨W,Below.refl _ _⟩⟩,fun V h=>h,⟨g1,e1,fun θ=>?_⟩,⟨g2,e2,fun θ=>?_⟩⟩
     ·obtain⟨g,e,h⟩:=hcA θ.w θ.h m x hx
      rw[e1] at e
      injection e with e
      injection e with e
      rw[e]
      exact h
     ·obtain⟨g,e,h⟩:=hcB θ.w θ.h m y hy
      rw[e2] at e
      injection e with e
      injection e with e
      rw[e]
      exact h
    obtain⟨ga,rfl,ka⟩:=ka
    obtain⟨gb,rfl,kb⟩:=kb
    clear hcA hcB
    have h3:x<y\/y<x\/x=y:=by omega
    rcases h3 with h3|h3|h3
    ·have hE:Hid (Z = -1):=by
      show _=_
      rw[<- (show cmpZ (lv la) (lv lb)=Z from hZ)]
      exact cmpZ_lt (lv_cmp oa hx hy hI h3)
     clear hx hy hI oa ob ta tb hZ
     go_wp2_with fail
     refine wp_region_lx p (by kernel_rfl) (by kernel_rfl) (fun _ _ d _ _ h=>by cases d<;>exact h) p0 ?_
     have hp:=p0
     generalize World.drew _=W2 at hp ⊢
     repeat (refine lx_one rfl ?_;(first|go_big_quiet_skip|(go_big_quiet_want;go_big_quiet_op;go_big_quiet_on));refine wpQuiet_nil ?_)
     refine lx_done ?_
     have hF:=pE _ hp
     clear ka kb pE pN p0 hp pD
     go_wp2_with fail
     go_ret
     exact⟨by rw[hE.out];rfl,hF⟩
    ·have hE:Hid (Z=1):=by
      show _=_
      rw[<- (show cmpZ (lv la) (lv lb)=Z from hZ)]
      exact cmpZ_gt (lv_cmp ob hy hx (Eq.symm hI) h3)
     have l1:decide ((x:Int)<y)=false:=by simp;omega
     clear hx hy hI oa ob ta tb hZ
     go_wp2_with fail
     refine wp_region_lx p (by kernel_rfl) (by kernel_rfl) (fun _ _ d _ _ h=>by cases d<;>exact h) p0 ?_
     have hp:=p0
     generalize World.drew _=W2 at hp ⊢
     repeat (refine lx_one rfl ?_;(first|go_big_quiet_skip|(go_big_quiet_want;go_big_quiet_op;go_big_quiet_on));refine wpQuiet_nil ?_)
     refine lx_done ?_
     replace p0:=pD _ hp
     clear hp
     go_wp2_with fail
     refine wp_region_lx p (by kernel_rfl) (by kernel_rfl) (fun _ _ d _ _ h=>by cases d<;>exact h) p0 ?_
     have hp:=p0
     generalize World.drew _=W3 at hp ⊢
     repeat (refine lx_one rfl ?_;(first|go_big_quiet_skip|(go_big_quiet_want;go_big_quiet_op;go_big_quiet_on));refine wpQuiet_nil ?_)
     refine lx_done ?_
     have hF:=pE _ hp
     clear ka kb pE pN p0 hp pD
     go_wp2_with fail
     go_ret
     exact⟨by rw[hE.out];rfl,hF⟩
    ·have hE:Hid (la.drop m=lb.drop m):=by
      show _=_
      have e1:la.drop (m+1)=lb.drop (m+1):=hI
      rw[<- List.getElem_cons_drop (show m<la.length by omega),<- List.getElem_cons_drop (show m<lb.length by omega),e1,(List.getElem?_eq_some_iff.1 hx).2,(List.getElem?_eq_some_iff.1 hy).2,h3]
     have l1:decide ((x:Int)<y)=false:=by simp;omega
     have l2:decide ((y:Int)<x)=false:=by simp;omega
     clear hx hy hI
     subst h3
     go_wp2_with fail
     refine wp_region_lx p (by kernel_rfl) (by kernel_rfl) (fun _ _ d _ _ h=>by cases d<;>exact h) p0 ?_
     have hp:=p0
     generalize World.drew _=W2 at hp ⊢
     repeat (refine lx_one rfl ?_;(first|go_big_quiet_skip|(go_big_quiet_want;go_big_quiet_op;go_big_quiet_on));refine wpQuiet_nil ?_)
     refine lx_done ?_
     replace p0:=pD _ hp
     clear hp
     go_wp2_with fail
     refine wp_region_lx p (by kernel_rfl) (by kernel_rfl) (fun _ _ d _ _ h=>by cases d<;>exact h) p0 ?_
     have hp:=p0
     generalize World.drew _=W3 at hp ⊢
     repeat (refine lx_one rfl ?_;(first|go_big_quiet_skip|(go_big_quiet_want;go_big_quiet_op;go_big_quiet_on));refine wpQuiet_nil ?_)
     refine lx_done ?_
     have hF:=pE _ hp
     clear ka kb pE pN p0 hp pD
     go_wp2_with fail
     go_roundw
     case rel=>exact⟨_,m,rfl,by omega,by omega,hE,hF⟩
     case measure=>simp[RowKit.intOf]
 ·clear cA cB
  rcases Nat.lt_or_ge la.length lb.length with h|h
  ·rw[cmpZ_lt (lv_len_lt oa tb h)] at hZ
   subst hZ
   have l0:decide ((la.length:Int)<(lb.length:Int))=true:=by simp;omega
   have l1:((la.length:Int)==(lb.length:Int))=false:=by simp;omega
   go_enter Tryz.func37,Tryz.ntmps37
   go_wp2_with fail
   go_ret
   exact⟨rfl,Below.refl _ _⟩
  ·have h2:lb.length<la.length:=by omega
   rw[cmpZ_gt (lv_len_lt ob ta h2)] at hZ
   subst hZ
   have l0:decide ((la.length:Int)<(lb.length:Int))=false:=by simp;omega
   have l1:((la.length:Int)==(lb.length:Int))=false:=by simp;omega
   go_enter Tryz.func37,Tryz.ntmps37
   go_wp2_with fail
   go_ret
   exact⟨rfl,Below.refl _ _⟩
theorem rwN_le (s:ByteArray) (hex:Bool):∀ (m i:Nat),i<=s.size->i<=rwN s hex i m/\rwN s hex i m<=s.size
 | 0,i,h=>⟨Nat.le_refl _,h⟩
 | m+1,i,h=>by
  rw[rwN]
  split
  ·rename_i h2
   have:=rwN_le s hex m (i+1) (by omega)
   omega
  ·exact⟨Nat.le_refl _,h⟩
theorem rwN_in (s:ByteArray) (hex:Bool):∀ (m i j:Nat),i<=j->j<rwN s hex i m->rok hex (ch s j)=true
 | 0,i,j,h,h2=>by rw[rwN] at h2;omega
 | m+1,i,j,h,h2=>by
  rw[rwN] at h2
  split at h2
  ·rename_i h3
   by_cases e:i=j
   ·rw[<- e];exact h3.2
   ·exact rwN_in s hex m (i+1) j (by omega) h2
  ·omega
theorem dg_wt {c:Nat} (h:rok false c=true):0<=wtZ c:=by
 unfold rok dgB at h
 simp at h
 unfold wtZ
 rw[if_pos h]
 omega
theorem lv_app:∀ (p q:List Nat),lv (p++q)=lv p+16777216 ^ p.length*lv q
 | [],q=>by simp[lv]
 | c::p,q=>by
  rw[List.cons_append,lv,lv_app p q,lv,List.length_cons,Nat.pow_succ,Nat.mul_add]
  have:16777216*(16777216 ^ p.length*lv q)=16777216 ^ p.length*16777216*lv q:=by rw[<- Nat.mul_assoc,Nat.mul_comm 16777216]
  omega
theorem lv_drop_le (l:List Nat) (n:Nat):lv (l.drop n)<=lv l:=by
 have h:=lv_app (l.take n) (l.drop n)
 rw[List.take_append_drop] at h
 have h2:1*lv (l.drop n)<=16777216 ^ (l.take n).length*lv (l.drop n):=Nat.mul_le_mul_right _ (Nat.pow_pos (by decide))
 omega
theorem lv_drop {l:List Nat} {j x:Nat} (h:l[j]?=some x):lv (l.drop j)=lv (l.drop (j+1))*16777216+x:=by
 obtain⟨h1,h2⟩:=List.getElem?_eq_some_iff.1 h
 have e:=List.getElem_cons_drop h1
 rw[<- e,lv,h2]
 omega
def intA (s:ByteArray) (most:Int):Int×Int×Int :=
 let i:=rwN s false 0 1099511627776
 if i=0\/i<s.size then (0,30,(i:Int))
 else if most<0\/most<nV 10 s s.size then (0,31,0)
 else (nV 10 s s.size,0,0)
theorem v_le {V M:Nat} (h:¬ M<V) (h1:(M:Int)<=9223372036854775807):V<=9223372036854775807:=by omega
theorem cmp_gt {a b:Nat} (h:b<a):decide (0<cmpZ a b)=true:=by rw[cmpZ_gt h];rfl
theorem cmp_le {a b:Nat} (h:¬ b<a):decide (0<cmpZ a b)=false:=by
 unfold cmpZ
 by_cases h1:a<b
 ·rw[if_pos h1];rfl
 ·rw[if_neg h1,if_pos (by omega)];rfl
theorem rInt3 (W:World) (s:ByteArray) (most:Int) (hs:s.size<=549755813888) (hm:-9223372036854775808<=most/\most<=9223372036854775807) :
  Calls Tryz.prog 20 #[.string s,.int .i64 most] W fun e W'=>e = .returned (.tuple #[.int .i64 (intA s most).1,.int .i64 (intA s most).2.1,.int .i64 (intA s most).2.2])/\Below W.heap.size W W':=by
 have cR:=rrow3 s 0 false 1099511627776 W (Nat.zero_le _) (by omega) (by omega)
 obtain⟨i,hi⟩:∃ i,rwN s false 0 1099511627776=i:=⟨_,rfl⟩
 have hile:=(rwN_le s false 1099511627776 0 (Nat.zero_le _)).2
 rw[hi] at cR hile
 by_cases h1:i=0\/i<s.size
 ·have hA:intA s most=(0,30,(i:Int)):=by
   unfold intA
   dsimp only
   rw[hi,if_pos h1]
  rw[hA]
  clear hA hi
  by_cases h0:i=0
  ·subst h0
   go_enter Tryz.func20,Tryz.ntmps20
   go_wp2_with (go_at_call 34;refine cR.mono ?_;clear cR;rintro _ w1 ⟨rfl,rfl⟩)
   go_ret3
   exact⟨rfl,Below.refl _ _⟩
  ·have h2:i<s.size:=by omega
   have l1:decide ((i:Int)<(s.size:Int))=true:=by simp;omega
   have l2:((i:Int)==0)=false:=by simp;omega
   go_enter Tryz.func20,Tryz.ntmps20
   go_wp2_with (go_at_call 34;refine cR.mono ?_;clear cR;rintro _ w1 ⟨rfl,rfl⟩)
   go_ret3
   exact⟨rfl,Below.refl _ _⟩
 ·obtain rfl:i=s.size:=by omega
  have hs0:s.size≠0:=fun e=>h1 (.inl e)
  have hdg:∀ j,j<s.size->0<=wtZ (ch s j):=fun j hj=>dg_wt (rwN_in s false 1099511627776 0 j (Nat.zero_le _) (by rw[hi];exact hj))
  have cN:=rnumber3 W s 10 (by decide) hs hdg
  have l0:((s.size:Int)==0)=false:=beq_eq_false_iff_ne.2 (by omega)
  have l1:decide ((s.size:Int)<(s.size:Int))=false:=by simp
  obtain⟨V,hV⟩:∃ V,nV 10 s s.size=V:=⟨_,rfl⟩
  rw[hV] at cN
  clear hdg
  by_cases hneg:most<0
  ·have hA:intA s most=(0,31,0):=by
    unfold intA
    dsimp only
    rw[hi,if_neg h1,if_pos (.inl hneg)]
   rw[hA]
   clear hA hi h1
   have cO:=fun w=>rofWord3 w 0 (by decide)
   have hmx:max most 0=0:=by omega
   go_enter Tryz.func20,Tryz.ntmps20
   go_wp2_with (first|(go_at_call 34;refine cR.mono ?_;clear cR;rintro _ w1 ⟨rfl,rfl⟩)|(go_at_call 35;refine cN.mono ?_;clear cN;rintro _ w1 ⟨va,la,rfl,rA,oa,ta,eA,zA,bA⟩)|(go_at_call 36;refine(cO _).mono ?_;clear cO;rintro _ w2 ⟨vb,lb,rfl,rB,ob,tb,eB,zB,bB⟩;have cC:=rcompare3 w2 _ _ _ _ _ _ (rA.below bB) rB oa ob ta tb (by omega))|(go_at_call 37;refine cC.mono ?_;clear cC;rintro _ w3 ⟨rfl,bC⟩))
   go_ret3
   exact⟨rfl,bA.trans ((bB.mono bA.size).trans (bC.mono (by have:=bA.size;have:=bB.size;omega)))⟩
  ·obtain⟨M,rfl⟩:∃ M:Nat,most=(M:Int):=⟨most.toNat,by omega⟩
   have cO:=fun w=>rofWord3 w M (by omega)
   have hmx:max (M:Int) 0=M:=by omega
   have l2:decide ((M:Int)<0)=false:=by simp
   by_cases hgt:M<V
   ·have hA:intA s M=(0,31,0):=by
     unfold intA
     dsimp only
     rw[hi,if_neg h1,hV,if_pos (.inr (by omega))]
    have l3:=cmp_gt hgt
    rw[hA]
    clear hA hi h1
    go_enter Tryz.func20,Tryz.ntmps20
    go_wp2_with (first|(go_at_call 34;refine cR.mono ?_;clear cR;rintro _ w1 ⟨rfl,rfl⟩)|(go_at_call 35;refine cN.mono ?_;clear cN;rintro _ w1 ⟨va,la,rfl,rA,oa,ta,eA,zA,bA⟩)|(go_at_call 36;refine(cO _).mono ?_;clear cO;rintro _ w2 ⟨vb,lb,rfl,rB,ob,tb,eB,zB,bB⟩;have cC:=rcompare3 w2 _ _ _ _ _ _ (rA.below bB) rB oa ob ta tb (by omega);rw[eA,eB] at cC)|(go_at_call 37;refine cC.mono ?_;clear cC;rintro _ w3 ⟨rfl,bC⟩))
    go_ret3
    exact⟨rfl,bA.trans ((bB.mono bA.size).trans (bC.mono (by have:=bA.size;have:=bB.size;omega)))⟩
   ·have hA:intA s M=((V:Int),0,0):=by
     unfold intA
     dsimp only
     rw[hi,if_neg h1,hV,if_neg (by omega)]
    have l3:=cmp_le hgt
    rw[hA]
    clear hA hi h1
    go_enter Tryz.func20,Tryz.ntmps20
    go_wp2_with (first|(go_at_call 34;refine cR.mono ?_;clear cR;rintro _ w0 ⟨rfl,rfl⟩)|(go_at_call 35;refine cN.mono ?_;clear cN;rintro _ w1 ⟨va,la,rfl,rA,oa,ta,eA,zA,bA⟩;obtain⟨pa,ca,rfl,cA⟩:=rA.shape)|(go_at_call 36;refine(cO _).mono ?_;clear cO;rintro _ w2 ⟨vb,lb,rfl,rB,ob,tb,eB,zB,bB⟩;have cC:=rcompare3 w2 _ _ _ _ _ _ (rA.below bB) rB oa ob ta tb (by omega);rw[eA,eB] at cC)|(go_at_call 37;refine cC.mono ?_;clear cC;rintro _ w3 ⟨rfl,bC⟩))
    have hB2:Hid (Below w1.heap.size w1 w3):=bB.trans (bC.mono bB.size)
    have hB3:Hid (Below w0.heap.size w0 w3):=bA.trans (hB2.mono bA.size)
    have hcell:Hid (∀ (j x:Nat),la[j]?=some x->∃ g,pa=some ⟨g,0,none⟩/\w3.cell? ⟨g,j,none⟩=some (.int .i64 (x:Int))):=fun j x hx=>by
     obtain⟨g,g1,g2,g3⟩:=cA j x hx
     exact⟨g,g1,by rw[(show Below _ _ _ from hB2).cell (by exact g2)];exact g3⟩
    replace eA:Hid (lv la=V):=eA
    replace oa:Hid (lok la):=oa
    clear rA ta rB ob tb eB zB bB bC bA cA
    go_loopw [11,12] (fun n q wr=>∃ (z:Int) (m:Nat),q = .int .i64 z/\z+1=m/\m<=la.length/\n = .int .i64 (lv (la.drop m):Int)/\wr=w3) (fun _ q _=>(RowKit.intOf q+1).toNat)
    case atStart=>exact⟨_,la.length,rfl,by omega,Nat.le_refl _,by rw[List.drop_length];rfl,rfl⟩
    case round =>
     obtain⟨z,m,rfl,hz,hm2,rfl,rfl⟩:=hrel
     by_cases hm0:m=0
     ·subst hm0
      obtain rfl:z = -1:=by omega
      have hE:Hid (lv (la.drop 0)=V):=by
       show _=_
       rw[List.drop_zero]
       exact eA
      go_wp2_with fail
      go_ret3
      exact⟨by rw[hE.out];rfl,hB3⟩
     ·obtain⟨k,rfl⟩:∃ k,m=k+1:=⟨m-1,by omega⟩
      obtain rfl:z=(k:Int):=by omega
      obtain⟨x,hx⟩:∃ x,la[k]?=some x:=⟨la[k]'(by omega),List.getElem?_eq_getElem _⟩
      have hxb:=(show lok la from oa) x (List.mem_of_getElem? hx)
      obtain⟨g,rfl,kc⟩:=(show ∀ (j x:Nat),la[j]?=some x->_ from hcell) k x hx
      have hd:=lv_drop hx
      have hdl:=lv_drop_le la k
      have eA2:lv la=V:=eA
      obtain⟨D,hD⟩:∃ D,lv (la.drop (k+1))=D:=⟨_,rfl⟩
      obtain⟨D2,hD2⟩:∃ D2,lv (la.drop k)=D2:=⟨_,rfl⟩
      rw[hD,hD2] at hd
      rw[hD2,eA2] at hdl
      rw[hD]
      have hVb:V<=9223372036854775807:=v_le hgt hm.2
      have hDc:D*16777216+x<=9223372036854775807:=by rw[<- hd];exact Nat.le_trans hdl hVb
      have hDb:D*16777216<=9223372036854775807:=Nat.le_trans (Nat.le_add_right _ _) hDc
      have hE:Hid (lv (la.drop k)=D*16777216+x):=hD2.trans hd
      clear hD hD2 hdl hd eA2 hcell
      go_wp2_with fail
      go_roundw
      case rel=>exact⟨_,k,rfl,by omega,by omega,by rw[hE.out];go_num,by first|trivial|rfl⟩
      case measure=>simp[RowKit.intOf]
end Go.Proofs.YtekpgklllfobfaaGreatDoor
