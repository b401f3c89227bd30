import Derived.Test.YtekpgklllfobfaaGreatDoorK09
import Derived.Test.YtekpgklllfobfaaGreatDoorK11
namespace Go.Proofs.YtekpgklllfobfaaGreatDoor
set_option maxRecDepth 1000000
set_option maxHeartbeats 16000000
open Go.ChangeShapes Go.WideShapes Go.ChangeAt Go.RowKit Go.Shelf Go.Maps
theorem cutP_sz (s:ByteArray):∀ i,∀ x∈(cutP s i).1,x.size<=i
 | 0=>by intro x h;cases h
 | i+1=>by
  have h:=cutP_sz s i
  have h2:=cutP_len s i
  rw[cutP]
  split
  ·intro x hx
   rcases List.mem_append.1 hx with h3|h3
   ·have:=h x h3;omega
   ·rw[List.mem_singleton.1 h3];omega
  ·intro x hx
   have:=h x hx
   omega
theorem cutL_sz (s:ByteArray):∀ x∈cutL s,x.size<=s.size:=by
 intro x hx
 unfold cutL at hx
 rcases List.mem_append.1 hx with h|h
 ·exact cutP_sz s s.size x h
 ·rw[List.mem_singleton.1 h]
  exact(cutP_len s s.size).2
theorem five {l:List ByteArray} (h:l.length=5):∃ p0 p1 p2 p3 p4,l=[p0,p1,p2,p3,p4]:=by
 match l,h with
 | [a,b,c,d,e],_=>exact⟨a,b,c,d,e,rfl⟩
theorem intA_ok {s:ByteArray} {most:Int} (h:(intA s most).2.1=0):∃ T:Nat,(intA s most).1=T/\(T:Int)<=most:=by
 unfold intA at h ⊢
 dsimp only at h ⊢
 split at h
 ·cases h
 ·split at h
  ·cases h
  ·rename_i h1 h2
   rw[if_neg h1,if_neg h2]
   exact⟨_,rfl,by omega⟩
theorem intA_e (s:ByteArray) (most:Int):(intA s most).2.1=0\/(intA s most).2.1=30\/(intA s most).2.1=31:=by
 unfold intA
 dsimp only
 split
 ·exact .inr (.inl rfl)
 ·split
  ·exact .inr (.inr rfl)
  ·exact .inl rfl
def lnB (uS:ByteArray->ByteArray) (uE:ByteArray->Int) (hX:ByteArray->ByteArray) (p0 p1 p2 p3 p4:ByteArray) (fr:Nat):Bool :=
 decide (uE p4=0)&&decide (0<(uS p4).size)&&((hX (uS p4)).toList==p4.toList)&&(p0.toList==(rD fr).toList)&&(p1.toList==(rD (fr+(uS p4).size)).toList)&&kdB p2&&ptB p3
theorem tl_inj {a b:ByteArray} (h:(a.toList==b.toList)=true):a=b:=by
 have h:=eq_of_beq h
 rw[ByteArray.toList_eq,ByteArray.toList_eq] at h
 exact ByteArray.ext (Array.toList_inj.1 h)
def LnE (w:World) (b:Bool) (x:ByteArray) (t:Nat) (e:Ending) (w':World):Prop:=∃ y u,e = .returned (.tuple #[.string y,.int .i64 u,.bool b])/\(b=true->y=x/\u=(t:Int))/\Below w.heap.size w w'
theorem lnB_true {uS:ByteArray->ByteArray} {uE:ByteArray->Int} {hX:ByteArray->ByteArray} {p0 p1 p2 p3 p4:ByteArray} {fr:Nat} (h:lnB uS uE hX p0 p1 p2 p3 p4 fr=true):uE p4=0/\0<(uS p4).size/\hX (uS p4)=p4/\p0=rD fr/\p1=rD (fr+(uS p4).size)/\kdB p2=true/\ptB p3=true:=by
 unfold lnB at h
 simp only[Bool.and_eq_true,decide_eq_true_eq] at h
 obtain⟨⟨⟨⟨⟨⟨h1,h2⟩,h3⟩,h4⟩,h5⟩,h6⟩,h7⟩:=h
 exact⟨h1,h2,tl_inj h3,tl_inj h4,tl_inj h5,h6,h7⟩
theorem lnB_false {uS:ByteArray->ByteArray} {uE:ByteArray->Int} {hX:ByteArray->ByteArray} {p0 p1 p2 p3 p4:ByteArray} {fr:Nat} (h:¬ (uE p4=0/\0<(uS p4).size/\hX (uS p4)=p4/\p0=rD fr/\p1=rD (fr+(uS p4).size)/\kdB p2=true/\ptB p3=true)):lnB uS uE hX p0 p1 p2 p3 p4 fr=false:=by
 rw[<- Bool.not_eq_true]
 exact fun h2=>h (lnB_true h2)
theorem SRow.five {W:World} {base:Nat} {v:Value} {p0 p1 p2 p3 p4:ByteArray} (h:SRow W base v [p0,p1,p2,p3,p4]):∃ g cp,v = .slice (some ⟨g,0,none⟩) 5 cp/\g<W.heap.size/\∀ V,Below W.heap.size W V->V.cell? ⟨g,0,none⟩=some (.string p0)/\V.cell? ⟨g,1,none⟩=some (.string p1)/\V.cell? ⟨g,2,none⟩=some (.string p2)/\V.cell? ⟨g,3,none⟩=some (.string p3)/\V.cell? ⟨g,4,none⟩=some (.string p4):=by
 obtain⟨pp,cp,hv,-,hs⟩:=h.shape
 obtain⟨g,rfl,-,h2,-⟩:=hs 0 p0 rfl
 have hc:∀ (i:Nat) x,[p0,p1,p2,p3,p4][i]?=some x->∀ V,Below W.heap.size W V->V.cell? ⟨g,i,none⟩=some (.string x):=fun i x hx V hV=>by
  obtain⟨g2,e,-,-,h3⟩:=hs i x hx
  injection e with e
  injection e with e
  rw[hV.cell (by exact h2),e]
  exact h3
 exact⟨g,cp,hv,h2,fun V hV=>⟨hc 0 _ rfl V hV,hc 1 _ rfl V hV,hc 2 _ rfl V hV,hc 3 _ rfl V hV,hc 4 _ rfl V hV⟩⟩
theorem cls5 {w1:World} {g:Nat} {p0 p1 p2 p3 p4:ByteArray} (h:∀ V,Below w1.heap.size w1 V->V.cell? ⟨g,0,none⟩=some (.string p0)/\V.cell? ⟨g,1,none⟩=some (.string p1)/\V.cell? ⟨g,2,none⟩=some (.string p2)/\V.cell? ⟨g,3,none⟩=some (.string p3)/\V.cell? ⟨g,4,none⟩=some (.string p4)) :
  ∃ p:World->Prop,(∀ V,Below w1.heap.size w1 V->p V)/\(∀ V,p V->Below w1.heap.size w1 V)/\Nonempty (CW p)/\(∀ θ:CW p,θ.w.cell? ⟨g,0,none⟩=some (.string p0))/\(∀ θ:CW p,θ.w.cell? ⟨g,1,none⟩=some (.string p1))/\(∀ θ:CW p,θ.w.cell? ⟨g,2,none⟩=some (.string p2)) :=
 ⟨fun V=>Below w1.heap.size w1 V,fun _ h=>h,fun _ h=>h,⟨⟨w1,Below.refl _ _⟩⟩,fun θ=>(h _ θ.h).1,fun θ=>(h _ θ.h).2.1,fun θ=>(h _ θ.h).2.2.1⟩
def kdF (s:ByteArray) (i:Nat):Bool:=decide (s.data.toList∈(kdL.take i).map (·.data.toList))
theorem kdF_all (s:ByteArray):kdF s 6=kdB s:=rfl
theorem kdF_next {s x:ByteArray} {i:Nat} (hx:kdL[i]?=some x):kdF s (i+1)=(kdF s i||(x.toList==s.toList)):=by
 unfold kdF
 rw[List.take_add_one,hx,List.map_append,Option.toList_some,List.map_cons,List.map_nil]
 have e:(x.toList==s.toList)=decide (s.data.toList=x.data.toList):=by
  rw[ByteArray.toList_eq,ByteArray.toList_eq]
  by_cases h:s.data.toList=x.data.toList
  ·rw[decide_eq_true h,h];simp
  ·rw[decide_eq_false h];exact beq_eq_false_iff_ne.2 (Ne.symm h)
 rw[e]
 by_cases h2:s.data.toList=x.data.toList
 ·simp[h2]
 ·simp[h2]
theorem SRow.six {W:World} {base:Nat} {v:Value} (h:SRow W base v kdL):∃ g cp,v = .slice (some ⟨g,0,none⟩) 6 cp/\g<W.heap.size/\∀ V,Below W.heap.size W V->∀ (i:Nat) x,kdL[i]?=some x->V.cell? ⟨g,i,none⟩=some (.string x):=by
 obtain⟨pp,cp,hv,-,hs⟩:=h.shape
 obtain⟨g,rfl,-,h2,-⟩:=hs 0 kd0 rfl
 refine⟨g,cp,hv,h2,fun V hV i x hx=>?_⟩
 obtain⟨g2,e,-,-,h3⟩:=hs i x hx
 injection e with e
 injection e with e
 rw[hV.cell (by exact h2),e]
 exact h3
theorem cls6 {w3:World} {g gk:Nat} {p2:ByteArray} (h:∀ V,Below w3.heap.size w3 V->V.cell? ⟨g,2,none⟩=some (.string p2)) (hk:∀ V,Below w3.heap.size w3 V->∀ (i:Nat) x,kdL[i]?=some x->V.cell? ⟨gk,i,none⟩=some (.string x)) {i:Nat} {x:ByteArray} (hx:kdL[i]?=some x) :
  ∃ p:World->Prop,(∀ V,Below w3.heap.size w3 V->p V)/\(∀ V,p V->Below w3.heap.size w3 V)/\Nonempty (CW p)/\(∀ θ:CW p,θ.w.cell? ⟨g,2,none⟩=some (.string p2))/\(∀ θ:CW p,θ.w.cell? ⟨gk,i,none⟩=some (.string x)) :=
 ⟨fun V=>Below w3.heap.size w3 V,fun _ h=>h,fun _ h=>h,⟨⟨w3,Below.refl _ _⟩⟩,fun θ=>h _ θ.h,fun θ=>hk _ θ.h i x hx⟩
theorem lnB_eq {uS:ByteArray->ByteArray} {uE:ByteArray->Int} {hX:ByteArray->ByteArray} {p0 p1 p2 p3 p4:ByteArray} {fr T:Nat} (h0:p0=rD fr) (h1:p1=rD T) (hT:fr<T):lnB uS uE hX p0 p1 p2 p3 p4 fr=((((kdB p2&&ptB p3)&&decide (uE p4=0))&&((hX (uS p4)).toList==p4.toList))&&decide ((uS p4).size+fr=T)):=by
 rw[Bool.eq_iff_iff]
 constructor
 ·intro h
  obtain⟨a1,a2,a3,a4,a5,a6,a7⟩:=lnB_true h
  have hn:fr+(uS p4).size=T:=rD_inj (a5.symm.trans h1)
  rw[a6,a7,decide_eq_true a1,a3,decide_eq_true (show (uS p4).size+fr=T by omega)]
  simp
 ·intro h
  simp only[Bool.and_eq_true,decide_eq_true_eq] at h
  obtain⟨⟨⟨⟨a6,a7⟩,a1⟩,a3⟩,a5⟩:=h
  unfold lnB
  rw[a6,a7,a3,decide_eq_true a1,decide_eq_true (show 0<(uS p4).size by omega),h0,h1,show fr+(uS p4).size=T by omega]
  simp
theorem pz_ok (s:ByteArray):(decide (pzE s=0)&&(!(s.toList==[]))&&(s.toList==(txT (pzL s)).toList))=(((decide (pzE s=0)&&decide (txE (pzL s)=0))&&((txT (pzL s)).toList==s.toList))&&(!((txT (pzL s)).toList==[]))):=by
 have hz:((⟨#[]⟩:ByteArray).toList==[])=true:=by rw[ByteArray.toList_eq];rfl
 by_cases h:s=txT (pzL s)
 ·have e1:(s.toList==(txT (pzL s)).toList)=true:=by rw[<- h];simp
  have e2:((txT (pzL s)).toList==s.toList)=true:=by rw[<- h];simp
  rw[e1,e2,<- h]
  by_cases h0:txE (pzL s)=0
  ·rw[decide_eq_true h0]
   simp
  ·have ht:txT (pzL s)=⟨#[]⟩:=by
    unfold txE at h0
    unfold txT
    cases hx:textZ (pzL s) with
    | none=>rfl
    | some t=>rw[hx] at h0;exact absurd rfl h0
   rw[h,ht]
   rw[hz]
   simp
 ·rw[beq_bb h,beq_bb (Ne.symm h)]
  simp
theorem ent22:∀ ag w,(callFunc 21 ag).run Tryz.prog w = .ok (.enter 21 ag) w:=fun _ _=>rfl
theorem line22 (s:ByteArray) (fr:Nat) (w:World) (hs:s.size<=1048576) (hf:fr<=4611686018426339328) (uS:ByteArray->ByteArray) (uE uA:ByteArray->Int) (hX:ByteArray->ByteArray)
  (cU:∀ (x:ByteArray) (W:World),x.size<=1048576->Calls Tryz.prog 25 #[.string x] W fun e w'=>e = .returned (.tuple #[.string (uS x),.int .i64 (uE x),.int .i64 (uA x)])/\Below W.heap.size W w')
  (cH:∀ (x:ByteArray) (W:World),x.size<=1048576->Calls Tryz.prog 26 #[.string x] W fun e w'=>e = .returned (.string (hX x))/\Below W.heap.size W w') (hu:∀ x,(uS x).size<=x.size) :
  Calls Tryz.prog 11 #[.string s,.int .i64 (fr:Int)] w fun e w' =>
   ((cutL s).length≠5/\LnE w false ⟨#[]⟩ 0 e w')\/∃ p0 p1 p2 p3 p4,cutL s=[p0,p1,p2,p3,p4]/\LnE w (lnB uS uE hX p0 p1 p2 p3 p4 fr) (uS p4) (fr+(uS p4).size) e w':=by
 have cC:=rcut22 w s (by omega)
 have hsz:=cutL_sz s
 generalize cutL s=L at cC hsz ⊢
 by_cases h5:L.length=5
 ·obtain⟨p0,p1,p2,p3,p4,rfl⟩:=five h5
  refine Calls.mono ?_ fun e w' h=>.inr ⟨p0,p1,p2,p3,p4,rfl,h⟩
  have z1:=hsz p1 (by simp)
  have z3:=hsz p3 (by simp)
  have z4:=hsz p4 (by simp)
  clear hsz h5
  have cI:=fun W=>rInt3 W p1 4611686018427387904 (by omega) ⟨by decide,by decide⟩
  have hAe:=intA_e p1 4611686018427387904
  have hAo:=@intA_ok p1 4611686018427387904
  have hAr:∀ n:Nat,n<=4611686018427387904->p1=rD n->(intA p1 4611686018427387904).2.1=0/\(intA p1 4611686018427387904).1=n:=fun n h1 h2=>by
   have:=intA_rD (n:=n) (most:=4611686018427387904) (by omega) (by omega)
   rw[h2,this]
   exact⟨rfl,rfl⟩
  generalize (intA p1 4611686018427387904).2.2=A3 at cI
  generalize (intA p1 4611686018427387904).2.1=A2 at cI hAe hAo hAr
  generalize (intA p1 4611686018427387904).1=A1 at cI hAo hAr
  have h4:=hu p4
  by_cases hA:A2=0
  ·subst hA
   obtain⟨T,rfl,hT⟩:=hAo rfl
   clear hAo hAe
   have hn:∀ n:Nat,n<=4611686018427387904->p1=rD n->n=T:=fun n h1 h2=>by have:=(hAr n h1 h2).2;omega
   clear hAr
   by_cases c1:p0=rD fr
   ·have e1:(p0.toList==(rD fr).toList)=true:=by rw[c1];simp
    have e1n:(p0.toList != (rD fr).toList)=false:=by rw[c1];simp
    by_cases c2:p1=rD T
    ·have e2:(p1.toList==(rD T).toList)=true:=by rw[c2];simp
     have e2n:(p1.toList != (rD T).toList)=false:=by rw[c2];simp
     by_cases c3:T<=fr
     ·have l3:decide ((T:Int)<=(fr:Int))=true:=by simp;omega
      have hB:lnB uS uE hX p0 p1 p2 p3 p4 fr=false:=lnB_false fun h=>by have:=hn (fr+(uS p4).size) (by omega) h.2.2.2.2.1;omega
      clear hn c1 c2
      rw[hB]
      clear hB cU cH
      go_enter Tryz.func11,Tryz.ntmps11
      go_wp2_with (first|(go_at_call 19;refine cC.mono ?_;clear cC;rintro _ w1 ⟨v,rfl,r1,j1⟩;obtain⟨g,cp,rfl,hg,hK⟩:=r1.five;obtain⟨k0,k1,-⟩:=hK w1 (Below.refl _ _))|(go_at_call 20;refine(cI _).mono ?_;clear cI;rintro _ w2 ⟨rfl,j2⟩))
      obtain⟨p,pI,pB,pN,x0,x1,x2⟩:=cls5 hK
      have q0:p w2.drew:=pI _ j2.drew
      have cF:Hid (∀ W,p W->Calls Tryz.prog 21 #[.int .i64 (fr:Int)] W fun e w'=>e = .returned (.string (rD fr))/\p w'):=⟨fun W hW=>(rdecimal22 fr (by omega) W).mono fun e w' h=>⟨h.1,pI _ ((pB _ hW).trans (h.2.mono (pB _ hW).size))⟩⟩
      have cT:Hid (∀ W,p W->Calls Tryz.prog 21 #[.int .i64 (T:Int)] W fun e w'=>e = .returned (.string (rD T))/\p w'):=⟨fun W hW=>(rdecimal22 T (by omega) W).mono fun e w' h=>⟨h.1,pI _ ((pB _ hW).trans (h.2.mono (pB _ hW).size))⟩⟩
      clear k0 k1 hK
      refine wp_region_lx p (by kernel_rfl) (by kernel_rfl) (fun _ _ d _ _ h=>by cases d<;>exact h) q0 ?_
      have hp:=q0
      generalize World.drew _=W2 at hp ⊢
      repeat (first|(refine lx_p1 ent22 cF.out hp rfl (by rfl) ?_;clear hp;intro W hp;simp only[pts])|(refine lx_p1 ent22 cT.out hp rfl (by rfl) ?_;clear hp;intro W hp;simp only[pts])|(refine lx_one rfl ?_;(first|go_big_quiet_skip|(go_big_quiet_want;go_big_quiet_op;go_big_quiet_on));refine wpQuiet_nil ?_)|(refine lx_skip (by rfl) ?_;simp only[pts]))
      refine lx_done ?_
      have hF:=j1.trans ((pB _ hp).mono j1.size)
      clear x0 x1 x2 pI pB pN q0 hp cF cT
      go_wp2_with fail
      go_ret3
      exact⟨_,_,rfl,fun h=>Bool.noConfusion h,hF⟩
     ·have l3:decide ((T:Int)<=(fr:Int))=false:=by simp;omega
      have hc2:Hid (p1=rD T):=⟨c2⟩
      have hc1:Hid (p0=rD fr):=⟨c1⟩
      clear hn c1 c2
      go_enter Tryz.func11,Tryz.ntmps11
      go_wp2_with (first|(go_at_call 19;refine cC.mono ?_;clear cC;rintro _ w1 ⟨v,rfl,r1,j1⟩;obtain⟨g,cp,rfl,hg,hK⟩:=r1.five;obtain⟨k0,k1,-⟩:=hK w1 (Below.refl _ _))|(go_at_call 20;refine(cI _).mono ?_;clear cI;rintro _ w2 ⟨rfl,j2⟩))
      obtain⟨p,pI,pB,pN,x0,x1,x2⟩:=cls5 hK
      have q0:p w2.drew:=pI _ j2.drew
      have cF:Hid (∀ W,p W->Calls Tryz.prog 21 #[.int .i64 (fr:Int)] W fun e w'=>e = .returned (.string (rD fr))/\p w'):=⟨fun W hW=>(rdecimal22 fr (by omega) W).mono fun e w' h=>⟨h.1,pI _ ((pB _ hW).trans (h.2.mono (pB _ hW).size))⟩⟩
      have cT:Hid (∀ W,p W->Calls Tryz.prog 21 #[.int .i64 (T:Int)] W fun e w'=>e = .returned (.string (rD T))/\p w'):=⟨fun W hW=>(rdecimal22 T (by omega) W).mono fun e w' h=>⟨h.1,pI _ ((pB _ hW).trans (h.2.mono (pB _ hW).size))⟩⟩
      clear k0 k1
      refine wp_region_lx p (by kernel_rfl) (by kernel_rfl) (fun _ _ d _ _ h=>by cases d<;>exact h) q0 ?_
      have hp:=q0
      generalize World.drew _=W2 at hp ⊢
      repeat (first|(refine lx_p1 ent22 cF.out hp rfl (by rfl) ?_;clear hp;intro W hp;simp only[pts])|(refine lx_p1 ent22 cT.out hp rfl (by rfl) ?_;clear hp;intro W hp;simp only[pts])|(refine lx_one rfl ?_;(first|go_big_quiet_skip|(go_big_quiet_want;go_big_quiet_op;go_big_quiet_on));refine wpQuiet_nil ?_)|(refine lx_skip (by rfl) ?_;simp only[pts]))
      refine lx_done ?_
      have hF:=j1.trans ((pB _ hp).mono j1.size)
      clear x0 x1 x2 pI pN q0 cF cT
      replace hp:=pB _ hp
      clear pB
      have hK1:Hid (∀ V,Below W.heap.size W V->V.cell? ⟨g,2,none⟩=some (.string p2)/\V.cell? ⟨g,3,none⟩=some (.string p3)/\V.cell? ⟨g,4,none⟩=some (.string p4)):=⟨fun V hV=>(hK V (hp.trans (hV.mono hp.size))).2.2⟩
      clear hK
      go_wp2_with (go_at_call 22;refine(rkinds22 _).mono ?_;rintro _ w3 ⟨vk,rfl,rk,j3⟩;obtain⟨gk,ck,rfl,hgk,hKk⟩:=rk.six)
      have hF3:Hid (Below w.heap.size w w3):=⟨hF.trans (j3.mono hF.size)⟩
      have hK3:Hid (∀ V,Below w3.heap.size w3 V->V.cell? ⟨g,2,none⟩=some (.string p2)/\V.cell? ⟨g,3,none⟩=some (.string p3)/\V.cell? ⟨g,4,none⟩=some (.string p4)):=⟨fun V hV=>hK1.out V (j3.trans (hV.mono j3.size))⟩
      replace hKk:Hid (∀ V,Below w3.heap.size w3 V->∀ (i:Nat) x,kdL[i]?=some x->V.cell? ⟨gk,i,none⟩=some (.string x)):=⟨hKk⟩
      clear hF hp hK1 j1 j2 j3 e1 e1n e2 e2n rk r1
      go_loopw [11,13] (fun b q wr=>∃ i:Nat,q = .int .i64 (i:Int)/\i<=6/\b = .bool (kdF p2 i)/\Hid (Below w3.heap.size w3 wr)) (fun _ q _=>6-(RowKit.intOf q).toNat)
      case atStart=>exact⟨0,rfl,by omega,rfl,⟨Below.refl _ _⟩⟩
      case round =>
       obtain⟨i,rfl,hi,rfl,hB3⟩:=hrel
       by_cases hlt:i<6
       ·obtain⟨x,hx⟩:∃ x,kdL[i]?=some x:=⟨kdL[i]'(by simpa[kdL] using hlt),List.getElem?_eq_getElem _⟩
        obtain⟨q,qI,qB,qN,x2,xk⟩:=cls6 (fun V hV=>(hK3.out V hV).1) hKk.out hx
        have q0:q wr.drew:=qI _ hB3.out.drew
        have hkn:=kdF_next (s:=p2) hx
        have hnx:Hid (kdF p2 (i+1)=(kdF p2 i||(x.toList==p2.toList))):=⟨hkn⟩
        obtain⟨kb,hkb⟩:∃ kb,kdF p2 i=kb:=⟨_,rfl⟩
        rw[hkb] at hnx
        rw[hkb]
        clear hkn hkb hx
        cases kb
        ·obtain⟨eb,heb⟩:∃ eb,(x.toList==p2.toList)=eb:=⟨_,rfl⟩
         go_wp2_with fail
         refine wp_region_lx q (by kernel_rfl) (by kernel_rfl) (fun _ _ d _ _ h=>by cases d<;>exact h) q0 ?_
         have hp:=q0
         generalize World.drew _=W2 at hp ⊢
         repeat (first|(refine lx_one rfl ?_;(first|go_big_quiet_skip|(go_big_quiet_want;go_big_quiet_op;go_big_quiet_on));refine wpQuiet_nil ?_)|(refine lx_skip (by rfl) ?_;simp only[pts]))
         refine lx_done ?_
         have hB4:Hid (Below w3.heap.size w3 W2):=⟨qB _ hp⟩
         clear x2 xk qI qB qN q0 hp
         go_wp2_with fail
         go_roundw
         case rel=>exact⟨i+1,by go_num,by omega,by rw[hnx.out];simp[heb],hB4⟩
         case measure=>simp[RowKit.intOf];omega
        ·go_wp2_with fail
         refine wp_region_lx q (by kernel_rfl) (by kernel_rfl) (fun _ _ d _ _ h=>by cases d<;>exact h) q0 ?_
         have hp:=q0
         generalize World.drew _=W2 at hp ⊢
         repeat (first|(refine lx_one rfl ?_;(first|go_big_quiet_skip|(go_big_quiet_want;go_big_quiet_op;go_big_quiet_on));refine wpQuiet_nil ?_)|(refine lx_skip (by rfl) ?_;simp only[pts]))
         refine lx_done ?_
         have hB4:Hid (Below w3.heap.size w3 W2):=⟨qB _ hp⟩
         clear x2 xk qI qB qN q0 hp
         go_wp2_with fail
         go_roundw
         case rel=>exact⟨i+1,by go_num,by omega,by rw[hnx.out];simp,hB4⟩
         case measure=>simp[RowKit.intOf];omega
       ·obtain rfl:i=6:=by omega
        have hR:lnB uS uE hX p0 p1 p2 p3 p4 fr=_:=lnB_eq hc1.out hc2.out (show fr<T by omega)
        have h5:(((uS p4).size:Int)==(T:Int)-(fr:Int))=decide ((uS p4).size+fr=T):=by
         by_cases h:(uS p4).size+fr=T
         ·rw[decide_eq_true h];exact beq_iff_eq.2 (by omega)
         ·rw[decide_eq_false h];exact beq_eq_false_iff_ne.2 (by omega)
        have hTo:Hid ((decide ((uS p4).size+fr=T)=true->(T:Int)=((fr+(uS p4).size:Nat):Int))):=⟨fun h=>by have:=of_decide_eq_true h;omega⟩
        generalize decide ((uS p4).size+fr=T)=b5 at hR h5 hTo
        have hU:=fun W=>cU p4 W (by omega)
        have hH:=fun W=>cH (uS p4) W (by omega)
        generalize hX (uS p4)=H4 at hR hH
        rw[kdF_all]
        generalize kdB p2=kb at hR ⊢
        have hKr:Hid (∀ V,Below wr.heap.size wr V->V.cell? ⟨g,3,none⟩=some (.string p3)/\V.cell? ⟨g,4,none⟩=some (.string p4)):=⟨fun V hV=>(hK3.out V (hB3.out.trans (hV.mono hB3.out.size))).2⟩
        have hFr:Hid (Below w.heap.size w wr):=⟨hF3.out.trans (hB3.out.mono hF3.out.size)⟩
        obtain⟨b4,h4b⟩:∃ b,(H4.toList==p4.toList)=b:=⟨_,rfl⟩
        rw[h4b] at hR
        obtain⟨k3,k4⟩:=hKr.out wr (Below.refl _ _)
        replace hR:=Hid.mk hR
        clear hK3 hKk hB3 hF3 hc1 hc2 cU cH hlt hi hu
        obtain⟨b3,h3b⟩:∃ b,(p3.toList==mnS.toList)=b:=⟨_,rfl⟩
        have h3c:(p3.toList==[45])=b3:=by rw[<- h3b,ByteArray.toList_eq mnS]
        cases b3
        ·have hp3:ptB p3=(decide (pzE p3=0)&&(!(p3.toList==[]))&&(p3.toList==(txT (pzL p3)).toList)):=by unfold ptB;rw[h3b,Bool.false_or]
         have hx:=pz_ok p3
         have hPt:=fun W=>PathR p3 (by omega) W
         have hl:=Nat.le_trans (pzL_len p3) (show p3.size<=1048576 by omega)
         have hz:∀ x∈pzL p3,x.1.size<=1048576:=fun x hx=>Nat.le_trans (pzL_sz p3 x hx) (by omega)
         have hE:=pzE_two p3
         obtain⟨b6,h6⟩:∃ b,((txT (pzL p3)).toList==p3.toList)=b:=⟨_,rfl⟩
         obtain⟨b7,h7⟩:∃ b,((txT (pzL p3)).toList==[])=b:=⟨_,rfl⟩
         rw[hp3,hx,h6,h7] at hR
         clear hp3 hx
         go_wp2_with (first|(go_at_call 23;refine(hPt _).mono ?_;rintro _ w6 ⟨px,cx,rfl,r6,j6⟩;obtain⟨k3a,k4a⟩:=hKr.out w6 j6;have cT:=Text21 (pzL p3) px cx w6 r6.sp hl hz)|(go_at_call 24;refine cT.mono ?_;clear cT;rintro _ w7 hT7;obtain⟨rfl,j7⟩:=hT7.one;clear hT7;obtain⟨k3b,k4b⟩:=hKr.out w7 (j6.trans (j7.mono j6.size)))|(go_at_call 25;refine(hU _).mono ?_;rintro _ w4 ⟨rfl,j4⟩;have j8:=(j6.trans (j7.mono j6.size)).trans (j4.mono (j6.trans (j7.mono j6.size)).size);obtain⟨k3',k4'⟩:=hKr.out w4 j8)|(go_at_call 26;refine(hH _).mono ?_;rintro _ w5 ⟨rfl,j5⟩;obtain⟨k3'',k4''⟩:=hKr.out w5 (j8.trans (j5.mono j8.size))))
         all_goals
          go_ret3
          exact⟨uS p4,T,by rw[hR.out];simp[*],fun h=>⟨rfl,hTo.out (by rw[hR.out] at h;simp only[Bool.and_eq_true] at h;exact h.2)⟩,hFr.out.trans ((j8.trans (j5.mono j8.size)).mono hFr.out.size)⟩
        ·have hp3:ptB p3=true:=by unfold ptB;rw[h3b];rfl
         rw[hp3] at hR
         go_wp2_with (first|(go_at_call 25;refine(hU _).mono ?_;rintro _ w4 ⟨rfl,j4⟩;obtain⟨k3',k4'⟩:=hKr.out w4 j4)|(go_at_call 26;refine(hH _).mono ?_;rintro _ w5 ⟨rfl,j5⟩;obtain⟨k3'',k4''⟩:=hKr.out w5 (j4.trans (j5.mono j4.size))))
         all_goals
          go_ret3
          exact⟨uS p4,T,by rw[hR.out];simp[*],fun h=>⟨rfl,hTo.out (by rw[hR.out] at h;simp only[Bool.and_eq_true] at h;exact h.2)⟩,hFr.out.trans ((j4.trans (j5.mono j4.size)).mono hFr.out.size)⟩
    ·have e2:=beq_bb c2
     have e2n:(p1.toList != (rD T).toList)=true:=by rw[bne,e2];rfl
     have hB:lnB uS uE hX p0 p1 p2 p3 p4 fr=false:=lnB_false fun h=>c2 (by have:=hn (fr+(uS p4).size) (by omega) h.2.2.2.2.1;rw[<- this];exact h.2.2.2.2.1)
     clear hn c1 c2
     rw[hB]
     clear hB cU cH
     go_enter Tryz.func11,Tryz.ntmps11
     go_wp2_with (first|(go_at_call 19;refine cC.mono ?_;clear cC;rintro _ w1 ⟨v,rfl,r1,j1⟩;obtain⟨g,cp,rfl,hg,hK⟩:=r1.five;obtain⟨k0,k1,-⟩:=hK w1 (Below.refl _ _))|(go_at_call 20;refine(cI _).mono ?_;clear cI;rintro _ w2 ⟨rfl,j2⟩))
     obtain⟨p,pI,pB,pN,x0,x1,x2⟩:=cls5 hK
     have q0:p w2.drew:=pI _ j2.drew
     have cF:Hid (∀ W,p W->Calls Tryz.prog 21 #[.int .i64 (fr:Int)] W fun e w'=>e = .returned (.string (rD fr))/\p w'):=⟨fun W hW=>(rdecimal22 fr (by omega) W).mono fun e w' h=>⟨h.1,pI _ ((pB _ hW).trans (h.2.mono (pB _ hW).size))⟩⟩
     have cT:Hid (∀ W,p W->Calls Tryz.prog 21 #[.int .i64 (T:Int)] W fun e w'=>e = .returned (.string (rD T))/\p w'):=⟨fun W hW=>(rdecimal22 T (by omega) W).mono fun e w' h=>⟨h.1,pI _ ((pB _ hW).trans (h.2.mono (pB _ hW).size))⟩⟩
     clear k0 k1 hK
     refine wp_region_lx p (by kernel_rfl) (by kernel_rfl) (fun _ _ d _ _ h=>by cases d<;>exact h) q0 ?_
     have hp:=q0
     generalize World.drew _=W2 at hp ⊢
     repeat (first|(refine lx_p1 ent22 cF.out hp rfl (by rfl) ?_;clear hp;intro W hp;simp only[pts])|(refine lx_p1 ent22 cT.out hp rfl (by rfl) ?_;clear hp;intro W hp;simp only[pts])|(refine lx_one rfl ?_;(first|go_big_quiet_skip|(go_big_quiet_want;go_big_quiet_op;go_big_quiet_on));refine wpQuiet_nil ?_)|(refine lx_skip (by rfl) ?_;simp only[pts]))
     refine lx_done ?_
     have hF:=j1.trans ((pB _ hp).mono j1.size)
     clear x0 x1 x2 pI pB pN q0 hp cF cT
     go_wp2_with fail
     go_ret3
     exact⟨_,_,rfl,fun h=>Bool.noConfusion h,hF⟩
   ·have e1:=beq_bb c1
    have e1n:(p0.toList != (rD fr).toList)=true:=by rw[bne,e1];rfl
    have hB:lnB uS uE hX p0 p1 p2 p3 p4 fr=false:=lnB_false fun h=>c1 h.2.2.2.1
    clear hn c1
    rw[hB]
    clear hB cU cH
    go_enter Tryz.func11,Tryz.ntmps11
    go_wp2_with (first|(go_at_call 19;refine cC.mono ?_;clear cC;rintro _ w1 ⟨v,rfl,r1,j1⟩;obtain⟨g,cp,rfl,hg,hK⟩:=r1.five;obtain⟨k0,k1,-⟩:=hK w1 (Below.refl _ _))|(go_at_call 20;refine(cI _).mono ?_;clear cI;rintro _ w2 ⟨rfl,j2⟩))
    obtain⟨p,pI,pB,pN,x0,x1,x2⟩:=cls5 hK
    have q0:p w2.drew:=pI _ j2.drew
    have cF:Hid (∀ W,p W->Calls Tryz.prog 21 #[.int .i64 (fr:Int)] W fun e w'=>e = .returned (.string (rD fr))/\p w'):=⟨fun W hW=>(rdecimal22 fr (by omega) W).mono fun e w' h=>⟨h.1,pI _ ((pB _ hW).trans (h.2.mono (pB _ hW).size))⟩⟩
    have cT:Hid (∀ W,p W->Calls Tryz.prog 21 #[.int .i64 (T:Int)] W fun e w'=>e = .returned (.string (rD T))/\p w'):=⟨fun W hW=>(rdecimal22 T (by omega) W).mono fun e w' h=>⟨h.1,pI _ ((pB _ hW).trans (h.2.mono (pB _ hW).size))⟩⟩
    clear k0 k1 hK
    refine wp_region_lx p (by kernel_rfl) (by kernel_rfl) (fun _ _ d _ _ h=>by cases d<;>exact h) q0 ?_
    have hp:=q0
    generalize World.drew _=W2 at hp ⊢
    repeat (first|(refine lx_p1 ent22 cF.out hp rfl (by rfl) ?_;clear hp;intro W hp;simp only[pts])|(refine lx_p1 ent22 cT.out hp rfl (by rfl) ?_;clear hp;intro W hp;simp only[pts])|(refine lx_one rfl ?_;(first|go_big_quiet_skip|(go_big_quiet_want;go_big_quiet_op;go_big_quiet_on));refine wpQuiet_nil ?_)|(refine lx_skip (by rfl) ?_;simp only[pts]))
    refine lx_done ?_
    have hF:=j1.trans ((pB _ hp).mono j1.size)
    clear x0 x1 x2 pI pB pN q0 hp cF cT
    go_wp2_with fail
    go_ret3
    exact⟨_,_,rfl,fun h=>Bool.noConfusion h,hF⟩
  ·have hB:lnB uS uE hX p0 p1 p2 p3 p4 fr=false:=lnB_false fun h=>hA (hAr (fr+(uS p4).size) (by omega) h.2.2.2.2.1).1
   rw[hB]
   clear hAr hAo hB cU cH
   rcases hAe with rfl|rfl|rfl
   ·exact absurd rfl hA
   all_goals
    go_enter Tryz.func11,Tryz.ntmps11
    go_wp2_with (first|(go_at_call 19;refine cC.mono ?_;clear cC;rintro _ w1 ⟨v,rfl,r1,j1⟩;obtain⟨g,cp,rfl,hg,hK⟩:=r1.five;obtain⟨k0,k1,-⟩:=hK w1 (Below.refl _ _))|(go_at_call 20;refine(cI _).mono ?_;clear cI;rintro _ w2 ⟨rfl,j2⟩))
    obtain⟨p,pI,pB,pN,x0,x1,x2⟩:=cls5 hK
    have q0:p w2.drew:=pI _ j2.drew
    clear k0 k1 hK
    refine wp_region_lx p (by kernel_rfl) (by kernel_rfl) (fun _ _ d _ _ h=>by cases d<;>exact h) q0 ?_
    have hp:=q0
    generalize World.drew _=W2 at hp ⊢
    repeat (first|(refine lx_one rfl ?_;(first|go_big_quiet_skip|(go_big_quiet_want;go_big_quiet_op;go_big_quiet_on));refine wpQuiet_nil ?_)|(refine lx_skip (by rfl) ?_;simp only[pts]))
    refine lx_done ?_
    have hF:=j1.trans ((pB _ hp).mono j1.size)
    clear x0 x1 x2 pI pB pN q0 hp
    go_wp2_with fail
    go_ret3
    exact⟨_,_,rfl,fun h=>Bool.noConfusion h,hF⟩
 ·have l5:((L.length:Int)==5)=false:=beq_eq_false_iff_ne.2 (by omega)
  have l5n:(L.length==5)=false:=beq_eq_false_iff_ne.2 h5
  refine Calls.mono ?_ fun e w' h=>.inl ⟨h5,h⟩
  go_enter Tryz.func11,Tryz.ntmps11
  go_wp2_with (go_at_call 19;refine cC.mono ?_;clear cC;rintro _ w1 ⟨v,rfl,r1,j1⟩;obtain⟨pp,cp,rfl,-,-⟩:=r1.shape)
  go_ret3
  exact⟨_,_,rfl,fun h=>Bool.noConfusion h,j1⟩
def lnO (uS:ByteArray->ByteArray) (uE:ByteArray->Int) (hX:ByteArray->ByteArray) (l:ByteArray) (fr:Nat):Option ByteArray :=
 match cutL l with
 | [p0,p1,p2,p3,p4]=>if lnB uS uE hX p0 p1 p2 p3 p4 fr=true then some (uS p4) else none
 | _=>none
def rdZ (uS:ByteArray->ByteArray) (uE:ByteArray->Int) (hX:ByteArray->ByteArray):List ByteArray->ByteArray->Nat->ByteArray×Int×Int
 | [],a,_=>(a,0,0)
 | l::r,a,i=>match lnO uS uE hX l a.size with
  | some x=>rdZ uS uE hX r (a++x) (i+1)
  | none=>(⟨#[]⟩,230,(i:Int))
def TxL (w:World) (p:Option Addr) (l:List ByteArray):Prop:=∀ (i:Nat) x,l[i]?=some x->∃ g o,p=some ⟨g,o,none⟩/\g<w.heap.size/\w.cell? ⟨g,o+i,none⟩=some (.string x)
theorem lnO_size {uS:ByteArray->ByteArray} {uE:ByteArray->Int} {hX:ByteArray->ByteArray} {l x:ByteArray} {fr:Nat} (hu:∀ x,(uS x).size<=x.size) (h:lnO uS uE hX l fr=some x):x.size<=l.size:=by
 unfold lnO at h
 have hs:=cutL_sz l
 split at h
 ·rename_i p0 p1 p2 p3 p4 e
  rw[e] at hs
  split at h
  ·injection h with h
   rw[<- h]
   exact Nat.le_trans (hu p4) (hs p4 (by simp))
  ·cases h
 ·cases h
theorem line22_one (s:ByteArray) (fr:Nat) (w:World) (hs:s.size<=1048576) (hf:fr<=4611686018426339328) (uS:ByteArray->ByteArray) (uE uA:ByteArray->Int) (hX:ByteArray->ByteArray)
  (cU:∀ (x:ByteArray) (W:World),x.size<=1048576->Calls Tryz.prog 25 #[.string x] W fun e w'=>e = .returned (.tuple #[.string (uS x),.int .i64 (uE x),.int .i64 (uA x)])/\Below W.heap.size W w')
  (cH:∀ (x:ByteArray) (W:World),x.size<=1048576->Calls Tryz.prog 26 #[.string x] W fun e w'=>e = .returned (.string (hX x))/\Below W.heap.size W w') (hu:∀ x,(uS x).size<=x.size) :
  Calls Tryz.prog 11 #[.string s,.int .i64 (fr:Int)] w fun e w'=>∃ y u,e = .returned (.tuple #[.string y,.int .i64 u,.bool (lnO uS uE hX s fr).isSome])/\(∀ x,lnO uS uE hX s fr=some x->y=x/\u=((fr+x.size:Nat):Int))/\Below w.heap.size w w':=by
 refine(line22 s fr w hs hf uS uE uA hX cU cH hu).mono fun e w' h=>?_
 rcases h with ⟨h5,y,u,rfl,-,hb⟩|⟨p0,p1,p2,p3,p4,hL,y,u,rfl,h1,hb⟩
 ·have e0:lnO uS uE hX s fr=none:=by
   unfold lnO
   split
   ·rename_i hc
    rw[hc] at h5
    exact absurd rfl h5
   ·rfl
  rw[e0]
  exact⟨y,u,rfl,fun x hx=>(by cases hx),hb⟩
 ·have e0:lnO uS uE hX s fr=if lnB uS uE hX p0 p1 p2 p3 p4 fr=true then some (uS p4) else none:=by unfold lnO;rw[hL]
  rw[e0]
  cases hB:lnB uS uE hX p0 p1 p2 p3 p4 fr
  ·exact⟨y,u,by simp,fun x hx=>(by simp at hx),hb⟩
  ·obtain⟨rfl,rfl⟩:=h1 hB
   refine⟨uS p4,((fr+(uS p4).size:Nat):Int),rfl,fun x hx=>?_,hb⟩
   simp at hx
   rw[<- hx]
   exact⟨rfl,rfl⟩
theorem rread22 (ls:List ByteArray) (pp:Option Addr) (cp:Nat) (w:World) (hT:TxL w pp ls) (hl:ls.length<=1048576) (hz:∀ x∈ls,x.size<=1048576) (uS:ByteArray->ByteArray) (uE uA:ByteArray->Int) (hX:ByteArray->ByteArray)
  (cU:∀ (x:ByteArray) (W:World),x.size<=1048576->Calls Tryz.prog 25 #[.string x] W fun e w'=>e = .returned (.tuple #[.string (uS x),.int .i64 (uE x),.int .i64 (uA x)])/\Below W.heap.size W w')
  (cH:∀ (x:ByteArray) (W:World),x.size<=1048576->Calls Tryz.prog 26 #[.string x] W fun e w'=>e = .returned (.string (hX x))/\Below W.heap.size W w') (hu:∀ x,(uS x).size<=x.size) :
  Calls Tryz.prog 5 #[.slice pp ls.length cp] w fun e w'=>e = .returned (.tuple #[.string (rdZ uS uE hX ls ⟨#[]⟩ 0).1,.int .i64 (rdZ uS uE hX ls ⟨#[]⟩ 0).2.1,.int .i64 (rdZ uS uE hX ls ⟨#[]⟩ 0).2.2])/\Below w.heap.size w w':=by
 have cL:=fun (l:ByteArray) (fr:Nat) (W:World) h1 h2=>line22_one l fr W h1 h2 uS uE uA hX cU cH hu
 have hlz:Hid (∀ l x fr,lnO uS uE hX l fr=some x->x.size<=l.size):=⟨fun l x fr h=>lnO_size hu h⟩
 clear cU cH hu
 obtain⟨Z,hZ⟩:∃ Z,rdZ uS uE hX ls ⟨#[]⟩ 0=Z:=⟨_,rfl⟩
 rw[hZ]
 replace hZ:=Hid.mk hZ
 replace hz:=Hid.mk hz
 replace cL:Hid (∀ (l:ByteArray) (fr:Nat) (W:World),l.size<=1048576->fr<=4611686018426339328->Calls Tryz.prog 11 #[.string l,.int .i64 (fr:Int)] W fun e w'=>∃ y u,e = .returned (.tuple #[.string y,.int .i64 u,.bool (lnO uS uE hX l fr).isSome])/\(∀ x,lnO uS uE hX l fr=some x->y=x/\u=((fr+x.size:Nat):Int))/\Below W.heap.size W w'):=⟨cL⟩
 replace hT:=Hid.mk hT
 go_enter Tryz.func5,Tryz.ntmps5
 go_wp2_with fail
 go_loopw [5,6,7] (fun v t q wr=>∃ (i:Nat) (a:ByteArray),q = .int .i64 (i:Int)/\v = .string a/\t = .int .i64 (a.size:Int)/\i<=ls.length/\a.size<=i*1048576/\Hid (rdZ uS uE hX (ls.drop i) a i=Z)/\Hid (Below w.heap.size w wr)) (fun _ _ q _=>ls.length-(RowKit.intOf q).toNat)
 case atStart=>exact⟨0,⟨#[]⟩,rfl,rfl,rfl,Nat.zero_le _,Nat.zero_le _,hZ,⟨Below.refl _ _⟩⟩
 case round =>
  clear hZ
  obtain⟨i,a,rfl,rfl,rfl,hi,ha,hI,hB⟩:=hrel
  by_cases hlt:i<ls.length
  ·obtain⟨l,hx⟩:∃ l,ls[i]?=some l:=⟨ls[i],List.getElem?_eq_getElem hlt⟩
   have l1:decide ((i:Int)<(ls.length:Int))=true:=by simp;omega
   obtain⟨g,o,rfl,hg,k0⟩:=hT.out i l hx
   have k1:wr.cell? ⟨g,o+i,none⟩=some (.string l):=(hB.out.cell (p:=⟨g,o+i,none⟩) hg).trans k0
   have him:i*1048576<=1048576*1048576:=Nat.mul_le_mul_right _ (by omega)
   have hlsz:=hz.out l (List.mem_of_getElem? hx)
   have cl:=cL.out l a.size wr hlsz (by omega)
   have hD:Hid (rdZ uS uE hX (ls.drop i) a i=match lnO uS uE hX l a.size with|some x=>rdZ uS uE hX (ls.drop (i+1)) (a++x) (i+1)|none=>(⟨#[]⟩,230,(i:Int))):=⟨by
    have e:=List.getElem_cons_drop hlt
    rw[<- e,(List.getElem?_eq_some_iff.1 hx).2,rdZ]⟩
   rw[hI.out] at hD
   have hls:=hlz.out l
   clear hI hx
   cases hO:lnO uS uE hX l a.size with
   | none =>
    rw[hO] at cl hD
    clear hO hls
    have hD2:Hid (Z=(⟨#[]⟩,230,(i:Int))):=⟨hD.out⟩
    clear hD
    go_wp2_with (go_at_call 11;refine cl.mono ?_;clear cl;rintro _ w1 ⟨y,u,rfl,-,j1⟩)
    go_ret3
    exact⟨by rw[hD2.out];rfl,hB.out.trans (j1.mono hB.out.size)⟩
   | some x =>
    have hxs:=hls x _ hO
    rw[hO] at cl hD
    clear hO hls
    have hD2:Hid (rdZ uS uE hX (ls.drop (i+1)) (a++x) (i+1)=Z):=⟨hD.out.symm⟩
    clear hD
    have hsz:(a++x).size=a.size+x.size:=ByteArray.size_append
    go_wp2_with (go_at_call 11;refine cl.mono ?_;clear cl;rintro _ w1 ⟨y,u,rfl,hyu,j1⟩;obtain⟨rfl,rfl⟩:=hyu x rfl;clear hyu)
    go_roundw
    case rel=>exact⟨i+1,a++y,by go_num,rfl,by rw[hsz];go_num,by omega,by rw[hsz];omega,hD2,⟨hB.out.trans (j1.mono hB.out.size)⟩⟩
    case measure=>simp[RowKit.intOf];omega
  ·obtain rfl:i=ls.length:=by omega
   have l1:decide ((ls.length:Int)<(ls.length:Int))=false:=by simp
   have hD2:Hid (Z=(a,0,0)):=⟨by rw[<- hI.out,List.drop_length,rdZ]⟩
   clear hI
   go_wp2_with fail
   go_ret3
   exact⟨by rw[hD2.out];rfl,hB.out⟩
end Go.Proofs.YtekpgklllfobfaaGreatDoor
