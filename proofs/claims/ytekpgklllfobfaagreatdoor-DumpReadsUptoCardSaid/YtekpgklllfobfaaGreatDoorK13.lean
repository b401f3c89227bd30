import Derived.Test.YtekpgklllfobfaaGreatDoorK12
import Derived.Shelf.Strings.Split
namespace Go.Proofs.YtekpgklllfobfaaGreatDoor
open Go.Shelf
def _root_.Go.Proofs.Tryz.lays147_ren:Go.Shelf.Ren:=⟨fun|147=>12|221=>27|268=>45|138=>46|143=>47|195=>63|197=>64|218=>65|219=>66|260=>88|217=>89|225=>90|224=>91|267=>92|266=>108|314=>109|n=>n,fun|9=>9|3=>3|31=>22|4=>4|0=>0|105=>98|21=>21|5=>5|46=>82|119=>132|139=>135|138=>134|146=>136|51=>121|n=>n,fun|1=>1|3=>3|4=>4|n=>n⟩
theorem _root_.Go.Proofs.Tryz.lays147:Go.Proofs.Lays.n147 Tryz.prog Tryz.lays147_ren:={
 mixed:=by kernel_rfl
 f138:=Tryz.func46.trans (congrArg some (by kernel_rfl))
 f143:=Tryz.func47.trans (congrArg some (by kernel_rfl))
 f147:=Tryz.func12.trans (congrArg some (by kernel_rfl))
 f195:=Tryz.func63.trans (congrArg some (by kernel_rfl))
 f197:=Tryz.func64.trans (congrArg some (by kernel_rfl))
 f217:=Tryz.func89.trans (congrArg some (by kernel_rfl))
 f218:=Tryz.func65.trans (congrArg some (by kernel_rfl))
 f219:=Tryz.func66.trans (congrArg some (by kernel_rfl))
 f221:=Tryz.func27.trans (congrArg some (by kernel_rfl))
 f224:=Tryz.func91.trans (congrArg some (by kernel_rfl))
 f225:=Tryz.func90.trans (congrArg some (by kernel_rfl))
 f260:=Tryz.func88.trans (congrArg some (by kernel_rfl))
 f266:=Tryz.func108.trans (congrArg some (by kernel_rfl))
 f267:=Tryz.func92.trans (congrArg some (by kernel_rfl))
 f268:=Tryz.func45.trans (congrArg some (by kernel_rfl))
 f314:=Tryz.func109.trans (congrArg some (by kernel_rfl))
 t0:=Tryz.underlying0
 a0:=Tryz.isAgg0
 z0:=Tryz.sizeOf0
 v0:=Tryz.zeroValue0
 t3:=Tryz.underlying3
 a3:=Tryz.isAgg3
 z3:=Tryz.sizeOf3
 v3:=Tryz.zeroValue3
 t4:=Tryz.underlying4
 a4:=Tryz.isAgg4
 z4:=Tryz.sizeOf4
 v4:=Tryz.zeroValue4
 t5:=Tryz.underlying5
 a5:=Tryz.isAgg5
 z5:=Tryz.sizeOf5
 v5:=Tryz.zeroValue5
 t9:=Tryz.underlying9
 a9:=Tryz.isAgg9
 z9:=Tryz.sizeOf9
 v9:=Tryz.zeroValue9
 t21:=Tryz.underlying21
 a21:=Tryz.isAgg21
 z21:=Tryz.sizeOf21
 v21:=Tryz.zeroValue21
 t31:=Tryz.underlying22
 a31:=Tryz.isAgg22
 z31:=Tryz.sizeOf22
 v31:=Tryz.zeroValue22
 t46:=Tryz.underlying82
 a46:=Tryz.isAgg82
 z46:=Tryz.sizeOf82
 v46:=Tryz.zeroValue82
 t51:=Tryz.underlying121
 a51:=Tryz.isAgg121
 z51:=Tryz.sizeOf121
 v51:=Tryz.zeroValue121
 t105:=Tryz.underlying98
 a105:=Tryz.isAgg98
 z105:=Tryz.sizeOf98
 v105:=Tryz.zeroValue98
 t119:=Tryz.underlying132
 a119:=Tryz.isAgg132
 z119:=Tryz.sizeOf132
 t138:=Tryz.underlying134
 a138:=Tryz.isAgg134
 z138:=Tryz.sizeOf134
 v138:=Tryz.zeroValue134
 t139:=Tryz.underlying135
 a139:=Tryz.isAgg135
 z139:=Tryz.sizeOf135
 v139:=Tryz.zeroValue135
 t146:=Tryz.underlying136
 a146:=Tryz.isAgg136
 z146:=Tryz.sizeOf136
 v146:=Tryz.zeroValue136
 g1:=by kernel_rfl
 g3:=by kernel_rfl
 g4:=by kernel_rfl }
set_option maxRecDepth 1000000
set_option maxHeartbeats 16000000
open Go.ChangeShapes Go.WideShapes Go.ChangeAt Go.RowKit Go.Maps
theorem hi147:(Tryz.prog.info? (Tryz.lays147_ren.t 9)).map (fun i=>(i.zero,i.size,i.bytes))=some (some (.string ByteArray.empty),1,16):=by kernel_rfl
theorem splitN6 (s:ByteArray) (m:Int) (w:World) (hs:s.size<=1048576) (hm:w.cell? ⟨1,0,none⟩=some (.int .i64 m)) :
  Calls Tryz.prog 12 #[.string s,.string spS,.int .i64 6] w fun e w'=>∃ v D,e = .returned v/\SRow w' w.heap.size v D/\((D.length=5/\D=cutL s)\/(D.length≠5/\(cutL s).length≠5))/\Below w.heap.size w w':=by
 have h:=Any.strings_SplitN Tryz.lays147 hi147 s spS 6 m w (by omega) hm (by decide) (by decide) (by decide)
 refine Calls.mono h fun e w' h=>?_
 obtain⟨rfl,rfl⟩:=h
 have hl:=Lib.splitB_length_le spS 0 (min 6 (s.size+1)-1) s
 have hc:=split_cut s
 generalize hD:Lib.splitB spS 0 (min 6 (s.size+1)-1) s=D at hl hc ⊢
 refine⟨_,D,rfl,?_,hc,nbel w _⟩
 refine⟨by simp,.inr ⟨w.heap.size,min 6 (s.size+1),Lib.cellsOf D (min 6 (s.size+1)),rfl,Nat.le_refl _,thnK _ _,by omega,by unfold maxLen;omega,?_,?_⟩⟩
 ·rw[Lib.cellsOf_size (by omega),Nat.mul_one]
 ·unfold Lib.cellsOf
  rw[Nat.mul_one,List.toList_toArray,List.take_left' (by simp)]
  rfl
theorem itoaN (n:Nat) (hn:n<=4611686018427387904) (w:World) (htab:Tab w):Calls Tryz.prog 15 #[.int .i64 (n:Int)] w fun e w'=>e = .returned (.string (rD n))/\Below w.heap.size w w' :=
 (Any.strconv_Itoa Tryz.lays171 (n:Int) (by omega) (by omega) w htab).mono fun e w' ⟨h1,k,os,h2⟩=>⟨h1,by rw[h2];exact Lib.below_grow _ w (Nat.le_refl _) k os⟩
theorem entHexP:∀ ag w,(callFunc 14 ag).run Tryz.prog w = .ok (.enter 14 ag) w:=fun _ _=>rfl
theorem entItoa:∀ ag w,(callFunc 15 ag).run Tryz.prog w = .ok (.enter 15 ag) w:=fun _ _=>rfl
theorem entIsN:∀ ag w,(callFunc 16 ag).run Tryz.prog w = .ok (.enter 16 ag) w:=fun _ _=>rfl
theorem entIsP:∀ ag w,(callFunc 17 ag).run Tryz.prog w = .ok (.enter 17 ag) w:=fun _ _=>rfl
structure DpTb (w:World):Prop where
 n:KdTb w
 t:∀ W,Below w.heap.size w W->Tab W
 mpos:1<w.heap.size
 m:∃ m,w.cell? ⟨1,0,none⟩=some (.int .i64 m)
theorem DpTb.below {w w':World} (h:DpTb w) (hb:Below w.heap.size w w'):DpTb w' :=
 ⟨h.n.below hb,fun W hW=>h.t W (hb.trans (hW.mono hb.size)),Nat.lt_of_lt_of_le h.mpos hb.size,by
  obtain⟨m,hm⟩:=h.m
  exact⟨m,(hb.cell (p:=⟨1,0,none⟩) h.mpos).trans hm⟩⟩
theorem cls5b {w1:World} {g:Nat} {p0 p1 p2 p3 p4:ByteArray} (h:∀ V,Below w1.heap.size w1 V->V.cell? ⟨g,0,none⟩=some (.string p0)/\V.cell? ⟨g,1,none⟩=some (.string p1)/\V.cell? ⟨g,2,none⟩=some (.string p2)/\V.cell? ⟨g,3,none⟩=some (.string p3)/\V.cell? ⟨g,4,none⟩=some (.string p4)) :
  ∃ p:World->Prop,(∀ V,Below w1.heap.size w1 V->p V)/\(∀ V,p V->Below w1.heap.size w1 V)/\Nonempty (CW p)/\(∀ θ:CW p,θ.w.cell? ⟨g,0,none⟩=some (.string p0))/\(∀ θ:CW p,θ.w.cell? ⟨g,1,none⟩=some (.string p1))/\(∀ θ:CW p,θ.w.cell? ⟨g,2,none⟩=some (.string p2))/\(∀ θ:CW p,θ.w.cell? ⟨g,3,none⟩=some (.string p3))/\(∀ θ:CW p,θ.w.cell? ⟨g,4,none⟩=some (.string p4)) :=
 ⟨fun V=>Below w1.heap.size w1 V,fun _ h=>h,fun _ h=>h,⟨⟨w1,Below.refl _ _⟩⟩,fun θ=>(h _ θ.h).1,fun θ=>(h _ θ.h).2.1,fun θ=>(h _ θ.h).2.2.1,fun θ=>(h _ θ.h).2.2.2.1,fun θ=>(h _ θ.h).2.2.2.2⟩
theorem bytesOf_any (s:ByteArray) (fr:Nat) (w:World) (tb:DpTb w) (hs:s.size<=1048576) (hf:fr<=4611686018426339328) (uS:ByteArray->ByteArray) (uE uA:ByteArray->Int) (hX:ByteArray->ByteArray)
  (cU:∀ (x:ByteArray) (W:World),x.size<=1048576->Calls Tryz.prog 13 #[.string x] W fun e w'=>e = .returned (.tuple #[.string (uS x),.int .i64 (uE x),.int .i64 (uA x)])/\Below W.heap.size W w')
  (cH:∀ (x:ByteArray) (W:World),x.size<=1048576->Calls Tryz.prog 14 #[.string x] W fun e w'=>e = .returned (.string (hX x))/\Below W.heap.size W w') (hu:∀ x,(uS x).size<=x.size) :
  Calls Tryz.prog 7 #[.string s,.int .i64 (fr:Int)] w fun e w'=>∃ y,e = .returned (.tuple #[.string y,.bool (lnO uS uE hX s fr).isSome])/\(∀ x,lnO uS uE hX s fr=some x->y=x)/\Below w.heap.size w w':=by
 obtain⟨m,hm⟩:=tb.m
 have cS:=splitN6 s m w hs hm
 have hsz:=cutL_sz s
 clear hm
 by_cases h5:(cutL s).length=5
 ·obtain⟨p0,p1,p2,p3,p4,hL⟩:=five h5
  have e0:lnO uS uE hX s fr=if lnB uS uE hX p0 p1 p2 p3 p4 fr=true then some (uS p4) else none:=by unfold lnO;rw[hL]
  obtain⟨O,hO⟩:∃ O,(if lnB uS uE hX p0 p1 p2 p3 p4 fr=true then some (uS p4) else none)=O:=⟨_,rfl⟩
  rw[e0,hO]
  have cS2:Calls Tryz.prog 12 #[.string s,.string spS,.int .i64 6] w fun e w'=>∃ v,e = .returned v/\SRow w' w.heap.size v [p0,p1,p2,p3,p4]/\Below w.heap.size w w':=cS.mono fun e w' h=>by
   obtain⟨v,D,h1,h2,h3,h4⟩:=h
   rcases h3 with ⟨-,h3⟩|⟨-,h3⟩
   ·rw[h3,hL] at h2
    exact⟨v,h1,h2,h4⟩
   ·exact absurd h5 h3
  rw[hL] at hsz
  have z1:=hsz p1 (by simp)
  have z3:=hsz p3 (by simp)
  have z4:=hsz p4 (by simp)
  have h4:=hu p4
  have hU:=fun W=>cU p4 W (by omega)
  have hHx:=fun W=>cH (uS p4) W (by omega)
  clear cS hsz h5 hL e0 cU cH hu
  obtain⟨H4,hH4⟩:∃ x,hX (uS p4)=x:=⟨_,rfl⟩
  obtain⟨K2,hK2⟩:∃ x,kdB p2=x:=⟨_,rfl⟩
  obtain⟨K3,hK3⟩:∃ x,ptB p3=x:=⟨_,rfl⟩
  rw[hH4] at hHx
  obtain⟨E,hE⟩:∃ x,uE p4=x:=⟨_,rfl⟩
  rw[hE] at hU
  obtain⟨b1,h1⟩:∃ x,(E==0)=x:=⟨_,rfl⟩
  obtain⟨b2,h2⟩:∃ x,((uS p4).toList != [])=x:=⟨_,rfl⟩
  have h2':((uS p4).toList==[]) = !b2:=by rw[<- h2,bne,Bool.not_not]
  obtain⟨b3,h3⟩:∃ x,(H4.toList==p4.toList)=x:=⟨_,rfl⟩
  obtain⟨b4,h4'⟩:∃ x,(p0.toList==(rD fr).toList)=x:=⟨_,rfl⟩
  obtain⟨b5,h5'⟩:∃ x,(p1.toList==(rD (fr+(uS p4).size)).toList)=x:=⟨_,rfl⟩
  have hl:lnB uS uE hX p0 p1 p2 p3 p4 fr=(b1&&b2&&b3&&b4&&b5&&K2&&K3):=by
   unfold lnB
   rw[hE,hH4,hK2,hK3,h3,h4',h5',<- h1,<- h2]
   congr 6
   rw[bne,nempty]
   by_cases h:(uS p4).size=0
   ·simp[h]
   ·simp[h];omega
  have hB:Hid (O=if (b1&&b2&&b3&&b4&&b5&&K2&&K3)=true then some (uS p4) else none):=⟨by rw[<- hO,hl]⟩
  clear hl hH4 hE hO
  cases b1
  ·replace hB:Hid (O=none):=⟨by rw[hB.out];simp⟩
   go_enter Tryz.func7,Tryz.ntmps7
   go_wp2_with (first|(go_at_call 12;refine cS2.mono ?_;clear cS2;rintro _ w1 ⟨v,rfl,r1,j1⟩;obtain⟨g,cp,rfl,hg,hK⟩:=r1.five;obtain⟨k0,k1,k2,k3,k4⟩:=hK w1 (Below.refl _ _))|(go_at_call 13;refine(hU _).mono ?_;clear hU;rintro _ w2 ⟨rfl,j2⟩))
   obtain⟨p,pI,pB,pN,x0,x1,x2,x3,x4⟩:=cls5b hK
   clear k0 k1 k2 k3 k4
   have qF1:Hid (∀ W,p W->Calls Tryz.prog 14 #[.string (uS p4)] W fun e w'=>e = .returned (.string H4)/\p w'):=⟨fun W hW=>(hHx W).mono fun e w' h=>⟨h.1,pI _ ((pB _ hW).trans (h.2.mono (pB _ hW).size))⟩⟩
   have qF2:Hid (∀ W,p W->Calls Tryz.prog 15 #[.int .i64 (fr:Int)] W fun e w'=>e = .returned (.string (rD fr))/\p w'):=⟨fun W hW=>(itoaN fr (by omega) W (tb.t W (j1.trans ((pB _ hW).mono j1.size)))).mono fun e w' h=>⟨h.1,pI _ ((pB _ hW).trans (h.2.mono (pB _ hW).size))⟩⟩
   have qF3:Hid (∀ W,p W->Calls Tryz.prog 15 #[.int .i64 ((fr:Int)+((uS p4).size:Int))] W fun e w'=>e = .returned (.string (rD (fr+(uS p4).size)))/\p w'):=⟨fun W hW=>(itoaN (fr+(uS p4).size) (by omega) W (tb.t W (j1.trans ((pB _ hW).mono j1.size)))).mono fun e w' h=>⟨h.1,pI _ ((pB _ hW).trans (h.2.mono (pB _ hW).size))⟩⟩
   have qF4:Hid (∀ W,p W->Calls Tryz.prog 16 #[.string p2] W fun e w'=>e = .returned (.bool K2)/\p w'):=⟨fun W hW=>(isName_any p2 W (tb.n.below (j1.trans ((pB _ hW).mono j1.size)))).mono fun e w' h=>⟨by rw[h.1,hK2],by rw[h.2];exact hW⟩⟩
   have qF5:Hid (∀ W,p W->Calls Tryz.prog 17 #[.string p3] W fun e w'=>e = .returned (.bool K3)/\p w'):=⟨fun W hW=>(isPath_any p3 (by omega) W fun V hV=>tb.t V (j1.trans (((pB _ hW).trans (hV.mono (pB _ hW).size)).mono j1.size))).mono fun e w' h=>⟨by rw[h.1,hK3],pI _ ((pB _ hW).trans (h.2.mono (pB _ hW).size))⟩⟩
   have q0:p w2.drew:=pI _ j2.drew
   clear hK hK2 hK3 tb hHx
   refine wp_region_pp p [0,1,2,3,4,5,6,7,9,10,11,8,12,13,14,15,16,17,18,19,20,21,22,23,24,25,26,27,28,29,30,31,32,33,34,35,36,37,38,39,40,41,42,43,44,45] (by kernel_rfl) (by kernel_rfl) (fun _ _ d _ _ h=>by cases d<;>exact h) q0 ?_
   simp only[List.filterMap_cons,List.filterMap_nil,List.getElem?_cons_zero,List.getElem?_cons_succ]
   have hp:=q0
   generalize World.drew _=W2 at hp ⊢
   repeat (first|(refine lx_p1 entHexP qF1.out hp rfl (by rfl) ?_;clear hp;intro W hp;simp only[pts])|(refine lx_p1 entItoa qF2.out hp rfl (by rfl) ?_;clear hp;intro W hp;simp only[pts])|(refine lx_p1 entItoa qF3.out hp rfl (by rfl) ?_;clear hp;intro W hp;simp only[pts])|(refine lx_p1 entIsN qF4.out hp rfl (by rfl) ?_;clear hp;intro W hp;simp only[pts])|(refine lx_p1 entIsP qF5.out hp rfl (by rfl) ?_;clear hp;intro W hp;simp only[pts])|(refine lx_one rfl ?_;(first|go_big_quiet_skip|(go_big_quiet_want;go_big_quiet_op;go_big_quiet_on));refine wpQuiet_nil ?_)|(refine lx_skip (by rfl) ?_;simp only[pts]))
   refine lx_done ?_
   have hF:=j1.trans ((pB _ hp).mono j1.size)
   clear x0 x1 x2 x3 x4 pI pB pN q0 hp qF1 qF2 qF3 qF4 qF5
   go_wp2_with fail
   go_ret2
   exact⟨uS p4,by rw[hB.out];rfl,fun x hx=>(by rw[hB.out] at hx;simp at hx),hF⟩
  ·skip
   cases b2
   ·simp only[Bool.not_false] at h2'
    replace hB:Hid (O=none):=⟨by rw[hB.out];simp⟩
    go_enter Tryz.func7,Tryz.ntmps7
    go_wp2_with (first|(go_at_call 12;refine cS2.mono ?_;clear cS2;rintro _ w1 ⟨v,rfl,r1,j1⟩;obtain⟨g,cp,rfl,hg,hK⟩:=r1.five;obtain⟨k0,k1,k2,k3,k4⟩:=hK w1 (Below.refl _ _))|(go_at_call 13;refine(hU _).mono ?_;clear hU;rintro _ w2 ⟨rfl,j2⟩))
    obtain⟨p,pI,pB,pN,x0,x1,x2,x3,x4⟩:=cls5b hK
    clear k0 k1 k2 k3 k4
    have qF1:Hid (∀ W,p W->Calls Tryz.prog 14 #[.string (uS p4)] W fun e w'=>e = .returned (.string H4)/\p w'):=⟨fun W hW=>(hHx W).mono fun e w' h=>⟨h.1,pI _ ((pB _ hW).trans (h.2.mono (pB _ hW).size))⟩⟩
    have qF2:Hid (∀ W,p W->Calls Tryz.prog 15 #[.int .i64 (fr:Int)] W fun e w'=>e = .returned (.string (rD fr))/\p w'):=⟨fun W hW=>(itoaN fr (by omega) W (tb.t W (j1.trans ((pB _ hW).mono j1.size)))).mono fun e w' h=>⟨h.1,pI _ ((pB _ hW).trans (h.2.mono (pB _ hW).size))⟩⟩
    have qF3:Hid (∀ W,p W->Calls Tryz.prog 15 #[.int .i64 ((fr:Int)+((uS p4).size:Int))] W fun e w'=>e = .returned (.string (rD (fr+(uS p4).size)))/\p w'):=⟨fun W hW=>(itoaN (fr+(uS p4).size) (by omega) W (tb.t W (j1.trans ((pB _ hW).mono j1.size)))).mono fun e w' h=>⟨h.1,pI _ ((pB _ hW).trans (h.2.mono (pB _ hW).size))⟩⟩
    have qF4:Hid (∀ W,p W->Calls Tryz.prog 16 #[.string p2] W fun e w'=>e = .returned (.bool K2)/\p w'):=⟨fun W hW=>(isName_any p2 W (tb.n.below (j1.trans ((pB _ hW).mono j1.size)))).mono fun e w' h=>⟨by rw[h.1,hK2],by rw[h.2];exact hW⟩⟩
    have qF5:Hid (∀ W,p W->Calls Tryz.prog 17 #[.string p3] W fun e w'=>e = .returned (.bool K3)/\p w'):=⟨fun W hW=>(isPath_any p3 (by omega) W fun V hV=>tb.t V (j1.trans (((pB _ hW).trans (hV.mono (pB _ hW).size)).mono j1.size))).mono fun e w' h=>⟨by rw[h.1,hK3],pI _ ((pB _ hW).trans (h.2.mono (pB _ hW).size))⟩⟩
    have q0:p w2.drew:=pI _ j2.drew
    clear hK hK2 hK3 tb hHx
    refine wp_region_pp p [0,1,2,3,4,5,6,7,9,10,11,8,12,13,14,15,16,17,18,19,20,21,22,23,24,25,26,27,28,29,30,31,32,33,34,35,36,37,38,39,40,41,42,43,44,45] (by kernel_rfl) (by kernel_rfl) (fun _ _ d _ _ h=>by cases d<;>exact h) q0 ?_
    simp only[List.filterMap_cons,List.filterMap_nil,List.getElem?_cons_zero,List.getElem?_cons_succ]
    have hp:=q0
    generalize World.drew _=W2 at hp ⊢
    repeat (first|(refine lx_p1 entHexP qF1.out hp rfl (by rfl) ?_;clear hp;intro W hp;simp only[pts])|(refine lx_p1 entItoa qF2.out hp rfl (by rfl) ?_;clear hp;intro W hp;simp only[pts])|(refine lx_p1 entItoa qF3.out hp rfl (by rfl) ?_;clear hp;intro W hp;simp only[pts])|(refine lx_p1 entIsN qF4.out hp rfl (by rfl) ?_;clear hp;intro W hp;simp only[pts])|(refine lx_p1 entIsP qF5.out hp rfl (by rfl) ?_;clear hp;intro W hp;simp only[pts])|(refine lx_one rfl ?_;(first|go_big_quiet_skip|(go_big_quiet_want;go_big_quiet_op;go_big_quiet_on));refine wpQuiet_nil ?_)|(refine lx_skip (by rfl) ?_;simp only[pts]))
    refine lx_done ?_
    have hF:=j1.trans ((pB _ hp).mono j1.size)
    clear x0 x1 x2 x3 x4 pI pB pN q0 hp qF1 qF2 qF3 qF4 qF5
    go_wp2_with fail
    go_ret2
    exact⟨uS p4,by rw[hB.out];rfl,fun x hx=>(by rw[hB.out] at hx;simp at hx),hF⟩
   ·simp only[Bool.not_true] at h2'
    cases b3
    ·replace hB:Hid (O=none):=⟨by rw[hB.out];simp⟩
     go_enter Tryz.func7,Tryz.ntmps7
     go_wp2_with (first|(go_at_call 12;refine cS2.mono ?_;clear cS2;rintro _ w1 ⟨v,rfl,r1,j1⟩;obtain⟨g,cp,rfl,hg,hK⟩:=r1.five;obtain⟨k0,k1,k2,k3,k4⟩:=hK w1 (Below.refl _ _))|(go_at_call 13;refine(hU _).mono ?_;clear hU;rintro _ w2 ⟨rfl,j2⟩))
     obtain⟨p,pI,pB,pN,x0,x1,x2,x3,x4⟩:=cls5b hK
     clear k0 k1 k2 k3 k4
     have qF1:Hid (∀ W,p W->Calls Tryz.prog 14 #[.string (uS p4)] W fun e w'=>e = .returned (.string H4)/\p w'):=⟨fun W hW=>(hHx W).mono fun e w' h=>⟨h.1,pI _ ((pB _ hW).trans (h.2.mono (pB _ hW).size))⟩⟩
     have qF2:Hid (∀ W,p W->Calls Tryz.prog 15 #[.int .i64 (fr:Int)] W fun e w'=>e = .returned (.string (rD fr))/\p w'):=⟨fun W hW=>(itoaN fr (by omega) W (tb.t W (j1.trans ((pB _ hW).mono j1.size)))).mono fun e w' h=>⟨h.1,pI _ ((pB _ hW).trans (h.2.mono (pB _ hW).size))⟩⟩
     have qF3:Hid (∀ W,p W->Calls Tryz.prog 15 #[.int .i64 ((fr:Int)+((uS p4).size:Int))] W fun e w'=>e = .returned (.string (rD (fr+(uS p4).size)))/\p w'):=⟨fun W hW=>(itoaN (fr+(uS p4).size) (by omega) W (tb.t W (j1.trans ((pB _ hW).mono j1.size)))).mono fun e w' h=>⟨h.1,pI _ ((pB _ hW).trans (h.2.mono (pB _ hW).size))⟩⟩
     have qF4:Hid (∀ W,p W->Calls Tryz.prog 16 #[.string p2] W fun e w'=>e = .returned (.bool K2)/\p w'):=⟨fun W hW=>(isName_any p2 W (tb.n.below (j1.trans ((pB _ hW).mono j1.size)))).mono fun e w' h=>⟨by rw[h.1,hK2],by rw[h.2];exact hW⟩⟩
     have qF5:Hid (∀ W,p W->Calls Tryz.prog 17 #[.string p3] W fun e w'=>e = .returned (.bool K3)/\p w'):=⟨fun W hW=>(isPath_any p3 (by omega) W fun V hV=>tb.t V (j1.trans (((pB _ hW).trans (hV.mono (pB _ hW).size)).mono j1.size))).mono fun e w' h=>⟨by rw[h.1,hK3],pI _ ((pB _ hW).trans (h.2.mono (pB _ hW).size))⟩⟩
     have q0:p w2.drew:=pI _ j2.drew
     clear hK hK2 hK3 tb hHx
     refine wp_region_pp p [0,1,2,3,4,5,6,7,9,10,11,8,12,13,14,15,16,17,18,19,20,21,22,23,24,25,26,27,28,29,30,31,32,33,34,35,36,37,38,39,40,41,42,43,44,45] (by kernel_rfl) (by kernel_rfl) (fun _ _ d _ _ h=>by cases d<;>exact h) q0 ?_
     simp only[List.filterMap_cons,List.filterMap_nil,List.getElem?_cons_zero,List.getElem?_cons_succ]
     have hp:=q0
     generalize World.drew _=W2 at hp ⊢
     repeat (first|(refine lx_p1 entHexP qF1.out hp rfl (by rfl) ?_;clear hp;intro W hp;simp only[pts])|(refine lx_p1 entItoa qF2.out hp rfl (by rfl) ?_;clear hp;intro W hp;simp only[pts])|(refine lx_p1 entItoa qF3.out hp rfl (by rfl) ?_;clear hp;intro W hp;simp only[pts])|(refine lx_p1 entIsN qF4.out hp rfl (by rfl) ?_;clear hp;intro W hp;simp only[pts])|(refine lx_p1 entIsP qF5.out hp rfl (by rfl) ?_;clear hp;intro W hp;simp only[pts])|(refine lx_one rfl ?_;(first|go_big_quiet_skip|(go_big_quiet_want;go_big_quiet_op;go_big_quiet_on));refine wpQuiet_nil ?_)|(refine lx_skip (by rfl) ?_;simp only[pts]))
     refine lx_done ?_
     have hF:=j1.trans ((pB _ hp).mono j1.size)
     clear x0 x1 x2 x3 x4 pI pB pN q0 hp qF1 qF2 qF3 qF4 qF5
     go_wp2_with fail
     go_ret2
     exact⟨uS p4,by rw[hB.out];rfl,fun x hx=>(by rw[hB.out] at hx;simp at hx),hF⟩
    ·skip
     cases b4
     ·replace hB:Hid (O=none):=⟨by rw[hB.out];simp⟩
      go_enter Tryz.func7,Tryz.ntmps7
      go_wp2_with (first|(go_at_call 12;refine cS2.mono ?_;clear cS2;rintro _ w1 ⟨v,rfl,r1,j1⟩;obtain⟨g,cp,rfl,hg,hK⟩:=r1.five;obtain⟨k0,k1,k2,k3,k4⟩:=hK w1 (Below.refl _ _))|(go_at_call 13;refine(hU _).mono ?_;clear hU;rintro _ w2 ⟨rfl,j2⟩))
      obtain⟨p,pI,pB,pN,x0,x1,x2,x3,x4⟩:=cls5b hK
      clear k0 k1 k2 k3 k4
      have qF1:Hid (∀ W,p W->Calls Tryz.prog 14 #[.string (uS p4)] W fun e w'=>e = .returned (.string H4)/\p w'):=⟨fun W hW=>(hHx W).mono fun e w' h=>⟨h.1,pI _ ((pB _ hW).trans (h.2.mono (pB _ hW).size))⟩⟩
      have qF2:Hid (∀ W,p W->Calls Tryz.prog 15 #[.int .i64 (fr:Int)] W fun e w'=>e = .returned (.string (rD fr))/\p w'):=⟨fun W hW=>(itoaN fr (by omega) W (tb.t W (j1.trans ((pB _ hW).mono j1.size)))).mono fun e w' h=>⟨h.1,pI _ ((pB _ hW).trans (h.2.mono (pB _ hW).size))⟩⟩
      have qF3:Hid (∀ W,p W->Calls Tryz.prog 15 #[.int .i64 ((fr:Int)+((uS p4).size:Int))] W fun e w'=>e = .returned (.string (rD (fr+(uS p4).size)))/\p w'):=⟨fun W hW=>(itoaN (fr+(uS p4).size) (by omega) W (tb.t W (j1.trans ((pB _ hW).mono j1.size)))).mono fun e w' h=>⟨h.1,pI _ ((pB _ hW).trans (h.2.mono (pB _ hW).size))⟩⟩
      have qF4:Hid (∀ W,p W->Calls Tryz.prog 16 #[.string p2] W fun e w'=>e = .returned (.bool K2)/\p w'):=⟨fun W hW=>(isName_any p2 W (tb.n.below (j1.trans ((pB _ hW).mono j1.size)))).mono fun e w' h=>⟨by rw[h.1,hK2],by rw[h.2];exact hW⟩⟩
      have qF5:Hid (∀ W,p W->Calls Tryz.prog 17 #[.string p3] W fun e w'=>e = .returned (.bool K3)/\p w'):=⟨fun W hW=>(isPath_any p3 (by omega) W fun V hV=>tb.t V (j1.trans (((pB _ hW).trans (hV.mono (pB _ hW).size)).mono j1.size))).mono fun e w' h=>⟨by rw[h.1,hK3],pI _ ((pB _ hW).trans (h.2.mono (pB _ hW).size))⟩⟩
      have q0:p w2.drew:=pI _ j2.drew
      clear hK hK2 hK3 tb hHx
      refine wp_region_pp p [0,1,2,3,4,5,6,7,9,10,11,8,12,13,14,15,16,17,18,19,20,21,22,23,24,25,26,27,28,29,30,31,32,33,34,35,36,37,38,39,40,41,42,43,44,45] (by kernel_rfl) (by kernel_rfl) (fun _ _ d _ _ h=>by cases d<;>exact h) q0 ?_
      simp only[List.filterMap_cons,List.filterMap_nil,List.getElem?_cons_zero,List.getElem?_cons_succ]
      have hp:=q0
      generalize World.drew _=W2 at hp ⊢
      repeat (first|(refine lx_p1 entHexP qF1.out hp rfl (by rfl) ?_;clear hp;intro W hp;simp only[pts])|(refine lx_p1 entItoa qF2.out hp rfl (by rfl) ?_;clear hp;intro W hp;simp only[pts])|(refine lx_p1 entItoa qF3.out hp rfl (by rfl) ?_;clear hp;intro W hp;simp only[pts])|(refine lx_p1 entIsN qF4.out hp rfl (by rfl) ?_;clear hp;intro W hp;simp only[pts])|(refine lx_p1 entIsP qF5.out hp rfl (by rfl) ?_;clear hp;intro W hp;simp only[pts])|(refine lx_one rfl ?_;(first|go_big_quiet_skip|(go_big_quiet_want;go_big_quiet_op;go_big_quiet_on));refine wpQuiet_nil ?_)|(refine lx_skip (by rfl) ?_;simp only[pts]))
      refine lx_done ?_
      have hF:=j1.trans ((pB _ hp).mono j1.size)
      clear x0 x1 x2 x3 x4 pI pB pN q0 hp qF1 qF2 qF3 qF4 qF5
      go_wp2_with fail
      go_ret2
      exact⟨uS p4,by rw[hB.out];rfl,fun x hx=>(by rw[hB.out] at hx;simp at hx),hF⟩
     ·skip
      cases b5
      ·replace hB:Hid (O=none):=⟨by rw[hB.out];simp⟩
       go_enter Tryz.func7,Tryz.ntmps7
       go_wp2_with (first|(go_at_call 12;refine cS2.mono ?_;clear cS2;rintro _ w1 ⟨v,rfl,r1,j1⟩;obtain⟨g,cp,rfl,hg,hK⟩:=r1.five;obtain⟨k0,k1,k2,k3,k4⟩:=hK w1 (Below.refl _ _))|(go_at_call 13;refine(hU _).mono ?_;clear hU;rintro _ w2 ⟨rfl,j2⟩))
       obtain⟨p,pI,pB,pN,x0,x1,x2,x3,x4⟩:=cls5b hK
       clear k0 k1 k2 k3 k4
       have qF1:Hid (∀ W,p W->Calls Tryz.prog 14 #[.string (uS p4)] W fun e w'=>e = .returned (.string H4)/\p w'):=⟨fun W hW=>(hHx W).mono fun e w' h=>⟨h.1,pI _ ((pB _ hW).trans (h.2.mono (pB _ hW).size))⟩⟩
       have qF2:Hid (∀ W,p W->Calls Tryz.prog 15 #[.int .i64 (fr:Int)] W fun e w'=>e = .returned (.string (rD fr))/\p w'):=⟨fun W hW=>(itoaN fr (by omega) W (tb.t W (j1.trans ((pB _ hW).mono j1.size)))).mono fun e w' h=>⟨h.1,pI _ ((pB _ hW).trans (h.2.mono (pB _ hW).size))⟩⟩
       have qF3:Hid (∀ W,p W->Calls Tryz.prog 15 #[.int .i64 ((fr:Int)+((uS p4).size:Int))] W fun e w'=>e = .returned (.string (rD (fr+(uS p4).size)))/\p w'):=⟨fun W hW=>(itoaN (fr+(uS p4).size) (by omega) W (tb.t W (j1.trans ((pB _ hW).mono j1.size)))).mono fun e w' h=>⟨h.1,pI _ ((pB _ hW).trans (h.2.mono (pB _ hW).size))⟩⟩
       have qF4:Hid (∀ W,p W->Calls Tryz.prog 16 #[.string p2] W fun e w'=>e = .returned (.bool K2)/\p w'):=⟨fun W hW=>(isName_any p2 W (tb.n.below (j1.trans ((pB _ hW).mono j1.size)))).mono fun e w' h=>⟨by rw[h.1,hK2],by rw[h.2];exact hW⟩⟩
       have qF5:Hid (∀ W,p W->Calls Tryz.prog 17 #[.string p3] W fun e w'=>e = .returned (.bool K3)/\p w'):=⟨fun W hW=>(isPath_any p3 (by omega) W fun V hV=>tb.t V (j1.trans (((pB _ hW).trans (hV.mono (pB _ hW).size)).mono j1.size))).mono fun e w' h=>⟨by rw[h.1,hK3],pI _ ((pB _ hW).trans (h.2.mono (pB _ hW).size))⟩⟩
       have q0:p w2.drew:=pI _ j2.drew
       clear hK hK2 hK3 tb hHx
       refine wp_region_pp p [0,1,2,3,4,5,6,7,9,10,11,8,12,13,14,15,16,17,18,19,20,21,22,23,24,25,26,27,28,29,30,31,32,33,34,35,36,37,38,39,40,41,42,43,44,45] (by kernel_rfl) (by kernel_rfl) (fun _ _ d _ _ h=>by cases d<;>exact h) q0 ?_
       simp only[List.filterMap_cons,List.filterMap_nil,List.getElem?_cons_zero,List.getElem?_cons_succ]
       have hp:=q0
       generalize World.drew _=W2 at hp ⊢
       repeat (first|(refine lx_p1 entHexP qF1.out hp rfl (by rfl) ?_;clear hp;intro W hp;simp only[pts])|(refine lx_p1 entItoa qF2.out hp rfl (by rfl) ?_;clear hp;intro W hp;simp only[pts])|(refine lx_p1 entItoa qF3.out hp rfl (by rfl) ?_;clear hp;intro W hp;simp only[pts])|(refine lx_p1 entIsN qF4.out hp rfl (by rfl) ?_;clear hp;intro W hp;simp only[pts])|(refine lx_p1 entIsP qF5.out hp rfl (by rfl) ?_;clear hp;intro W hp;simp only[pts])|(refine lx_one rfl ?_;(first|go_big_quiet_skip|(go_big_quiet_want;go_big_quiet_op;go_big_quiet_on));refine wpQuiet_nil ?_)|(refine lx_skip (by rfl) ?_;simp only[pts]))
       refine lx_done ?_
       have hF:=j1.trans ((pB _ hp).mono j1.size)
       clear x0 x1 x2 x3 x4 pI pB pN q0 hp qF1 qF2 qF3 qF4 qF5
       go_wp2_with fail
       go_ret2
       exact⟨uS p4,by rw[hB.out];rfl,fun x hx=>(by rw[hB.out] at hx;simp at hx),hF⟩
      ·skip
       cases K2
       ·replace hB:Hid (O=none):=⟨by rw[hB.out];simp⟩
        go_enter Tryz.func7,Tryz.ntmps7
        go_wp2_with (first|(go_at_call 12;refine cS2.mono ?_;clear cS2;rintro _ w1 ⟨v,rfl,r1,j1⟩;obtain⟨g,cp,rfl,hg,hK⟩:=r1.five;obtain⟨k0,k1,k2,k3,k4⟩:=hK w1 (Below.refl _ _))|(go_at_call 13;refine(hU _).mono ?_;clear hU;rintro _ w2 ⟨rfl,j2⟩))
        obtain⟨p,pI,pB,pN,x0,x1,x2,x3,x4⟩:=cls5b hK
        clear k0 k1 k2 k3 k4
        have qF1:Hid (∀ W,p W->Calls Tryz.prog 14 #[.string (uS p4)] W fun e w'=>e = .returned (.string H4)/\p w'):=⟨fun W hW=>(hHx W).mono fun e w' h=>⟨h.1,pI _ ((pB _ hW).trans (h.2.mono (pB _ hW).size))⟩⟩
        have qF2:Hid (∀ W,p W->Calls Tryz.prog 15 #[.int .i64 (fr:Int)] W fun e w'=>e = .returned (.string (rD fr))/\p w'):=⟨fun W hW=>(itoaN fr (by omega) W (tb.t W (j1.trans ((pB _ hW).mono j1.size)))).mono fun e w' h=>⟨h.1,pI _ ((pB _ hW).trans (h.2.mono (pB _ hW).size))⟩⟩
        have qF3:Hid (∀ W,p W->Calls Tryz.prog 15 #[.int .i64 ((fr:Int)+((uS p4).size:Int))] W fun e w'=>e = .returned (.string (rD (fr+(uS p4).size)))/\p w'):=⟨fun W hW=>(itoaN (fr+(uS p4).size) (by omega) W (tb.t W (j1.trans ((pB _ hW).mono j1.size)))).mono fun e w' h=>⟨h.1,pI _ ((pB _ hW).trans (h.2.mono (pB _ hW).size))⟩⟩
        have qF4:Hid (∀ W,p W->Calls Tryz.prog 16 #[.string p2] W fun e w'=>e = .returned (.bool false)/\p w'):=⟨fun W hW=>(isName_any p2 W (tb.n.below (j1.trans ((pB _ hW).mono j1.size)))).mono fun e w' h=>⟨by rw[h.1,hK2],by rw[h.2];exact hW⟩⟩
        have qF5:Hid (∀ W,p W->Calls Tryz.prog 17 #[.string p3] W fun e w'=>e = .returned (.bool K3)/\p w'):=⟨fun W hW=>(isPath_any p3 (by omega) W fun V hV=>tb.t V (j1.trans (((pB _ hW).trans (hV.mono (pB _ hW).size)).mono j1.size))).mono fun e w' h=>⟨by rw[h.1,hK3],pI _ ((pB _ hW).trans (h.2.mono (pB _ hW).size))⟩⟩
        have q0:p w2.drew:=pI _ j2.drew
        clear hK hK2 hK3 tb hHx
        refine wp_region_pp p [0,1,2,3,4,5,6,7,9,10,11,8,12,13,14,15,16,17,18,19,20,21,22,23,24,25,26,27,28,29,30,31,32,33,34,35,36,37,38,39,40,41,42,43,44,45] (by kernel_rfl) (by kernel_rfl) (fun _ _ d _ _ h=>by cases d<;>exact h) q0 ?_
        simp only[List.filterMap_cons,List.filterMap_nil,List.getElem?_cons_zero,List.getElem?_cons_succ]
        have hp:=q0
        generalize World.drew _=W2 at hp ⊢
        repeat (first|(refine lx_p1 entHexP qF1.out hp rfl (by rfl) ?_;clear hp;intro W hp;simp only[pts])|(refine lx_p1 entItoa qF2.out hp rfl (by rfl) ?_;clear hp;intro W hp;simp only[pts])|(refine lx_p1 entItoa qF3.out hp rfl (by rfl) ?_;clear hp;intro W hp;simp only[pts])|(refine lx_p1 entIsN qF4.out hp rfl (by rfl) ?_;clear hp;intro W hp;simp only[pts])|(refine lx_p1 entIsP qF5.out hp rfl (by rfl) ?_;clear hp;intro W hp;simp only[pts])|(refine lx_one rfl ?_;(first|go_big_quiet_skip|(go_big_quiet_want;go_big_quiet_op;go_big_quiet_on));refine wpQuiet_nil ?_)|(refine lx_skip (by rfl) ?_;simp only[pts]))
        refine lx_done ?_
        have hF:=j1.trans ((pB _ hp).mono j1.size)
        clear x0 x1 x2 x3 x4 pI pB pN q0 hp qF1 qF2 qF3 qF4 qF5
        go_wp2_with fail
        go_ret2
        exact⟨uS p4,by rw[hB.out];rfl,fun x hx=>(by rw[hB.out] at hx;simp at hx),hF⟩
       ·skip
        cases K3
        ·replace hB:Hid (O=none):=⟨by rw[hB.out];simp⟩
         go_enter Tryz.func7,Tryz.ntmps7
         go_wp2_with (first|(go_at_call 12;refine cS2.mono ?_;clear cS2;rintro _ w1 ⟨v,rfl,r1,j1⟩;obtain⟨g,cp,rfl,hg,hK⟩:=r1.five;obtain⟨k0,k1,k2,k3,k4⟩:=hK w1 (Below.refl _ _))|(go_at_call 13;refine(hU _).mono ?_;clear hU;rintro _ w2 ⟨rfl,j2⟩))
         obtain⟨p,pI,pB,pN,x0,x1,x2,x3,x4⟩:=cls5b hK
         clear k0 k1 k2 k3 k4
         have qF1:Hid (∀ W,p W->Calls Tryz.prog 14 #[.string (uS p4)] W fun e w'=>e = .returned (.string H4)/\p w'):=⟨fun W hW=>(hHx W).mono fun e w' h=>⟨h.1,pI _ ((pB _ hW).trans (h.2.mono (pB _ hW).size))⟩⟩
         have qF2:Hid (∀ W,p W->Calls Tryz.prog 15 #[.int .i64 (fr:Int)] W fun e w'=>e = .returned (.string (rD fr))/\p w'):=⟨fun W hW=>(itoaN fr (by omega) W (tb.t W (j1.trans ((pB _ hW).mono j1.size)))).mono fun e w' h=>⟨h.1,pI _ ((pB _ hW).trans (h.2.mono (pB _ hW).size))⟩⟩
         have qF3:Hid (∀ W,p W->Calls Tryz.prog 15 #[.int .i64 ((fr:Int)+((uS p4).size:Int))] W fun e w'=>e = .returned (.string (rD (fr+(uS p4).size)))/\p w'):=⟨fun W hW=>(itoaN (fr+(uS p4).size) (by omega) W (tb.t W (j1.trans ((pB _ hW).mono j1.size)))).mono fun e w' h=>⟨h.1,pI _ ((pB _ hW).trans (h.2.mono (pB _ hW).size))⟩⟩
         have qF4:Hid (∀ W,p W->Calls Tryz.prog 16 #[.string p2] W fun e w'=>e = .returned (.bool true)/\p w'):=⟨fun W hW=>(isName_any p2 W (tb.n.below (j1.trans ((pB _ hW).mono j1.size)))).mono fun e w' h=>⟨by rw[h.1,hK2],by rw[h.2];exact hW⟩⟩
         have qF5:Hid (∀ W,p W->Calls Tryz.prog 17 #[.string p3] W fun e w'=>e = .returned (.bool false)/\p w'):=⟨fun W hW=>(isPath_any p3 (by omega) W fun V hV=>tb.t V (j1.trans (((pB _ hW).trans (hV.mono (pB _ hW).size)).mono j1.size))).mono fun e w' h=>⟨by rw[h.1,hK3],pI _ ((pB _ hW).trans (h.2.mono (pB _ hW).size))⟩⟩
         have q0:p w2.drew:=pI _ j2.drew
         clear hK hK2 hK3 tb hHx
         refine wp_region_pp p [0,1,2,3,4,5,6,7,9,10,11,8,12,13,14,15,16,17,18,19,20,21,22,23,24,25,26,27,28,29,30,31,32,33,34,35,36,37,38,39,40,41,42,43,44,45] (by kernel_rfl) (by kernel_rfl) (fun _ _ d _ _ h=>by cases d<;>exact h) q0 ?_
         simp only[List.filterMap_cons,List.filterMap_nil,List.getElem?_cons_zero,List.getElem?_cons_succ]
         have hp:=q0
         generalize World.drew _=W2 at hp ⊢
         repeat (first|(refine lx_p1 entHexP qF1.out hp rfl (by rfl) ?_;clear hp;intro W hp;simp only[pts])|(refine lx_p1 entItoa qF2.out hp rfl (by rfl) ?_;clear hp;intro W hp;simp only[pts])|(refine lx_p1 entItoa qF3.out hp rfl (by rfl) ?_;clear hp;intro W hp;simp only[pts])|(refine lx_p1 entIsN qF4.out hp rfl (by rfl) ?_;clear hp;intro W hp;simp only[pts])|(refine lx_p1 entIsP qF5.out hp rfl (by rfl) ?_;clear hp;intro W hp;simp only[pts])|(refine lx_one rfl ?_;(first|go_big_quiet_skip|(go_big_quiet_want;go_big_quiet_op;go_big_quiet_on));refine wpQuiet_nil ?_)|(refine lx_skip (by rfl) ?_;simp only[pts]))
         refine lx_done ?_
         have hF:=j1.trans ((pB _ hp).mono j1.size)
         clear x0 x1 x2 x3 x4 pI pB pN q0 hp qF1 qF2 qF3 qF4 qF5
         go_wp2_with fail
         go_ret2
         exact⟨uS p4,by rw[hB.out];rfl,fun x hx=>(by rw[hB.out] at hx;simp at hx),hF⟩
        ·replace hB:Hid (O=some (uS p4)):=⟨by rw[hB.out];simp⟩
         go_enter Tryz.func7,Tryz.ntmps7
         go_wp2_with (first|(go_at_call 12;refine cS2.mono ?_;clear cS2;rintro _ w1 ⟨v,rfl,r1,j1⟩;obtain⟨g,cp,rfl,hg,hK⟩:=r1.five;obtain⟨k0,k1,k2,k3,k4⟩:=hK w1 (Below.refl _ _))|(go_at_call 13;refine(hU _).mono ?_;clear hU;rintro _ w2 ⟨rfl,j2⟩))
         obtain⟨p,pI,pB,pN,x0,x1,x2,x3,x4⟩:=cls5b hK
         clear k0 k1 k2 k3 k4
         have qF1:Hid (∀ W,p W->Calls Tryz.prog 14 #[.string (uS p4)] W fun e w'=>e = .returned (.string H4)/\p w'):=⟨fun W hW=>(hHx W).mono fun e w' h=>⟨h.1,pI _ ((pB _ hW).trans (h.2.mono (pB _ hW).size))⟩⟩
         have qF2:Hid (∀ W,p W->Calls Tryz.prog 15 #[.int .i64 (fr:Int)] W fun e w'=>e = .returned (.string (rD fr))/\p w'):=⟨fun W hW=>(itoaN fr (by omega) W (tb.t W (j1.trans ((pB _ hW).mono j1.size)))).mono fun e w' h=>⟨h.1,pI _ ((pB _ hW).trans (h.2.mono (pB _ hW).size))⟩⟩
         have qF3:Hid (∀ W,p W->Calls Tryz.prog 15 #[.int .i64 ((fr:Int)+((uS p4).size:Int))] W fun e w'=>e = .returned (.string (rD (fr+(uS p4).size)))/\p w'):=⟨fun W hW=>(itoaN (fr+(uS p4).size) (by omega) W (tb.t W (j1.trans ((pB _ hW).mono j1.size)))).mono fun e w' h=>⟨h.1,pI _ ((pB _ hW).trans (h.2.mono (pB _ hW).size))⟩⟩
         have qF4:Hid (∀ W,p W->Calls Tryz.prog 16 #[.string p2] W fun e w'=>e = .returned (.bool true)/\p w'):=⟨fun W hW=>(isName_any p2 W (tb.n.below (j1.trans ((pB _ hW).mono j1.size)))).mono fun e w' h=>⟨by rw[h.1,hK2],by rw[h.2];exact hW⟩⟩
         have qF5:Hid (∀ W,p W->Calls Tryz.prog 17 #[.string p3] W fun e w'=>e = .returned (.bool true)/\p w'):=⟨fun W hW=>(isPath_any p3 (by omega) W fun V hV=>tb.t V (j1.trans (((pB _ hW).trans (hV.mono (pB _ hW).size)).mono j1.size))).mono fun e w' h=>⟨by rw[h.1,hK3],pI _ ((pB _ hW).trans (h.2.mono (pB _ hW).size))⟩⟩
         have q0:p w2.drew:=pI _ j2.drew
         clear hK hK2 hK3 tb hHx
         refine wp_region_pp p [0,1,2,3,4,5,6,7,9,10,11,8,12,13,14,15,16,17,18,19,20,21,22,23,24,25,26,27,28,29,30,31,32,33,34,35,36,37,38,39,40,41,42,43,44,45] (by kernel_rfl) (by kernel_rfl) (fun _ _ d _ _ h=>by cases d<;>exact h) q0 ?_
         simp only[List.filterMap_cons,List.filterMap_nil,List.getElem?_cons_zero,List.getElem?_cons_succ]
         have hp:=q0
         generalize World.drew _=W2 at hp ⊢
         repeat (first|(refine lx_p1 entHexP qF1.out hp rfl (by rfl) ?_;clear hp;intro W hp;simp only[pts])|(refine lx_p1 entItoa qF2.out hp rfl (by rfl) ?_;clear hp;intro W hp;simp only[pts])|(refine lx_p1 entItoa qF3.out hp rfl (by rfl) ?_;clear hp;intro W hp;simp only[pts])|(refine lx_p1 entIsN qF4.out hp rfl (by rfl) ?_;clear hp;intro W hp;simp only[pts])|(refine lx_p1 entIsP qF5.out hp rfl (by rfl) ?_;clear hp;intro W hp;simp only[pts])|(refine lx_one rfl ?_;(first|go_big_quiet_skip|(go_big_quiet_want;go_big_quiet_op;go_big_quiet_on));refine wpQuiet_nil ?_)|(refine lx_skip (by rfl) ?_;simp only[pts]))
         refine lx_done ?_
         have hF:=j1.trans ((pB _ hp).mono j1.size)
         clear x0 x1 x2 x3 x4 pI pB pN q0 hp qF1 qF2 qF3 qF4 qF5
         go_wp2_with fail
         go_ret2
         exact⟨uS p4,by rw[hB.out];rfl,fun x hx=>(by rw[hB.out] at hx;simpa using hx),hF⟩
 ·have e0:lnO uS uE hX s fr=none:=by
   unfold lnO
   split
   ·rename_i hc
    rw[hc] at h5
    exact absurd rfl h5
   ·rfl
  rw[e0]
  have cS2:Calls Tryz.prog 12 #[.string s,.string spS,.int .i64 6] w fun e w'=>∃ p n c,e = .returned (.slice p n c)/\((n:Int)==5)=false/\Below w.heap.size w w':=cS.mono fun e w' h=>by
   obtain⟨v,D,h1,h2,h3,h4⟩:=h
   obtain⟨pp,cp,rfl,-,-⟩:=h2.shape
   rcases h3 with ⟨h6,h3⟩|⟨h3,-⟩
   ·rw[h3] at h6
    exact absurd h6 h5
   ·exact⟨_,_,_,h1,beq_eq_false_iff_ne.2 (by omega),h4⟩
  clear cS tb cU cH hu hsz h5 e0
  go_enter Tryz.func7,Tryz.ntmps7
  go_wp2_with (go_at_call 12;refine cS2.mono ?_;clear cS2;rintro _ w1 ⟨pp,n,cp,rfl,hn,j1⟩)
  all_goals
   go_ret2
   exact⟨_,rfl,fun x hx=>(by cases hx),j1⟩
end Go.Proofs.YtekpgklllfobfaaGreatDoor
