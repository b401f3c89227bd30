import Derived.Test.YtkcjdncchoohoaaGreatDoorK32
namespace Go.Proofs.YtkcjdncchoohoaaGreatDoor
set_option maxRecDepth 1000000
set_option maxHeartbeats 16000000
open Go.ChangeShapes Go.WideShapes Go.ChangeAt Go.RowKit Go.Shelf Go.Maps
theorem below_gr {W W':World} (h:Below W.heap.size W W'):W.grownBy W' none:=⟨h.os,h.tape,h.output,h.size,fun k hk _=>h.block k hk⟩
def VM (D:DataW Unit) (L:List Nat) (n:Nat):Prop:=∀ x:Int,Maps.has D (.int .i64 x)=true↔∃ c∈L,x=(c:Int)/\c<=n
theorem VM.start (n:Nat):VM (.map []) [] n:=fun x=>by simp[Maps.has]
theorem VM.put {D:DataW Unit} {L:List Nat} {n:Nat} (h:VM D L n) (hD:IsMap D) {c:Nat} (hc:c<=n) (d:DataW Unit):VM (D.put (.int .i64 (c:Int)) d) (L++[c]) n:=fun x=>by
 by_cases e:x=(c:Int)
 ·subst e
  rw[has_put_same hD (show WideAt.IsKeyLit (Lit.int .i64 (c:Int)) from trivial)]
  simp
  omega
 ·rw[has_put_other (fun h=>e (by injection h)),h x]
  constructor
  ·rintro⟨a,h1,h2,h3⟩
   exact⟨a,List.mem_append_left _ h1,h2,h3⟩
  ·rintro⟨a,h1,h2,h3⟩
   rcases List.mem_append.1 h1 with h1|h1
   ·exact⟨a,h1,h2,h3⟩
   ·obtain rfl:=List.mem_singleton.1 h1
    exact absurd h2 e
theorem VM.skip {D:DataW Unit} {L:List Nat} {n:Nat} (h:VM D L n) {c:Nat} (hc:¬ c<=n):VM D (L++[c]) n:=fun x=>by
 rw[h x]
 constructor
 ·rintro⟨a,h1,h2,h3⟩
  exact⟨a,List.mem_append_left _ h1,h2,h3⟩
 ·rintro⟨a,h1,h2,h3⟩
  rcases List.mem_append.1 h1 with h1|h1
  ·exact⟨a,h1,h2,h3⟩
  ·obtain rfl:=List.mem_singleton.1 h1
   exact absurd h3 hc
def ColN (D:DataW Unit) (left:Lit->Bool) (ss:List Nat):Prop:=ss.Nodup/\∀ c:Nat,c∈ss↔Maps.has D (.int .i64 (c:Int))=true/\left (.int .i64 (c:Int))=false
theorem ColN.start (D:DataW Unit):ColN D (Maps.has D) []:=⟨List.nodup_nil,fun c=>by cases Maps.has D (.int .i64 (c:Int))<;>simp⟩
theorem ColN.step {D:DataW Unit} {left:Lit->Bool} {ss:List Nat} (h:ColN D left ss) {c:Nat} (hh:Maps.has D (.int .i64 (c:Int))=true) (hl:left (.int .i64 (c:Int))=true):ColN D (fun z=>left z && !z.sameKey (.int .i64 (c:Int))) (ss++[c]):=by
 have hnew:c∉ss:=fun hx=>by have:=((h.2 c).1 hx).2;rw[hl] at this;cases this
 refine⟨List.nodup_append.2 ⟨h.1,by simp,fun a ha b hb=>by simp at hb;subst hb;exact fun e=>hnew (e▸ha)⟩,fun y=>?_⟩
 by_cases hy:y=c
 ·subst hy
  simp[hh,Lit.sameKey]
 ·have e:Lit.sameKey (.int .i64 (y:Int)) (.int .i64 (c:Int))=false:=by
   simp[Lit.sameKey]
   omega
  rw[List.mem_append,h.2 y]
  simp[hy,e]
theorem versions_any (f:Fm) (pp:Option Addr) (cp:Nat) (w:World) (hz:chkZ f=none) (tl:TkL w pp w.heap.size f.toks) (hlm:f.toks.length*192<=140737488351232) :
  Calls Tryz.prog 24 #[fmV f pp cp] w fun e w'=>∃ v,e = .returned v/\NRow w' w.heap.size v (verL f)/\Below w.heap.size w w':=by
 have hb:=bel1 w (fmO f pp cp)
 have H1:=heap_al w (fmO f pp cp)
 have hs1:(w.alloc (fmO f pp cp)).heap.size=w.heap.size+1:=World.size_alloc _ _
 generalize hW:w.alloc (fmO f pp cp)=W1 at hb H1 hs1
 simp only[fmO] at hW
 obtain⟨W2,hmk,hown0,hb2,hs2⟩:∃ W2,(Instr.makeMap 75 none).run Tryz.prog W1 = .ok (.map (some W1.heap.size)) W2/\W2.ownsMap Tryz.prog 3 (plainElem (H:=Unit) Tryz.prog 3) W1.heap.size 0 (.map [])/\Below W1.heap.size W1 W2/\W2.heap.size=W1.heap.size+1:=⟨_,run_makeMap _ _,World.ownsMap_made _ _ _ _,bel1 _ _,World.size_alloc _ _⟩
 have HB:=hb.trans (hb2.mono hb.size)
 have H2:W2.heap[w.heap.size]?=some (fmO f pp cp):=(hb2.block _ (by omega)).trans H1
 have x12:W2.cell? ⟨w.heap.size,12,none⟩=some (.slice pp f.toks.length cp):=cell_at H2 12
 have cC:=comings_any f pp cp W2 hz ((tl.below HB).mono HB.size) hlm
 obtain⟨hv0,hv1⟩:=head_ver hz
 obtain⟨nv,hn⟩:∃ n:Nat,f.ver=n:=⟨f.ver.toNat,by omega⟩
 obtain⟨vI,hI⟩:∃ vI,f.ver=vI:=⟨_,rfl⟩
 have hvI:Hid (vI=(nv:Int)):=⟨by omega⟩
 have hnv:Hid (nv<=65534):=⟨by omega⟩
 have HV:Hid (∀ ks:List Nat,ks.Nodup->(∀ c,c∈ks↔c∈camZ f/\c<=nv)->((ks.map fun n:Nat=>(n:Int)).mergeSort fun x y=>decide (x<=y))=(verL f).map fun n:Nat=>(n:Int)):=⟨fun ks h1 h2=>ver_sort hv0 (List.Pairwise.map _ (fun a b h=>by omega) h1) fun x=>by
  simp only[List.mem_map]
  constructor
  ·rintro⟨c,hc,rfl⟩
   exact⟨c,((h2 c).1 hc).1,rfl,by have:=((h2 c).1 hc).2;omega⟩
  ·rintro⟨c,hc,rfl,h3⟩
   exact⟨c,(h2 c).2 ⟨hc,by omega⟩,rfl⟩⟩
 have hcb0:(camZ f).length<=733007751850:=by rw[camZ_length];omega
 have x2:W2.cell? ⟨w.heap.size,2,none⟩=some (.int .i64 vI):=by rw[<- hI];exact cell_at H2 2
 have hs:Hid (W1.heap.size=w.heap.size+1/\W2.heap.size=w.heap.size+2):=⟨hs1,by omega⟩
 have HBh:Hid _:=⟨HB⟩
 have hown0':Hid _:=⟨hown0⟩
 have x2':Hid _:=⟨x2⟩
 clear hz tl hlm H1 hb hs1 hs2 hv0 hv1 hn hI HB H2 x2 hb2 hown0
 go_enter Tryz.func24,Tryz.ntmps24
 go_wp2_with (go_at_call 23;refine cC.mono ?_;rintro _ w3 ⟨vc,rfl,hN,hb3⟩;obtain⟨pv,cv,rfl,-⟩:=hN.shape;replace hN:=Hid.mk hN;replace hb3:=Hid.mk hb3)
 generalize camZ f=C at *
 generalize hB:W1.heap.size=B at *
 clear cC hmk
 go_loopw [13] (fun q wr=>∃ j:Nat,j<=C.length/\q = .int .i64 (j:Int)/\Hid (∃ n D,n<=j/\wr.ownsMap Tryz.prog 3 (plainElem (H:=Unit) Tryz.prog 3) B n D/\VM D (C.take j) nv/\w3.grownBy wr (some B))) (fun q _=>C.length-(RowKit.intOf q).toNat)
 case atStart=>exact⟨0,Nat.zero_le _,by go_num,⟨0,.map [],Nat.le_refl _,hown0'.out.kept (below_gr hb3.out) (by simp),VM.start nv,World.grownBy.refl _ _⟩⟩
 case round =>
  obtain⟨j,hj,rfl,hI⟩:=hrel
  obtain⟨n,D,hnj,hown,hVM,hG⟩:=hI.out
  clear hI
  have hsB:=hs.out
  have hw3:=hb3.out.size
  by_cases hlt:j<C.length
  ·obtain⟨c,hc⟩:∃ c,C[j]?=some c:=⟨C[j],List.getElem?_eq_getElem hlt⟩
   obtain⟨gc,rfl,hg0,hgl,hcc⟩:=hN.out.cellP hc
   have k1:wr.cell? ⟨gc,j,none⟩=some (.int .i64 (c:Int)):=hG.cell hcc (fun e=>by injection e with e;simp at e;omega)
   have y2:wr.cell? ⟨w.heap.size,2,none⟩=some (.int .i64 vI):=hG.cell ((hb3.out.cell (p:=⟨w.heap.size,2,none⟩) (by show w.heap.size<_;omega)).trans x2'.out) (fun e=>by injection e with e;simp at e;omega)
   have hji:(j:Int)<C.length:=by omega
   have hTk:=take_snoc hc
   have hcb:(C.length:Int)<=733007751850:=by omega
   by_cases hcv:c<=nv
   ·have d1:decide ((c:Int)<=vI)=true:=by have:=hvI.out;simp;omega
    have hkey:keyOf Tryz.prog 3 (.int .i64 (c:Int))=some (.int .i64 (c:Int)):=keyOf_int_mk Tryz.underlying3 (WalkArith.wf_i64 (by have:=hnv.out;omega))
    have FIN:Hid (∀ (w1:World) (d:DataW Unit),w1.ownsMap Tryz.prog 3 (plainElem (H:=Unit) Tryz.prog 3) B (n+1) (D.put (.int .i64 (c:Int)) d)->wr.grownBy w1 (some B)->(∃ n D,n<=j+1/\w1.ownsMap Tryz.prog 3 (plainElem (H:=Unit) Tryz.prog 3) B n D/\VM D (C.take (j+1)) nv/\w3.grownBy w1 (some B))):=⟨fun w1 d h1 h2=>⟨n+1,_,by omega,h1,by rw[hTk];exact hVM.put hown.isMap hcv d,hG.trans h2⟩⟩
    have hnm:n<maxLen:=by unfold maxLen;omega
    clear hTk hVM hG hcc hc hcv hb3 hN hsB hw3
    go_wp2_with (first
     | (at_lookup;refine wpList_lookup_own_int _ rfl _ _ 75 rfl 3 3 .i64 lawI Tryz.underlying75 Tryz.underlying3 (zeroI _) B n D rfl hown _ _ rfl hkey ?_;intro k0 hat hwc)
     | (at_mapUpdate;refine wpList_mapUpdate_own _ rfl _ _ _ 75 rfl 3 3 lawI Tryz.underlying75 _ B n D rfl hown hnm _ _ _ rfl rfl hkey _ [] (plainElem_int Tryz.underlying3 (wrap64_wf _)) ?_;intro w1 hown1 hgrow1))
    go_roundw
    case rel=>exact⟨j+1,by omega,by go_num,⟨FIN.out _ _ hown1 hgrow1⟩⟩
    case measure=>simp[RowKit.intOf];omega
   ·have d1:decide ((c:Int)<=vI)=false:=by have:=hvI.out;simp;omega
    have FIN:Hid (∃ n D,n<=j+1/\wr.ownsMap Tryz.prog 3 (plainElem (H:=Unit) Tryz.prog 3) B n D/\VM D (C.take (j+1)) nv/\w3.grownBy wr (some B)):=⟨n,D,by omega,hown,by rw[hTk];exact hVM.skip hcv,hG⟩
    clear hTk hVM hG hcc hc hcv hb3 hN hown hsB hw3
    go_wp2_with fail
    go_roundw
    case rel=>exact⟨j+1,by omega,by go_num,FIN⟩
    case measure=>simp[RowKit.intOf];omega
  ·obtain rfl:j=C.length:=by omega
   rw[List.take_length] at hVM
   have d3:decide ((C.length:Int)<C.length)=false:=by simp
   have hsn:=hown.size_le
   have hlt2:Maps.size D<=733007751850:=by omega
   obtain⟨wm,hmk,hN0,hbm,hsm⟩:=make_int wr (Maps.size D) (by omega)
   have hownm:=hown.kept (below_gr hbm) (by simp)
   have hBr:B<wr.heap.size:=hown.lt
   have hBw:Below w.heap.size w wm:=((HBh.out.trans (hb3.out.mono HBh.out.size)).grown hG (Nat.le_trans HBh.out.size hb3.out.size) (fun j hj=>by cases hj;omega)).trans (hbm.mono (by omega))
   have hwl:w.heap.size<=wr.heap.size:=by omega
   replace hBw:=Hid.mk hBw
   replace hN0:=Hid.mk hN0
   replace hVM:=Hid.mk hVM
   replace hlt2:=Hid.mk hlt2
   replace hbm:=Hid.mk hbm
   clear hG hsB hw3 hsm hsn hlt hj hnj
   go_wp2_with (first
    | (at_len;refine wpList_len_own _ rfl _ 75 rfl 3 3 Tryz.underlying75 _ B n D rfl hown ?_)
    | (at_range;refine wpList_range_own _ rfl _ 75 rfl 3 3 lawI Tryz.underlying75 _ B n D rfl hownm ?_;intro w0 hrg0 hg0 hs0))
   go_frame
   clear hmk hown hownm
   have hbs:=hbm.out.size
   generalize hRR:wr.heap.size=RR at *
   go_loopw [6] (fun vl wq=>∃ (left:Lit->Bool) (cnt:Nat) (ss:List Nat) (g cp':Nat),vl = .slice (some ⟨g,0,none⟩) ss.length cp'/\Hid (wq.ranges Tryz.prog 3 (plainElem (H:=Unit) Tryz.prog 3) B wm.heap.size n D left cnt/\ss.length+cnt<=Maps.size D/\NRow wq RR (.slice (some ⟨g,0,none⟩) ss.length cp') ss/\ColN D left ss/\Below w.heap.size w wq)) (fun _ wq=>wq.rangeLeft B wm.heap.size)
   case atStart=>exact⟨_,_,[],RR,Maps.size D,rfl,⟨hrg0,by simp,hN0.out.keepP (fun k hk=>hg0.block k (hN0.out.ltP k hk).2 (by simp)),ColN.start D,hBw.out.grown hg0 (Nat.le_trans hwl hbs) (fun j hj=>by cases hj)⟩⟩
   case round =>
    clear hrg0 hg0 hs0 hN0
    obtain⟨left,cnt,ss,g,cq,rfl,hI⟩:=hrel
    obtain⟨hrg,hcs,hN,hCo,hB⟩:=hI.out
    clear hI
    replace hCo:=Hid.mk hCo
    replace hB:=Hid.mk hB
    replace hN:=Hid.mk hN
    go_wp2_with (at_next;refine wpList_next_ranges_ii _ rfl _ rfl 3 3 .i64 .i64 lawI Tryz.underlying3 Tryz.underlying3 B wm.heap.size n _ _ _ rfl hrg ?_ ?_)
    ·intro hc0 hl0
     have cS:=sortN hN.out (HV.out ss hCo.out.1 fun c=>by
      rw[hCo.out.2 c,hVM.out]
      constructor
      ·rintro⟨⟨a,h1,h2,h3⟩,-⟩
       obtain rfl:c=a:=by omega
       exact⟨h1,h3⟩
      ·rintro⟨h1,h2⟩
       exact⟨⟨c,h1,rfl,h2⟩,hl0 _⟩) (by have:=hlt2.out;omega)
     clear hrg hl0
     go_wp2_with (go_at_call 38;refine cS.mono ?_;rintro _ w' ⟨rfl,hN',hb'⟩;replace hN':=Hid.mk hN';replace hb':=Hid.mk hb')
     go_ret
     exact⟨_,rfl,hN'.out.low hwl,hB.out.trans (hb'.out.mono hwl)⟩
    ·intro x c w1 cnt1 hwx hwc hlx hat hrg1 hlt hg1 hs1 hen
     have hh:=has_true_of_atKey hat
     obtain⟨k,hk,rfl,hkn⟩:=(hVM.out x).1 hh
     have hne:=row_ne_iter hN.out hrg
     have hN1:NRow w1 RR (.slice (some ⟨g,0,none⟩) ss.length cq) ss:=hN.out.keepP fun k hk=>hg1.block k (hN.out.ltP k hk).2 (fun e=>hne (e.symm.trans hk.symm))
     have hsw:RR<=w1.heap.size:=by
      have h1:=hN1.ltP g rfl
      omega
     obtain⟨v',w',a1,a2,a3,a4,-⟩:=i_apP k hN1 (by have:=hlt2.out;omega) hsw
     have hg2:w1.grownBy w' (Value.slice (some ⟨g,0,none⟩) ss.length cq).ownBlock:=⟨a3.os,a3.tape,a3.output,a3.size,fun j hj hne=>a4 j hj (fun e=>hne e.symm)⟩
     have hrg2:=hrg1.kept hg2 (row_ne_low hN1 hBr) (row_ne_iter hN1 hrg1)
     rcases a2.2 with ⟨-,e0⟩|⟨g2,cap2,cur2,rfl,-⟩
     ·simp at e0
     have hF:Hid (w'.ranges Tryz.prog 3 (plainElem (H:=Unit) Tryz.prog 3) B wm.heap.size n D (fun z=>left z && !z.sameKey (.int .i64 (k:Int))) cnt1/\(ss++[k]).length+cnt1<=Maps.size D/\NRow w' RR (.slice (some ⟨g2,0,none⟩) (ss++[k]).length cap2) (ss++[k])/\ColN D (fun z=>left z && !z.sameKey (.int .i64 (k:Int))) (ss++[k])/\Below w.heap.size w w'):=⟨hrg2,by simp;omega,a2,hCo.out.step hh hlx,(hB.out.grown hg1 (Nat.le_trans hwl (by rw[<- hs1];exact hsw)) (fun j hj=>by cases hj;exact Nat.le_trans hwl hbs)).trans (a3.mono hwl)⟩
     have hM:Hid (w'.rangeLeft B wm.heap.size<wr.rangeLeft B wm.heap.size):=⟨by rw[hrg2.left_eq,hrg.left_eq];exact hlt⟩
     replace a1:=Hid.mk a1
     clear hrg hrg1 hrg2 hg1 hg2 hs1 hat hlx hh hN1 hN hne a2 a3 a4 hsw
     go_wp2_with (at_builtin;go_must (refine(wpList_append_ex (by rfl) _ _ _ _ (by rfl) _ _ (by rfl) (by rfl) (fun a b=>_=a/\w'=b) ⟨_,w',a1.out,rfl,rfl⟩ ?_));rintro _ _ ⟨rfl,rfl⟩;go_frame)
     go_roundw
     case rel=>exact⟨_,cnt1,ss++[k],g2,cap2,rfl,hF⟩
     case measure=>exact hM.out
theorem pVersions_any {w:World} {f:Fm} {pp:Option Addr} {cp:Nat} (hC:PCk w f pp cp) (tl:TkL w pp w.heap.size f.toks) (hlm:f.toks.length*192<=140737488351232) :
  Calls Tryz.prog 12 #[fmV f pp cp] w fun e w'=>∃ v,e = .returned v/\NRow w' w.heap.size v (verZ f)/\Below w.heap.size w w':=by
 have hb:=bel1 w (fmO f pp cp)
 have H1:=heap_al w (fmO f pp cp)
 have hs1:(w.alloc (fmO f pp cp)).heap.size=w.heap.size+1:=World.size_alloc _ _
 generalize hW:w.alloc (fmO f pp cp)=W1 at hb H1 hs1
 simp only[fmO] at hW
 have LF:=(J.fm_of H1).load
 have cI:=isForm_any hC W1 hb
 have HB:Hid _:=⟨hb⟩
 by_cases hz:chkZ f=none
 ·rw[decide_eq_true hz] at cI
  have hE:verZ f=verL f:=by unfold verZ verL;rw[if_pos hz]
  rw[hE]
  have CC:Hid (∀ X,Below W1.heap.size W1 X->(Instr.loadAt 30 (.pointer (some ⟨w.heap.size,0,none⟩))).run Tryz.prog X = .ok (fmV f pp cp) X/\Calls Tryz.prog 24 #[fmV f pp cp] X fun e w'=>∃ v,e = .returned v/\Hid (NRow w' w.heap.size v (verL f)/\Below w.heap.size w w')):=⟨fun X h=>by
   have hx:=hb.trans (h.mono hb.size)
   exact⟨(J.fm_of ((h.block _ (by omega)).trans H1)).load,(versions_any f pp cp X hz ((tl.below hx).mono hx.size) hlm).mono fun e w' ⟨v,e1,e2,e3⟩=>⟨v,e1,⟨e2.low hx.size,hx.trans (e3.mono hx.size)⟩⟩⟩⟩
  clear hz hE tl hC hlm H1 hb hs1
  go_enter Tryz.func12,Tryz.ntmps12
  go_wp2_with (first
   | (guard_target =~ wpList _ _ _ (Oper.mk _ (Op.load 30 _) _ _ _ _::_) _ _;go_must (first|refine wpList_ld 30 _ rfl rfl _ _ rfl LF ?_|refine wpList_ld 30 _ rfl rfl _ _ rfl LF2 ?_);simp only[pts])
   | (go_at_call 16;refine cI.mono ?_;rintro _ w2 ⟨rfl,hb2⟩;obtain⟨LF2,cV⟩:=CC.out w2 hb2;clear hb2)
   | (go_at_call 24;refine cV.mono ?_;rintro _ w3 ⟨vc,rfl,q1⟩))
  go_ret
  exact⟨_,rfl,q1.out⟩
 ·rw[decide_eq_false hz] at cI
  have hE:verZ f=[]:=by unfold verZ;rw[if_neg hz]
  rw[hE]
  clear hz hE tl hC hlm H1 hb hs1
  go_enter Tryz.func12,Tryz.ntmps12
  go_wp2_with (first
   | (guard_target =~ wpList _ _ _ (Oper.mk _ (Op.load 30 _) _ _ _ _::_) _ _;go_must (refine wpList_ld 30 _ rfl rfl _ _ rfl LF ?_);simp only[pts])
   | (go_at_call 16;refine cI.mono ?_;rintro _ w2 ⟨rfl,hb2⟩;replace hb2:=Hid.mk hb2))
  go_ret
  exact⟨_,rfl,NRow.nil _ _,HB.out.trans (hb2.out.mono HB.out.size)⟩
def SnB (W:World) (g N:Nat) (L:List Nat):Prop:=W.heap[g]?=some (.cells ((List.range N).map fun k=>Value.bool (L.contains k)).toArray 4)
theorem SnB.cell {W:World} {g N:Nat} {L:List Nat} (h:SnB W g N L) {k:Nat} (hk:k<N):W.cell? ⟨g,k,none⟩=some (.bool (L.contains k)):=by
 rw[cell_at h]
 simp[hk]
theorem SnB.set {W:World} {g N:Nat} {L:List Nat} (h:SnB W g N L) (c:Nat):SnB (W.setCell ⟨g,c,none⟩ (.bool true)) g N (L++[c]):=by
 unfold SnB
 rw[set_at h]
 congr 2
 apply Array.ext
 ·simp
 ·intro k h1 h2
  simp at h1
  by_cases e:c=k
  ·subst e;simp
  ·have e2:¬ k=c:=fun h=>e h.symm
   simp[e,e2]
theorem SnB.skip {W:World} {g N:Nat} {L:List Nat} (h:SnB W g N L) {c:Nat} (hc:N<=c):SnB W g N (L++[c]):=by
 unfold SnB at *
 rw[h]
 congr 2
 apply congrArg
 refine List.map_congr_left fun k hk=>?_
 have:¬ k=c:=by simp at hk;omega
 simp[this]
theorem infoBool:(Tryz.prog.info? 4).map (fun i=>(i.zero,i.size,i.bytes))=some (some (.bool false),1,1):=by kernel_rfl
theorem make_bools (w:World) (n:Nat) (hn:n<=1000000000):∃ w',(Instr.makeSlice 55 (.int .i64 ((n:Int)+1)) (.int .i64 ((n:Int)+1))).run Tryz.prog w = .ok (.slice (some ⟨w.heap.size,0,none⟩) (n+1) (n+1)) w'/\SnB w' w.heap.size (n+1) []/\Below w.heap.size w w'/\w'.heap.size=w.heap.size+1:=by
 obtain⟨i,hi,hz⟩:=Option.map_eq_some_iff.1 infoBool
 simp only[Prod.mk.injEq] at hz
 have hr:=run_make (P:=Tryz.prog) w 55 4 i (.bool false) Tryz.underlying55 hi hz.1 .i64 .i64 ((n+1:Nat):Int) ((n+1:Nat):Int) (by omega) (Int.le_refl _) (by rw[hz.2.2];omega) (by omega)
 simp only[Int.toNat_natCast] at hr
 refine⟨_,by rw[<- Int.natCast_succ];exact hr,?_,bel1 _ _,by simp⟩
 have e:madeCells (Value.bool false).cells (n+1)=((List.range (n+1)).map fun k=>Value.bool (([]:List Nat).contains k)).toArray:=by
  apply Array.ext
  ·simp[madeCells,Value.cells]
  ·intro k h1 h2
   simp[madeCells,Value.cells,Nat.mod_one]
 rw[hz.2.1,Nat.mul_one,e]
 exact heap_al _ _
theorem dVersions_any {w:World} {f:Fm} {pp:Option Addr} {cp:Nat} (hC:DCk w f pp cp) (tl:TkL w pp w.heap.size f.toks) (hlm:f.toks.length*192<=140737488351232) :
  Calls Tryz.prog 14 #[fmV f pp cp] w fun e w'=>∃ v,e = .returned v/\NRow w' w.heap.size v (verZ f)/\Below w.heap.size w w':=by
 have hb:=bel1 w (fmO f pp cp)
 have H1:=heap_al w (fmO f pp cp)
 have hs1:(w.alloc (fmO f pp cp)).heap.size=w.heap.size+1:=World.size_alloc _ _
 generalize hW:w.alloc (fmO f pp cp)=W1 at hb H1 hs1
 simp only[fmO] at hW
 have LF:=(J.fm_of H1).load
 have cK:=hC W1 hb
 have HB:Hid _:=⟨hb⟩
 have hll:f.toks.length<=733007751850:=by omega
 have hX:Hid (∀ X,Below W1.heap.size W1 X->X.heap[w.heap.size]?=some (fmO f pp cp)):=⟨fun X h=>(h.block _ (by omega)).trans H1⟩
 cases hz:chkZ f with
 | some z =>
  rw[hz] at cK
  have e121:errZ (some z)=121:=rfl
  rw[e121] at cK
  generalize atZ (some z)=A at cK
  have hE:verZ f=[]:=by unfold verZ;rw[if_neg (by rw[hz];exact nofun)]
  rw[hE]
  clear hz hE tl hC hlm H1 hb hs1 e121 hX
  go_enter Tryz.func14,Tryz.ntmps14
  go_wp2_with (first
   | (guard_target =~ wpList _ _ _ (Oper.mk _ (Op.load 30 _) _ _ _ _::_) _ _;go_must (refine wpList_ld 30 _ rfl rfl _ _ rfl LF ?_);simp only[pts])
   | (go_at_call 19;refine cK.mono ?_;rintro _ w2 ⟨rfl,hb2⟩;replace hb2:=Hid.mk hb2))
  go_ret
  exact⟨_,rfl,NRow.nil _ _,HB.out.trans (hb2.out.mono HB.out.size)⟩
 | none =>
  rw[hz] at cK
  have e0:errZ none=0:=rfl
  rw[e0] at cK
  generalize atZ none=A at cK
  obtain⟨hv0,hv1⟩:=head_ver hz
  obtain⟨n,hn⟩:∃ n:Nat,f.ver=n:=⟨f.ver.toNat,by omega⟩
  have hE:Hid (verZ f=(List.range (n+1)).filter fun k=>(camZ f).contains k):=⟨by unfold verZ;rw[if_pos hz,hn];rfl⟩
  have hn1:n<=65534:=by omega
  have hcb0:(camZ f).length<=733007751850:=by rw[camZ_length];exact hll
  have CC:Hid (∀ X,Below W1.heap.size W1 X->(Instr.loadAt 30 (.pointer (some ⟨w.heap.size,0,none⟩))).run Tryz.prog X = .ok (fmV f pp cp) X/\Calls Tryz.prog 20 #[fmV f pp cp] X fun e w3=>∃ v,e = .returned v/\((NRow w3 X.heap.size v (camZ f)/\Below W1.heap.size W1 w3/\Below w.heap.size w w3)/\w3.cell? ⟨w.heap.size,2,none⟩=some (.int .i64 (n:Int))/\∃ w4,(Instr.makeSlice 55 (.int .i64 ((n:Int)+1)) (.int .i64 ((n:Int)+1))).run Tryz.prog w3 = .ok (.slice (some ⟨w3.heap.size,0,none⟩) (n+1) (n+1)) w4/\Hid (SnB w4 w3.heap.size (n+1) []/\Below w3.heap.size w3 w4/\w4.heap.size=w3.heap.size+1))):=⟨fun X h=>by
   have hx:=hb.trans (h.mono hb.size)
   refine⟨(J.fm_of (hX.out X h)).load,(dCame_any f pp cp X hz ((tl.below hx).mono hx.size) hlm).mono fun e w3 ⟨v,e1,e2,e3⟩=>⟨v,e1,⟨e2,h.trans (e3.mono h.size),hx.trans (e3.mono hx.size)⟩,?_,?_⟩⟩
   ·rw[<- hn]
    exact cell_at (hX.out w3 (h.trans (e3.mono h.size))) 2
   ·obtain⟨w4,m1,m2,m3,m4⟩:=make_bools w3 n (by omega)
    exact⟨w4,m1,⟨m2,m3,m4⟩⟩⟩
  have hs1':Hid _:=⟨hs1⟩
  clear hz tl hC hlm H1 hb hs1 hv0 hv1 hn
  go_enter Tryz.func14,Tryz.ntmps14
  go_wp2_with (first
   | (guard_target =~ wpList _ _ _ (Oper.mk _ (Op.load 30 _) _ _ _ _::_) _ _;go_must (first|refine wpList_ld 30 _ rfl rfl _ _ rfl LF ?_|refine wpList_ld 30 _ rfl rfl _ _ rfl LF2 ?_);simp only[pts])
   | (go_at_call 19;refine cK.mono ?_;rintro _ w2 ⟨rfl,hb2⟩;obtain⟨LF2,cC⟩:=CC.out w2 hb2;clear hb2)
   | (go_at_call 20;refine cC.mono ?_;rintro _ w3 ⟨vc,rfl,q1,q2,w4,q3,q4⟩;obtain⟨pv,cv,rfl,-⟩:=q1.1.shape;replace q1:=Hid.mk q1))
  have hws:w.heap.size<w3.heap.size:=by have h1:=q1.out.2.1.size;have h2:=HB.out.size;have:=hs1'.out;omega
  generalize camZ f=C at *
  go_loopw [7] (fun q wr=>∃ j:Nat,j<=C.length/\q = .int .i64 (j:Int)/\Hid (SnB wr w3.heap.size (n+1) (C.take j)/\Below w3.heap.size w3 wr)) (fun q _=>C.length-(RowKit.intOf q).toNat)
  case atStart=>exact⟨0,Nat.zero_le _,by go_num,⟨q4.out.1,q4.out.2.1⟩⟩
  case round =>
   obtain⟨j,hj,rfl,hI⟩:=hrel
   have hS:Hid _:=⟨hI.out.1⟩
   have hB:Hid _:=⟨hI.out.2⟩
   clear hI q3 LF2 cC cK CC LF
   by_cases hlt:j<C.length
   ·obtain⟨c,hc⟩:∃ c,C[j]?=some c:=⟨C[j],List.getElem?_eq_getElem hlt⟩
    obtain⟨gc,rfl,-,hgl,hcc⟩:=q1.out.1.cellP hc
    have k1:wr.cell? ⟨gc,j,none⟩=some (.int .i64 (c:Int)):=(hB.out.cell (p:=⟨gc,j,none⟩) hgl).trans hcc
    have y2:wr.cell? ⟨w.heap.size,2,none⟩=some (.int .i64 (n:Int)):=(hB.out.cell (p:=⟨w.heap.size,2,none⟩) hws).trans q2
    have hji:(j:Int)<C.length:=by omega
    have hcb:(C.length:Int)<=733007751850:=by omega
    have hTk:Hid (C.take (j+1)=C.take j++[c]):=⟨take_snoc hc⟩
    clear hcc hc q2
    obtain⟨p,p0,y1,y2p⟩:∃ p:World->Prop,p wr.drew/\(∀ θ:CW p,θ.w.cell? ⟨gc,j,none⟩=some (.int .i64 (c:Int)))/\(∀ θ:CW p,θ.w.cell? ⟨w.heap.size,2,none⟩=some (.int .i64 (n:Int))):=⟨fun V=>V.cell? ⟨gc,j,none⟩=some (.int .i64 (c:Int))/\V.cell? ⟨w.heap.size,2,none⟩=some (.int .i64 (n:Int)),⟨k1,y2⟩,fun θ=>θ.h.1,fun θ=>θ.h.2⟩
    have pN:Nonempty (CW p):=⟨⟨_,p0⟩⟩
    by_cases hcv:c<=n
    ·have d1:decide ((c:Int)<=n)=true:=by simp;omega
     have d1i:(c:Int)<=n:=by omega
     have k0:wr.drew.cell? ⟨gc,j,none⟩=some (.int .i64 (c:Int)):=k1
     have k2:wr.drew.cell? ⟨w3.heap.size,c,none⟩=some (.bool ((C.take j).contains c)):=hS.out.cell (k:=c) (by omega)
     have k3:wr.drew.frozen? ⟨w3.heap.size,c,none⟩=false:=frz_at (W:=wr.drew) hS.out
     have hci:(c:Int)<(n:Int)+1:=by omega
     have hF:Hid (SnB (wr.drew.setCell ⟨w3.heap.size,c,none⟩ (.bool true)) w3.heap.size (n+1) (C.take (j+1))/\Below w3.heap.size w3 (wr.drew.setCell ⟨w3.heap.size,c,none⟩ (.bool true))):=⟨by rw[hTk.out];exact SnB.set (W:=wr.drew) hS.out c,hB.out.drew.setCell (p:=⟨w3.heap.size,c,none⟩) (Nat.le_refl _) _⟩
     clear hS hB
     go_wp2_with fail
     refine wp_region_ly (fun V=>∃ θ:CW p,V=θ.w) (by kernel_rfl) (by kernel_rfl) (fun _ _ d _ _ h=>by cases d<;>exact h) ⟨⟨_,p0⟩,rfl⟩ ?_
     repeat (refine ly_one rfl ?_;(first|go_big_quiet_skip|(go_big_quiet_want;go_big_quiet_op;go_big_quiet_on));refine wpQuiet_nil ?_)
     refine ly_done ?_
     go_wp2_with fail
     go_roundw
     case rel=>exact⟨j+1,by omega,by go_num,hF⟩
     case measure=>simp[RowKit.intOf];omega
    ·have d1:decide ((c:Int)<=n)=false:=by simp;omega
     have d1i:¬ (c:Int)<=n:=by omega
     have hF:Hid (SnB wr.drew w3.heap.size (n+1) (C.take (j+1))/\Below w3.heap.size w3 wr.drew):=⟨by rw[hTk.out];exact SnB.skip (W:=wr.drew) hS.out (by omega),hB.out.drew⟩
     clear hS hB
     go_wp2_with fail
     refine wp_region_ly (fun V=>∃ θ:CW p,V=θ.w) (by kernel_rfl) (by kernel_rfl) (fun _ _ d _ _ h=>by cases d<;>exact h) ⟨⟨_,p0⟩,rfl⟩ ?_
     repeat (refine ly_one rfl ?_;(first|go_big_quiet_skip|(go_big_quiet_want;go_big_quiet_op;go_big_quiet_on));refine wpQuiet_nil ?_)
     refine ly_done ?_
     go_wp2_with fail
     go_roundw
     case rel=>exact⟨j+1,by omega,by go_num,hF⟩
     case measure=>simp[RowKit.intOf];omega
   ·obtain rfl:j=C.length:=by omega
    have d3:decide ((C.length:Int)<C.length)=false:=by simp
    have hS2:Hid (SnB wr w3.heap.size (n+1) C):=⟨by have:=hS.out;rwa [List.take_length] at this⟩
    clear hS hlt
    go_wp2_with fail
    go_loopw [8,9] (fun vl q wr2=>∃ m:Nat,m<=n+1/\q = .int .i64 (m:Int)/\Hid (NRow wr2 (w3.heap.size+1) vl ((List.range m).filter fun k=>C.contains k)/\SnB wr2 w3.heap.size (n+1) C/\Below w3.heap.size w3 wr2)) (fun _ q _=>n+1-(RowKit.intOf q).toNat)
    case atStart=>exact⟨0,Nat.zero_le _,by go_num,⟨NRow.nil _ _,hS2.out,hB.out⟩⟩
    case round =>
     clear hS2 hB
     obtain⟨m,hm,rfl,hI⟩:=hrel
     obtain⟨hN,hS,hB⟩:=hI.out
     clear hI
     by_cases hlt:m<n+1
     ·have k2:=hS.cell (k:=m) hlt
      have hmi:(m:Int)<(n:Int)+1:=by omega
      have hmb:(m:Int)<1000000:=by omega
      have hgs:w3.heap.size<wr.heap.size:=(Array.getElem?_eq_some_iff.1 hS).1
      have hrs:(List.range (m+1)).filter (fun k=>C.contains k)=(List.range m).filter (fun k=>C.contains k)++if C.contains m then [m] else []:=by
       rw[List.range_succ,List.filter_append]
       cases hcm:C.contains m<;>simp_all
      have hll2:((List.range m).filter fun k=>C.contains k).length<=m:=Nat.le_trans (List.length_filter_le ..) (by simp)
      cases hcm:C.contains m with
      | true =>
       rw[hcm] at k2
       rw[if_pos hcm] at hrs
       obtain⟨v',w',a1,a2,a3,a4,-⟩:=i_apP m hN (by omega) (by omega)
       have hF:Hid (NRow w' (w3.heap.size+1) v' ((List.range (m+1)).filter fun k=>C.contains k)/\SnB w' w3.heap.size (n+1) C/\Below w3.heap.size w3 w'):=⟨by rw[hrs];exact a2,(a4 _ hgs fun e=>by have:=(hN.ltP _ e).1;omega).trans hS,hB.trans (a3.mono (by omega))⟩
       obtain⟨pl,cl,rfl,-⟩:=hN.shape
       obtain⟨pl',cl',e',-⟩:=a2.shape
       rw[List.length_append,List.length_singleton] at e'
       subst e'
       generalize ((List.range m).filter fun k=>C.contains k).length=fl at *
       replace a1:=Hid.mk a1
       clear hN hS hB hrs a2 a3 a4 hcm
       go_wp2_with (at_builtin;go_must (refine(wpList_append_ex (by rfl) _ _ _ _ (by rfl) _ _ (by rfl) (by rfl) (fun a b=>_=a/\w'=b) ⟨_,w',a1.out,rfl,rfl⟩ ?_));rintro _ _ ⟨rfl,rfl⟩)
       go_roundw
       case rel=>exact⟨m+1,by omega,by go_num,hF⟩
       case measure=>simp[RowKit.intOf];omega
      | false =>
       rw[hcm] at k2
       rw[if_neg (by rw[hcm];decide),List.append_nil] at hrs
       have hF:Hid (NRow wr (w3.heap.size+1) u8 ((List.range (m+1)).filter fun k=>C.contains k)/\SnB wr w3.heap.size (n+1) C/\Below w3.heap.size w3 wr):=⟨by rw[hrs];exact hN,hS,hB⟩
       clear hN hS hB hrs hcm
       go_wp2_with fail
       go_roundw
       case rel=>exact⟨m+1,by omega,by go_num,hF⟩
       case measure=>simp[RowKit.intOf];omega
     ·obtain rfl:m=n+1:=by omega
      have d4:decide (((n+1:Nat):Int)<(n:Int)+1)=false:=by simp
      have hF:Hid _:=⟨hN⟩
      have hG:Hid _:=⟨hB⟩
      obtain⟨pl,cl,rfl,-⟩:=hN.shape
      clear hN hS hB hlt
      go_wp2_with fail
      go_ret
      exact⟨_,rfl,by rw[hE.out];exact hF.out.low (by omega),q1.out.2.2.trans (hG.out.mono (by omega))⟩
theorem sameInts_any {w:World} {A B:Nat} {va vb:Value} {ns:List Nat} (ha:NRow w A va ns) (hb:NRow w B vb ns) (hl:ns.length<=1000000000000) :
  Calls Tryz.prog 13 #[va,vb] w fun e w'=>e = .returned (.bool true)/\Below w.heap.size w w':=by
 obtain⟨pa,ca,rfl,-⟩:=ha.shape
 obtain⟨pb,cb,rfl,-⟩:=hb.shape
 have hA:Hid _:=⟨ha⟩
 have hB:Hid _:=⟨hb⟩
 clear ha hb
 go_enter Tryz.func13,Tryz.ntmps13
 go_wp2_with fail
 go_loopw [5] (fun q wr=>∃ j:Nat,j<=ns.length/\q = .int .i64 (j:Int)/\Hid (Below w.heap.size w wr)) (fun q _=>ns.length-(RowKit.intOf q).toNat)
 case atStart=>exact⟨0,Nat.zero_le _,by go_num,⟨Below.refl _ _⟩⟩
 case round =>
  obtain⟨j,hj,rfl,hI⟩:=hrel
  by_cases hlt:j<ns.length
  ·obtain⟨c,hc⟩:∃ c,ns[j]?=some c:=⟨ns[j],List.getElem?_eq_getElem hlt⟩
   obtain⟨ga,rfl,-,gal,ka⟩:=hA.out.cellP hc
   obtain⟨gb,rfl,-,gbl,kb⟩:=hB.out.cellP hc
   have hji:(j:Int)<ns.length:=by omega
   obtain⟨p,p0,y1,y2⟩:∃ p:World->Prop,p wr.drew/\(∀ θ:CW p,θ.w.cell? ⟨ga,j,none⟩=some (.int .i64 (c:Int)))/\(∀ θ:CW p,θ.w.cell? ⟨gb,j,none⟩=some (.int .i64 (c:Int))):=⟨fun V=>Below w.heap.size w V,hI.out.drew,fun θ=>(θ.h.cell (p:=⟨ga,j,none⟩) gal).trans ka,fun θ=>(θ.h.cell (p:=⟨gb,j,none⟩) gbl).trans kb⟩
   have pN:Nonempty (CW p):=⟨⟨_,p0⟩⟩
   have hF:Hid (Below w.heap.size w wr.drew):=⟨hI.out.drew⟩
   clear ka kb hc hI
   go_wp2_with fail
   refine wp_region_ly (fun V=>∃ θ:CW p,V=θ.w) (by kernel_rfl) (by kernel_rfl) (fun _ _ d _ _ h=>by cases d<;>exact h) ⟨⟨_,p0⟩,rfl⟩ ?_
   repeat (refine ly_one rfl ?_;(first|go_big_quiet_skip|(go_big_quiet_want;go_big_quiet_op;go_big_quiet_on));refine wpQuiet_nil ?_)
   refine ly_done ?_
   go_wp2_with fail
   go_roundw
   case rel=>exact⟨j+1,by omega,by go_num,hF⟩
   case measure=>simp[RowKit.intOf];omega
  ·obtain rfl:j=ns.length:=by omega
   have d3:decide ((ns.length:Int)<ns.length)=false:=by simp
   clear hlt
   go_wp2_with fail
   go_ret
   exact⟨rfl,hI.out⟩
end Go.Proofs.YtkcjdncchoohoaaGreatDoor
