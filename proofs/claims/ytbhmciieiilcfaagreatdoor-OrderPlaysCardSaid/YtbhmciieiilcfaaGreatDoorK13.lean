import Derived.Test.YtbhmciieiilcfaaGreatDoorK12
import Derived.Deep.CutBlock
import Derived.Deep.RegionHeld3
namespace Go.Proofs.YtbhmciieiilcfaaGreatDoor
set_option maxRecDepth 1000000
set_option maxHeartbeats 16000000
open Go.ChangeShapes Go.WideShapes Go.ChangeAt Go.RowKit Go.Shelf Go.Maps
variable {S cc d gp lo m p:Nat} {W W0 X w:World} {f:Fm} {gs ks1:List Nat} {l:List Tk} {pc:Option Addr} {t:Tk} {v:Value}
theorem ent_part:∀ ag w,(callFunc 15 ag).run Tryz.prog w = .ok (.enter 15 ag) w:=enters_of Tryz.func15 (by kernel_rfl) rfl
theorem PI.new (hc:W.heap[gp]?=some (.cells #[.int .i64 (knd (opAt l p)),.string (nmAt l p),.int .i64 (p:Int),.int .u64 (gmax (bpAt l p)),.map (some m),.slice none 0 0] 104)) (hm:W.heap[m]?=some (.map #[] 0)) (h1:lo<=gp) (h2:lo<=m) (hne:gp≠m):PI l W lo W.heap.size gp m p d [] [] (.slice none 0 0):=by
 have g1:=(Array.getElem?_eq_some_iff.1 hc).1
 have m1:=(Array.getElem?_eq_some_iff.1 hm).1
 refine⟨hc,⟨0,Nat.le_refl _,?_⟩,World.ownsRow_nil _ _ _ 1,rfl,fun j g' q e=>by simp at e,⟨h1,g1⟩,⟨h2,m1⟩,hne,Nat.le_refl _⟩
 obtain⟨D,⟨es,ck,e,r⟩,h2⟩:=SHas.made W
 rw[show (W.alloc (.map #[] 0)).heap[W.heap.size]?=some (.map #[] 0) from heap_al _ _] at e
 refine⟨D,⟨es,ck,hm.trans e,r⟩,fun s hs=>?_⟩
 rw[h2 s hs]
 simp
def MkP (f:Fm) (w:World) (p d:Nat) (t:Tk) (pc:Option Addr) (cc:Nat) (gp m:Nat) (wx:World):Prop:=PI f.toks wx w.heap.size wx.heap.size gp m p d [] [] (.slice none 0 0)/\Below w.heap.size w wx/\wx.heap[w.heap.size]?=some (tkO t pc cc)
theorem mkp1 (ht:f.toks[p]?=some t) (h0:Below w.heap.size w W0) (hs:W0.heap.size=w.heap.size+1) (hw0:W0.heap[w.heap.size]?=some (tkO t pc cc)) (hb:Below W0.heap.size W0 X) :
  MkP f w p d t pc cc (X.heap.size+1) X.heap.size ((X.alloc (.map #[] 0)).alloc (.cells #[.int .i64 (knd t.op),.string t.name,.int .i64 (p:Int),.int .u64 (gmax t.b.p),.map (some X.heap.size),.slice none 0 0] 104)):=by
 have hsX:=hb.size
 refine⟨PI.new ?_ ?_ (by omega) (by omega) (by omega),(h0.trans (hb.mono h0.size)).trans ((bb2 X _ _).mono (by omega)),((bb2 X _ _).block _ (by omega)).trans ((hb.block _ (by omega)).trans hw0)⟩
 ·rw[hp2,opAt_some ht,nmAt_some ht,bpAt_some ht]
 ·exact((bel1 _ _).block _ (by rw[World.size_alloc];omega)).trans (heap_al _ _)
theorem mkp2 (ht:f.toks[p]?=some t) (h0:Below w.heap.size w W0) (hs:W0.heap.size=w.heap.size+1) (hw0:W0.heap[w.heap.size]?=some (tkO t pc cc)) (hb:Below W0.heap.size W0 X) (hm:X.heap[w.heap.size+1]?=some (.map #[] 0)) :
  MkP f w p d t pc cc X.heap.size (w.heap.size+1) (X.alloc (.cells #[.int .i64 (knd t.op),.string t.name,.int .i64 (p:Int),.int .u64 (gmax t.b.p),.map (some (w.heap.size+1)),.slice none 0 0] 104)):=by
 have hsX:=hb.size
 have hmX:=(Array.getElem?_eq_some_iff.1 hm).1
 refine⟨PI.new ?_ ?_ (by omega) (by omega) (by omega),(h0.trans (hb.mono h0.size)).trans ((bel1 X _).mono (by omega)),((bel1 X _).block _ (by omega)).trans ((hb.block _ (by omega)).trans hw0)⟩
 ·rw[heap_al,opAt_some ht,nmAt_some ht,bpAt_some ht]
 ·exact((bel1 _ _).block _ hmX).trans hm
theorem PI.put {k:Nat} {s:ByteArray} (h:PI l W lo S gp m p d ks1 gs v) (hl:ks1.length<=733007751850) (hs:s.size<=maxLen) (hn:nmAt l k=s) (hf:fldF l k=true) (hr:rowF l k=false) :
  ∃ W',(Instr.mapUpdate 101 (.map (some m)) (.string s) (.agg #[])).run Tryz.prog W = .ok () W'/\PI l W' lo S gp m p d (ks1++[k]) gs v/\W.grownBy W' (some m):=by
 obtain⟨k0,hk0,D,hD,hh⟩:=h.mp
 obtain⟨W',h1,h2,h3⟩:=hD.update lawS Tryz.underlying101 (by simp only[maxLen];omega) (keyS s hs) unitElem_mk
 refine⟨W',h1,h.field hf hr h3 ⟨k0+1,by omega,?_⟩,h3⟩
 rw[hn]
 exact SHas.put hD hh hs h2
theorem PI.ne {b:Nat} (h:PI l W lo S gp m p d ks1 gs v) (hb:W.heap[b]?=some (tkO t pc cc)):gp≠b/\m≠b:=by
 constructor
 ·rintro rfl
  have:=h.c
  rw[hb] at this
  simp[tkO] at this
 ·rintro rfl
  obtain⟨k0,hk0,D,⟨es,ck,e,_⟩,hh⟩:=h.mp
  rw[hb] at e
  cases e
theorem own_sl {base n:Nat} {ty:TypeId} {xs:List Value} (h:W.ownsRow base ty 1 v n xs) (hl:0<n):∃ go cap,v = .slice (some ⟨go,0,none⟩) n cap:=by
 rcases h.2 with ⟨_,h0⟩|⟨go,cap,cur,e,_⟩
 ·omega
 ·exact⟨go,cap,e⟩
theorem mkmS:∀ W:World,(Instr.makeMap 101 none).run Tryz.prog W = .ok (.map (some W.heap.size)) (W.alloc (.map #[] 0)):=fun _=>rfl
theorem partAt_any (f:Fm) (hz:chkZ f=none) (pp:Option Addr) (cp:Nat):∀ (d p n:Nat) (t:Tk) (ks:List Nat),Pb f.toks p n t ks->n-p<=d->∀ (w:World),TkL w pp w.heap.size f.toks ->
  Calls Tryz.prog 15 #[.slice pp f.toks.length cp,.int .i64 (p:Int)] w fun r w'=>∃ g,r = .returned (.pointer (some ⟨g,0,none⟩))/\PtC f.toks w' w.heap.size w'.heap.size d g p/\Below w.heap.size w w':=by
 intro d
 induction d with
 | zero=>intro p n t ks hP hd;have:=hP.bg.bn;omega
 | succ d ih =>
  intro p n t ks hP hd w tl
  obtain⟨g,o,pc,cc,rfl,hg,hT,_,_,hO⟩:=tl.at hP.bg.et
  have hll:f.toks.length<=733007751850:=by have:=tl.len;omega
  have hpl:(p:Int)<f.toks.length:=by have:=hP.bg.bn;have:=hP.bg.nl;omega
  have lT:Hid _:=⟨hT.load⟩
  have sT:Hid _:=⟨fun z hz=>st_new w z hz t pc cc⟩
  have hT2:=tk_of (thnK w (tkO t pc cc))
  have hB1:=nbel w (tkO t pc cc)
  have hs1:(w.alloc (tkO t pc cc)).heap.size=w.heap.size+1:=World.size_alloc _ _
  go_enter Tryz.func15,Tryz.ntmps15
  go_upto_region 2 with (first
   | (guard_target =~ wpList _ _ _ (Oper.mk _ (Op.load 83 _) _ _ _ _::_) _ _;go_must (refine wpList_ld 83 (.tmp 10) rfl rfl _ _ rfl lT.out ?_);simp only[pts])
   | (guard_target =~ wpList _ _ _ (Oper.mk _ (Op.store 83 _ _) _ _ _ _::_) _ _;go_must (refine wpList_st 83 (.tmp 5) (.tmp 11) rfl rfl _ _ rfl rfl (sT.out _ rfl) ?_);simp only[pts]))
  have C:Hid (∀ X,Below (w.alloc (tkO t pc cc)).heap.size (w.alloc (tkO t pc cc)) X->X.cell? ⟨w.heap.size,0,none⟩=some (.int .i64 t.op)/\X.cell? ⟨w.heap.size,1,none⟩=some (.string t.name)/\X.cell? ⟨w.heap.size,18,none⟩=some (.int .i64 t.b.p)):=⟨fun X hb=>by
   have e:=tk_of ((hb.block w.heap.size (by omega)).trans (thnK w (tkO t pc cc)))
   have e0:=e.c0
   have e1:=e.c1
   have e18:=e.c18
   simp only[Nat.zero_add] at e1 e18
   exact⟨e0,e1,e18⟩⟩
  obtain⟨c0,c1,c18⟩:=C.out _ (Below.refl _ _)
  have hw0:=thnK w (tkO t pc cc)
  generalize hW0:w.alloc (tkO t pc cc)=W0 at hB1 hs1 C c0 c1 c18 hT2 hw0 ⊢
  have cK:=fun W=>(okind_any t.op W).mono (R':=fun e w'=>∃ v,e = .returned v/\(v = .int .i64 (knd t.op)/\w'=W)) fun e w' hh=>⟨_,hh.1,rfl,hh.2⟩
  have cG:=fun W=>(greatest_any t.b.p W).mono (R':=fun e w'=>∃ v,e = .returned v/\(v = .int .u64 (gmax t.b.p)/\w'=W)) fun e w' hh=>⟨_,hh.1,rfl,hh.2⟩
  have cC:=fun W=>(strClone t.name W hO.name).mono (R':=fun e w'=>∃ v,e = .returned v/\(v = .string t.name/\Below W.heap.size W w')) fun e w' hh=>⟨_,hh.1,rfl,hh.2⟩
  go_cut [6] from 12 to 25 (fun s wx=>∃ gp m,s = .pointer (some ⟨gp,0,none⟩)/\Hid (MkP f w p d t pc cc gp m wx))
  case first =>
   have hmk:=mkmS
   obtain⟨d0,d1,d18⟩:=C.out (W0.alloc (.map #[] 0)) (bel1 _ _)
   obtain⟨f0,f1,f18⟩:=C.out (W0.drew.alloc (.map #[] 0)) ((drw (Below.refl _ _)).trans (bel1 W0.drew _))
   clear hW0 lT sT hT2 hT tl ih
   have cK':=fun W=>okind_any t.op W
   have cG':=fun W=>greatest_any t.b.p W
   have cC':=fun W=>strClone t.name W hO.name
   go_region_held3 (fun X=>X.cell? ⟨w.heap.size,0,none⟩=some (.int .i64 t.op)/\X.cell? ⟨w.heap.size,1,none⟩=some (.string t.name)/\X.cell? ⟨w.heap.size,18,none⟩=some (.int .i64 t.b.p)) (first|assumption|(refine⟨?_,?_,?_⟩<;>assumption)|go_keep) (first
    | (go_at_call 38;refine(cK' _).mono ?_;rintro _ _ ⟨rfl,rfl⟩)
    | (go_at_call 40;refine(cG' _).mono ?_;rintro _ _ ⟨rfl,rfl⟩)
    | (go_at_call 39;refine(cC' _).mono ?_;rintro _ w1 ⟨rfl,hb1⟩;have hbX:Below W0.heap.size W0 w1:=(by first|exact hb1|exact(drw (Below.refl _ _)).trans hb1|exact(bel1 _ _).trans (hb1.mono (bel1 _ _).size)|exact(drw (bel1 _ _)).trans (hb1.mono (drw (bel1 _ _)).size));obtain⟨x0,x1,x18⟩:=C.out w1 hbX;obtain⟨z0,z1,z18⟩:=C.out (w1.alloc (.map #[] 0)) (hbX.trans ((bel1 w1 _).mono hbX.size))))
   all_goals
    go_wp2_with fail
    go_meet
    case rel=>first
     | exact⟨_,_,rfl,⟨mkp1 hP.bg.et hB1 hs1 hw0 hbX⟩⟩
     | exact⟨_,_,rfl,⟨mkp2 hP.bg.et hB1 hs1 hw0 hbX (by rw[<- hs1];exact((hb1.block W0.heap.size (by show W0.heap.size<(W0.alloc _).heap.size;rw[World.size_alloc];omega)).trans (heap_al W0 _)))⟩⟩
  obtain⟨gp,m,rfl,hI⟩:=hcut
  obtain⟨hI0,hBc,hwc⟩:=hI.out
  have TT:Hid (∀ W',Below w.heap.size w W'->TkL W' (some ⟨g,o,none⟩) w.heap.size f.toks):=⟨fun W' hb=>tl.below hb⟩
  have hpn:=hP.bg.bn
  have hnl:=hP.bg.nl
  have IH:Hid _:=⟨ih⟩
  clear hI hT lT sT hT2 C c0 c1 c18 cK cG cC hw0 hs1 hB1 hW0 tl ih
  have hp1:IntKind.i64.wrap ((p:Int)+1)=(p:Int)+1:=by rw[IntKind.wrap_i64];omega
  have H0:Hid _:=⟨hI0⟩
  have H1:Hid _:=⟨hBc⟩
  have H2:Hid _:=⟨hwc⟩
  have hsw:=hBc.size
  have hwl:=(Array.getElem?_eq_some_iff.1 hwc).1
  clear hI0 hBc hwc
  go_wp2_with fail
  go_loopw [7] (fun q wr=>∃ (i:Nat) (ks1 r gs:List Nat) (v:Value),q = .int .i64 (i:Int)/\p+1<=i/\i<=n/\Hid (ks=ks1++r/\Chn f.toks i r n/\PI f.toks wr w.heap.size wc.heap.size gp m p d ks1 gs v/\Below w.heap.size w wr/\wr.heap[w.heap.size]?=some (tkO t pc cc))) (fun q _=>n-(RowKit.intOf q).toNat)
  case atStart=>exact⟨p+1,[],ks,[],.slice none 0 0,by go_num,Nat.le_refl _,by omega,⟨rfl,hP.bg.ch,H0.out,H1.out,H2.out⟩⟩
  case round =>
   obtain⟨i,ks1,r,gs,v,rfl,hi1,hi2,hR⟩:=hrel
   obtain⟨hks,hC,hI,hBw,hww⟩:=hR.out
   have t20:=(tk_of hww).c20
   rw[hP.bg.en] at t20
   simp only[Nat.zero_add] at t20
   have hrn:∀ j∈r,j<n:=fun j hj=>(hP.bg.kn j (by rw[hks];exact List.mem_append_right _ hj)).2
   by_cases hlt:i<n
   ·obtain⟨r',rfl⟩:=chn_head hC hrn hlt
    have hki:i∈ks:=by rw[hks];simp
    have hil:i<f.toks.length:=by omega
    obtain⟨u,hu⟩:∃ u,f.toks[i]?=some u:=⟨f.toks[i],List.getElem?_eq_getElem hil⟩
    obtain⟨hop,mm,hum,hkm,_⟩:=hP.kop i hki u hu
    obtain⟨hmn,hC2⟩:=chn_next hC (fun j hj=>hrn j (List.mem_cons_of_mem _ hj)) hu hum
    have tlw:=TT.out wr hBw
    obtain⟨_,_,pu,cu,e,_,hTu,_,_,hOu⟩:=tlw.at hu
    cases e
    have u0:=hTu.c0
    have u1:=hTu.c1
    have u20:=hTu.c20
    rw[hum] at u20
    have hlti:(i:Int)<n:=by omega
    have hill:(i:Int)<f.toks.length:=by omega
    have hw2:IntKind.i64.wrap ((mm:Int)+1)=(mm:Int)+1:=by rw[IntKind.wrap_i64];omega
    have hks2:Hid (ks=(ks1++[i])++r'):=⟨by rw[hks];simp⟩
    have HC2:Hid _:=⟨hC2⟩
    have HI:Hid _:=⟨hI⟩
    have HB:Hid _:=⟨hBw⟩
    have HW:Hid _:=⟨hww⟩
    have HU:Hid _:=⟨hu⟩
    have HO:Hid _:=⟨hOu⟩
    have gp5:wr.cell? ⟨gp,5,none⟩=some v:=cell_at hI.c 5
    have gp4:wr.cell? ⟨gp,4,none⟩=some (.map (some m)):=cell_at hI.c 4
    have TL:Hid _:=⟨tlw⟩
    clear hR hks hC hC2 hI hBw hww hu hTu hOu tlw
    by_cases h2:u.op=2
    ·have c2:(u.op != 2)=false:=by simp[h2]
     have c2':(u.op==2)=true:=by simp[h2]
     have hrf:Hid (rowF f.toks i=false):=⟨by unfold rowF;rw[opAt_some HU.out];simp[h2]⟩
     have hff:Hid (fldF f.toks i=calledB f.toks i):=⟨by unfold fldF;rw[opAt_some HU.out];simp[h2]⟩
     have cI:=isCalled_any f.toks i mm u (some ⟨g,o,none⟩) cp wr w.heap.size TL.out HU.out hum hkm (by omega)
     cases hcb:calledB f.toks i with
     | false =>
      rw[hcb] at cI
      have hI2:Hid _:=⟨HI.out.skip (hff.out.trans hcb) hrf.out⟩
      clear hcb h2
      go_wp2_with (go_at_call 41;refine cI.mono ?_;rintro _ _ ⟨rfl,rfl⟩)
      go_roundw
      case rel=>exact⟨mm+1,ks1++[i],r',gs,v,by go_num,by omega,by omega,⟨hks2.out,HC2.out,hI2.out,HB.out,HW.out⟩⟩
      case measure=>simp[RowKit.intOf];omega
     | true =>
      rw[hcb] at cI
      have hkl:ks1.length<=733007751850:=by
       have h1:=hks2.out
       have h3:=rise_length hP.bg.up (fun k hk=>(hP.bg.kn k hk).2)
       rw[h1] at h3
       simp at h3
       omega
      have PU:Hid (∀ X,Below wr.heap.size wr X->∃ W',(Instr.mapUpdate 101 (.map (some m)) (.string u.name) (.agg #[])).run Tryz.prog X = .ok () W'/\PI f.toks W' w.heap.size wc.heap.size gp m p d (ks1++[i]) gs v/\Below w.heap.size w W'/\W'.heap[w.heap.size]?=some (tkO t pc cc)):=⟨fun X hb=>by
       have hX:=HI.out.below hb
       have hwX:X.heap[w.heap.size]?=some (tkO t pc cc):=(hb.block _ (Array.getElem?_eq_some_iff.1 HW.out).1).trans HW.out
       obtain⟨W',h1,h3,h4⟩:=hX.put hkl (Nat.le_trans HO.out.name (by decide)) (nmAt_some HU.out) (hff.out.trans hcb) hrf.out
       have hne:=hX.ne hwX
       have hBX:=HB.out.trans (hb.mono HB.out.size)
       refine⟨W',h1,h3,⟨h4.os.trans hBX.os,h4.tape.trans hBX.tape,h4.output.trans hBX.output,Nat.le_trans hBX.size h4.size,fun k hk=>(h4.block k (by have:=hBX.size;omega) (fun e=>by have:=Option.some.inj e;have:=hX.m1;omega)).trans (hBX.block k hk)⟩,(h4.block _ (Array.getElem?_eq_some_iff.1 hwX).1 (fun e=>hne.2 (Option.some.inj e).symm)).trans hwX⟩⟩
      have cC:=fun W=>strClone u.name W HO.out.name
      clear hcb h2
      go_upto_region 9 with (go_at_call 41;refine cI.mono ?_;rintro _ w9 ⟨rfl,he9⟩;replace he9:=he9.symm;subst he9)
      go_region_held3 (fun X=>X.cell? ⟨gp,4,none⟩=some (.map (some m))/\X.cell? ⟨g,o+i*21+1,none⟩=some (.string u.name)) (first|assumption|(refine⟨?_,?_⟩<;>assumption)|go_keep) (first
       | (go_at_call 39;refine(cC _).mono ?_;rintro _ w1 ⟨rfl,hb1⟩;have hbX:Below wr.heap.size wr w1:=(by first|exact hb1|exact(drw (Below.refl _ _)).trans hb1);obtain⟨w2,hrun,hI2,hB2,hW2⟩:=PU.out w1 hbX;have x4:w1.cell? ⟨gp,4,none⟩=some (.map (some m)):=cell_at (HI.out.below hbX).c 4;have x1:w1.cell? ⟨g,o+i*21+1,none⟩=some (.string u.name):=(hbX.cell (p:=⟨g,o+i*21+1,none⟩) (blk_of_cell u1)).trans u1;obtain⟨_,_,_,_,e3,_,hT3,_⟩:=(TT.out w2 hB2).at HU.out;cases e3;have y20:=hT3.c20;rw[hum] at y20;have y1:=hT3.c1;have y4:w2.cell? ⟨gp,4,none⟩=some (.map (some m)):=cell_at hI2.c 4;clear hT3;replace hI2:=Hid.mk hI2;replace hB2:=Hid.mk hB2;replace hW2:=Hid.mk hW2;replace hbX:=Hid.mk hbX;replace hb1:=Hid.mk hb1))
      all_goals
       go_wp2_with fail
       go_roundw
       case rel=>exact⟨mm+1,ks1++[i],r',gs,v,by go_num,by omega,by omega,⟨hks2.out,HC2.out,hI2.out,hB2.out,hW2.out⟩⟩
       case measure=>simp[RowKit.intOf];omega
    ·have c2:(u.op != 2)=true:=by simp[h2]
     have c2':(u.op==2)=false:=beq_eq_false_iff_ne.2 h2
     have hrf:Hid (rowF f.toks i=true):=⟨by unfold rowF;rw[opAt_some HU.out];simp[h2]⟩
     have hff:Hid (fldF f.toks i=false):=⟨by unfold fldF;rw[opAt_some HU.out];simp[h2]⟩
     obtain⟨n',ks',hPk⟩:=pb_of hz HU.out (by omega:u.op=0\/u.op=4\/u.op=6)
     have hn':n'=mm:=by have:=hPk.bg.en;omega
     have hkl:gs.length+1<=977343669134:=by
      have h1:=hks2.out
      have h3:=rise_length hP.bg.up (fun k hk=>(hP.bg.kn k hk).2)
      rw[h1] at h3
      simp at h3
      have h4:=HI.out.ln
      have h5:=List.length_filter_le (rowF f.toks) ks1
      omega
     have cP:Hid (∀ X,Below wr.heap.size wr X->Calls Tryz.prog 15 #[.slice (some ⟨g,o,none⟩) f.toks.length cp,.int .i64 (i:Int)] X fun e w'=>∃ v,e = .returned v/\(∃ g',v=ptV g'/\PtC f.toks w' X.heap.size w'.heap.size d g' i/\Below X.heap.size X w')):=⟨fun X hb=>by
      have hBX:=HB.out.trans (hb.mono HB.out.size)
      refine(IH.out i n' u ks' hPk (by omega) X ((TT.out X hBX).mono hBX.size)).mono ?_
      rintro e w' ⟨g',rfl,q1,q2⟩
      exact⟨_,rfl,g',rfl,q1,q2⟩⟩
     have ROW:Hid (∀ (w1 w2:World) (g':Nat) (v':Value),Below wr.heap.size wr w1->PtC f.toks w1 wr.heap.size w1.heap.size d g' i->w2.ownsRow wc.heap.size 62 1 v' (gs++[g']).length ((gs++[g']).map ptV)->(w1.alloc (.cells #[ptV g'] 62)).grownBy w2 v.ownBlock->(v'.ownBlock=v.ownBlock\/v'.ownBlock=some (w1.alloc (.cells #[ptV g'] 62)).heap.size) ->
       w2.cell? ⟨gp,5,none⟩=some v/\w2.frozen? ⟨gp,5,none⟩=false/\(w2.setCell ⟨gp,5,none⟩ v').cell? ⟨g,o+i*21+20,none⟩=some (.int .i64 (mm:Int))/\Hid (PI f.toks (w2.setCell ⟨gp,5,none⟩ v') w.heap.size wc.heap.size gp m p d (ks1++[i]) (gs++[g']) v'/\Below w.heap.size w (w2.setCell ⟨gp,5,none⟩ v')/\(w2.setCell ⟨gp,5,none⟩ v').heap[w.heap.size]?=some (tkO t pc cc))):=⟨fun w1 w2 g' v' hb1 hp1 q1 q2 q3=>by
      have hba:=bel1 w1 (.cells #[ptV g'] 62)
      have hbA:Below wr.heap.size wr (w1.alloc (.cells #[ptV g'] 62)):=hb1.trans (hba.mono hb1.size)
      have hI3:=HI.out.row hff.out hrf.out (k:=i) hbA hba.size (hp1.same fun k _ hk=>hba.block k hk) q1 q2 q3
      have hg1:=HI.out.g1
      have hvl:∀ k,v.ownBlock=some k->wc.heap.size<=k/\k<wr.heap.size:=fun k hk=>HI.out.ow.lt k hk
      have hsz:=HI.out.sz
      have hcg:w2.heap[gp]?=_:=(q2.block gp (by have:=hbA.size;omega) (fun e=>by have:=(hvl gp e.symm).1;omega)).trans ((HI.out.below hbA).c)
      have hne:=HI.out.ne HW.out
      have hB2:Below w.heap.size w w2:=HB.out.trans (grown_below hbA q2 HB.out.size (fun k hk=>by have:=(hvl k hk).1;omega))
      have hB3:Below w.heap.size w (w2.setCell ⟨gp,5,none⟩ v'):=hB2.setCell (p:=⟨gp,5,none⟩) hg1.1 _
      have hwA:=(hbA.block _ (Array.getElem?_eq_some_iff.1 HW.out).1).trans HW.out
      have hw3:(w2.setCell ⟨gp,5,none⟩ v').heap[w.heap.size]?=some (tkO t pc cc):=(set_oth hne.1).trans ((q2.block _ (Array.getElem?_eq_some_iff.1 hwA).1 (fun e=>by have:=(hvl _ e.symm).1;omega)).trans hwA)
      obtain⟨_,_,_,_,e3,_,hT3,_⟩:=(TT.out _ hB3).at HU.out
      cases e3
      have y20:=hT3.c20
      rw[hum] at y20
      exact⟨cell_at hcg 5,by simp[World.frozen?,hcg],y20,⟨hI3,hB3,hw3⟩⟩⟩
     clear h2
     go_upto_region 7 with fail
     go_region_law ((first
      | (refine xstep2 rfl _ _ _ #[28,3] (by rfl) ent_part (.slice (some ⟨g,o,none⟩) f.toks.length cp) (.int .i64 (i:Int)) (by rfl) (by rfl) _ (cP.out _ (by first|exact Below.refl _ _|exact drw (Below.refl _ _))) ?_;rintro _ w1 ⟨g',rfl,hP1,hb1⟩;have hbX:Below wr.heap.size wr w1:=(by first|exact hb1|exact(drw (Below.refl _ _)).trans hb1);have x5:w1.cell? ⟨gp,5,none⟩=some v:=cell_at (HI.out.below hbX).c 5;have z5:(w1.alloc (.cells #[ptV g'] 62)).cell? ⟨gp,5,none⟩=some v:=cell_at ((HI.out.below hbX).below (bel1 _ _)).c 5)
      | (refine step_append_ex rfl _ _ _ _ (by rfl) v (.slice (some ⟨w1.heap.size,0,none⟩) 1 1) (by rfl) (by rfl) _ (p_ap (W:=w1.alloc (.cells #[ptV g'] 62)) (base:=wc.heap.size) (own_keep (HI.out.below hbX).ow (bel1 _ _)) (World.news_of_block (thnK w1 _) 0 _ rfl) hkl (by have h1:=(HI.out.below hbX).sz;have h2:=(bel1 w1 (.cells #[ptV g'] 62)).size;omega)) ?_;rintro v' w2 ⟨q1,q2,q3⟩;obtain⟨go',cap',rfl⟩:=own_sl q1 (by simp);obtain⟨y5,yf,y20,HX⟩:=ROW.out w1 w2 g' _ hbX hP1 q1 q2 q3;rw[show (gs++[g']).length=gs.length+1 from by simp] at y20 HX)))
     all_goals
      go_wp2_with fail
      go_roundw
      case rel=>exact⟨mm+1,ks1++[i],r',gs++[g'],_,by go_num,by omega,by omega,⟨hks2.out,HC2.out,HX.out.1,HX.out.2.1,HX.out.2.2⟩⟩
      case measure=>simp[RowKit.intOf];omega
   ·obtain rfl:i=n:=by omega
    have hr0:=chn_end hC hrn
    subst hr0
    rw[List.append_nil] at hks
    subst hks
    have b1:decide ((i:Int)<i)=false:=by simp
    have HD:Hid _:=⟨hI.done hP.bg⟩
    have HB:Hid _:=⟨hBw⟩
    clear hR hC hI hBw hww TT IH
    go_wp2_with fail
    go_ret
    exact⟨_,rfl,HD.out,HB.out⟩
end Go.Proofs.YtbhmciieiilcfaaGreatDoor
