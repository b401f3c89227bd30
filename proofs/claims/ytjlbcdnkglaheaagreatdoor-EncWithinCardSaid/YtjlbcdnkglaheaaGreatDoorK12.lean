import Derived.Test.YtjlbcdnkglaheaaGreatDoorK11
import Derived.Deep.WholeRow
import Derived.Deep.CutBlock
import Derived.Deep.RegionHeld3
namespace Go.Proofs.YtjlbcdnkglaheaaGreatDoor
set_option maxRecDepth 1000000
set_option maxHeartbeats 16000000
open Go.ChangeShapes Go.WideShapes Go.ChangeAt Go.RowKit Go.Shelf Go.Maps
abbrev tkO (t:Tk) (pc:Option Addr) (cc:Nat):Obj:=.cells (tkC t pc cc).toArray 78
theorem two_1 (w:World) (A B:Obj):((w.alloc A).alloc B).heap[w.heap.size]?=some A:=by
 show ((w.heap.push A).push B)[w.heap.size]?=_
 rw[Array.getElem?_push,if_neg (by simp),Array.getElem?_push,if_pos rfl]
theorem two_2 (w:World) (A B:Obj):((w.alloc A).alloc B).heap[w.heap.size+1]?=some B:=by
 show ((w.heap.push A).push B)[w.heap.size+1]?=_
 rw[Array.getElem?_push,if_pos (by simp)]
theorem tk_of {w:World} {g:Nat} {t:Tk} {pc:Option Addr} {cc:Nat} (h:w.heap[g]?=some (tkO t pc cc)):TkC w g 0 t pc cc :=
 tkC_of fun j u hu=>by
  rw[Nat.zero_add,cell_at h j,List.getElem?_toArray]
  exact hu
theorem wpList_ld {P:Program} {ops:Array Oper} {Q:Exit->Act->World->Prop} {a:Act} {w:World} {rest:List Oper} {o:Oper} (ty:TypeId) (x:Operand) (ho:o.op = .load ty x)
  (hw:Region.wanted o (yielded ops a.tmps)=true) (p v:Value) (hx:a.eval x=p) (hr:(Instr.loadAt ty p).run P w = .ok v w) (h:wpList P ops Q rest (a.put o.dst v) w):wpList P ops Q (o::rest) a w:=by
 refine wpList_step fun K hK=>?_
 rw[if_pos hw]
 unfold Oper.wp execOp
 simp only[ho,hx,hr,Sem.run_bind,Result.andThen_ok]
 exact hK _ _ h
theorem tk_range {w:World} {g o:Nat} {t:Tk} {pc:Option Addr} {cc:Nat} (h:TkC w g o t pc cc):w.rangeAt g o (tkC t pc cc):=by
 intro j v hv
 have hj:j<21:=(List.getElem?_eq_some_iff.1 hv).1
 have h21:j=0\/j=1\/j=2\/j=3\/j=4\/j=5\/j=6\/j=7\/j=8\/j=9\/j=10\/j=11\/j=12\/j=13\/j=14\/j=15\/j=16\/j=17\/j=18\/j=19\/j=20:=by omega
 rcases h21 with rfl|rfl|rfl|rfl|rfl|rfl|rfl|rfl|rfl|rfl|rfl|rfl|rfl|rfl|rfl|rfl|rfl|rfl|rfl|rfl|rfl<;>cases Option.some.inj hv
 ·exact h.c0
 ·exact h.c1
 ·exact h.c2
 ·exact h.c3
 ·exact h.c4
 ·exact h.c5
 ·exact h.c6
 ·exact h.c7
 ·exact h.c8
 ·exact h.c9
 ·exact h.c10
 ·exact h.c11
 ·exact h.c12
 ·exact h.c13
 ·exact h.c14
 ·exact h.c15
 ·exact h.c16
 ·exact h.c17
 ·exact h.c18
 ·exact h.c19
 ·exact h.c20
theorem infoTk:(Tryz.prog.info? 78).map (·.size)=some 21:=by kernel_rfl
theorem undTk:∃ d,Tryz.prog.underlying 78=some d/\d.isRow=true:=⟨_,Tryz.underlying78,rfl⟩
theorem TkC.load {w:World} {g o:Nat} {t:Tk} {pc:Option Addr} {cc:Nat} (h:TkC w g o t pc cc):(Instr.loadAt 78 (.pointer (some ⟨g,o,none⟩))).run Tryz.prog w = .ok (tkV t pc cc) w:=by
 obtain⟨d,hu,hd⟩:=undTk
 exact run_loadAt_mid w g o 78 (tkC t pc cc) d (tk_range h) hu hd infoTk
theorem wpList_st {P:Program} {ops:Array Oper} {Q:Exit->Act->World->Prop} {a:Act} {w w':World} {rest:List Oper} {o:Oper} (ty:TypeId) (x y:Operand) (ho:o.op = .store ty x y)
  (hw:Region.wanted o (yielded ops a.tmps)=true) (p v:Value) (hx:a.eval x=p) (hy:a.eval y=v) (hr:(Instr.storeAt ty p v).run P w = .ok () w') (h:wpList P ops Q rest (a.put o.dst undef) w'):wpList P ops Q (o::rest) a w:=by
 refine wpList_step fun K hK=>?_
 rw[if_pos hw]
 unfold Oper.wp execOp
 simp only[ho,hx,hy,hr,Sem.run_bind,Result.andThen_ok]
 exact hK _ _ h
theorem tkC_one (t:Tk) (pc:Option Addr) (cc:Nat):∀ u∈tkC t pc cc,u.oneCell'=true:=by
 intro u hu
 simp only[tkC,List.mem_cons,List.not_mem_nil,or_false] at hu
 rcases hu with rfl|rfl|rfl|rfl|rfl|rfl|rfl|rfl|rfl|rfl|rfl|rfl|rfl|rfl|rfl|rfl|rfl|rfl|rfl|rfl|rfl<;>rfl
theorem st_new (w:World) (z:Array Value) (hz:z.size=21) (t:Tk) (pc:Option Addr) (cc:Nat):(Instr.storeAt 78 (.pointer (some ⟨w.heap.size,0,none⟩)) (tkV t pc cc)).run Tryz.prog (w.alloc (.cells z 78)) = .ok () (w.alloc (tkO t pc cc)) :=
 run_storeAt_new w 78 z (tkC t pc cc).toArray infoTk hz (all_oneCell_toArray (tkC_one t pc cc))
theorem ent_clone:∀ ag w,(callFunc 56 ag).run Tryz.prog w = .ok (.enter 56 ag) w:=enters_of Tryz.func56 (by kernel_rfl) rfl
theorem ent_part:∀ ag w,(callFunc 54 ag).run Tryz.prog w = .ok (.enter 54 ag) w:=enters_of Tryz.func54 (by kernel_rfl) rfl
theorem PI.new {l:List Tk} {W:World} {lo gp m p d:Nat} (hc:W.heap[gp]?=some (.cells #[.int .i64 (knd (opAt l p)),.string (nmAt l p),.int .i64 (p:Int),.int .u64 (gmax (bpAt l p)),.map (some m),.slice none 0 0] 173)) (hm:W.heap[m]?=some (.map #[] 0)) (h1:lo<=gp) (h2:lo<=m) (hne:gp≠m):PI l W lo W.heap.size gp m p d [] [] (.slice none 0 0):=by
 have g1:=(Array.getElem?_eq_some_iff.1 hc).1
 have m1:=(Array.getElem?_eq_some_iff.1 hm).1
 refine⟨hc,⟨0,Nat.le_refl _,?_⟩,World.ownsRow_nil _ _ _ 1,rfl,fun j g' q e=>by simp at e,⟨h1,g1⟩,⟨h2,m1⟩,hne,Nat.le_refl _⟩
 obtain⟨D,⟨es,ck,e,r⟩,h2⟩:=SHas.made W
 rw[show (W.alloc (.map #[] 0)).heap[W.heap.size]?=some (.map #[] 0) from heap_al _ _] at e
 refine⟨D,⟨es,ck,hm.trans e,r⟩,fun s hs=>?_⟩
 rw[h2 s hs]
 simp
def MkP (f:Fm) (w:World) (p d:Nat) (t:Tk) (pc:Option Addr) (cc:Nat) (gp m:Nat) (wx:World):Prop:=PI f.toks wx w.heap.size wx.heap.size gp m p d [] [] (.slice none 0 0)/\Below w.heap.size w wx/\wx.heap[w.heap.size]?=some (tkO t pc cc)
theorem mkp1 {f:Fm} {w W0 X:World} {p d:Nat} {t:Tk} {pc:Option Addr} {cc:Nat} (ht:f.toks[p]?=some t) (h0:Below w.heap.size w W0) (hs:W0.heap.size=w.heap.size+1) (hw0:W0.heap[w.heap.size]?=some (tkO t pc cc)) (hb:Below W0.heap.size W0 X) :
  MkP f w p d t pc cc (X.heap.size+1) X.heap.size ((X.alloc (.map #[] 0)).alloc (.cells #[.int .i64 (knd t.op),.string t.name,.int .i64 (p:Int),.int .u64 (gmax t.b.p),.map (some X.heap.size),.slice none 0 0] 173)):=by
 have hsX:=hb.size
 refine⟨PI.new ?_ ?_ (by omega) (by omega) (by omega),(h0.trans (hb.mono h0.size)).trans ((bb2 X _ _).mono (by omega)),((bb2 X _ _).block _ (by omega)).trans ((hb.block _ (by omega)).trans hw0)⟩
 ·rw[hp2,opAt_some ht,nmAt_some ht,bpAt_some ht]
 ·exact((bel1 _ _).block _ (by rw[World.size_alloc];omega)).trans (heap_al _ _)
theorem mkp2 {f:Fm} {w W0 X:World} {p d:Nat} {t:Tk} {pc:Option Addr} {cc:Nat} (ht:f.toks[p]?=some t) (h0:Below w.heap.size w W0) (hs:W0.heap.size=w.heap.size+1) (hw0:W0.heap[w.heap.size]?=some (tkO t pc cc)) (hb:Below W0.heap.size W0 X) (hm:X.heap[w.heap.size+1]?=some (.map #[] 0)) :
  MkP f w p d t pc cc X.heap.size (w.heap.size+1) (X.alloc (.cells #[.int .i64 (knd t.op),.string t.name,.int .i64 (p:Int),.int .u64 (gmax t.b.p),.map (some (w.heap.size+1)),.slice none 0 0] 173)):=by
 have hsX:=hb.size
 have hmX:=(Array.getElem?_eq_some_iff.1 hm).1
 refine⟨PI.new ?_ ?_ (by omega) (by omega) (by omega),(h0.trans (hb.mono h0.size)).trans ((bel1 X _).mono (by omega)),((bel1 X _).block _ (by omega)).trans ((hb.block _ (by omega)).trans hw0)⟩
 ·rw[heap_al,opAt_some ht,nmAt_some ht,bpAt_some ht]
 ·exact((bel1 _ _).block _ hmX).trans hm
theorem PI.put {l:List Tk} {W:World} {lo S gp m p d:Nat} {ks1 gs:List Nat} {v:Value} {k:Nat} {s:ByteArray} (h:PI l W lo S gp m p d ks1 gs v) (hl:ks1.length<=733007751850) (hs:s.size<=maxLen) (hn:nmAt l k=s) (hf:fldF l k=true) (hr:rowF l k=false) :
  ∃ W',(Instr.mapUpdate 170 (.map (some m)) (.string s) (.agg #[])).run Tryz.prog W = .ok () W'/\PI l W' lo S gp m p d (ks1++[k]) gs v/\W.grownBy W' (some m):=by
 obtain⟨k0,hk0,D,hD,hh⟩:=h.mp
 obtain⟨W',h1,h2,h3⟩:=hD.update lawS Tryz.underlying170 (by simp only[maxLen];omega) (keyS s hs) unitElem_mk
 refine⟨W',h1,h.field hf hr h3 ⟨k0+1,by omega,?_⟩,h3⟩
 rw[hn]
 exact SHas.put hD hh hs h2
theorem PI.ne {l:List Tk} {W:World} {lo S gp m p d b:Nat} {ks1 gs:List Nat} {v:Value} {t:Tk} {pc:Option Addr} {cc:Nat} (h:PI l W lo S gp m p d ks1 gs v) (hb:W.heap[b]?=some (tkO t pc cc)):gp≠b/\m≠b:=by
 constructor
 ·rintro rfl
  have:=h.c
  rw[hb] at this
  simp[tkO] at this
 ·rintro rfl
  obtain⟨k0,hk0,D,⟨es,ck,e,_⟩,hh⟩:=h.mp
  rw[hb] at e
  cases e
theorem own_sl {W:World} {base n:Nat} {ty:TypeId} {v:Value} {xs:List Value} (h:W.ownsRow base ty 1 v n xs) (hl:0<n):∃ go cap,v = .slice (some ⟨go,0,none⟩) n cap:=by
 rcases h.2 with ⟨_,h0⟩|⟨go,cap,cur,e,_⟩
 ·omega
 ·exact⟨go,cap,e⟩
theorem mkmS:∀ W:World,(Instr.makeMap 170 none).run Tryz.prog W = .ok (.map (some W.heap.size)) (W.alloc (.map #[] 0)):=fun _=>rfl
theorem partAt_any (f:Fm) (hz:chkZ f=none) (pp:Option Addr) (cp:Nat):∀ (d p n:Nat) (t:Tk) (ks:List Nat),Pb f.toks p n t ks->n-p<=d->∀ (w:World),TkL w pp w.heap.size f.toks ->
  Calls Tryz.prog 54 #[.slice pp f.toks.length cp,.int .i64 (p:Int)] w fun r w'=>∃ g,r = .returned (.pointer (some ⟨g,0,none⟩))/\PtC f.toks w' w.heap.size w'.heap.size d g p/\Below w.heap.size w w':=by
 intro d
 induction d with
 | zero=>intro p n t ks hP hd;have:=hP.bg.bn;omega
 | succ d ih =>
  intro p n t ks hP hd w tl
  obtain⟨g,o,pc,cc,rfl,hg,hT,_,_,hO⟩:=tl.at hP.bg.et
  have hll:f.toks.length<=733007751850:=by have:=tl.len;omega
  have hpl:(p:Int)<f.toks.length:=by have:=hP.bg.bn;have:=hP.bg.nl;omega
  have lT:Hid _:=⟨hT.load⟩
  have sT:Hid _:=⟨fun z hz=>st_new w z hz t pc cc⟩
  have hT2:=tk_of (thnK w (tkO t pc cc))
  have hB1:=nbel w (tkO t pc cc)
  have hs1:(w.alloc (tkO t pc cc)).heap.size=w.heap.size+1:=World.size_alloc _ _
  go_enter Tryz.func54,Tryz.ntmps54
  go_upto_region 2 with (first
   | (guard_target =~ wpList _ _ _ (Oper.mk _ (Op.load 78 _) _ _ _ _::_) _ _;go_must (refine wpList_ld 78 (.tmp 10) rfl rfl _ _ rfl lT.out ?_);simp only[pts])
   | (guard_target =~ wpList _ _ _ (Oper.mk _ (Op.store 78 _ _) _ _ _ _::_) _ _;go_must (refine wpList_st 78 (.tmp 5) (.tmp 11) rfl rfl _ _ rfl rfl (sT.out _ rfl) ?_);simp only[pts]))
  have C:Hid (∀ X,Below (w.alloc (tkO t pc cc)).heap.size (w.alloc (tkO t pc cc)) X->X.cell? ⟨w.heap.size,0,none⟩=some (.int .i64 t.op)/\X.cell? ⟨w.heap.size,1,none⟩=some (.string t.name)/\X.cell? ⟨w.heap.size,18,none⟩=some (.int .i64 t.b.p)):=⟨fun X hb=>by
   have e:=tk_of ((hb.block w.heap.size (by omega)).trans (thnK w (tkO t pc cc)))
   have e0:=e.c0
   have e1:=e.c1
   have e18:=e.c18
   simp only[Nat.zero_add] at e1 e18
   exact⟨e0,e1,e18⟩⟩
  obtain⟨c0,c1,c18⟩:=C.out _ (Below.refl _ _)
  have hw0:=thnK w (tkO t pc cc)
  generalize hW0:w.alloc (tkO t pc cc)=W0 at hB1 hs1 C c0 c1 c18 hT2 hw0 ⊢
  have cK:=fun W=>(okind_any t.op W).mono (R':=fun e w'=>∃ v,e = .returned v/\(v = .int .i64 (knd t.op)/\w'=W)) fun e w' hh=>⟨_,hh.1,rfl,hh.2⟩
  have cG:=fun W=>(greatest_any t.b.p W).mono (R':=fun e w'=>∃ v,e = .returned v/\(v = .int .u64 (gmax t.b.p)/\w'=W)) fun e w' hh=>⟨_,hh.1,rfl,hh.2⟩
  have cC:=fun W=>(strClone t.name W hO.name).mono (R':=fun e w'=>∃ v,e = .returned v/\(v = .string t.name/\Below W.heap.size W w')) fun e w' hh=>⟨_,hh.1,rfl,hh.2⟩
  go_cut [6] from 12 to 25 (fun s wx=>∃ gp m,s = .pointer (some ⟨gp,0,none⟩)/\Hid (MkP f w p d t pc cc gp m wx))
  case first =>
   have hmk:=mkmS
   obtain⟨d0,d1,d18⟩:=C.out (W0.alloc (.map #[] 0)) (bel1 _ _)
   obtain⟨f0,f1,f18⟩:=C.out (W0.drew.alloc (.map #[] 0)) ((drw (Below.refl _ _)).trans (bel1 W0.drew _))
   clear hW0 lT sT hT2 hT tl ih
   have cK':=fun W=>okind_any t.op W
   have cG':=fun W=>greatest_any t.b.p W
   have cC':=fun W=>strClone t.name W hO.name
   go_region_held3 (fun X=>X.cell? ⟨w.heap.size,0,none⟩=some (.int .i64 t.op)/\X.cell? ⟨w.heap.size,1,none⟩=some (.string t.name)/\X.cell? ⟨w.heap.size,18,none⟩=some (.int .i64 t.b.p)) (first|assumption|(refine⟨?_,?_,?_⟩<;>assumption)|go_keep) (first
    | (go_at_call 95;refine(cK' _).mono ?_;rintro _ _ ⟨rfl,rfl⟩)
    | (go_at_call 96;refine(cG' _).mono ?_;rintro _ _ ⟨rfl,rfl⟩)
    | (go_at_call 56;refine(cC' _).mono ?_;rintro _ w1 ⟨rfl,hb1⟩;have hbX:Below W0.heap.size W0 w1:=(by first|exact hb1|exact(drw (Below.refl _ _)).trans hb1|exact(bel1 _ _).trans (hb1.mono (bel1 _ _).size)|exact(drw (bel1 _ _)).trans (hb1.mono (drw (bel1 _ _)).size));obtain⟨x0,x1,x18⟩:=C.out w1 hbX;obtain⟨z0,z1,z18⟩:=C.out (w1.alloc (.map #[] 0)) (hbX.trans ((bel1 w1 _).mono hbX.size))))
   all_goals
    go_wp2_with fail
    go_meet
    case rel=>first
     | exact⟨_,_,rfl,⟨mkp1 hP.bg.et hB1 hs1 hw0 hbX⟩⟩
     | exact⟨_,_,rfl,⟨mkp2 hP.bg.et hB1 hs1 hw0 hbX (by rw[<- hs1];exact((hb1.block W0.heap.size (by show W0.heap.size<(W0.alloc _).heap.size;rw[World.size_alloc];omega)).trans (heap_al W0 _)))⟩⟩
  obtain⟨gp,m,rfl,hI⟩:=hcut
  obtain⟨hI0,hBc,hwc⟩:=hI.out
  have TT:Hid (∀ W',Below w.heap.size w W'->TkL W' (some ⟨g,o,none⟩) w.heap.size f.toks):=⟨fun W' hb=>tl.below hb⟩
  have hpn:=hP.bg.bn
  have hnl:=hP.bg.nl
  have IH:Hid _:=⟨ih⟩
  clear hI hT lT sT hT2 C c0 c1 c18 cK cG cC hw0 hs1 hB1 hW0 tl ih
  have hp1:IntKind.i64.wrap ((p:Int)+1)=(p:Int)+1:=by rw[IntKind.wrap_i64];omega
  have H0:Hid _:=⟨hI0⟩
  have H1:Hid _:=⟨hBc⟩
  have H2:Hid _:=⟨hwc⟩
  have hsw:=hBc.size
  have hwl:=(Array.getElem?_eq_some_iff.1 hwc).1
  clear hI0 hBc hwc
  go_wp2_with fail
  go_loopw [7] (fun q wr=>∃ (i:Nat) (ks1 r gs:List Nat) (v:Value),q = .int .i64 (i:Int)/\p+1<=i/\i<=n/\Hid (ks=ks1++r/\Chn f.toks i r n/\PI f.toks wr w.heap.size wc.heap.size gp m p d ks1 gs v/\Below w.heap.size w wr/\wr.heap[w.heap.size]?=some (tkO t pc cc))) (fun q _=>n-(RowKit.intOf q).toNat)
  case atStart=>exact⟨p+1,[],ks,[],.slice none 0 0,by go_num,Nat.le_refl _,by omega,⟨rfl,hP.bg.ch,H0.out,H1.out,H2.out⟩⟩
  case round =>
   obtain⟨i,ks1,r,gs,v,rfl,hi1,hi2,hR⟩:=hrel
   obtain⟨hks,hC,hI,hBw,hww⟩:=hR.out
   have t20:=(tk_of hww).c20
   rw[hP.bg.en] at t20
   simp only[Nat.zero_add] at t20
   have hrn:∀ j∈r,j<n:=fun j hj=>(hP.bg.kn j (by rw[hks];exact List.mem_append_right _ hj)).2
   by_cases hlt:i<n
   ·obtain⟨r',rfl⟩:=chn_head hC hrn hlt
    have hki:i∈ks:=by rw[hks];simp
    have hil:i<f.toks.length:=by omega
    obtain⟨u,hu⟩:∃ u,f.toks[i]?=some u:=⟨f.toks[i],List.getElem?_eq_getElem hil⟩
    obtain⟨hop,mm,hum,hkm,_⟩:=hP.kop i hki u hu
    obtain⟨hmn,hC2⟩:=chn_next hC (fun j hj=>hrn j (List.mem_cons_of_mem _ hj)) hu hum
    have tlw:=TT.out wr hBw
    obtain⟨_,_,pu,cu,e,_,hTu,_,_,hOu⟩:=tlw.at hu
    cases e
    have u0:=hTu.c0
    have u1:=hTu.c1
    have u20:=hTu.c20
    rw[hum] at u20
    have hlti:(i:Int)<n:=by omega
    have hill:(i:Int)<f.toks.length:=by omega
    have hw2:IntKind.i64.wrap ((mm:Int)+1)=(mm:Int)+1:=by rw[IntKind.wrap_i64];omega
    have hks2:Hid (ks=(ks1++[i])++r'):=⟨by rw[hks];simp⟩
    have HC2:Hid _:=⟨hC2⟩
    have HI:Hid _:=⟨hI⟩
    have HB:Hid _:=⟨hBw⟩
    have HW:Hid _:=⟨hww⟩
    have HU:Hid _:=⟨hu⟩
    have HO:Hid _:=⟨hOu⟩
    have gp5:wr.cell? ⟨gp,5,none⟩=some v:=cell_at hI.c 5
    have gp4:wr.cell? ⟨gp,4,none⟩=some (.map (some m)):=cell_at hI.c 4
    have TL:Hid _:=⟨tlw⟩
    clear hR hks hC hC2 hI hBw hww hu hTu hOu tlw
    by_cases h2:u.op=2
    ·have c2:(u.op != 2)=false:=by simp[h2]
     have c2':(u.op==2)=true:=by simp[h2]
     have hrf:Hid (rowF f.toks i=false):=⟨by unfold rowF;rw[opAt_some HU.out];simp[h2]⟩
     have hff:Hid (fldF f.toks i=calledB f.toks i):=⟨by unfold fldF;rw[opAt_some HU.out];simp[h2]⟩
     have cI:=isCalled_any f.toks i mm u (some ⟨g,o,none⟩) cp wr w.heap.size TL.out HU.out hum hkm (by omega)
     cases hcb:calledB f.toks i with
     | false =>
      rw[hcb] at cI
      have hI2:Hid _:=⟨HI.out.skip (hff.out.trans hcb) hrf.out⟩
      clear hcb h2
      go_wp2_with (go_at_call 97;refine cI.mono ?_;rintro _ _ ⟨rfl,rfl⟩)
      go_roundw
      case rel=>exact⟨mm+1,ks1++[i],r',gs,v,by go_num,by omega,by omega,⟨hks2.out,HC2.out,hI2.out,HB.out,HW.out⟩⟩
      case measure=>simp[RowKit.intOf];omega
     | true =>
      rw[hcb] at cI
      have hkl:ks1.length<=733007751850:=by
       have h1:=hks2.out
       have h3:=rise_length hP.bg.up (fun k hk=>(hP.bg.kn k hk).2)
       rw[h1] at h3
       simp at h3
       omega
      have PU:Hid (∀ X,Below wr.heap.size wr X->∃ W',(Instr.mapUpdate 170 (.map (some m)) (.string u.name) (.agg #[])).run Tryz.prog X = .ok () W'/\PI f.toks W' w.heap.size wc.heap.size gp m p d (ks1++[i]) gs v/\Below w.heap.size w W'/\W'.heap[w.heap.size]?=some (tkO t pc cc)):=⟨fun X hb=>by
       have hX:=HI.out.below hb
       have hwX:X.heap[w.heap.size]?=some (tkO t pc cc):=(hb.block _ (Array.getElem?_eq_some_iff.1 HW.out).1).trans HW.out
       obtain⟨W',h1,h3,h4⟩:=hX.put hkl (Nat.le_trans HO.out.name (by decide)) (nmAt_some HU.out) (hff.out.trans hcb) hrf.out
       have hne:=hX.ne hwX
       have hBX:=HB.out.trans (hb.mono HB.out.size)
       refine⟨W',h1,h3,⟨h4.os.trans hBX.os,h4.tape.trans hBX.tape,h4.output.trans hBX.output,Nat.le_trans hBX.size h4.size,fun k hk=>(h4.block k (by have:=hBX.size;omega) (fun e=>by have:=Option.some.inj e;have:=hX.m1;omega)).trans (hBX.block k hk)⟩,(h4.block _ (Array.getElem?_eq_some_iff.1 hwX).1 (fun e=>hne.2 (Option.some.inj e).symm)).trans hwX⟩⟩
      have cC:=fun W=>strClone u.name W HO.out.name
      clear hcb h2
      go_upto_region 9 with (go_at_call 97;refine cI.mono ?_;rintro _ w9 ⟨rfl,he9⟩;replace he9:=he9.symm;subst he9)
      go_region_held3 (fun X=>X.cell? ⟨gp,4,none⟩=some (.map (some m))/\X.cell? ⟨g,o+i*21+1,none⟩=some (.string u.name)) (first|assumption|(refine⟨?_,?_⟩<;>assumption)|go_keep) (first
       | (go_at_call 56;refine(cC _).mono ?_;rintro _ w1 ⟨rfl,hb1⟩;have hbX:Below wr.heap.size wr w1:=(by first|exact hb1|exact(drw (Below.refl _ _)).trans hb1);obtain⟨w2,hrun,hI2,hB2,hW2⟩:=PU.out w1 hbX;have x4:w1.cell? ⟨gp,4,none⟩=some (.map (some m)):=cell_at (HI.out.below hbX).c 4;have x1:w1.cell? ⟨g,o+i*21+1,none⟩=some (.string u.name):=(hbX.cell (p:=⟨g,o+i*21+1,none⟩) (blk_of_cell u1)).trans u1;obtain⟨_,_,_,_,e3,_,hT3,_⟩:=(TT.out w2 hB2).at HU.out;cases e3;have y20:=hT3.c20;rw[hum] at y20;have y1:=hT3.c1;have y4:w2.cell? ⟨gp,4,none⟩=some (.map (some m)):=cell_at hI2.c 4;clear hT3;replace hI2:=Hid.mk hI2;replace hB2:=Hid.mk hB2;replace hW2:=Hid.mk hW2;replace hbX:=Hid.mk hbX;replace hb1:=Hid.mk hb1))
      all_goals
       go_wp2_with fail
       go_roundw
       case rel=>exact⟨mm+1,ks1++[i],r',gs,v,by go_num,by omega,by omega,⟨hks2.out,HC2.out,hI2.out,hB2.out,hW2.out⟩⟩
       case measure=>simp[RowKit.intOf];omega
    ·have c2:(u.op != 2)=true:=by simp[h2]
     have c2':(u.op==2)=false:=beq_eq_false_iff_ne.2 h2
     have hrf:Hid (rowF f.toks i=true):=⟨by unfold rowF;rw[opAt_some HU.out];simp[h2]⟩
     have hff:Hid (fldF f.toks i=false):=⟨by unfold fldF;rw[opAt_some HU.out];simp[h2]⟩
     obtain⟨n',ks',hPk⟩:=pb_of hz HU.out (by omega:u.op=0\/u.op=4\/u.op=6)
     have hn':n'=mm:=by have:=hPk.bg.en;omega
     have hkl:gs.length+1<=977343669134:=by
      have h1:=hks2.out
      have h3:=rise_length hP.bg.up (fun k hk=>(hP.bg.kn k hk).2)
      rw[h1] at h3
      simp at h3
      have h4:=HI.out.ln
      have h5:=List.length_filter_le (rowF f.toks) ks1
      omega
     have cP:Hid (∀ X,Below wr.heap.size wr X->Calls Tryz.prog 54 #[.slice (some ⟨g,o,none⟩) f.toks.length cp,.int .i64 (i:Int)] X fun e w'=>∃ v,e = .returned v/\(∃ g',v=ptV g'/\PtC f.toks w' X.heap.size w'.heap.size d g' i/\Below X.heap.size X w')):=⟨fun X hb=>by
      have hBX:=HB.out.trans (hb.mono HB.out.size)
      refine(IH.out i n' u ks' hPk (by omega) X ((TT.out X hBX).mono hBX.size)).mono ?_
      rintro e w' ⟨g',rfl,q1,q2⟩
      exact⟨_,rfl,g',rfl,q1,q2⟩⟩
     have ROW:Hid (∀ (w1 w2:World) (g':Nat) (v':Value),Below wr.heap.size wr w1->PtC f.toks w1 wr.heap.size w1.heap.size d g' i->w2.ownsRow wc.heap.size 113 1 v' (gs++[g']).length ((gs++[g']).map ptV)->(w1.alloc (.cells #[ptV g'] 113)).grownBy w2 v.ownBlock->(v'.ownBlock=v.ownBlock\/v'.ownBlock=some (w1.alloc (.cells #[ptV g'] 113)).heap.size) ->
       w2.cell? ⟨gp,5,none⟩=some v/\w2.frozen? ⟨gp,5,none⟩=false/\(w2.setCell ⟨gp,5,none⟩ v').cell? ⟨g,o+i*21+20,none⟩=some (.int .i64 (mm:Int))/\Hid (PI f.toks (w2.setCell ⟨gp,5,none⟩ v') w.heap.size wc.heap.size gp m p d (ks1++[i]) (gs++[g']) v'/\Below w.heap.size w (w2.setCell ⟨gp,5,none⟩ v')/\(w2.setCell ⟨gp,5,none⟩ v').heap[w.heap.size]?=some (tkO t pc cc))):=⟨fun w1 w2 g' v' hb1 hp1 q1 q2 q3=>by
      have hba:=bel1 w1 (.cells #[ptV g'] 113)
      have hbA:Below wr.heap.size wr (w1.alloc (.cells #[ptV g'] 113)):=hb1.trans (hba.mono hb1.size)
      have hI3:=HI.out.row hff.out hrf.out (k:=i) hbA hba.size (hp1.same fun k _ hk=>hba.block k hk) q1 q2 q3
      have hg1:=HI.out.g1
      have hvl:∀ k,v.ownBlock=some k->wc.heap.size<=k/\k<wr.heap.size:=fun k hk=>HI.out.ow.lt k hk
      have hsz:=HI.out.sz
      have hcg:w2.heap[gp]?=_:=(q2.block gp (by have:=hbA.size;omega) (fun e=>by have:=(hvl gp e.symm).1;omega)).trans ((HI.out.below hbA).c)
      have hne:=HI.out.ne HW.out
      have hB2:Below w.heap.size w w2:=HB.out.trans (grown_below hbA q2 HB.out.size (fun k hk=>by have:=(hvl k hk).1;omega))
      have hB3:Below w.heap.size w (w2.setCell ⟨gp,5,none⟩ v'):=hB2.setCell (p:=⟨gp,5,none⟩) hg1.1 _
      have hwA:=(hbA.block _ (Array.getElem?_eq_some_iff.1 HW.out).1).trans HW.out
      have hw3:(w2.setCell ⟨gp,5,none⟩ v').heap[w.heap.size]?=some (tkO t pc cc):=(set_oth hne.1).trans ((q2.block _ (Array.getElem?_eq_some_iff.1 hwA).1 (fun e=>by have:=(hvl _ e.symm).1;omega)).trans hwA)
      obtain⟨_,_,_,_,e3,_,hT3,_⟩:=(TT.out _ hB3).at HU.out
      cases e3
      have y20:=hT3.c20
      rw[hum] at y20
      exact⟨cell_at hcg 5,by simp[World.frozen?,hcg],y20,⟨hI3,hB3,hw3⟩⟩⟩
     clear h2
     go_upto_region 7 with fail
     go_region_law ((first
      | (refine xstep2 rfl _ _ _ #[28,3] (by rfl) ent_part (.slice (some ⟨g,o,none⟩) f.toks.length cp) (.int .i64 (i:Int)) (by rfl) (by rfl) _ (cP.out _ (by first|exact Below.refl _ _|exact drw (Below.refl _ _))) ?_;rintro _ w1 ⟨g',rfl,hP1,hb1⟩;have hbX:Below wr.heap.size wr w1:=(by first|exact hb1|exact(drw (Below.refl _ _)).trans hb1);have x5:w1.cell? ⟨gp,5,none⟩=some v:=cell_at (HI.out.below hbX).c 5;have z5:(w1.alloc (.cells #[ptV g'] 113)).cell? ⟨gp,5,none⟩=some v:=cell_at ((HI.out.below hbX).below (bel1 _ _)).c 5)
      | (refine step_append_ex rfl _ _ _ _ (by rfl) v (.slice (some ⟨w1.heap.size,0,none⟩) 1 1) (by rfl) (by rfl) _ (p_ap (W:=w1.alloc (.cells #[ptV g'] 113)) (base:=wc.heap.size) (own_keep (HI.out.below hbX).ow (bel1 _ _)) (World.news_of_block (thnK w1 _) 0 _ rfl) hkl (by have h1:=(HI.out.below hbX).sz;have h2:=(bel1 w1 (.cells #[ptV g'] 113)).size;omega)) ?_;rintro v' w2 ⟨q1,q2,q3⟩;obtain⟨go',cap',rfl⟩:=own_sl q1 (by simp);obtain⟨y5,yf,y20,HX⟩:=ROW.out w1 w2 g' _ hbX hP1 q1 q2 q3;rw[show (gs++[g']).length=gs.length+1 from by simp] at y20 HX)))
     all_goals
      go_wp2_with fail
      go_roundw
      case rel=>exact⟨mm+1,ks1++[i],r',gs++[g'],_,by go_num,by omega,by omega,⟨hks2.out,HC2.out,HX.out.1,HX.out.2.1,HX.out.2.2⟩⟩
      case measure=>simp[RowKit.intOf];omega
   ·obtain rfl:i=n:=by omega
    have hr0:=chn_end hC hrn
    subst hr0
    rw[List.append_nil] at hks
    subst hks
    have b1:decide ((i:Int)<i)=false:=by simp
    have HD:Hid _:=⟨hI.done hP.bg⟩
    have HB:Hid _:=⟨hBw⟩
    clear hR hC hI hBw hww TT IH
    go_wp2_with fail
    go_ret
    exact⟨_,rfl,HD.out,HB.out⟩
open Go.ChangeMaps
structure Lf where
 p:Int
 o:Int
 n:Int
def lvE (u:Tk):Bool:=decide (u.op=14) && !decide (u.pres=2)
def lfE (t u:Tk):Lf:=⟨u.prim,wrap64 (t.off+u.off),u.len⟩
def oneL (l:List Tk) (t:Tk) (k:Nat):List Lf:=match l[k]? with
 | some u=>if lvE u=true then [lfE t u] else []
 | none=>[]
def lvsF (l:List Tk) (t:Tk) (p:Nat):Nat->List Lf
 | 0=>[]
 | k+1=>lvsF l t p k++oneL l t (p+k)
def wdsL:List Lf->Int
 | []=>0
 | x::r=>x.n+wdsL r
theorem wdsL_app (a b:List Lf):wdsL (a++b)=wdsL a+wdsL b:=by
 induction a with
 | nil=>simp[wdsL]
 | cons x r ih=>rw[List.cons_append,wdsL,wdsL,ih,Int.add_assoc]
def lfC (x:Lf):List Value:=[.int .i64 x.p,.int .i64 x.o,.int .i64 x.n]
def lfCs:List Lf->List Value
 | []=>[]
 | x::r=>lfC x++lfCs r
theorem lfCs_app (a b:List Lf):lfCs (a++b)=lfCs a++lfCs b:=by
 induction a with
 | nil=>rfl
 | cons x r ih=>rw[List.cons_append,lfCs,lfCs,ih,List.append_assoc]
theorem lfCs_get (a:List Lf) (i:Nat) (x:Lf) (h:a[i]?=some x):(lfCs a)[i*3]?=some (.int .i64 x.p)/\(lfCs a)[i*3+1]?=some (.int .i64 x.o)/\(lfCs a)[i*3+2]?=some (.int .i64 x.n):=by
 induction a generalizing i with
 | nil=>simp at h
 | cons y r ih =>
  cases i with
  | zero=>simp at h;subst h;exact⟨rfl,rfl,rfl⟩
  | succ i =>
   have:=ih i (by simpa using h)
   rw[show (i+1)*3=i*3+3 by omega,show i*3+3+1=(i*3+1)+3 by omega,show i*3+3+2=(i*3+2)+3 by omega]
   exact this
theorem lvsF_len (l:List Tk) (t:Tk) (p:Nat):∀ k,(lvsF l t p k).length<=k
 | 0=>Nat.le_refl _
 | k+1=>by
  have:=lvsF_len l t p k
  rw[lvsF,List.length_append]
  unfold oneL
  split
  ·split<;>simp<;>omega
  ·simp;omega
theorem enc_len {f:Fm} (hz:chkZ f=none) {i:Nat} {u:Tk} (hu:f.toks[i]?=some u) (ho:u.op=14):1<=u.len/\u.len<=65535:=by
 obtain⟨hok,H⟩:=val_ok hz hu
 revert hok H
 generalize stA f i=s
 intro hok H
 obtain⟨o,ids⟩:=s
 cases o with
 | nil =>
  obtain⟨_,h0,_⟩:=okZ_nil hok
  omega
 | cons x o =>
  have h:inOk f (x::o) ids i x u=true:=hok
  have he:edO u.op=false:=by rw[ho];rfl
  obtain⟨_,_,_,_,_,hr⟩:=inOk_in h he
  unfold rulB at hr
  rw[if_neg (by omega),if_neg (by omega),if_neg (by omega),if_neg (by omega),if_neg (by omega),if_pos ho] at hr
  unfold encB at hr
  simp only[Bool.and_eq_true] at hr
  have:=hr.1.1.2
  unfold bet at this
  simpa using this
theorem lvsF_pos {f:Fm} (hz:chkZ f=none) (t:Tk) (p:Nat):∀ k,∀ x∈lvsF f.toks t p k,1<=x.n/\x.n<=65535
 | 0,x,h=>by cases h
 | k+1,x,h=>by
  rw[lvsF] at h
  rcases List.mem_append.1 h with h|h
  ·exact lvsF_pos hz t p k x h
  ·unfold oneL at h
   split at h
   ·rename_i u hu
    split at h
    ·rename_i he
     rw[List.mem_singleton.1 h]
     unfold lvE at he
     rw[Bool.and_eq_true,decide_eq_true_eq] at he
     exact enc_len hz hu he.1
    ·cases h
   ·cases h
theorem wdsL_bd:∀ l:List Lf,(∀ x∈l,1<=x.n/\x.n<=65535)->0<=wdsL l/\wdsL l<=65535*l.length
 | [],_=>by simp[wdsL]
 | x::r,h=>by
  have h1:=h x (List.mem_cons_self ..)
  have h2:=wdsL_bd r fun y hy=>h y (List.mem_cons_of_mem _ hy)
  rw[wdsL,List.length_cons]
  omega
def tk0:Tk:=⟨0,⟨#[]⟩,0,0,0,0,0,0,0,0,0,0,[],0,0,0,⟨0,0⟩,⟨0,0⟩,0⟩
def tkG (t:Tk):Tk:=⟨t.op,⟨#[]⟩,0,0,t.siz,0,0,0,0,0,0,0,[],0,t.blk,t.full,t.a,t.b,0⟩
def ptT (t:Tk):Tk:=if t.op=2 then tk0 else tkG t
def ptL (l:List Tk) (i:Nat) (t:Tk):List Lf:=if t.op=2 then lvsF l t i (t.pair.toNat-i) else []
def ptCs (tk:Tk) (v:Value) (ls:List Lf):List Value:=tkC tk none 0++[v,.int .i64 (wdsL ls)]
def PartC (W:World) (lo hi b:Nat) (tk:Tk) (ls:List Lf):Prop:=lo<=b/\b<hi/\∃ v,W.heap[b]?=some (.cells (ptCs tk v ls).toArray 89)/\W.ownsRow lo 144 3 v ls.length (lfCs ls)/\∀ r,v.ownBlock=some r->r<hi
theorem PartC.same {W W':World} {lo hi b:Nat} {tk:Tk} {ls:List Lf} (h:PartC W lo hi b tk ls) (hb:∀ k,lo<=k->k<hi->W'.heap[k]?=W.heap[k]?):PartC W' lo hi b tk ls:=by
 obtain⟨h1,h2,v,h3,h4,h5⟩:=h
 exact⟨h1,h2,v,(hb b h1 h2).trans h3,own_keepP h4 (fun r hr=>hb r (h4.lt r hr).1 (h5 r hr)),h5⟩
theorem PartC.mono {W:World} {lo lo' hi hi' b:Nat} {tk:Tk} {ls:List Lf} (h:PartC W lo hi b tk ls) (hl:lo'<=lo) (hh:hi<=hi'):PartC W lo' hi' b tk ls:=by
 obtain⟨h1,h2,v,h3,h4,h5⟩:=h
 exact⟨by omega,by omega,v,h3,own_lower h4 hl,fun r hr=>by have:=h5 r hr;omega⟩
def ptrE:Value->Option (DataW Nat×List MemPlace)
 | .pointer none=>some (.nil,[])
 | .pointer (some ⟨g,0,none⟩)=>some (.held g,[])
 | _=>none
theorem ptrE_mk (g:Nat):ptrE (.pointer (some ⟨g,0,none⟩))=some (.held g,[]):=rfl
theorem ptrE_nil:ptrE (.pointer none)=some (.nil,[]):=rfl
def ptrO:Option Nat->Value
 | some g=>.pointer (some ⟨g,0,none⟩)
 | none=>.pointer none
def ptrD:Option Nat->DataW Nat
 | some g=>.held g
 | none=>.nil
theorem ptrE_inv {v:Value} {o:Option Nat} {ps:List MemPlace} (h:ptrE v=some (ptrD o,ps)):v=ptrO o:=by
 unfold ptrE at h
 split at h
 ·cases o with
  | none=>rfl
  | some g=>cases h
 ·cases o with
  | none=>cases h
  | some g=>cases h;rfl
 ·cases h
def QHas (W:World) (k:TypeId) (m n:Nat) (hs:Value->Option Nat):Prop:=∃ D:DataW Nat,W.ownsMap Tryz.prog k ptrE m n D/\∀ v kl,keyOf Tryz.prog k v=some kl->D.atKey kl .nil=ptrD (hs v)
theorem QHas.same {W W':World} {k:TypeId} {m n:Nat} {hs:Value->Option Nat} (h:QHas W k m n hs) (hb:W'.heap[m]?=W.heap[m]?):QHas W' k m n hs:=by
 obtain⟨D,⟨es,ck,e,r⟩,h2⟩:=h
 exact⟨D,⟨es,ck,hb.trans e,r⟩,h2⟩
theorem QHas.made (w:World) (k:TypeId):QHas (w.alloc (.map #[] 0)) k w.heap.size 0 (fun _=>none) :=
 ⟨_,World.ownsMap_made w _ _ _,fun v kl _=>by rw[atKey_of_not_has (has_nil' kl)];rfl⟩
where has_nil' (kl:Lit):Maps.has (DataW.map []:DataW Nat) kl=false:=rfl
open Classical in
theorem QHas.put {W:World} {t k e:TypeId} {m n:Nat} {hs:Value->Option Nat} (h:QHas W k m n hs) (K:Keyed Tryz.prog k) (ht:Tryz.prog.underlying t=some (.map k e)) (hn:n<maxLen) {v0:Value} {k0:Lit} (hk:keyOf Tryz.prog k v0=some k0) (g:Nat) :
  ∃ W',(Instr.mapUpdate t (.map (some m)) v0 (.pointer (some ⟨g,0,none⟩))).run Tryz.prog W = .ok () W'/\QHas W' k m (n+1) (fun v=>if v=v0 then some g else hs v)/\W.grownBy W' (some m):=by
 obtain⟨D,hD,hh⟩:=h
 obtain⟨W',h1,h2,h3⟩:=hD.update K ht hn hk (ptrE_mk g)
 refine⟨W',h1,⟨_,h2,fun v kl hv=>?_⟩,h3⟩
 by_cases e:v=v0
 ·subst e
  rw[hk] at hv
  cases hv
  rw[atKey_put_same hD.isMap (K.key hk)]
  simp[ptrD]
 ·have ne:kl≠k0:=fun e2=>e (K.inj hv (e2▸hk))
  rw[atKey_put_other ne,hh v kl hv]
  simp[e]
theorem QHas.look {W:World} {t k e:TypeId} {m n:Nat} {hs:Value->Option Nat} (h:QHas W k m n hs) (K:Keyed Tryz.prog k) (ht:Tryz.prog.underlying t=some (.map k e)) (hz:(zeroValue e).run Tryz.prog W = .ok (.pointer none) W) {v0:Value} {k0:Lit} (hk:keyOf Tryz.prog k v0=some k0) :
  (Instr.lookup t (.map (some m)) v0 false).run Tryz.prog W = .ok (ptrO (hs v0)) W:=by
 obtain⟨D,hD,hh⟩:=h
 obtain⟨v,ps,h1,h2⟩:=hD.lookup K ht hz ptrE_nil hk
 rw[hh v0 k0 hk] at h2
 rw[h1,ptrE_inv h2]
def BlkC (l:List Tk) (W:World) (lo hi b i:Nat) (t:Tk):Prop:=lo<=b/\b<hi/\∃ (m n:Nat) (hs:Value->Option Nat),W.heap[b]?=some (.cells #[.int .i64 t.blk,.int .i64 t.full,.map (some m)] 70)/\lo<=m/\m<hi/\QHas W 9 m n hs /\
 (∀ k∈kidsZ l i,(hs (.string (nmAt l k))).isSome)/\∀ (s:ByteArray) (g:Nat),hs (.string s)=some g->∃ k∈kidsZ l i,∃ u,l[k]?=some u/\u.name=s/\PartC W lo hi g (ptT u) (ptL l k u)
theorem BlkC.same {l:List Tk} {W W':World} {lo hi b i:Nat} {t:Tk} (h:BlkC l W lo hi b i t) (hb:∀ k,lo<=k->k<hi->W'.heap[k]?=W.heap[k]?):BlkC l W' lo hi b i t:=by
 obtain⟨h1,h2,m,n,hs,h3,h4,h5,h6,h7,h8⟩:=h
 refine⟨h1,h2,m,n,hs,(hb b h1 h2).trans h3,h4,h5,h6.same (hb m h4 h5),h7,fun s g e=>?_⟩
 obtain⟨k,hk,u,e1,e2,e3⟩:=h8 s g e
 exact⟨k,hk,u,e1,e2,e3.same hb⟩
theorem BlkC.mono {l:List Tk} {W:World} {lo lo' hi hi' b i:Nat} {t:Tk} (h:BlkC l W lo hi b i t) (hl:lo'<=lo) (hh:hi<=hi'):BlkC l W lo' hi' b i t:=by
 obtain⟨h1,h2,m,n,hs,h3,h4,h5,h6,h7,h8⟩:=h
 refine⟨by omega,by omega,m,n,hs,h3,by omega,by omega,h6,h7,fun s g e=>?_⟩
 obtain⟨k,hk,u,e1,e2,e3⟩:=h8 s g e
 exact⟨k,hk,u,e1,e2,e3.mono hl hh⟩
def PlanC (l:List Tk) (W:World) (lo hi m j:Nat):Prop:=lo<=m/\m<hi/\∃ (n:Nat) (hs:Value->Option Nat),n<=j/\QHas W 3 m n hs/\∀ (i:Nat) (t:Tk),i<j->l[i]?=some t->(t.op=0\/t.op=4)->∃ g,hs (.int .i64 (i:Int))=some g/\BlkC l W lo hi g i t
theorem PlanC.same {l:List Tk} {W W':World} {lo hi m j:Nat} (h:PlanC l W lo hi m j) (hb:∀ k,lo<=k->k<hi->W'.heap[k]?=W.heap[k]?):PlanC l W' lo hi m j:=by
 obtain⟨h1,h2,n,hs,h3,h4,h5⟩:=h
 refine⟨h1,h2,n,hs,h3,h4.same (hb m h1 h2),fun i t e1 e2 e3=>?_⟩
 obtain⟨g,e4,e5⟩:=h5 i t e1 e2 e3
 exact⟨g,e4,e5.same hb⟩
section
variable {P:Program} {md:Region.Mode} {ops:Array Oper} {Q:Exit->Act->World->Prop} {z:Nat}
variable {d:Option Tmp} {op:Op} {ty:TypeId} {ps:String} {af:Array Edge} {gd:Option (Nat×Bool)} {r:List Oper} {a:Act} {w:World} {C:World->Prop} {l1 l2:List Oper}
theorem lw_call2 {f:FuncId} {x1 x2:Operand} {y1 y2:Value} {tx:Array TypeId} {R:Value->World->Prop} (hen:∀ ag w,(callFunc f ag).run P w = .ok (.enter f ag) w) (hc:Calls P f #[y1,y2] w fun e w'=>∃ v,e = .returned v/\R v w') (h1:a.eval x1=y1) (h2:a.eval x2=y2) (hw:Region.wanted ⟨d,.call { callee:=.value (.func f),args:=#[x1,x2],argTypes:=tx },ty,ps,af,gd⟩ (yielded ops a.tmps)=true)
  (h:∀ v w',R v w'->C w'/\Lw P ops Q C r (a.put d v) w'):Lw P ops Q C (⟨d,.call { callee:=.value (.func f),args:=#[x1,x2],argTypes:=tx },ty,ps,af,gd⟩::r) a w :=
 lw_act hw rfl fun K hK=>by
  have hf:a.eval (.func f) = .func (.func f) #[] #[]:=rfl
  unfold Oper.wp execOp
  simp only[resolve,invoke,Sem.run_bind,hf]
  simp[Deferred.ofValue,hen,Oper.upon_enter,h1,h2]
  refine hc.mono ?_
  rintro e w' ⟨v,rfl,hp⟩
  exact hK _ _ C (.inr ⟨fun _ h=>h,(h v w' hp).1⟩) (h v w' hp).2
end
section
variable {P:Program} {ops:Array Oper} {Q:Exit->Act->World->Prop} {C:World->Prop} {d:Option Tmp} {ty:TypeId} {ps:String} {af:Array Edge} {gd:Option (Nat×Bool)} {r:List Oper} {a:Act} {w:World}
theorem lw_call1 {f:FuncId} {x1:Operand} {y1:Value} {tx:Array TypeId} {R:Value->World->Prop} (hen:∀ ag w,(callFunc f ag).run P w = .ok (.enter f ag) w) (hc:Calls P f #[y1] w fun e w'=>∃ v,e = .returned v/\R v w') (h1:a.eval x1=y1) (hw:Region.wanted ⟨d,.call { callee:=.value (.func f),args:=#[x1],argTypes:=tx },ty,ps,af,gd⟩ (yielded ops a.tmps)=true)
  (h:∀ v w',R v w'->C w'/\Lw P ops Q C r (a.put d v) w'):Lw P ops Q C (⟨d,.call { callee:=.value (.func f),args:=#[x1],argTypes:=tx },ty,ps,af,gd⟩::r) a w :=
 lw_act hw rfl fun K hK=>by
  have hf:a.eval (.func f) = .func (.func f) #[] #[]:=rfl
  unfold Oper.wp execOp
  simp only[resolve,invoke,Sem.run_bind,hf]
  simp[Deferred.ofValue,hen,Oper.upon_enter,h1]
  refine hc.mono ?_
  rintro e w' ⟨v,rfl,hp⟩
  exact hK _ _ C (.inr ⟨fun _ h=>h,(h v w' hp).1⟩) (h v w' hp).2
end
theorem wp_region_lwt {P:Program} {Q:Exit->Act->World->Prop} {id:Nat} {a:Act} {w:World} {l:List Oper} (z:Nat) (C:World->Prop) (sc:List Nat) (hm:P.follows .mixedOrders=true) (hv:(Region.noSelect l.toArray&&schF .any l.toArray z sc (Array.replicate l.length false)&&(sc.length==l.length)&&sc.all (fun i=>decide (i<l.length)))=true)
  (hQ:∀ c (a:Act) d v w,Q (.panic c) (a.put d v) w->Q (.panic c) a w) (hp:C w.drew) (h:Lw P l.toArray Q C (sc.filterMap fun i=>l[i]?) a w.drew):(Code.region id l.toArray true).wp P Q a w:=by
 rw[Bool.and_eq_true,Bool.and_eq_true,Bool.and_eq_true,beq_iff_eq] at hv
 refine wp_region_F z C hm hp fun _=>?_
 have:=wpAnyF_lw (z:=z) hv.1.1.1 hQ _ _ C _ a w.drew (pick_map l sc hv.2) hv.1.1.2 hp h.out
 rw[hv.1.2] at this
 simpa using this
end Go.Proofs.YtjlbcdnkglaheaaGreatDoor
