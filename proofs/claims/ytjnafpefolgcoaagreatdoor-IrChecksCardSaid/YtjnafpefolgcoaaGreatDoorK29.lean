import Derived.Test.YtjnafpefolgcoaaGreatDoorK28
import Derived.Test.YtjnafpefolgcoaaGreatDoorK25
namespace Go.Proofs.YtjnafpefolgcoaaGreatDoor
set_option maxRecDepth 1000000
set_option maxHeartbeats 16000000
open Go.ChangeShapes Go.WideShapes Go.ChangeAt Go.RowKit
open J
abbrev spT (s:ByteArray):Tk:=⟨0,s,0,0,0,0,0,0,0,0,0,0,[],0,0,0,⟨0,0⟩,⟨0,0⟩,0⟩
structure CopS (s:ByteArray) (w:World) (base g cap:Nat) (ps:List TkP):Prop where
 row:w.ownsRow base 53 21 (.slice (some ⟨g,0,none⟩) (ps.length+1) cap) (ps.length+1) (tpC ps++tkC (spT s) none 0)
 good:∀ x∈ps,UGood w base x/\x.g≠g
 dis:(ps.map TkP.g).Pairwise (· < ·)
theorem CopS.lt {s:ByteArray} {w:World} {base g cap:Nat} {ps:List TkP} (h:CopS s w base g cap ps):base<=g/\g<w.heap.size:=World.ownsRow.lt h.row g rfl
theorem CopS.below {s:ByteArray} {w w':World} {base g cap:Nat} {ps:List TkP} (h:CopS s w base g cap ps) (hb:Below w.heap.size w w'):CopS s w' base g cap ps :=
 ⟨ownsRow_below h.row hb,fun x hx=>⟨(h.good x hx).1.below hb,(h.good x hx).2⟩,h.dis⟩
theorem CopS.room {s:ByteArray} {w:World} {base g cap:Nat} {ps:List TkP} (h:CopS s w base g cap ps):ps.length+1<=cap:=own_cap h.row (by omega)
theorem CopS.tk {s:ByteArray} {w:World} {base g cap:Nat} {ps:List TkP} (h:CopS s w base g cap ps) {i:Nat} {x:TkP} (hx:ps[i]?=some x):TkC w g (i*21) x.t (some ⟨x.g,0,none⟩) x.c :=
 tkC_of fun j u hu=>by
  have hj:j<21:=(List.getElem?_eq_some_iff.1 hu).1
  have hc:=World.ownsRow.cells h.row (g:=g) rfl (i*21+j) u ((tpC_get ps i x _ hx j hj).trans hu)
  rwa [addr0] at hc
theorem CopS.spare {s:ByteArray} {w:World} {base g cap:Nat} {ps:List TkP} (h:CopS s w base g cap ps):TkC w g (ps.length*21) (spT s) none 0 :=
 tkC_of fun j u hu=>by
  have hj:j<21:=(List.getElem?_eq_some_iff.1 hu).1
  have hc:=World.ownsRow.cells h.row (g:=g) rfl (ps.length*21+j) u (by rw[List.getElem?_append_right (by rw[tpC_length];omega),tpC_length,show ps.length*21+j-ps.length*21=j by omega];exact hu)
  rwa [addr0] at hc
theorem CopS.trow {s:ByteArray} {w:World} {base g cap:Nat} {ps:List TkP} (h:CopS s w base g cap ps):TkRow w (some ⟨g,0,none⟩) w.heap.size (ps.map TkP.t) :=
 ⟨fun i t ht=>by
  rw[List.getElem?_map] at ht
  cases hx:ps[i]? with
  | none=>rw[hx] at ht;cases ht
  | some x =>
   rw[hx] at ht
   cases ht
   have hg:=(h.good x (List.mem_of_getElem? hx)).1
   exact⟨g,0,some ⟨x.g,0,none⟩,x.c,rfl,h.lt.2,by rw[Nat.zero_add];exact h.tk hx,hg.row,Nat.le_of_succ_le hg.room⟩⟩
theorem u_cpn {w:World} {pa:Option Addr} {ca H:Nat} {l:List Int} (hA:URow w pa H l) (hl:l.length*8<=140737488351232) :
  ∃ v' w',(∀ ty,(Builtin.append_ #[51,51] ty #[.slice none 0 0,.slice pa l.length ca]).run Tryz.prog w = .ok v' w')/\(w'.ownsRow w.heap.size 50 1 v' l.length (uC l)/\Below w.heap.size w w'):=by
 obtain⟨i0,hi,hz,hs,hby⟩:=tinfo infoUK
 cases pa with
 | none =>
  have h0:l=[]:=by
   cases l with
   | nil=>rfl
   | cons a r =>
    obtain⟨g,o,e,_⟩:=hA.c 0 a rfl
    cases e
  subst h0
  refine⟨.slice none 0 0,w,fun ty=>?_,World.ownsRow_nil _ _ _ 1,Below.refl _ _⟩
  have S:=Src.ofNil (P:=Tryz.prog) (size:=i0.size) w Tryz.underlying51 ca
  have hln:∀ w':World,(Builtin.lenOf (.slice none 0 ca)).run Tryz.prog w' = .ok 0 w':=S.len
  have hcl:(Builtin.firstCells i0.size 0 (.slice none 0 ca)).run Tryz.prog w = .ok #[] w:=S.cells
  simp[Builtin.append_,run_underlying Tryz.underlying51,sizeOf,typeInfo,hi,hln,hcl]
 | some ad =>
  have hr:=fun ty=>run_append_own_at (P:=Tryz.prog) w w.heap.size 51 ty 50 i0 (.int .u64 0) 1 8 Tryz.underlying51 hi hz hs hby rfl (by decide) (.slice none 0 0) 0 [] (World.ownsRow_nil _ _ _ 1) ad l.length ca (uC l) (by simp) hA.news (uC_one l) (by simp only[maxLen];omega) (by omega) (Nat.le_refl _)
  obtain⟨v',w',h1,h2,h3,_⟩:=hr 0
  refine⟨v',w',fun ty=>h1,by simpa using h2,⟨h3.os,h3.tape,h3.output,h3.size,fun k hk=>h3.block k hk (by simp[Value.ownBlock])⟩⟩
theorem spared_any (l:List Int) (pa:Option Addr) (ca H:Nat) (w:World) (hA:URow w pa H l) (hl:l.length*8<=140737488351232) :
  Calls Tryz.prog 20 #[.slice pa l.length ca] w fun e w'=>∃ g cap,e = .returned (.slice (some ⟨g,0,none⟩) l.length cap)/\w'.ownsRow w.heap.size 50 1 (.slice (some ⟨g,0,none⟩) (l.length+1) cap) (l.length+1) (uC (l++[77]))/\Below w.heap.size w w':=by
 obtain⟨iU,hiU,hzU,hsU,hbU⟩:=tinfo infoUK
 obtain⟨v2,w2,hrun,hO2,hB2⟩:=u_cpn (ca:=ca) hA hl
 have hN2:∀ j u,[Value.int .u64 77][j]?=some u->(w2.alloc (.cells #[.int .u64 77] 50)).cell? ((⟨w2.heap.size,0,none⟩:Addr).add j)=some u:=World.news_of_block (heap_al w2 (.cells #[.int .u64 77] 50))
 have hO3:=ownsRow_below hO2 (bel1 w2 (.cells #[.int .u64 77] 50))
 have hs2:=hB2.size
 replace hB2:=Hid.mk hB2
 have F1:Hid (1=1):=⟨rfl⟩
 have F2:Hid (1=1):=⟨rfl⟩
 go_enter Tryz.func20,Tryz.ntmps20
 go_wp2_with (first
  | (at_builtin;clear F1;go_must (refine(twpList_append_ex (by rfl) _ _ _ _ (by rfl) _ _ (by rfl) (by rfl) (fun a b=>v2=a/\w2=b) ⟨v2,w2,hrun,rfl,rfl⟩ ?_));rintro _ _ ⟨rfl,rfl⟩)
  | (at_builtin;clear F2;go_must (refine wpList_append_lies _ rfl _ _ 51 rfl w.heap.size 50 iU (.int .u64 0) 1 8 Tryz.underlying51 hiU hzU hsU hbU rfl (by decide) v2 l.length (uC l) rfl hO3 ⟨w2.heap.size,0,none⟩ 1 1 [.int .u64 77] rfl rfl hN2 (uC_one [77]) (by decide) (by simp only[maxLen];omega) (by omega) (by simp;omega) (w2.heap.size+1) (by simp) ?_);intro ga capa w4 hO4 hgr4 hat4 hlt4;have hcap:=own_cap hO4 (by omega);have hci:(l.length:Int)<=capa:=(by omega);replace hO4:=Hid.mk hO4;have hB4:Hid (Below w.heap.size w w4):=⟨hB2.out.trans (((Below.refl _ w2).alloc (by omega) _).grown hgr4 (by simp;omega) (own_ge hO2))⟩;clear hgr4 hat4))
 go_ret
 refine⟨ga,capa,rfl,?_,hB4.out⟩
 have h4:=hO4.out
 rwa [show uC l++[Value.int .u64 77]=uC (l++[77]) by simp[uC]] at h4
abbrev spS:ByteArray:=⟨#[115,112,97,114,101]⟩
theorem copied12 (f:Fm) (pp:Option Addr) (cp:Nat) (w:World) (hr:TkL w pp w.heap.size f.toks) (hlm:f.toks.length*192<=140737488351232) (hcm:∀ t∈f.toks,t.cst.length*8<=140737488351232) :
  Calls Tryz.prog 7 #[fmV f pp cp] w fun e w'=>∃ g cap ps,e = .returned (fmV f (some ⟨g,0,none⟩) cap)/\ps.map TkP.t=f.toks/\CopS spS w' w.heap.size g cap ps/\Below w.heap.size w w':=by
 obtain⟨iT,hiT,hzT,hsT,hbT⟩:=tinfo infoTkK
 go_enter Tryz.func7,Tryz.ntmps7
 go_wp2_with fail
 have H1:=two_1 w (fmO f pp cp) zFo
 have H2:=two_2 w (fmO f pp cp) zFo
 have HB:Below w.heap.size w ((w.alloc (fmO f pp cp)).alloc zFo):=two_b w _ _
 have HS:((w.alloc (fmO f pp cp)).alloc zFo).heap.size=w.heap.size+2:=by simp
 replace hr:=(hr.below HB).mono HB.size
 generalize hW0:(w.alloc (fmO f pp cp)).alloc zFo=W0 at H1 H2 HB HS hr ⊢
 clear hW0
 replace H1:=Hid.mk H1
 replace H2:=Hid.mk H2
 go_loopw [3,4] (fun v i wr=>∃ (k:Nat) (ps:List TkP),k<=f.toks.length/\i = .int .i64 k/\ps.map TkP.t=f.toks.take k/\wr.ownsRow W0.heap.size 53 21 v k (tpC ps)/\(∀ x∈ps,UGood wr W0.heap.size x/\some x.g≠v.ownBlock)/\(ps.map TkP.g).Pairwise (· < ·)/\Below W0.heap.size W0 wr) (fun _ i _=>f.toks.length-(RowKit.intOf i).toNat)
 case atStart=>exact⟨0,[],Nat.zero_le _,rfl,rfl,World.ownsRow_nil _ _ _ 21,fun _ h=>(by cases h),List.Pairwise.nil,Below.refl _ _⟩
 case round =>
  obtain⟨k,ps,hk,rfl,hps,hO,hG,hD,hB⟩:=hrel
  have x12:wr.cell? ⟨w.heap.size,12,none⟩=some (.slice pp f.toks.length cp):=((fm_of H1.out).below (by omega) hB).c12
  by_cases hlt:k<f.toks.length
  ·obtain⟨x,hx⟩:∃ x,f.toks[k]?=some x:=⟨f.toks[k],List.getElem?_eq_getElem hlt⟩
   obtain⟨g,o,pc,cc,rfl,hg,hT,hT1,-,-⟩:=(hr.below hB).at hx
   have hxa:=hcm x (List.mem_of_getElem? hx)
   have hll:=hlm
   have hsz:=hB.size
   have l1:Hid _:=⟨hT.load⟩
   have s1:Hid _:=⟨fun z hz=>st_new wr z hz x pc cc⟩
   have hb1:Below wr.heap.size wr (wr.alloc (tkO x pc cc)):=bel1 wr _
   have q12:(wr.alloc (tkO x pc cc)).cell? ⟨wr.heap.size,12,none⟩=some (.slice pc x.cst.length cc):=(tk_of (heap_al wr (tkO x pc cc))).c12
   have cS:=spared_any x.cst pc cc W0.heap.size _ (hT1.below (hb1.mono hsz)) hxa
   rw[World.size_alloc] at cS
   have hlt2:(k:Int)<f.toks.length:=by omega
   have F3:Hid (1=1):=⟨rfl⟩
   go_wp2_with (first
    | (guard_target =~ wpList _ _ _ (Oper.mk _ (Op.load 53 _) _ _ _ _::_) _ _;go_must (first|refine wpList_ld 53 (.tmp 16) rfl rfl _ _ rfl l1.out ?_|refine wpList_ld 53 (.tmp 5) rfl rfl _ _ rfl l2.out ?_);simp only[pts])
    | (guard_target =~ wpList _ _ _ (Oper.mk _ (Op.store 53 _ _) _ _ _ _::_) _ _;go_must (refine wpList_st 53 (.tmp 5) (.tmp 17) rfl rfl _ _ rfl rfl (s1.out _ rfl) ?_);simp only[pts])
    | (go_at_call 20;refine cS.mono ?_;rintro _ w4 ⟨ga,capa,rfl,hO4,hB4⟩;replace hB4:=Hid.mk hB4;have hX4:Hid (w4.heap[wr.heap.size]?=some (tkO x pc cc)):=⟨(hB4.out.block _ (by omega)).trans (heap_al wr _)⟩;have q24:=(tk_of hX4.out).c12;have qf:=froz hX4.out 12;have l2:Hid _:=⟨(tk_of (tkO_set (q:=some ⟨ga,0,none⟩) (d:=capa) hX4.out)).load⟩;replace hO4:=Hid.mk hO4;have hB5:Hid (Below wr.heap.size wr ((w4.setCell ⟨wr.heap.size,12,none⟩ (.slice (some ⟨ga,0,none⟩) x.cst.length capa)).alloc (tkO x (some ⟨ga,0,none⟩) capa))):=⟨(((bel1 wr (tkO x pc cc)).trans (hB4.out.mono (by omega))).setCell (Nat.le_refl _) _).alloc (by have:=hB4.out.size;simp[World.setCell] at this ⊢;omega) _⟩;have hO5:Hid _:=⟨ownsRow_below hO hB5.out⟩)
    | (at_builtin;clear F3;go_must (refine wpList_append_lies _ rfl _ _ 28 rfl W0.heap.size 53 iT zTk 21 192 Tryz.underlying28 hiT hzT hsT hbT rfl (by decide) _ k (tpC ps) rfl hO5.out ⟨w4.heap.size,0,none⟩ 1 1 (tkC x (some ⟨ga,0,none⟩) capa) rfl rfl (World.news_of_block (heap_al_set w4 ⟨wr.heap.size,12,none⟩ (.slice (some ⟨ga,0,none⟩) x.cst.length capa) (tkO x (some ⟨ga,0,none⟩) capa))) (tkC_one x _ _) (by decide) (by simp only[maxLen];omega) (by omega) (Nat.le_trans hsz hB5.out.size) _ rfl ?_);intro gn capn w6 hO6 hgr6 hat6 hlt6;replace hO6:=Hid.mk hO6;replace hgr6:=Hid.mk hgr6;replace hat6:=Hid.mk hat6))
   have hga:=own_ge hO4.out ga rfl
   have hga2:=(hO4.out.lt ga rfl).2
   have hs4:wr.heap.size+1<=w4.heap.size:=by have:=hB4.out.size;simp at this;omega
   have hs5:((w4.setCell ⟨wr.heap.size,12,none⟩ (.slice (some ⟨ga,0,none⟩) x.cst.length capa)).alloc (tkO x (some ⟨ga,0,none⟩) capa)).heap.size=w4.heap.size+1:=by simp[World.setCell]
   have hg45:w4.grownBy ((w4.setCell ⟨wr.heap.size,12,none⟩ (.slice (some ⟨ga,0,none⟩) x.cst.length capa)).alloc (tkO x (some ⟨ga,0,none⟩) capa)) (some wr.heap.size):=⟨rfl,rfl,rfl,by omega,fun j hj hne=>by
    rw[heap_alloc_old _ _ (by simpa[World.setCell] using hj)]
    exact heap_setCell_other w4 _ j _ (fun e=>hne (by rw[e]))⟩
   have hnew:UGood ((w4.setCell ⟨wr.heap.size,12,none⟩ (.slice (some ⟨ga,0,none⟩) x.cst.length capa)).alloc (tkO x (some ⟨ga,0,none⟩) capa)) W0.heap.size ⟨x,ga,capa⟩:=by
    exact World.ownsRow.kept (own_base hO4.out (fun j hj=>by simp[Value.ownBlock] at hj;omega)) hg45 (.inr (by simp[Value.ownBlock];omega))
   have hmem:∀ y∈ps++[(⟨x,ga,capa⟩:TkP)],UGood w6 W0.heap.size y/\some y.g≠some gn:=by
    intro y hy
    rcases List.mem_append.1 hy with hy|hy
    ·have h0:=hG y hy
     have hyl:=h0.1.lt
     refine⟨(h0.1.below hB5.out).kept hgr6.out h0.2,?_⟩
     rcases hat6.out with e|e
     ·rw[<- e];exact h0.2
     ·rw[e.trans hs5];intro e;injection e with e;omega
    ·obtain rfl:=List.mem_singleton.1 hy
     have hne:some ga≠u3.ownBlock:=fun e=>by have:=(hO.lt ga e.symm).2;omega
     refine⟨hnew.kept hgr6.out hne,?_⟩
     rcases hat6.out with e|e
     ·rw[<- e];exact hne
     ·rw[e.trans hs5];intro e;injection e with e;have e:ga=w4.heap.size+1:=e;omega
   have hpw:((ps++[(⟨x,ga,capa⟩:TkP)]).map TkP.g).Pairwise (· < ·):=by
    rw[List.map_append,List.pairwise_append]
    refine⟨hD,List.pairwise_singleton _ _,fun a ha b hb=>?_⟩
    obtain⟨y,hy,rfl⟩:=List.mem_map.1 ha
    rw[List.map_singleton,List.mem_singleton] at hb
    have:=(hG y hy).1.lt
    rw[hb]
    show y.g<ga
    omega
   have hB6:Below W0.heap.size W0 w6:=hB.trans ((hB5.out.mono hsz).trans ((Below.refl _ _).grown hgr6.out (Nat.le_trans hsz hB5.out.size) (own_ge hO)))
   have htk:(ps++[(⟨x,ga,capa⟩:TkP)]).map TkP.t=f.toks.take (k+1):=by
    rw[List.map_append,hps,List.take_add_one,hx];rfl
   have hO6':=hO6.out
   rw[show tpC ps++tkC x (some ⟨ga,0,none⟩) capa=tpC (ps++[(⟨x,ga,capa⟩:TkP)]) from (tpC_snoc ps ⟨x,ga,capa⟩).symm] at hO6'
   clear hnew hg45 hO5 hO4 hgr6 hat6 hO6 hB5 hB4 hX4 l1 l2 s1 q24 qf hT hT1 hG hD hO
   go_roundw
   case rel=>exact⟨k+1,_,by omega,by go_num,htk,hO6',hmem,hpw,hB6⟩
   case measure=>simp[RowKit.intOf];omega
  ·obtain rfl:k=f.toks.length:=by omega
   have hll:=hlm
   have hsz:=hB.size
   obtain⟨pv,cv,rfl⟩:=own_slice hO
   have hO1:Hid _:=⟨ownsRow_below hO (bel1 wr (tkO (spT spS) none 0))⟩
   have F1:Hid (1=1):=⟨rfl⟩
   go_wp2_with (first
    | (guard_target =~ wpList _ _ _ (Oper.mk _ (Op.load 30 _) _ _ _ _::_) _ _;go_must (refine wpList_ld 30 (.tmp 1) rfl rfl _ _ rfl lF.out ?_);simp only[pts])
    | (guard_target =~ wpList _ _ _ (Oper.mk _ (Op.store 30 _ _) _ _ _ _::_) _ _;go_must (refine wpList_st 30 (.tmp 2) (.tmp 36) rfl rfl _ _ rfl rfl sF.out ?_);simp only[pts])
    | (at_builtin;clear F1;go_must (refine wpList_append_lies _ rfl _ _ 28 rfl W0.heap.size 53 iT zTk 21 192 Tryz.underlying28 hiT hzT hsT hbT rfl (by decide) (.slice pv f.toks.length cv) f.toks.length (tpC ps) rfl hO1.out ⟨wr.heap.size,0,none⟩ 1 1 (tkC (spT spS) none 0) rfl rfl (World.news_of_block (heap_al wr (tkO (spT spS) none 0))) (tkC_one (spT spS) _ _) (by decide) (by simp only[maxLen];omega) (by omega) (by simp;omega) _ rfl ?_);intro gn capn w6 hO6 hgr6 hat6 hlt6;have hcap:=own_cap hO6 (by omega);have hci:(f.toks.length:Int)<=capn:=(by omega);replace hO6:=Hid.mk hO6;replace hgr6:=Hid.mk hgr6;replace hat6:=Hid.mk hat6;go_must (have hB6:Hid (Below W0.heap.size W0 w6):=⟨hB.trans (((bel1 wr (tkO (spT spS) none 0)).mono hsz).trans ((Below.refl _ _).grown hgr6.out (by simp;omega) (own_ge hO)))⟩;have H36:=(hB6.out.block w.heap.size (by omega)).trans H1.out;have H26:=(hB6.out.block (w.heap.size+1) (by omega)).trans H2.out;have m12:=(fm_of H36).c12;have mf:=froz H36 12;have H37:=fmO_set (q:=some ⟨gn,0,none⟩) (d:=capn) H36;have lF:Hid _:=⟨(fm_of H37).load⟩;have H27:=(heap_setCell_other w6 ⟨w.heap.size,12,none⟩ (w.heap.size+1) (.slice (some ⟨gn,0,none⟩) f.toks.length capn) (by simp)).trans H26;have t27:(w6.setCell ⟨w.heap.size,12,none⟩ (.slice (some ⟨gn,0,none⟩) f.toks.length capn)).there (w.heap.size+1) 0 13:=there_of H27;have sF:Hid _:=⟨run_storeAt_mid (P:=Tryz.prog) (w6.setCell ⟨w.heap.size,12,none⟩ (.slice (some ⟨gn,0,none⟩) f.toks.length capn)) (w.heap.size+1) 0 30 (fmC f (some ⟨gn,0,none⟩) capn) t27 infoFm (all_oneCell_toArray (fmC_one f _ _))⟩;replace t27:=Hid.mk t27;clear H37 H27 H36 H26)))
   rw[List.take_length] at hps
   have hpl:ps.length=f.toks.length:=by rw[<- hps,List.length_map]
   have hsame:∀ k,W0.heap.size<=k->((w6.setCell ⟨w.heap.size,12,none⟩ (.slice (some ⟨gn,0,none⟩) f.toks.length capn)).setCells (w.heap.size+1) 0 (fmC f (some ⟨gn,0,none⟩) capn).toList).heap[k]?=w6.heap[k]?:=fun k hk =>
    (sets_other (by omega) _ 0 _).trans (heap_setCell_other w6 _ k _ (fun e=>by have e:k=w.heap.size:=e;omega))
   have hcop:CopS spS ((w6.setCell ⟨w.heap.size,12,none⟩ (.slice (some ⟨gn,0,none⟩) f.toks.length capn)).setCells (w.heap.size+1) 0 (fmC f (some ⟨gn,0,none⟩) capn).toList) w.heap.size gn capn ps:=by
    have hgn:=own_ge hO6.out gn rfl
    refine⟨?_,fun y hy=>?_,hD⟩
    ·rw[hpl]
     exact own_kept (own_base hO6.out (fun j hj=>by simp[Value.ownBlock] at hj;omega)) (fun j hj=>hsame j (by simp[Value.ownBlock] at hj;omega))
    ·have h0:=hG y hy
     have hyl:=h0.1.lt
     have h1:=(h0.1.below (bel1 wr (tkO (spT spS) none 0))).kept hgr6.out h0.2
     refine⟨own_kept (own_base h1 (fun j hj=>by simp[Value.ownBlock] at hj;omega)) (fun j hj=>hsame j (by simp[Value.ownBlock] at hj;omega)),?_⟩
     rcases hat6.out with e|e
     ·intro e2;exact h0.2 (by rw[e2,<- e])
     ·rw[e];simp;omega
   have hend:Below w.heap.size w ((w6.setCell ⟨w.heap.size,12,none⟩ (.slice (some ⟨gn,0,none⟩) f.toks.length capn)).setCells (w.heap.size+1) 0 (fmC f (some ⟨gn,0,none⟩) capn).toList):=bel_sets (by omega) _ 0 _ ((HB.trans (hB6.out.mono HB.size)).setCell (p:=⟨w.heap.size,12,none⟩) (Nat.le_refl _) _)
   obtain⟨d,hu,hd⟩:=undFm
   have hres:=run_loadVar_mid (P:=Tryz.prog) _ (w.heap.size+1) 0 30 (fmC f (some ⟨gn,0,none⟩) capn).toList d (World.rangeAt_setCells_same (w6.setCell ⟨w.heap.size,12,none⟩ (.slice (some ⟨gn,0,none⟩) f.toks.length capn)) (w.heap.size+1) 0 (fmC f (some ⟨gn,0,none⟩) capn).toList t27.out) hu hd infoFm
   exact bodyPost_ret (results_cell_v rfl _ _ (w.heap.size+1) _ rfl hres) rfl ⟨gn,capn,rfl,ps,hps,hcop,hend⟩
theorem sameWords_eq (l:List Int) (pa pb:Option Addr) (ca cb:Nat) (w:World) (ha:URow w pa w.heap.size l) (hb:URow w pb w.heap.size l) (hl:l.length*8<=140737488355328) :
  Calls Tryz.prog 90 #[.slice pa l.length ca,.slice pb l.length cb] w fun r w'=>r = .returned (.bool true)/\Below w.heap.size w w':=by
 go_enter Tryz.func90,Tryz.ntmps90
 go_wp2_with fail
 go_loopw [5] (fun n wr=>∃ (j:Nat),j<=l.length/\n = .int .i64 j/\Hid (Below w.heap.size w wr)) (fun n _=>l.length-(RowKit.intOf n).toNat)
 case atStart=>exact⟨0,Nat.zero_le _,by go_num,⟨Below.refl _ _⟩⟩
 case round =>
  obtain⟨j,hj,rfl,hd⟩:=hrel
  by_cases hlt:j<l.length
  ·obtain⟨x,hx⟩:∃ x,l[j]?=some x:=⟨l[j],List.getElem?_eq_getElem hlt⟩
   obtain⟨g,o,rfl,_,r0⟩:=(ha.below hd.out).c j x hx
   obtain⟨g2,o2,rfl,_,r1⟩:=(hb.below hd.out).c j x hx
   have hlti:(j:Int)<l.length:=by omega
   have z:(x != x)=false:=by simp
   clear ha hb hx
   go_wp2_with fail
   go_quiet (fail)
   go_wp2_with fail
   go_roundw
   case rel=>exact⟨j+1,by omega,by go_num,⟨bdN hd.out _⟩⟩
   case measure=>simp[RowKit.intOf];omega
  ·obtain rfl:j=l.length:=by omega
   go_wp2_with fail
   go_ret
   exact⟨rfl,hd.out⟩
theorem sameToken_eq (t:Tk) (p1 p2:Option Addr) (c1 c2:Nat) (w:World) (h1:URow w p1 w.heap.size t.cst) (h2:URow w p2 w.heap.size t.cst) (hs:t.cst.length*8<=140737488355328) :
  Calls Tryz.prog 53 #[tkV t p1 c1,tkV t p2 c2] w fun r w'=>r = .returned (.bool true)/\Below w.heap.size w w':=by
 have HB:Below w.heap.size w ((w.alloc (tkO t p1 c1)).alloc (tkO t p2 c2)):=two_b w _ _
 have hA:=tk_of (two_1 w (tkO t p1 c1) (tkO t p2 c2))
 have hC:=tk_of (two_2 w (tkO t p1 c1) (tkO t p2 c2))
 have cW:=sameWords_eq t.cst p1 p2 c1 c2 _ ((h1.below HB).mono HB.size) ((h2.below HB).mono HB.size) hs
 generalize hW:(w.alloc (tkO t p1 c1)).alloc (tkO t p2 c2)=W at HB hA hC cW
 simp only[tkO,tkC] at hW
 replace hA:=hA
 have a0:W.cell? ⟨w.heap.size,0,none⟩=some (.int .i64 t.op):=hA.c0
 have a1:W.cell? ⟨w.heap.size,1,none⟩=some (.string t.name):=hA.c1
 have a2:W.cell? ⟨w.heap.size,2,none⟩=some (.int .i64 t.id):=hA.c2
 have a3:W.cell? ⟨w.heap.size,3,none⟩=some (.int .i64 t.off):=hA.c3
 have a4:W.cell? ⟨w.heap.size,4,none⟩=some (.int .i64 t.siz):=hA.c4
 have a5:W.cell? ⟨w.heap.size,5,none⟩=some (.int .i64 t.since):=hA.c5
 have a6:W.cell? ⟨w.heap.size,6,none⟩=some (.int .i64 t.prim):=hA.c6
 have a7:W.cell? ⟨w.heap.size,7,none⟩=some (.int .i64 t.len):=hA.c7
 have a8:W.cell? ⟨w.heap.size,8,none⟩=some (.int .i64 t.pres):=hA.c8
 have a9:W.cell? ⟨w.heap.size,9,none⟩=some (.int .u64 t.nul):=hA.c9
 have a10:W.cell? ⟨w.heap.size,10,none⟩=some (.int .u64 t.lo):=hA.c10
 have a11:W.cell? ⟨w.heap.size,11,none⟩=some (.int .u64 t.hi):=hA.c11
 have a12:W.cell? ⟨w.heap.size,12,none⟩=some (.slice p1 t.cst.length c1):=hA.c12
 have a13:W.cell? ⟨w.heap.size,13,none⟩=some (.int .u64 t.val):=hA.c13
 have a14:W.cell? ⟨w.heap.size,14,none⟩=some (.int .i64 t.blk):=hA.c14
 have a15:W.cell? ⟨w.heap.size,15,none⟩=some (.int .i64 t.full):=hA.c15
 have a16:W.cell? ⟨w.heap.size,16,none⟩=some (.int .i64 t.a.p):=hA.c16
 have a17:W.cell? ⟨w.heap.size,17,none⟩=some (.int .i64 t.a.o):=hA.c17
 have a18:W.cell? ⟨w.heap.size,18,none⟩=some (.int .i64 t.b.p):=hA.c18
 have a19:W.cell? ⟨w.heap.size,19,none⟩=some (.int .i64 t.b.o):=hA.c19
 have a20:W.cell? ⟨w.heap.size,20,none⟩=some (.int .i64 t.pair):=hA.c20
 have b0:W.cell? ⟨w.heap.size+1,0,none⟩=some (.int .i64 t.op):=hC.c0
 have b1:W.cell? ⟨w.heap.size+1,1,none⟩=some (.string t.name):=hC.c1
 have b2:W.cell? ⟨w.heap.size+1,2,none⟩=some (.int .i64 t.id):=hC.c2
 have b3:W.cell? ⟨w.heap.size+1,3,none⟩=some (.int .i64 t.off):=hC.c3
 have b4:W.cell? ⟨w.heap.size+1,4,none⟩=some (.int .i64 t.siz):=hC.c4
 have b5:W.cell? ⟨w.heap.size+1,5,none⟩=some (.int .i64 t.since):=hC.c5
 have b6:W.cell? ⟨w.heap.size+1,6,none⟩=some (.int .i64 t.prim):=hC.c6
 have b7:W.cell? ⟨w.heap.size+1,7,none⟩=some (.int .i64 t.len):=hC.c7
 have b8:W.cell? ⟨w.heap.size+1,8,none⟩=some (.int .i64 t.pres):=hC.c8
 have b9:W.cell? ⟨w.heap.size+1,9,none⟩=some (.int .u64 t.nul):=hC.c9
 have b10:W.cell? ⟨w.heap.size+1,10,none⟩=some (.int .u64 t.lo):=hC.c10
 have b11:W.cell? ⟨w.heap.size+1,11,none⟩=some (.int .u64 t.hi):=hC.c11
 have b12:W.cell? ⟨w.heap.size+1,12,none⟩=some (.slice p2 t.cst.length c2):=hC.c12
 have b13:W.cell? ⟨w.heap.size+1,13,none⟩=some (.int .u64 t.val):=hC.c13
 have b14:W.cell? ⟨w.heap.size+1,14,none⟩=some (.int .i64 t.blk):=hC.c14
 have b15:W.cell? ⟨w.heap.size+1,15,none⟩=some (.int .i64 t.full):=hC.c15
 have b16:W.cell? ⟨w.heap.size+1,16,none⟩=some (.int .i64 t.a.p):=hC.c16
 have b17:W.cell? ⟨w.heap.size+1,17,none⟩=some (.int .i64 t.a.o):=hC.c17
 have b18:W.cell? ⟨w.heap.size+1,18,none⟩=some (.int .i64 t.b.p):=hC.c18
 have b19:W.cell? ⟨w.heap.size+1,19,none⟩=some (.int .i64 t.b.o):=hC.c19
 have b20:W.cell? ⟨w.heap.size+1,20,none⟩=some (.int .i64 t.pair):=hC.c20
 clear hA hC h1 h2
 replace HB:=Hid.mk HB
 obtain⟨op,nm,id,off,siz,since,prim,len,pres,nul,lo,hi,cst,val,blk,full,⟨ap,ao⟩,⟨bp,bo⟩,pair⟩:=t
 simp only at *
 go_enter Tryz.func53,Tryz.ntmps53
 go_wp2_with (go_at_call 90;refine cW.mono ?_;rintro _ w1 ⟨rfl,hb1⟩;replace hb1:=Hid.mk hb1)
 all_goals
  go_ret
  exact⟨rfl,HB.out.trans (hb1.out.mono HB.out.size)⟩
theorem ent_sameToken12:∀ ag w,(callFunc 53 ag).run Tryz.prog w = .ok (.enter 53 ag) w:=enters_of Tryz.func53 (by kernel_rfl) rfl
theorem sameForm_eq (f:Fm) (pa pb:Option Addr) (ca cb:Nat) (w:World) (ha:TkL w pa w.heap.size f.toks) (hb:TkL w pb w.heap.size f.toks) :
  Calls Tryz.prog 24 #[fmV f pa ca,fmV f pb cb] w fun r w'=>r = .returned (.bool true)/\Below w.heap.size w w':=by
 have hA:=fm_of (two_1 w (fmO f pa ca) (fmO f pb cb))
 have hC:=fm_of (two_2 w (fmO f pa ca) (fmO f pb cb))
 have HB:Hid (Below w.heap.size w ((w.alloc (fmO f pa ca)).alloc (fmO f pb cb))):=⟨two_b w _ _⟩
 have HS:Hid (w.heap.size+1<((w.alloc (fmO f pa ca)).alloc (fmO f pb cb)).heap.size):=⟨by simp⟩
 replace ha:=(ha.below HB.out).mono HB.out.size
 replace hb:=(hb.below HB.out).mono HB.out.size
 generalize hW:(w.alloc (fmO f pa ca)).alloc (fmO f pb cb)=W at hA hC HB HS ha hb
 simp only[fmO] at hW
 have x0:W.cell? ⟨w.heap.size,0,none⟩=some (.int .i64 f.ord):=hA.c0
 have x1:W.cell? ⟨w.heap.size,1,none⟩=some (.int .i64 f.sch):=hA.c1
 have x2:W.cell? ⟨w.heap.size,2,none⟩=some (.int .i64 f.ver):=hA.c2
 have x3:W.cell? ⟨w.heap.size,3,none⟩=some (.int .i64 f.hsz):=hA.c3
 have x4:W.cell? ⟨w.heap.size,4,none⟩=some (.int .i64 f.hb.p):=hA.c4
 have x5:W.cell? ⟨w.heap.size,5,none⟩=some (.int .i64 f.hb.o):=hA.c5
 have x6:W.cell? ⟨w.heap.size,6,none⟩=some (.int .i64 f.ht.p):=hA.c6
 have x7:W.cell? ⟨w.heap.size,7,none⟩=some (.int .i64 f.ht.o):=hA.c7
 have x8:W.cell? ⟨w.heap.size,8,none⟩=some (.int .i64 f.hs.p):=hA.c8
 have x9:W.cell? ⟨w.heap.size,9,none⟩=some (.int .i64 f.hs.o):=hA.c9
 have x10:W.cell? ⟨w.heap.size,10,none⟩=some (.int .i64 f.hv.p):=hA.c10
 have x11:W.cell? ⟨w.heap.size,11,none⟩=some (.int .i64 f.hv.o):=hA.c11
 have x12:W.cell? ⟨w.heap.size,12,none⟩=some (.slice pa f.toks.length ca):=hA.c12
 have y0:W.cell? ⟨w.heap.size+1,0,none⟩=some (.int .i64 f.ord):=hC.c0
 have y1:W.cell? ⟨w.heap.size+1,1,none⟩=some (.int .i64 f.sch):=hC.c1
 have y2:W.cell? ⟨w.heap.size+1,2,none⟩=some (.int .i64 f.ver):=hC.c2
 have y3:W.cell? ⟨w.heap.size+1,3,none⟩=some (.int .i64 f.hsz):=hC.c3
 have y4:W.cell? ⟨w.heap.size+1,4,none⟩=some (.int .i64 f.hb.p):=hC.c4
 have y5:W.cell? ⟨w.heap.size+1,5,none⟩=some (.int .i64 f.hb.o):=hC.c5
 have y6:W.cell? ⟨w.heap.size+1,6,none⟩=some (.int .i64 f.ht.p):=hC.c6
 have y7:W.cell? ⟨w.heap.size+1,7,none⟩=some (.int .i64 f.ht.o):=hC.c7
 have y8:W.cell? ⟨w.heap.size+1,8,none⟩=some (.int .i64 f.hs.p):=hC.c8
 have y9:W.cell? ⟨w.heap.size+1,9,none⟩=some (.int .i64 f.hs.o):=hC.c9
 have y10:W.cell? ⟨w.heap.size+1,10,none⟩=some (.int .i64 f.hv.p):=hC.c10
 have y11:W.cell? ⟨w.heap.size+1,11,none⟩=some (.int .i64 f.hv.o):=hC.c11
 have y12:W.cell? ⟨w.heap.size+1,12,none⟩=some (.slice pb f.toks.length cb):=hC.c12
 replace hA:Hid (FmC W w.heap.size 0 f pa ca):=⟨hA⟩
 replace hC:Hid (FmC W (w.heap.size+1) 0 f pb cb):=⟨hC⟩
 have hll:=ha.len
 go_enter Tryz.func24,Tryz.ntmps24
 go_wp2_with fail
 clear x0 y0 x1 y1 x2 y2 x3 y3 x4 y4 x5 y5 x6 y6 x7 y7 x8 y8 x9 y9 x10 y10 x11 y11 hW
 go_loopw [5] (fun i wr=>∃ j:Nat,j<=f.toks.length/\i = .int .i64 j/\Below W.heap.size W wr) (fun i _=>f.toks.length-(RowKit.intOf i).toNat)
 case atStart=>exact⟨0,Nat.zero_le _,rfl,Below.refl _ _⟩
 case round =>
  clear x12 y12
  obtain⟨j,hj,rfl,hB⟩:=hrel
  have kA:=hA.out.below (Nat.lt_of_succ_lt HS.out) hB
  have kC:=hC.out.below HS.out hB
  have x12:wr.cell? ⟨w.heap.size,12,none⟩=some (.slice pa f.toks.length ca):=kA.c12
  have y12:wr.cell? ⟨w.heap.size+1,12,none⟩=some (.slice pb f.toks.length cb):=kC.c12
  by_cases hlt:j<f.toks.length
  ·obtain⟨a,hx⟩:∃ a,f.toks[j]?=some a:=⟨f.toks[j],List.getElem?_eq_getElem hlt⟩
   obtain⟨g1,o1,p1,c1,rfl,hg1,hT,hT1,hT2,hTo⟩:=(ha.below hB).at hx
   obtain⟨g2,o2,p2,c2,rfl,hg2,hU,hU1,hU2,hUo⟩:=(hb.below hB).at hx
   have hlti:(j:Int)<f.toks.length:=by omega
   have hsz:=hB.size
   obtain⟨p,p0,pB,hN,f12,g12,lA,lC,cS⟩:∃ p:World->Prop,p wr.drew/\(∀ W',p W'->Below W.heap.size W W')/\Nonempty (CW p) /\
     (∀ θ:CW p,θ.w.cell? ⟨w.heap.size,12,none⟩=some (.slice (some ⟨g1,o1,none⟩) f.toks.length ca)) /\
     (∀ θ:CW p,θ.w.cell? ⟨w.heap.size+1,12,none⟩=some (.slice (some ⟨g2,o2,none⟩) f.toks.length cb)) /\
     (∀ W',(∃ θ:CW p,W'=θ.w)->(Instr.loadAt 53 (.pointer (some ⟨g1,o1+j*21,none⟩))).run Tryz.prog W' = .ok (tkV a p1 c1) W') /\
     (∀ W',(∃ θ:CW p,W'=θ.w)->(Instr.loadAt 53 (.pointer (some ⟨g2,o2+j*21,none⟩))).run Tryz.prog W' = .ok (tkV a p2 c2) W') /\
     (∀ W',p W'->Calls Tryz.prog 53 #[tkV a p1 c1,tkV a p2 c2] W' fun e w'=>e = .returned (.bool true)/\p w') :=
    ⟨Below wr.heap.size wr,(Below.refl _ _).drew,fun _ h=>hB.trans (h.mono hsz),⟨⟨_,Below.refl _ _⟩⟩,
     fun θ=>(θ.h.cell (p:=⟨w.heap.size,12,none⟩) (Nat.lt_of_lt_of_le (Nat.lt_of_succ_lt HS.out) hsz)).trans x12,
     fun θ=>(θ.h.cell (p:=⟨w.heap.size+1,12,none⟩) (Nat.lt_of_lt_of_le HS.out hsz)).trans y12,
     (by rintro _ ⟨θ,rfl⟩;exact(hT.below (Nat.lt_of_lt_of_le hg1 hsz) θ.h).load),
     (by rintro _ ⟨θ,rfl⟩;exact(hU.below (Nat.lt_of_lt_of_le hg2 hsz) θ.h).load),
     fun W' h=>(sameToken_eq a p1 p2 c1 c2 W' ((hT1.below (h.mono hsz)).mono (Nat.le_trans hsz h.size)) ((hU1.below (h.mono hsz)).mono (Nat.le_trans hsz h.size)) hTo.cst).mono fun e w' hh=>⟨hh.1,h.trans (hh.2.mono h.size)⟩⟩
   clear hx hT hU hT1 hU1 hT2 hU2 hTo hUo ha hb kA kC
   go_wp2_with fail
   refine wp_region_lp p (by kernel_rfl) (by kernel_rfl) (fun _ _ d _ _ h=>by cases d<;>exact h) p0 fun W' hp=>?_
   clear x12 y12
   repeat (first
    | (guard_target =~ Lx _ _ _ _ (Oper.mk _ (Op.load 53 _) _ _ _ _::_) _ _;(first|refine lx_ld lA rfl rfl ?_|refine lx_ld lC rfl rfl ?_);simp only[pts])
    | (refine lx_one rfl ?_;(first|go_big_quiet_skip|(go_big_quiet_want;go_big_quiet_op;go_big_quiet_on));refine wpQuiet_nil ?_)
    | (refine lx_p2 ent_sameToken12 cS hp rfl rfl (by rfl) ?_;clear hp;intro W' hp;simp only[pts])
    | (refine lx_skip (by rfl) ?_;simp only[pts]))
   refine lx_done ?_
   have HP:Hid (Below W.heap.size W W'):=⟨pB _ hp⟩
   clear pB cS lA lC f12 g12 hN p0
   go_wp2_with fail
   go_roundw
   case rel=>exact⟨j+1,by omega,by go_num,HP.out⟩
   case measure=>simp[RowKit.intOf];omega
  ·obtain rfl:j=f.toks.length:=by omega
   clear kA kC
   go_wp2_with fail
   go_ret
   exact⟨rfl,HB.out.trans (hB.mono HB.out.size)⟩
theorem untouched12 (f:Fm) (g cap:Nat) (ps:List TkP) (base:Nat) (pb:Option Addr) (cb:Nat) (w:World) (hc:CopS spS w base g cap ps) (hp:ps.map TkP.t=f.toks) (hb:TkL w pb w.heap.size f.toks) :
  Calls Tryz.prog 12 #[fmV f (some ⟨g,0,none⟩) cap,fmV f pb cb] w fun r w'=>r = .returned (.bool true)/\Below w.heap.size w w':=by
 have ha:TkL w (some ⟨g,0,none⟩) w.heap.size f.toks:=⟨hp▸hc.trow,hb.len,hb.ok⟩
 have hA:=fm_of (two_1 w (fmO f (some ⟨g,0,none⟩) cap) (fmO f pb cb))
 have hC:=fm_of (two_2 w (fmO f (some ⟨g,0,none⟩) cap) (fmO f pb cb))
 have HB:Hid (Below w.heap.size w ((w.alloc (fmO f (some ⟨g,0,none⟩) cap)).alloc (fmO f pb cb))):=⟨two_b w _ _⟩
 have HS:Hid (w.heap.size+1<((w.alloc (fmO f (some ⟨g,0,none⟩) cap)).alloc (fmO f pb cb)).heap.size):=⟨by simp⟩
 have hgl:=hc.lt.2
 replace ha:=(ha.below HB.out).mono HB.out.size
 replace hb:=(hb.below HB.out).mono HB.out.size
 replace hc:=hc.below HB.out
 have c1:=sameForm_eq f (some ⟨g,0,none⟩) pb cap cb _ ha hb
 generalize hW:(w.alloc (fmO f (some ⟨g,0,none⟩) cap)).alloc (fmO f pb cb)=W at hA hC HB HS ha hb hc c1
 simp only[fmO] at hW
 have x0:W.cell? ⟨w.heap.size,0,none⟩=some (.int .i64 f.ord):=hA.c0
 have x1:W.cell? ⟨w.heap.size,1,none⟩=some (.int .i64 f.sch):=hA.c1
 have x2:W.cell? ⟨w.heap.size,2,none⟩=some (.int .i64 f.ver):=hA.c2
 have x3:W.cell? ⟨w.heap.size,3,none⟩=some (.int .i64 f.hsz):=hA.c3
 have x4:W.cell? ⟨w.heap.size,4,none⟩=some (.int .i64 f.hb.p):=hA.c4
 have x5:W.cell? ⟨w.heap.size,5,none⟩=some (.int .i64 f.hb.o):=hA.c5
 have x6:W.cell? ⟨w.heap.size,6,none⟩=some (.int .i64 f.ht.p):=hA.c6
 have x7:W.cell? ⟨w.heap.size,7,none⟩=some (.int .i64 f.ht.o):=hA.c7
 have x8:W.cell? ⟨w.heap.size,8,none⟩=some (.int .i64 f.hs.p):=hA.c8
 have x9:W.cell? ⟨w.heap.size,9,none⟩=some (.int .i64 f.hs.o):=hA.c9
 have x10:W.cell? ⟨w.heap.size,10,none⟩=some (.int .i64 f.hv.p):=hA.c10
 have x11:W.cell? ⟨w.heap.size,11,none⟩=some (.int .i64 f.hv.o):=hA.c11
 have x12:W.cell? ⟨w.heap.size,12,none⟩=some (.slice (some ⟨g,0,none⟩) f.toks.length cap):=hA.c12
 have y0:W.cell? ⟨w.heap.size+1,0,none⟩=some (.int .i64 f.ord):=hC.c0
 have y1:W.cell? ⟨w.heap.size+1,1,none⟩=some (.int .i64 f.sch):=hC.c1
 have y2:W.cell? ⟨w.heap.size+1,2,none⟩=some (.int .i64 f.ver):=hC.c2
 have y3:W.cell? ⟨w.heap.size+1,3,none⟩=some (.int .i64 f.hsz):=hC.c3
 have y4:W.cell? ⟨w.heap.size+1,4,none⟩=some (.int .i64 f.hb.p):=hC.c4
 have y5:W.cell? ⟨w.heap.size+1,5,none⟩=some (.int .i64 f.hb.o):=hC.c5
 have y6:W.cell? ⟨w.heap.size+1,6,none⟩=some (.int .i64 f.ht.p):=hC.c6
 have y7:W.cell? ⟨w.heap.size+1,7,none⟩=some (.int .i64 f.ht.o):=hC.c7
 have y8:W.cell? ⟨w.heap.size+1,8,none⟩=some (.int .i64 f.hs.p):=hC.c8
 have y9:W.cell? ⟨w.heap.size+1,9,none⟩=some (.int .i64 f.hs.o):=hC.c9
 have y10:W.cell? ⟨w.heap.size+1,10,none⟩=some (.int .i64 f.hv.p):=hC.c10
 have y11:W.cell? ⟨w.heap.size+1,11,none⟩=some (.int .i64 f.hv.o):=hC.c11
 have y12:W.cell? ⟨w.heap.size+1,12,none⟩=some (.slice pb f.toks.length cb):=hC.c12
 replace hA:Hid (FmC W w.heap.size 0 f (some ⟨g,0,none⟩) cap):=⟨hA⟩
 replace hC:Hid (FmC W (w.heap.size+1) 0 f pb cb):=⟨hC⟩
 have hll:=ha.len
 have hpl:ps.length=f.toks.length:=by rw[<- hp,List.length_map]
 have hroom:(f.toks.length:Int)+1<=cap:=by have:=hc.room;omega
 have hw1:IntKind.i64.wrap ((f.toks.length:Int)+1)=(f.toks.length:Int)+1:=by rw[IntKind.wrap_i64];omega
 have K:Hid (∀ W',Below W.heap.size W W'->W'.cell? ⟨w.heap.size,12,none⟩=some (.slice (some ⟨g,0,none⟩) f.toks.length cap)/\W'.cell? ⟨w.heap.size+1,12,none⟩=some (.slice pb f.toks.length cb)/\W'.cell? ⟨g,f.toks.length*21+1,none⟩=some (.string spS)):=⟨fun W' h =>
  ⟨(hA.out.below (Nat.lt_of_succ_lt HS.out) h).c12,(hC.out.below HS.out h).c12,by rw[<- hpl];exact(hc.below h).spare.c1⟩⟩
 go_enter Tryz.func12,Tryz.ntmps12
 go_wp2_with (go_at_call 24;refine c1.mono ?_;rintro _ w1 ⟨rfl,hb1⟩;obtain⟨k1,k2,k3⟩:=K.out w1 hb1;replace hb1:=Hid.mk hb1)
 clear x0 y0 x1 y1 x2 y2 x3 y3 x4 y4 x5 y5 x6 y6 x7 y7 x8 y8 x9 y9 x10 y10 x11 y11 x12 y12 hW k1 k2 k3 c1
 go_loopw [7] (fun i wr=>∃ j:Nat,j<=f.toks.length/\i = .int .i64 j/\wr=w1) (fun i _=>f.toks.length-(RowKit.intOf i).toNat)
 case atStart=>exact⟨0,Nat.zero_le _,rfl,rfl⟩
 case round =>
  obtain⟨j,hj,rfl,rfl⟩:=hrel
  obtain⟨k1,k2,-⟩:=K.out wr hb1.out
  by_cases hlt:j<f.toks.length
  ·obtain⟨x,hx⟩:∃ x,ps[j]?=some x:=⟨ps[j]'(by omega),List.getElem?_eq_getElem (by omega)⟩
   have hxt:f.toks[j]?=some x.t:=by rw[<- hp,List.getElem?_map,hx];rfl
   obtain⟨g2,o2,p2,c2,rfl,hg2,hU,hU1,hU2,hUo⟩:=(hb.below hb1.out).at hxt
   have hT:=(hc.below hb1.out).tk hx
   have hG:=((hc.below hb1.out).good x (List.mem_of_getElem? hx)).1
   have u12:=hU.c12
   have t12:=hT.c12
   have hlti:(j:Int)<f.toks.length:=by omega
   have hrm:=hG.room
   have hcst:=hUo.cst
   have h77:wr.cell? ⟨x.g,x.t.cst.length,none⟩=some (.int .u64 77):=by
    have hc7:=World.ownsRow.cells hG (g:=x.g) rfl x.t.cst.length (.int .u64 77) (by rw[List.getElem?_map,List.getElem?_append_right (Nat.le_refl _),Nat.sub_self];rfl)
    rwa [addr0] at hc7
   have hw2:IntKind.i64.wrap ((x.t.cst.length:Int)+1)=(x.t.cst.length:Int)+1:=by rw[IntKind.wrap_i64];omega
   have hci:(x.t.cst.length:Int)+1<=x.c:=by omega
   clear hx hxt hU hT hG hU1 hU2 hUo
   go_wp2_with fail
   go_roundw
   case rel=>exact⟨j+1,by omega,by go_num,trivial⟩
   case measure=>simp[RowKit.intOf];omega
  ·obtain rfl:j=f.toks.length:=by omega
   go_wp2_with fail
   go_ret
   exact⟨rfl,HB.out.trans (hb1.out.mono HB.out.size)⟩
end Go.Proofs.YtjnafpefolgcoaaGreatDoor
