import Derived.Test.YtcgimchhcaankaaGreatDoorK32
namespace Go.Proofs.YtcgimchhcaankaaGreatDoor
set_option maxRecDepth 1000000
set_option maxHeartbeats 16000000
open Go.ChangeShapes Go.WideShapes Go.ChangeAt Go.RowKit Go.Shelf Go.Maps
theorem pVersions_any {w:World} {f:Fm} {pp:Option Addr} {cp:Nat} (hC:PCk w f pp cp) (tl:TkL w pp w.heap.size f.toks) (hlm:f.toks.length*192<=140737488351232) :
  Calls Tryz.prog 6 #[fmV f pp cp] w fun e w'=>∃ v,e = .returned v/\NRow w' w.heap.size v (verZ f)/\Below w.heap.size w w':=by
 have hb:=bel1 w (fmO f pp cp)
 have H1:=heap_al w (fmO f pp cp)
 have hs1:(w.alloc (fmO f pp cp)).heap.size=w.heap.size+1:=World.size_alloc _ _
 generalize hW:w.alloc (fmO f pp cp)=W1 at hb H1 hs1
 simp only[fmO] at hW
 have LF:=(J.fm_of H1).load
 have cI:=isForm_any hC W1 hb
 have HB:Hid _:=⟨hb⟩
 by_cases hz:chkZ f=none
 ·rw[decide_eq_true hz] at cI
  have hE:verZ f=verL f:=by unfold verZ verL;rw[if_pos hz]
  rw[hE]
  have CC:Hid (∀ X,Below W1.heap.size W1 X->(Instr.loadAt 30 (.pointer (some ⟨w.heap.size,0,none⟩))).run Tryz.prog X = .ok (fmV f pp cp) X/\Calls Tryz.prog 20 #[fmV f pp cp] X fun e w'=>∃ v,e = .returned v/\Hid (NRow w' w.heap.size v (verL f)/\Below w.heap.size w w')):=⟨fun X h=>by
   have hx:=hb.trans (h.mono hb.size)
   exact⟨(J.fm_of ((h.block _ (by omega)).trans H1)).load,(versions_any f pp cp X hz ((tl.below hx).mono hx.size) hlm).mono fun e w' ⟨v,e1,e2,e3⟩=>⟨v,e1,⟨e2.low hx.size,hx.trans (e3.mono hx.size)⟩⟩⟩⟩
  clear hz hE tl hC hlm H1 hb hs1
  go_enter Tryz.func6,Tryz.ntmps6
  go_wp2_with (first
   | (guard_target =~ wpList _ _ _ (Oper.mk _ (Op.load 30 _) _ _ _ _::_) _ _;go_must (first|refine wpList_ld 30 _ rfl rfl _ _ rfl LF ?_|refine wpList_ld 30 _ rfl rfl _ _ rfl LF2 ?_);simp only[pts])
   | (go_at_call 19;refine cI.mono ?_;rintro _ w2 ⟨rfl,hb2⟩;obtain⟨LF2,cV⟩:=CC.out w2 hb2;clear hb2)
   | (go_at_call 20;refine cV.mono ?_;rintro _ w3 ⟨vc,rfl,q1⟩))
  go_ret
  exact⟨_,rfl,q1.out⟩
 ·rw[decide_eq_false hz] at cI
  have hE:verZ f=[]:=by unfold verZ;rw[if_neg hz]
  rw[hE]
  clear hz hE tl hC hlm H1 hb hs1
  go_enter Tryz.func6,Tryz.ntmps6
  go_wp2_with (first
   | (guard_target =~ wpList _ _ _ (Oper.mk _ (Op.load 30 _) _ _ _ _::_) _ _;go_must (refine wpList_ld 30 _ rfl rfl _ _ rfl LF ?_);simp only[pts])
   | (go_at_call 19;refine cI.mono ?_;rintro _ w2 ⟨rfl,hb2⟩;replace hb2:=Hid.mk hb2))
  go_ret
  exact⟨_,rfl,NRow.nil _ _,HB.out.trans (hb2.out.mono HB.out.size)⟩
theorem fstB_ok {l:List Tk} (hl:∀ t∈l,TkOk t) (C:List Nat) (v:Int):∀ (ks:List Nat) (x:Int),fstB l C v ks=some x->i64ok x
 | [],_,h=>by cases h
 | k::r,x,h=>by
  rw[fstB] at h
  split at h
  ·cases h
   unfold offAt
   cases ht:l[k]? with
   | none=>exact⟨by decide,by decide⟩
   | some t=>exact(hl t (List.mem_of_getElem? ht)).off
  ·exact fstB_ok hl C v r x h
theorem trnT_ok {l:List Tk} (hl:∀ t∈l,TkOk t) (C:List Nat) (v:Int) (i:Nat) {t:Tk} (ht:TkOk t) (hc:C.length<=1000000000000):TkOk (trnT l C v i t):=by
 have hp:i64ok ((rnk C v t.pair.toNat:Nat):Int):=by
  have:rnk C v t.pair.toNat<=C.length:=by
   unfold rnk
   exact Nat.le_trans List.countP_le_length (by rw[List.length_take];omega)
  unfold i64ok
  omega
 have hb:i64ok (if t.op=0\/t.op=4 then blkZ l C v i t else t.blk):=by
  split
  ·unfold blkZ
   cases hf:fstB l C v (kidsZ l i) with
   | none=>exact ht.blk
   | some x=>exact fstB_ok hl C v _ x hf
  ·exact ht.blk
 exact { ht with pair:=hp,blk:=hb }
theorem kepF_ok {l:List Tk} (hl:∀ t∈l,TkOk t) (C:List Nat) (v:Int) (hc:C.length<=1000000000000):∀ n,∀ t∈kepF l C v n,TkOk t
 | 0,t,h=>by cases h
 | n+1,t,h=>by
  rw[kepF] at h
  rcases List.mem_append.1 h with h|h
  ·exact kepF_ok hl C v hc n t h
  ·cases ht:l[n]? with
   | none=>rw[ht] at h;cases h
   | some u =>
    rw[ht] at h
    simp only at h
    split at h
    ·obtain rfl:=List.mem_singleton.1 h
     exact trnT_ok hl C v n (hl u (List.mem_of_getElem? ht)) hc
    ·cases h
theorem pLives_any {w:World} {f:Fm} {pp:Option Addr} {cp:Nat} (hC:PCk w f pp cp) (tl:TkL w pp w.heap.size f.toks) (hlm:f.toks.length*192<=140737488351232) (i v:Int) :
  Calls Tryz.prog 13 #[fmV f pp cp,.int .i64 i,.int .i64 v] w fun e w'=>e = .returned (.bool (livB f i v))/\Below w.heap.size w w':=by
 have hb:=bel1 w (fmO f pp cp)
 have H1:=heap_al w (fmO f pp cp)
 have hs1:(w.alloc (fmO f pp cp)).heap.size=w.heap.size+1:=World.size_alloc _ _
 generalize hW:w.alloc (fmO f pp cp)=W1 at hb H1 hs1
 simp only[fmO] at hW
 have LF:=(J.fm_of H1).load
 have c12:=(J.fm_of H1).c12
 have cI:=isForm_any hC W1 hb
 have HB:Hid _:=⟨hb⟩
 have hll:f.toks.length<=733007751850:=by omega
 by_cases h0:0<=i
 ·obtain⟨n,rfl⟩:∃ n:Nat,i=n:=⟨i.toNat,by omega⟩
  have d0:decide ((0:Int)<=(n:Int))=true:=by simp
  by_cases h1:(n:Int)<f.toks.length
  ·have d1:decide ((n:Int)<f.toks.length)=true:=by simp;omega
   by_cases hz:chkZ f=none
   ·rw[decide_eq_true hz] at cI
    have CC:Hid (∀ X,Below W1.heap.size W1 X->X.cell? ⟨w.heap.size,12,none⟩=some (.slice pp f.toks.length cp)/\Calls Tryz.prog 24 #[.slice pp f.toks.length cp] X fun e w'=>∃ v,e = .returned v/\NRow w' X.heap.size v (camZ f)/\Below w.heap.size w w'):=⟨fun X h=>by
     have hx:=hb.trans (h.mono hb.size)
     exact⟨cell_at ((h.block _ (by omega)).trans H1) 12,(comings_any f pp cp X hz ((tl.below hx).mono hx.size) hlm).mono fun e w' ⟨v,e1,e2,e3⟩=>⟨v,e1,e2,hx.trans (e3.mono hx.size)⟩⟩⟩
    obtain⟨c,hc⟩:∃ c,(camZ f)[n]?=some c:=⟨(camZ f)[n]'(by rw[camZ_length];omega),List.getElem?_eq_getElem _⟩
    have hE:livB f (n:Int) v=decide ((c:Int)<=v):=by
     unfold livB
     rw[decide_eq_true hz,decide_eq_true (show (0:Int)<=n/\(n:Int)<f.toks.length by omega),Int.toNat_natCast,List.getD_eq_getElem?_getD,hc]
     rfl
    have hcl:(n:Int)<(camZ f).length:=by rw[camZ_length];omega
    rw[hE]
    clear hz hE tl hC hlm H1 hb hs1
    go_enter Tryz.func13,Tryz.ntmps13
    go_wp2_with (first
     | (guard_target =~ wpList _ _ _ (Oper.mk _ (Op.load 30 _) _ _ _ _::_) _ _;go_must (refine wpList_ld 30 _ rfl rfl _ _ rfl LF ?_);simp only[pts])
     | (go_at_call 19;refine cI.mono ?_;rintro _ w2 ⟨rfl,hb2⟩;obtain⟨y12,cC⟩:=CC.out w2 hb2;clear hb2)
     | (go_at_call 24;refine cC.mono ?_;rintro _ w3 ⟨vc,rfl,q1,q2⟩;obtain⟨pv,cv,rfl,-⟩:=q1.shape;obtain⟨gc,rfl,-,-,k1⟩:=q1.cellP hc;replace q2:=Hid.mk q2;clear q1))
    go_ret
    exact⟨rfl,q2.out⟩
   ·rw[decide_eq_false hz] at cI
    have hE:livB f (n:Int) v=false:=by unfold livB;rw[decide_eq_false hz];rfl
    rw[hE]
    clear hz hE tl hC hlm H1 hb hs1
    go_enter Tryz.func13,Tryz.ntmps13
    go_wp2_with (first
     | (guard_target =~ wpList _ _ _ (Oper.mk _ (Op.load 30 _) _ _ _ _::_) _ _;go_must (refine wpList_ld 30 _ rfl rfl _ _ rfl LF ?_);simp only[pts])
     | (go_at_call 19;refine cI.mono ?_;rintro _ w2 ⟨rfl,hb2⟩;replace hb2:=Hid.mk hb2))
    go_ret
    exact⟨rfl,HB.out.trans (hb2.out.mono HB.out.size)⟩
  ·have d1:decide ((n:Int)<f.toks.length)=false:=by simp;omega
   have hE:livB f (n:Int) v=false:=by unfold livB;rw[decide_eq_false (show ¬ ((0:Int)<=n/\(n:Int)<f.toks.length) by omega),Bool.and_false];rfl
   rw[hE]
   have d2:decide (n<f.toks.length)=false:=by simp;omega
   have h2:¬ n<f.toks.length:=by omega
   clear hE tl hC hlm H1 hb hs1
   go_enter Tryz.func13,Tryz.ntmps13
   go_wp2_with fail
   go_ret
   exact⟨rfl,HB.out⟩
 ·have d0:decide ((0:Int)<=i)=false:=by simp;omega
  have hE:livB f i v=false:=by unfold livB;rw[decide_eq_false (show ¬ ((0:Int)<=i/\i<f.toks.length) by omega),Bool.and_false];rfl
  rw[hE]
  clear hE tl hC hlm H1 hb hs1 h0
  go_enter Tryz.func13,Tryz.ntmps13
  go_wp2_with fail
  go_ret
  exact⟨rfl,HB.out⟩
theorem sameForm13 (f:Fm) (pa pb:Option Addr) (ca cb:Nat) (w:World) (ha:TkL w pa w.heap.size f.toks) (hb:TkL w pb w.heap.size f.toks) :
  Calls Tryz.prog 9 #[fmV f pa ca,fmV f pb cb] w fun r w'=>r = .returned (.bool true)/\Below w.heap.size w w':=by
 have HB:Below w.heap.size w ((w.alloc (fmO f pa ca)).alloc (fmO f pb cb)):=two_b w _ _
 have lA:=(J.fm_of (two_1 w (fmO f pa ca) (fmO f pb cb))).load
 have lC:=(J.fm_of (two_2 w (fmO f pa ca) (fmO f pb cb))).load
 have cS:=J.refSame_any f f pa pb ca cb _ ((ha.below HB).mono HB.size) ((hb.below HB).mono HB.size)
 replace HB:=Hid.mk HB
 generalize hW:(w.alloc (fmO f pa ca)).alloc (fmO f pb cb)=W at HB lA lC cS
 simp only[fmO] at hW
 clear ha hb
 go_enter Tryz.func9,Tryz.ntmps9
 go_wp2_with (first
  | (guard_target =~ wpList _ _ _ (Oper.mk _ (Op.load 30 _) _ _ _ _::_) _ _;go_must (first|refine wpList_ld 30 (.tmp 2) rfl rfl _ _ rfl lA ?_|refine wpList_ld 30 (.tmp 3) rfl rfl _ _ rfl lC ?_);simp only[pts])
  | (go_at_call 23;refine cS.mono ?_;rintro _ w1 ⟨hA1,hb1⟩;obtain rfl:=hA1.said (b:=true) (by simp);replace hb1:=Hid.mk hb1;clear hA1))
 go_ret
 exact⟨rfl,HB.out.trans (hb1.out.mono HB.out.size)⟩
structure Kin (l:List Tk) (x:Sc):Prop where
 e:(x.tk.op=0\/x.tk.op=4)->∀ k∈x.kids,∀ u,l[k]?=some u->u.op=2->u.siz≠0->u.off+u.siz<=x.e0
 f:∀ k∈x.kids,∀ u,l[k]?=some u->u.op=2->u.since<=x.fld
 o:(x.tk.op=0\/x.tk.op=4)->∀ k∈x.kids,∀ u,l[k]?=some u->u.op<=lastOp l x
def Met (f:Fm) (x:Sc):Prop:=∀ j k,x.kids[j]?=some k->∃ y o,(stA f k).open_=y::o/\y.at_=x.at_/\y.tk=x.tk/\y.kids=x.kids.take j
theorem lastOp_met {l:List Tk} {i:Nat} {t:Tk} (ht:l[i]?=some t) (x:Sc):lastOp l (metX x i t)=t.op:=by
 unfold lastOp
 show (match (x.kids++[i]).getLast? with|some k=>_|none=>_)=_
 rw[List.getLast?_concat]
 simp only[ht]
theorem fld_siz {f:Fm} {ids:List Int} {i:Nat} {x:Sc} {t:Tk} (h:fldB f ids i x t=true) (hs:t.siz≠0):t.pres≠2/\0<t.siz/\x.e0<=t.off/\t.off+t.siz<=x.tk.blk:=by
 unfold fldB at h
 simp only[Bool.and_eq_true] at h
 have key:inB f.toks i x t=true->0<t.siz/\x.e0<=t.off/\t.off+t.siz<=x.tk.blk:=fun h=>by
  unfold inB at h
  simp only[Bool.and_eq_true] at h
  have h2:=h.2
  rw[if_neg hs] at h2
  exact decT h2
 have h2:=h.2
 by_cases e0:t.pres=0
 ·rw[if_pos e0,Bool.and_eq_true] at h2
  exact⟨by omega,key h2.2⟩
 rw[if_neg e0] at h2
 by_cases e1:t.pres=1
 ·rw[if_pos e1] at h2
  exact⟨by omega,key h2⟩
 rw[if_neg e1] at h2
 by_cases e2:t.pres=2
 ·rw[if_pos e2] at h2
  have:=decT h2
  omega
 ·rw[if_neg e2] at h2
  cases h2
theorem kin_met {f:Fm} {o:List Sc} {ids:List Int} {i:Nat} {x:Sc} {t:Tk} (hx:ScOk f.toks i x) (ht:f.toks[i]?=some t) (h:inOk f (x::o) ids i x t=true) (he:edO t.op=false) (hk:Kin f.toks x):Kin f.toks (metX x i t):=by
 obtain⟨hm,hp,hs,h3,h4,hr⟩:=inOk_in h he
 obtain⟨r1,r2,r3,r4⟩:=rul_b hx hm he hp hr
 have h2:t.op=2->fldB f ids i x t=true:=fun e=>by unfold rulB at hr;rwa [if_pos e] at hr
 refine⟨fun ho k hk' u hu hu2 hus=>?_,fun k hk' u hu hu2=>?_,fun ho k hk' u hu=>?_⟩
 ·have ho:x.tk.op=0\/x.tk.op=4:=ho
  show _<=(if 0<t.siz/\((t.op=2/\t.pres≠2)\/x.tk.op=8) then t.off+t.siz else x.e0)
  rcases List.mem_append.1 (show k∈x.kids++[i] from hk') with hk' | hk'
  ·have h1:=hk.e ho k hk' u hu hu2 hus
   split
   ·rename_i hc
    rcases hc.2 with hc2|hc2
    ·have:=fld_siz (h2 hc2.1) (by omega)
     omega
    ·omega
   ·exact h1
  ·obtain rfl:=List.mem_singleton.1 hk'
   rw[ht] at hu
   cases hu
   have:=fld_siz (h2 hu2) hus
   rw[if_pos ⟨this.2.1,.inl ⟨hu2,this.1⟩⟩]
   exact Int.le_refl _
 ·show _<=(if t.op=2 then t.since else x.fld)
  rcases List.mem_append.1 (show k∈x.kids++[i] from hk') with hk' | hk'
  ·have h1:=hk.f k hk' u hu hu2
   split
   ·rename_i hc
    have:=r2 hc
    omega
   ·exact h1
  ·obtain rfl:=List.mem_singleton.1 hk'
   rw[ht] at hu
   cases hu
   rw[if_pos hu2]
   exact Int.le_refl _
 ·rw[lastOp_met ht]
  have ho:x.tk.op=0\/x.tk.op=4:=ho
  rcases List.mem_append.1 (show k∈x.kids++[i] from hk') with hk' | hk'
  ·have h1:=hk.o ho k hk' u hu
   rcases may_typ hm he hx.beg with ⟨_,_,h⟩|⟨h,_⟩|⟨h,_⟩|⟨h,_⟩<;>omega
  ·obtain rfl:=List.mem_singleton.1 hk'
   rw[ht] at hu
   cases hu
   exact Int.le_refl _
theorem kin_at {f:Fm} (hz:chkZ f=none):∀ i,i<=f.toks.length->∀ x∈(stA f i).open_,Kin f.toks x/\Met f x:=by
 intro i
 induction i with
 | zero=>intro _ x hx;cases hx
 | succ i ih =>
  intro hi
  have ih:=ih (by omega)
  obtain⟨t,ht⟩:∃ t,f.toks[i]?=some t:=⟨f.toks[i],List.getElem?_eq_getElem (by omega)⟩
  obtain⟨hok,H⟩:=val_ok hz ht
  rw[stA_succ ht]
  cases hso:stA f i with
  | mk o ids =>
  rw[hso] at hok H ih
  intro y hy
  unfold nxt at hy
  by_cases he:edO t.op=true
  ·rw[if_pos he] at hy
   exact ih y (List.mem_of_mem_tail hy)
  ·rw[if_neg he] at hy
   have key:∀ y∈metL o i t,Kin f.toks y/\Met f y:=fun y hy=>by
    rcases o with _|⟨x,o⟩
    ·cases hy
    ·rcases List.mem_cons.1 hy with rfl|hy
     ·obtain⟨k1,k2⟩:=ih x (List.mem_cons_self ..)
      refine⟨kin_met (H.all x (List.mem_cons_self ..)) ht hok (by simpa using he) k1,fun j k hj=>?_⟩
      have hj:(x.kids++[i])[j]?=some k:=hj
      rcases Nat.lt_or_ge j x.kids.length with hl|hl
      ·rw[List.getElem?_append_left hl] at hj
       obtain⟨y,o',e1,e2,e3,e4⟩:=k2 j k hj
       exact⟨y,o',e1,e2,e3,by rw[e4];exact(List.take_append_of_le_length (by omega)).symm⟩
      ·rw[List.getElem?_append_right hl] at hj
       have hj0:j-x.kids.length=0:=by
        rcases Nat.eq_zero_or_pos (j-x.kids.length) with e|e
        ·exact e
        ·rw[List.getElem?_eq_none (by simp;omega)] at hj;cases hj
       rw[hj0] at hj
       cases hj
       exact⟨x,o,by rw[hso],rfl,rfl,by show x.kids=(x.kids++[i]).take j;rw[show j=x.kids.length by omega,List.take_left]⟩
     ·exact ih y (List.mem_cons_of_mem _ hy)
   have hy:y∈(if bgO t.op=true then scNew i t::metL o i t else metL o i t):=hy
   split at hy
   ·rcases List.mem_cons.1 hy with rfl|hy
    ·exact⟨⟨fun _ k hk=>(by cases hk),fun k hk=>(by cases hk),fun _ k hk=>(by cases hk)⟩,fun j k hj=>(by simp[scNew] at hj)⟩
    ·exact key y hy
   ·exact key y hy
theorem close_at {f:Fm} (hz:chkZ f=none) {b:Nat} {t:Tk} (ht:f.toks[b]?=some t) (hg:bgO t.op=true) :
  ∃ m x o,t.pair=((m:Nat):Int)/\m<f.toks.length/\(∃ u,f.toks[m]?=some u/\edO u.op=true)/\(stA f m).open_=x::o/\x.at_=b/\x.tk=t/\kidsZ f.toks b=x.kids/\ScOk f.toks m x:=by
 obtain⟨n,ks,hB,-⟩:=bgn_took hz ht hg
 obtain⟨u,hu,-⟩:∃ u,f.toks[n]?=some u/\True:=⟨f.toks[n]'hB.nl,List.getElem?_eq_getElem _,trivial⟩
 obtain⟨hok,H⟩:=val_ok hz hB.et
 have hp:pairB f.toks b t=true:=by
  revert hok H
  generalize stA f b=s
  intro hok H
  obtain⟨o,ids⟩:=s
  cases o with
  | nil=>exact(okZ_nil hok).2.2.2.2.1
  | cons x o =>
   have h:inOk f (x::o) ids b x t=true:=hok
   exact(inOk_in h (bgO_end hg)).2.2.2.1 hg
 obtain⟨m,u',h1,_,_,h2,h3,_,h5⟩:=pairB_get hp
 have:m=n:=by have:=hB.en;omega
 subst this
 rw[hu] at h2
 cases h2
 have hed:edO u.op=true:=by rw[h3];exact edO_succ hg
 rcases val_tok hz hu with ⟨-,-,x,o,e1,e2,e3⟩|⟨h,-⟩|⟨h,-⟩
 ·have hxb:x.at_=b:=by omega
  have hxm:x∈(stA f m).open_:=by rw[e1];exact List.mem_cons_self ..
  obtain⟨hok2,H2⟩:=val_ok hz hu
  have hx2:=H2.all x hxm
  have hxt:x.tk=t:=by have:=hx2.tk;rw[hxb,ht] at this;cases this;rfl
  have hn:=H2.nest
  rw[e1] at hn
  have hkk:kidsZ f.toks b=x.kids:=by
   refine Bgn.kids (n:=m) (t:=t) ⟨ht,h1,hB.nl,hB.bn,?_,fun k hk=>?_,?_⟩
   ·rw[<- hxb];exact hn.1
   ·have:=hx2.kid k hk;omega
   ·have hsr:∀ i,i<=f.toks.length->Srt (stA f i).open_:=by
     intro i
     induction i with
     | zero=>intro _ y hy;cases hy
     | succ i ih =>
      intro hi
      obtain⟨t,ht⟩:∃ t,f.toks[i]?=some t:=⟨f.toks[i],List.getElem?_eq_getElem (by omega)⟩
      rw[stA_succ ht]
      exact srt_step (val_ok hz ht).2 (ih (by omega))
    exact hsr m (by have:=hB.nl;omega) x hxm
  exact⟨m,x,o,h1,hB.nl,⟨u,hu,hed⟩,e1,hxb,hxt,hkk,hx2⟩
 ·rw[hed] at h;cases h
 ·rw[hed] at h;cases h
theorem kids_met {f:Fm} (hz:chkZ f=none) {b:Nat} {t:Tk} (ht:f.toks[b]?=some t) (hg:bgO t.op=true) {j k:Nat} (hj:(kidsZ f.toks b)[j]?=some k) :
  k<f.toks.length/\∃ x o,(stA f k).open_=x::o/\x.at_=b/\x.tk=t/\x.kids=(kidsZ f.toks b).take j/\Kin f.toks x/\ScOk f.toks k x:=by
 obtain⟨m,x,o,-,hml,-,e1,hxb,hxt,hkk,hx2⟩:=close_at hz ht hg
 have hxm:x∈(stA f m).open_:=by rw[e1];exact List.mem_cons_self ..
 obtain⟨k1,k2⟩:=kin_at hz m (by omega) x hxm
 rw[hkk] at hj ⊢
 have hkm:=hx2.kid k (List.mem_of_getElem? hj)
 obtain⟨y,o',f1,f2,f3,f4⟩:=k2 j k hj
 have hkl:k<f.toks.length:=by omega
 obtain⟨tk,htk⟩:∃ t,f.toks[k]?=some t:=⟨f.toks[k],List.getElem?_eq_getElem hkl⟩
 have hym:y∈(stA f k).open_:=by rw[f1];exact List.mem_cons_self ..
 exact⟨hkl,y,o',f1,by omega,by rw[f3,hxt],f4,(kin_at hz k (by omega) y hym).1,(val_ok hz htk).2.all y hym⟩
theorem stay_met {f:Fm} (hz:chkZ f=none) {i:Nat} {t:Tk} (ht:f.toks[i]?=some t) (he:edO t.op=false) {x:Sc} {o:List Sc} (hx:(stA f i).open_=x::o):∀ n,i<n->n<=f.toks.length->∀ z∈(stA f n).open_,z.at_=x.at_->i∈z.kids:=by
 obtain⟨hok,H⟩:=val_ok hz ht
 have hxk:=H.all x (by rw[hx];exact List.mem_cons_self ..)
 intro n
 induction n with
 | zero=>intro h;omega
 | succ n ih =>
  intro h1 h2 z hz' hza
  obtain⟨u,hu⟩:∃ t,f.toks[n]?=some t:=⟨f.toks[n],List.getElem?_eq_getElem (by omega)⟩
  rw[stA_succ hu] at hz'
  rcases Nat.lt_or_ge i n with hl|hl
  ·have ih:=ih hl (by omega)
   unfold nxt at hz'
   by_cases hue:edO u.op=true
   ·rw[if_pos hue] at hz'
    exact ih z (List.mem_of_mem_tail hz') hza
   ·rw[if_neg hue] at hz'
    have key:∀ y∈metL (stA f n).open_ n u,y.at_=x.at_->i∈y.kids:=fun y hy hya=>by
     cases hso:(stA f n).open_ with
     | nil=>rw[hso] at hy;cases hy
     | cons a r =>
      rw[hso] at hy ih
      rcases List.mem_cons.1 hy with rfl|hy
      ·exact List.mem_append_left _ (ih a (List.mem_cons_self ..) hya)
      ·exact ih y (List.mem_cons_of_mem _ hy) hya
    have hz':z∈(if bgO u.op=true then scNew n u::metL (stA f n).open_ n u else metL (stA f n).open_ n u):=hz'
    split at hz'
    ·rcases List.mem_cons.1 hz' with rfl|hz'
     ·have h3:n=x.at_:=hza
      have:=hxk.lt
      omega
     ·exact key z hz' hza
    ·exact key z hz' hza
  ·obtain rfl:n=i:=by omega
   rw[ht] at hu
   cases hu
   unfold nxt at hz'
   rw[if_neg (by rw[he];decide),hx] at hz'
   have hn:=H.nest
   rw[hx] at hn
   have hz':z∈(if bgO t.op=true then scNew n t::metX x n t::o else metX x n t::o):=hz'
   have key:z∈metX x n t::o->n∈z.kids:=fun hz'=>by
    rcases List.mem_cons.1 hz' with rfl|hz'
    ·exact List.mem_append_right _ (List.mem_singleton.2 rfl)
    ·have:=out_lt hn.2.2 (fun a ha=>H.all a (by rw[hx];exact List.mem_cons_of_mem _ ha)) z hz'
     omega
   split at hz'
   ·rcases List.mem_cons.1 hz' with rfl|hz'
    ·have h3:n=x.at_:=hza
     have:=hxk.lt
     omega
    ·exact key hz'
   ·exact key hz'
theorem kid_of {f:Fm} (hz:chkZ f=none) {i:Nat} {t:Tk} (ht:f.toks[i]?=some t) (he:edO t.op=false) {x:Sc} {o:List Sc} (hx:(stA f i).open_=x::o):∃ j:Nat,(kidsZ f.toks x.at_)[j]?=some i:=by
 obtain⟨hok,H⟩:=val_ok hz ht
 have hxk:=H.all x (by rw[hx];exact List.mem_cons_self ..)
 obtain⟨m,y,o',h1,h2,⟨u,hu,hue⟩,e1,e2,e3,e4,e5⟩:=close_at hz hxk.tk hxk.beg
 have hle:=hxk.le
 have hne:i≠m:=fun e=>by
  subst e
  rw[ht] at hu
  cases hu
  rw[he] at hue
  cases hue
 rw[e4]
 exact List.getElem?_of_mem (stay_met hz ht he hx m (by omega) (by omega) y (by rw[e1];exact List.mem_cons_self ..) e2)
def kp (C:List Nat) (v:Int) (k:Nat):Bool:=decide (((C.getD k 0:Nat):Int)<=v)
theorem getD_of {C:List Nat} {i c:Nat} (h:C[i]?=some c):C.getD i 0=c:=by rw[List.getD_eq_getElem?_getD,h];rfl
theorem rnk_mono (C:List Nat) (v:Int) {i j:Nat} (h:i<=j):rnk C v i<=rnk C v j:=by
 unfold rnk
 have:C.take i=(C.take j).take i:=by rw[List.take_take,Nat.min_eq_left h]
 rw[this]
 exact List.Sublist.countP_le (List.take_sublist ..)
theorem rnk_kp {C:List Nat} {v:Int} {i:Nat} (hi:i<C.length) (hk:kp C v i=true):rnk C v (i+1)=rnk C v i+1:=by
 have hc:C[i]?=some C[i]:=List.getElem?_eq_getElem hi
 rw[rnk_succ hc]
 have h:=decT hk
 rw[getD_of hc] at h
 rw[if_pos h]
theorem rnk_no {C:List Nat} {v:Int} {i:Nat} (hi:i<C.length) (hk:kp C v i=false):rnk C v (i+1)=rnk C v i:=by
 have hc:C[i]?=some C[i]:=List.getElem?_eq_getElem hi
 rw[rnk_succ hc]
 have h:=of_decide_eq_false hk
 rw[getD_of hc] at h
 rw[if_neg h]
 rfl
theorem rnk_lt {C:List Nat} {v:Int} {i j:Nat} (hi:i<C.length) (hk:kp C v i=true) (h:i<j):rnk C v i<rnk C v j:=by
 have h1:=rnk_kp hi hk
 have h2:=rnk_mono C v (i:=i+1) (j:=j) h
 omega
theorem kepF_at (l:List Tk) (C:List Nat) (v:Int) (hl:C.length=l.length):∀ (n i:Nat) (t:Tk),n<=l.length->i<n->l[i]?=some t->kp C v i=true->(kepF l C v n)[rnk C v i]?=some (trnT l C v i t)
 | 0,_,_,_,h,_,_=>by omega
 | n+1,i,t,hn,hi,ht,hk=>by
  have hlen:=kepF_length l C v n (by omega) (by omega)
  have hc:C[n]?=some (C[n]'(by omega)):=List.getElem?_eq_getElem _
  obtain⟨tn,htn⟩:∃ t,l[n]?=some t:=⟨l[n]'(by omega),List.getElem?_eq_getElem _⟩
  rw[kepF_succ htn hc]
  rcases Nat.lt_or_ge i n with h|h
  ·have:=rnk_lt (by omega) hk h
   rw[List.getElem?_append_left (by omega)]
   exact kepF_at l C v hl n i t (by omega) h ht hk
  ·obtain rfl:i=n:=by omega
   rw[ht] at htn
   cases htn
   have h:=decT hk
   rw[getD_of hc] at h
   rw[if_pos h,List.getElem?_append_right (by omega),hlen,Nat.sub_self]
   rfl
theorem came_in {f:Fm} (hz:chkZ f=none) {i:Nat} {t:Tk} (ht:f.toks[i]?=some t) (he:edO t.op=false) {x:Sc} {o:List Sc} (hx:(stA f i).open_=x::o):(camZ f).getD i 0=max ((camZ f).getD x.at_ 0) t.since.toNat:=by
 have h1:=camZ_get ht
 rw[stk_open hz i (by have:=(List.getElem?_eq_some_iff.1 ht).1;omega),hx] at h1
 rw[getD_of h1]
 unfold camS
 rw[if_neg (by rw[he];decide)]
 rfl
theorem came_end {f:Fm} (hz:chkZ f=none) {i:Nat} {t:Tk} (ht:f.toks[i]?=some t) (he:edO t.op=true) {x:Sc} {o:List Sc} (hx:(stA f i).open_=x::o):(camZ f).getD i 0=(camZ f).getD x.at_ 0:=by
 have h1:=camZ_get ht
 rw[stk_open hz i (by have:=(List.getElem?_eq_some_iff.1 ht).1;omega),hx] at h1
 rw[getD_of h1]
 unfold camS
 rw[if_pos he]
 rfl
theorem kp_in {f:Fm} (hz:chkZ f=none) {i:Nat} {t:Tk} (ht:f.toks[i]?=some t) (he:edO t.op=false) {x:Sc} {o:List Sc} (hx:(stA f i).open_=x::o) (v:Int):kp (camZ f) v i=(kp (camZ f) v x.at_&&decide (t.since<=v)):=by
 have h1:=came_in hz ht he hx
 have h2:=val_since hz ht
 unfold kp
 rw[h1]
 rw[Bool.eq_iff_iff]
 simp only[Bool.and_eq_true,decide_eq_true_eq]
 omega
theorem kp_end {f:Fm} (hz:chkZ f=none) {i:Nat} {t:Tk} (ht:f.toks[i]?=some t) (he:edO t.op=true) {x:Sc} {o:List Sc} (hx:(stA f i).open_=x::o) (v:Int):kp (camZ f) v i=kp (camZ f) v x.at_:=by
 unfold kp
 rw[came_end hz ht he hx]
theorem fstB_some {l:List Tk} {C:List Nat} {v:Int}:∀ {ks:List Nat} {x:Int},fstB l C v ks=some x->∃ (j k:Nat),ks[j]?=some k/\newB' l C v k=true/\x=offAt l k
 | [],_,h=>by cases h
 | k::r,x,h=>by
  rw[fstB] at h
  split at h
  ·rename_i hn
   cases h
   exact⟨0,k,rfl,hn,rfl⟩
  ·obtain⟨j,k',h1,h2,h3⟩:=fstB_some h
   exact⟨j+1,k',h1,h2,h3⟩
theorem rul_fld {f:Fm} {o:List Sc} {ids:List Int} {i:Nat} {x:Sc} {t:Tk} (h:inOk f (x::o) ids i x t=true) (ho:t.op=2):fldB f ids i x t=true:=by
 have hr:=(inOk_in h (by rw[ho];rfl)).2.2.2.2.2
 unfold rulB at hr
 rwa [if_pos ho] at hr
theorem fld_rise {f:Fm} {ids:List Int} {i:Nat} {x:Sc} {t:Tk} (h:fldB f ids i x t=true):x.fld<=t.since/\t.since<=f.ver:=by
 unfold fldB at h
 simp only[Bool.and_eq_true] at h
 exact betT h.1.2
theorem inOk_at {f:Fm} (hz:chkZ f=none) {i:Nat} {t:Tk} (ht:f.toks[i]?=some t) {x:Sc} {o:List Sc} (hx:(stA f i).open_=x::o):inOk f (x::o) (stA f i).ids i x t=true:=by
 have h:=(val_ok hz ht).1
 cases hs:stA f i with
 | mk o' ids =>
  rw[hs] at h hx
  simp only at hx
  subst hx
  exact h
theorem blk_low {f:Fm} (hz:chkZ f=none) (v:Int) {b:Nat} {t:Tk} (ht:f.toks[b]?=some t) (ho:t.op=0\/t.op=4) (hb:0<=t.blk) :
  (0<=blkZ f.toks (camZ f) v b t/\blkZ f.toks (camZ f) v b t<=t.blk)/\∀ (j k:Nat) (u:Tk),(kidsZ f.toks b)[j]?=some k->f.toks[k]?=some u->u.op=2->u.siz≠0->kp (camZ f) v k=true->u.off+u.siz<=blkZ f.toks (camZ f) v b t:=by
 have hg:bgO t.op=true:=by rcases ho with e|e<;>rw[e]<;>rfl
 have one:∀ (j k:Nat) (u:Tk),(kidsZ f.toks b)[j]?=some k->f.toks[k]?=some u->u.op=2->u.siz≠0->∃ x o,(stA f k).open_=x::o/\x.at_=b/\x.kids=(kidsZ f.toks b).take j/\Kin f.toks x/\x.tk=t/\x.fld<=u.since/\0<=x.e0/\x.e0<=u.off/\0<u.siz/\u.off+u.siz<=t.blk:=fun j k u hj hu h2 hs=>by
  obtain⟨hkl,x,o,e1,e2,e3,e4,e5,e6⟩:=kids_met hz ht hg hj
  have hi:=rul_fld (inOk_at hz hu e1) h2
  have h3:=fld_siz hi hs
  rw[e3] at h3
  exact⟨x,o,e1,e2,e4,e5,e3,(fld_rise hi).1,e6.e0.1,h3.2.2.1,h3.2.1,h3.2.2.2⟩
 unfold blkZ
 cases hf:fstB f.toks (camZ f) v (kidsZ f.toks b) with
 | none =>
  refine⟨⟨hb,Int.le_refl _⟩,fun j k u hj hu h2 hs _=>?_⟩
  obtain⟨x,o,-,-,-,-,-,-,-,-,-,h⟩:=one j k u hj hu h2 hs
  exact h
 | some z =>
  obtain⟨j',k',hj',hn,rfl⟩:=fstB_some hf
  unfold newB' at hn
  cases hu':f.toks[k']? with
  | none=>rw[hu'] at hn;cases hn
  | some u' =>
   rw[hu'] at hn
   simp only[Bool.and_eq_true,Bool.not_eq_true',decide_eq_true_eq,decide_eq_false_iff_not] at hn
   obtain⟨n1,n2,n3⟩:=hn
   obtain⟨x,o,e1,e2,e3,e4,e5,e6,e7,e8,e9,e10⟩:=one j' k' u' hj' hu' n1 n2
   have hoff:offAt f.toks k'=u'.off:=by unfold offAt;rw[hu']
   simp only[Option.getD_some]
   rw[hoff]
   refine⟨⟨by omega,by omega⟩,fun j k u hj hu h2 hs hk=>?_⟩
   obtain⟨y,p,d1,d2,d3,d4,d5,d6,d7,d8,d9,d10⟩:=one j k u hj hu h2 hs
   have he2:edO u.op=false:=by rw[h2];rfl
   have he3:edO u'.op=false:=by rw[n1];rfl
   rw[kp_in hz hu he2 d1,d2,Bool.and_eq_true] at hk
   have hk1:=decT hk.1
   have hk2:=decT hk.2
   have hc':=came_in hz hu' he3 e1
   rw[e2] at hc'
   have hv:=val_since hz hu'
   rcases Nat.lt_trichotomy j j' with h|h|h
   ·have hm:k∈x.kids:=by
     rw[e3]
     exact List.mem_of_getElem? (i:=j) (by rw[List.getElem?_take,if_pos h];exact hj)
    have:=e4.e (by rw[e5];exact ho) k hm u hu h2 hs
    omega
   ·subst h
    rw[hj] at hj'
    cases hj'
    rw[hu] at hu'
    cases hu'
    omega
   ·have hm:k'∈y.kids:=by
     rw[d3]
     exact List.mem_of_getElem? (i:=j') (by rw[List.getElem?_take,if_pos h];exact hj')
    have:=d4.f k' hm u' hu' n1
    omega
end Go.Proofs.YtcgimchhcaankaaGreatDoor
