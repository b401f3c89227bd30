import Derived.Test.YtjnafpefolgcoaaGreatDoorK26
import Derived.Test.YtjnafpefolgcoaaGreatDoorK27
import Derived.Test.YtjnafpefolgcoaaGreatDoorK40
namespace Go.Proofs.YtjnafpefolgcoaaGreatDoor
set_option maxRecDepth 1000000
set_option maxHeartbeats 16000000
open Go.ChangeShapes Go.WideShapes Go.ChangeAt Go.RowKit Go.Shelf Go.Maps
def shZ (f:Fm):List ByteArray:=if chkZ f=none then shL pnZ f else []
theorem errZ_some {z:Option Int} (h:z≠none):errZ z=121:=by cases z with|none=>exact absurd rfl h|some a=>rfl
theorem Show_any (f:Fm) (pp:Option Addr) (cp:Nat) (w:World) (tl:TkL w pp w.heap.size f.toks) (kt:KT w) (mt:MT w) (tb:ShTb w) (hlm:f.toks.length*192<=140737488351232) (hnm:∀ t∈f.toks,t.name.size<=140737488351232) :
  Calls Tryz.prog 11 #[fmV f pp cp] w fun e w'=>∃ v,e = .returned (.tuple #[v,.int .i64 (errZ (chkZ f))])/\SRow w' w.heap.size v (shZ f)/\Below w.heap.size w w':=by
 have hF:=fm_new w f pp cp
 have HB:Below w.heap.size w (w.alloc (fmO f pp cp)):=nbel _ _
 have HS:(w.alloc (fmO f pp cp)).heap.size=w.heap.size+1:=World.size_alloc _ _
 generalize hW:w.alloc (fmO f pp cp)=W at hF HB HS
 simp only[fmO] at hW
 have F0:=hF.c0
 have F1:=hF.c1
 have F2:=hF.c2
 have F3:=hF.c3
 have F4:=hF.c4
 have F5:=hF.c5
 have F6:=hF.c6
 have F7:=hF.c7
 have F8:=hF.c8
 have F9:=hF.c9
 have F10:=hF.c10
 have F11:=hF.c11
 have F12:=hF.c12
 simp only[Nat.zero_add] at F1 F2 F3 F4 F5 F6 F7 F8 F9 F10 F11 F12
 have hY:Hid (∀ W',Below W.heap.size W W'->W'.cell? ⟨w.heap.size,12,none⟩=some (.slice pp f.toks.length cp)):=⟨fun W' hb=>by simpa using(hF.below (by omega) hb).c12⟩
 have cC:=Check_any f pp cp W ((tl.below HB).mono (by omega)) (kt.up HB) (mt.below mt.pos HB)
 unfold shZ
 by_cases hz:chkZ f=none
 ·have cS:Hid (∀ V,Below w.heap.size w V->Calls Tryz.prog 23 #[.slice pp f.toks.length cp] V fun e w'=>∃ v,e = .returned v/\SRow w' V.heap.size v (shL pnZ f)/\Below V.heap.size V w'):=⟨fun V h=>show_any f pp cp V hz ((tl.below h).mono h.size) hlm hnm (tb.below h)⟩
  rw[if_pos hz]
  rw[hz] at cC ⊢
  simp only[errZ,atZ] at cC
  rw[show errZ none=0 from rfl]
  replace HB:=Hid.mk HB
  clear hF tl kt mt tb hlm hnm hz HS
  go_enter Tryz.func11,Tryz.ntmps11
  go_wp2_with (first
   | (go_at_call 8;refine cC.mono ?_;clear cC;rintro _ w1 ⟨rfl,b1⟩;have y12:=hY.out w1 b1;have hb1:Below w.heap.size w w1:=HB.out.trans (b1.mono HB.out.size);have cS1:=cS.out w1 hb1;replace hb1:=Hid.mk hb1;clear b1 cS)
   | (go_at_call 23;refine cS1.mono ?_;clear cS1;rintro _ w2 ⟨v,rfl,r2,b2⟩;replace r2:=Hid.mk r2;replace b2:=Hid.mk b2))
  exact bodyPost_ret (by simp[results,Tryz.results11,go_sem]) rfl ⟨_,rfl,r2.out.low hb1.out.size,hb1.out.trans (b2.out.mono hb1.out.size)⟩
 ·rw[if_neg hz]
  rw[errZ_some hz] at cC ⊢
  replace HB:=Hid.mk HB
  clear hF tl kt mt tb hlm hnm hz HS hY
  go_enter Tryz.func11,Tryz.ntmps11
  go_wp2_with (go_at_call 8;refine cC.mono ?_;clear cC;rintro _ w1 ⟨rfl,b1⟩;replace b1:=Hid.mk b1)
  exact bodyPost_ret (by simp[results,Tryz.results11,go_sem]) rfl ⟨_,rfl,SRow.nil _ _,HB.out.trans (b1.out.mono HB.out.size)⟩
theorem emp_ap (s:ByteArray):(⟨#[]⟩:ByteArray)++s=s:=by
 refine ba_ext ?_
 rw[ByteArray.data_append,Array.toList_append]
 rfl
theorem ref_rem (op:Int) (h:0<=op/\op<=15):∃ r,op.tmod 2=r/\((r==1)=true/\decide (op<14)=true/\edO op=true/\bgO op=false\/(r==1)=false/\edO op=false/\bgO op=true\/(r==1)=false/\edO op=false/\bgO op=false\/(r==1)=true/\decide (op<14)=false/\edO op=false/\bgO op=false):=by
 have:op=0\/op=1\/op=2\/op=3\/op=4\/op=5\/op=6\/op=7\/op=8\/op=9\/op=10\/op=11\/op=12\/op=13\/op=14\/op=15:=by omega
 rcases this with rfl|rfl|rfl|rfl|rfl|rfl|rfl|rfl|rfl|rfl|rfl|rfl|rfl|rfl|rfl|rfl<;>exact⟨_,rfl,by decide⟩
theorem refShow_any (f:Fm) (pp:Option Addr) (cp:Nat) (w:World) (fo:FmOk f) (tl:TkL w pp w.heap.size f.toks) (hlm:f.toks.length*192<=140737488351232) (hnm:∀ t∈f.toks,t.name.size<=140737488351232) :
  Calls Tryz.prog 6 #[fmV f pp cp] w fun e w'=>∃ v,e = .returned (.tuple #[v,.int .i64 (errZ (chkZ f))])/\SRow w' w.heap.size v (shZ f)/\Below w.heap.size w w':=by
 have hF:=fm_new w f pp cp
 have HB:Below w.heap.size w (w.alloc (fmO f pp cp)):=nbel _ _
 have HS:(w.alloc (fmO f pp cp)).heap.size=w.heap.size+1:=World.size_alloc _ _
 generalize hW:w.alloc (fmO f pp cp)=W at hF HB HS
 simp only[fmO] at hW
 have F0:=hF.c0
 have F1:=hF.c1
 have F2:=hF.c2
 have F3:=hF.c3
 have F4:=hF.c4
 have F5:=hF.c5
 have F6:=hF.c6
 have F7:=hF.c7
 have F8:=hF.c8
 have F9:=hF.c9
 have F10:=hF.c10
 have F11:=hF.c11
 have F12:=hF.c12
 simp only[Nat.zero_add] at F1 F2 F3 F4 F5 F6 F7 F8 F9 F10 F11 F12
 have hY:Hid (∀ W',Below W.heap.size W W'->W'.cell? ⟨w.heap.size,12,none⟩=some (.slice pp f.toks.length cp)):=⟨fun W' hb=>by simpa using(hF.below (by omega) hb).c12⟩
 have cC:=refCheck_any f pp cp W fo ((tl.below HB).mono (by omega))
 unfold shZ
 by_cases hz:chkZ f=none
 ·rw[if_pos hz]
  have hZ:Hid _:=⟨hz⟩
  have hT:Hid (TkL W pp w.heap.size f.toks):=⟨tl.below HB⟩
  have hll:f.toks.length<=733007751850:=by omega
  replace hnm:=Hid.mk hnm
  have hWs:Hid (w.heap.size<W.heap.size):=⟨by omega⟩
  rw[hz] at cC ⊢
  simp only[errZ,atZ] at cC
  rw[show errZ none=0 from rfl]
  replace HB:=Hid.mk HB
  clear hF tl fo hlm hz HS
  go_enter Tryz.func6,Tryz.ntmps6
  go_wp2_with (go_at_call 4;refine cC.mono ?_;clear cC;rintro _ w1 ⟨rfl,b1⟩;replace b1:=Hid.mk b1)
  clear hW F0 F1 F2 F3 F4 F5 F6 F7 F8 F9 F10 F11 F12
  go_loopw [8,6,7] (fun q u o wr=>∃ (j:Nat) (v:Value),j<=f.toks.length/\q = .int .i64 (j:Int)/\v=u/\o = .int .i64 (opN f j:Int)/\Hid (SRow wr W.heap.size v ((shL pnZ f).take j)/\Below W.heap.size W wr)) (fun q _ _ _=>f.toks.length-(RowKit.intOf q).toNat)
  case atStart=>exact⟨0,_,Nat.zero_le _,by go_num,rfl,rfl,⟨SRow.nil _ _,b1.out⟩⟩
  case round =>
   clear b1
   obtain⟨j,v,hj,rfl,rfl,rfl,hI⟩:=hrel
   have hR:Hid _:=⟨hI.out.1⟩
   have hB:Hid _:=⟨hI.out.2⟩
   have y12:=hY.out wr hI.out.2
   clear hI
   by_cases hlt:j<f.toks.length
   ·obtain⟨t,ht⟩:∃ t,f.toks[j]?=some t:=⟨f.toks[j],List.getElem?_eq_getElem hlt⟩
    obtain⟨gf,ofs,pc,cc,rfl,hgf,hTk,-,-,htok⟩:=hT.out.at ht
    have hT1:=hTk.below (by have:=hWs.out;omega) hB.out
    have l1:Hid _:=⟨hT1.load⟩
    obtain⟨W1,s1,hA,hb1,hz1⟩:=ld_new wr t pc cc
    have hji:(j:Int)<f.toks.length:=by omega
    have hSn:=shn_of hZ.out ht
    have hop:=hSn.op
    have hv64:0<=t.val/\t.val<18446744073709551616:=by have:=htok.val;unfold u64ok at this;omega
    have hi64:i64ok t.op:=htok.op
    have hname:=hnm.out t (List.mem_of_getElem? ht)
    have hos:=opN_succ hZ.out ht
    have hol:=opN_le hZ.out j hj
    have htk:=shL_take f ht
    have hB1:Below W.heap.size W W1:=hB.out.trans (hb1.mono hB.out.size)
    have hR1:=hR.out.below hb1
    have cT:=shown12 t pc cc W1 hSn (by omega) hv64
    have cB:Hid (∀ V,Calls Tryz.prog 17 #[.int .i64 t.op] V fun r w'=>r = .returned (.bool (bgO t.op))/\w'=V):=⟨fun V=>refBegins_any t.op V hi64⟩
    obtain⟨D,hDe⟩:∃ D,lnD f j t=D:=⟨_,rfl⟩
    obtain⟨r,hrm,hrc⟩:=ref_rem t.op hop
    have hcase:∃ (a:Bool) (nx:Nat),bgO t.op=a/\opN f (j+1)=nx/\nx=(if a then D+1 else D)/\(((r==1)=true/\decide (t.op<14)=true/\opN f j=D+1)\/((r==1)=false/\opN f j=D)\/((r==1)=true/\decide (t.op<14)=false/\opN f j=D)):=by
     refine⟨_,_,rfl,rfl,?_⟩
     unfold lnD at hDe
     rcases hrc with ⟨h1,h2,he,hb⟩|⟨h1,he,hb⟩|⟨h1,he,hb⟩|⟨h1,h2,he,hb⟩
     ·have h3:=hos.1 he
      rw[if_pos he] at hDe
      rw[hb]
      exact⟨by simp;omega,.inl ⟨h1,h2,by omega⟩⟩
     ·have h3:=hos.2 he
      rw[if_neg (by rw[he];decide)] at hDe
      rw[hb] at h3 ⊢
      exact⟨by rw[h3,hDe],.inr (.inl ⟨h1,hDe⟩)⟩
     ·have h3:=hos.2 he
      rw[if_neg (by rw[he];decide)] at hDe
      rw[hb] at h3 ⊢
      exact⟨by rw[h3];simp[hDe],.inr (.inl ⟨h1,hDe⟩)⟩
     ·have h3:=hos.2 he
      rw[if_neg (by rw[he];decide)] at hDe
      rw[hb] at h3 ⊢
      exact⟨by rw[h3];simp[hDe],.inr (.inr ⟨h1,h2,hDe⟩)⟩
    have hDl:D<=733007751850:=by obtain⟨_,_,_,_,_,h|h|h⟩:=hcase<;>omega
    have hsz:=shT_size hSn hv64
    obtain⟨SJ,hSJ⟩:∃ s,shJ (shT pnZ t)=s:=⟨_,rfl⟩
    have hLn:Hid (shLn f j t=shR D++SJ):=⟨by unfold shLn;rw[hDe,hSJ]⟩
    rw[hSJ] at hsz cT
    have hJs:SJ.size<=140737488355328:=by omega
    have z0:W1.cell? ⟨wr.heap.size,0,none⟩=some (.int .i64 t.op):=by simpa using hA.c0
    have lA:Hid _:=⟨hA.load⟩
    have zB:Hid (∀ V:World,V.heap[wr.heap.size]?=W1.heap[wr.heap.size]?->V.cell? ⟨wr.heap.size,0,none⟩=some (.int .i64 t.op)):=⟨fun V h=>(cell_blk h).trans z0⟩
    have hvb:Hid (∀ k,v.ownBlock=some k->k≠wr.heap.size):=⟨fun k hk e=>by have:=(blk_of_own hR.out k hk).2;omega⟩
    have hW1l:wr.heap.size<W1.heap.size:=by omega
    replace hB1:=Hid.mk hB1
    replace hR1:=Hid.mk hR1
    replace htk:=Hid.mk htk
    replace hlt:=Hid.mk hlt
    replace hW1l:=Hid.mk hW1l
    clear hA hT1 hTk hSn hv64 hname hos hol hDe hR hB hb1 hz1 ht htok hgf hop hrc hsz hSJ hi64
    obtain⟨a,nx,hbg,hNx,hnx,hK⟩:=hcase
    rw[hbg] at cB
    replace hNx:=Hid.mk hNx
    replace hnx:=Hid.mk hnx
    clear hbg
    rcases hK with ⟨h1,h2,hK⟩|⟨h1,hK⟩|⟨h1,h2,hK⟩
    all_goals
     rw[hK]
     clear hK
     go_wp2_with (first
      | (guard_target =~ wpList _ _ _ (Oper.mk _ (Op.load 53 _) _ _ _ _::_) _ _;go_must (first|refine wpList_ld 53 _ rfl rfl _ _ rfl l1.out ?_|refine wpList_ld 53 _ rfl rfl _ _ rfl lA.out ?_);simp only[pts])
      | (guard_target =~ wpList _ _ _ (Oper.mk _ (Op.store 53 _ _) _ _ _ _::_) _ _;go_must (refine wpList_st 53 _ _ rfl rfl _ _ rfl rfl (s1 _ rfl) ?_);simp only[pts])
      | (go_at_call 19;refine cT.mono ?_;clear cT;rintro _ w3 ⟨rfl,b3⟩;replace b3:=Hid.mk b3))
     go_loopw [11,10] (fun q s wr'=>∃ m:Nat,m<=D/\q = .int .i64 (m:Int)/\s = .string (shR m++SJ)/\w3=wr') (fun q _ _=>D-(RowKit.intOf q).toNat)
     case atStart=>exact⟨0,Nat.zero_le _,by go_num,by rw[shR_zero,emp_ap],rfl⟩
     case round =>
      obtain⟨m,hm,rfl,rfl,rfl⟩:=hrel
      have hms:=shR_size m
      by_cases hmd:m<D
      ·have hmi:(m:Int)<D:=by omega
       have hmb:(m:Int)<=733007751850:=by omega
       have hsz2:(shR m++SJ).size=(shR m).size+SJ.size:=ByteArray.size_append
       obtain⟨S,hS⟩:∃ S,shR m++SJ=S:=⟨_,rfl⟩
       have hN:Hid ((⟨#[32,32]⟩:ByteArray)++S=shR (m+1)++SJ):=⟨by rw[shR_succ,<- hS,ByteArray.append_assoc]⟩
       rw[hS] at hsz2 ⊢
       have hov:¬ 9223372036854775807<2+S.size:=by omega
       replace hmd:=Hid.mk hmd
       clear hS hms hsz2
       go_wp2_with fail
       go_roundw
       case rel=>exact⟨m+1,by have:=hmd.out;omega,by go_num,by rw[<- hN.out],by first|trivial|rfl⟩
       case measure=>have:=hmd.out;simp[RowKit.intOf];omega
      ·obtain rfl:m=D:=by omega
       have d4:decide ((m:Int)<m)=false:=by simp
       rw[<- hLn.out]
       have B3:Below W.heap.size W w3:=hB1.out.trans (b3.out.mono hB1.out.size)
       have E3:w3.heap[wr.heap.size]?=W1.heap[wr.heap.size]?:=b3.out.block _ hW1l.out
       have s3:=b3.out.size
       have hl3:wr.heap.size<w3.heap.size:=by have:=hW1l.out;omega
       obtain⟨SL,hSL⟩:∃ s,shLn f j t=s:=⟨_,rfl⟩
       rw[hSL] at htk ⊢
       have hap:Hid (∃ v' w',(∀ ty,(Builtin.append_ #[35,35] ty #[v,.slice (some ⟨w3.heap.size,0,none⟩) 1 1]).run Tryz.prog (w3.alloc (.cells #[.string SL] 9)) = .ok v' w')/\(w'.cell? ⟨wr.heap.size,0,none⟩=some (.int .i64 t.op)/\Hid (SRow w' W.heap.size v' ((shL pnZ f).take (j+1))/\Below W.heap.size W w'))):=⟨by
        have R3:=hR1.out.below b3.out
        obtain⟨v9,w9,a1,a2,a3,a4⟩:=str_ap (R3.below (nbel w3 (.cells #[.string SL] 9))) ⟨w3.heap.size,0,none⟩ [SL] 1 (World.news_of_block' (thnK w3 _) [SL] rfl) (by rw[List.length_take,shL_len];simp;omega) (by rw[World.size_alloc];have:=B3.size;omega)
        refine⟨v9,w9,a1,zB.out w9 ((a4 wr.heap.size (by rw[World.size_alloc];omega) (fun h=>hvb.out _ h rfl)).trans (((nbel w3 _).block _ hl3).trans E3)),⟨by rw[htk.out];exact a2,B3.trans (((nbel w3 _).mono B3.size).trans a3)⟩⟩⟩
       clear hms hmd B3 E3 s3 hl3 hSL hLn hR1 hB1 b3
       cases a with
       | true =>
        go_wp2_with (first
         | (at_builtin;go_must (refine(ap_step (by rfl) _ _ _ _ (by rfl) _ _ (by rfl) (by rfl) _ hap.out ?_));rintro v9 w9 ⟨z9,hF9⟩;clear hap)
         | (go_at_call 17;refine(cB.out _).mono ?_;rintro _ wq ⟨rfl,e⟩;replace e:=e.symm;subst e))
        go_roundw
        case rel=>exact⟨j+1,_,by have:=hlt.out;omega,by go_num,rfl,(by rw[hNx.out,hnx.out];first|rfl|go_num),hF9⟩
        case measure=>have:=hlt.out;simp[RowKit.intOf];omega
       | false =>
        go_wp2_with (first
         | (at_builtin;go_must (refine(ap_step (by rfl) _ _ _ _ (by rfl) _ _ (by rfl) (by rfl) _ hap.out ?_));rintro v9 w9 ⟨z9,hF9⟩;clear hap)
         | (go_at_call 17;refine(cB.out _).mono ?_;rintro _ wq ⟨rfl,e⟩;replace e:=e.symm;subst e))
        go_roundw
        case rel=>exact⟨j+1,_,by have:=hlt.out;omega,by go_num,rfl,(by rw[hNx.out,hnx.out];first|rfl|go_num),hF9⟩
        case measure=>have:=hlt.out;simp[RowKit.intOf];omega
   ·obtain rfl:j=f.toks.length:=by omega
    have d3:decide ((f.toks.length:Int)<f.toks.length)=false:=by simp
    rw[List.take_of_length_le (by rw[shL_len];exact Nat.le_refl _)] at hR
    clear hT hZ hnm
    go_wp2_with fail
    exact bodyPost_ret (by simp[results,Tryz.results6,go_sem]) rfl ⟨_,rfl,hR.out.low HB.out.size,HB.out.trans (hB.out.mono HB.out.size)⟩
 ·rw[if_neg hz]
  rw[errZ_some hz] at cC ⊢
  replace HB:=Hid.mk HB
  clear hF tl fo hlm hnm hz HS hY
  go_enter Tryz.func6,Tryz.ntmps6
  go_wp2_with (go_at_call 4;refine cC.mono ?_;clear cC;rintro _ w1 ⟨rfl,b1⟩;replace b1:=Hid.mk b1)
  exact bodyPost_ret (by simp[results,Tryz.results6,go_sem]) rfl ⟨_,rfl,SRow.nil _ _,HB.out.trans (b1.out.mono HB.out.size)⟩
def fndZ (l:List Tk) (s:ByteArray):List Nat->Int
 | []=>-1
 | k::r=>if (l[k]?).map (·.name)=some s then (k:Int) else fndZ l s r
theorem fnd_drop {l:List Tk} {s:ByteArray} {ks:List Nat} {m k:Nat} {t:Tk} (hk:ks[m]?=some k) (ht:l[k]?=some t):fndZ l s (ks.drop m)=if t.name=s then (k:Int) else fndZ l s (ks.drop (m+1)):=by
 have hm:=(List.getElem?_eq_some_iff.1 hk)
 obtain⟨h1,h2⟩:=hm
 rw[<- List.getElem_cons_drop h1,h2,fndZ,ht]
 simp
theorem parts_tok {f:Fm} {i:Int} {ks:List Nat} (h:PartsOf f i ks):∀ k∈ks,k<f.toks.length:=by
 rcases h with ⟨b,n,t,h1,h2,h3,h4,h5⟩|⟨h1,rfl⟩
 ·intro k hk
  have:=(h4 k hk).2
  have:=h1.nl
  omega
 ·intro k hk
  cases hk
theorem Find_any (f:Fm) (i:Int) (s:ByteArray) (ks:List Nat) (pp:Option Addr) (cp:Nat) (w:World) (tl:TkL w pp w.heap.size f.toks) (kt:KT w) (mt:MT w) (hlm:f.toks.length*192<=140737488351232) (h:PartsOf f i ks) :
  Calls Tryz.prog 10 #[fmV f pp cp,.int .i64 i,.string s] w fun e w'=>e = .returned (.int .i64 (fndZ f.toks s ks))/\Below w.heap.size w w':=by
 have hF:=fm_new w f pp cp
 have HB:Below w.heap.size w (w.alloc (fmO f pp cp)):=nbel _ _
 have HS:(w.alloc (fmO f pp cp)).heap.size=w.heap.size+1:=World.size_alloc _ _
 generalize hW:w.alloc (fmO f pp cp)=W at hF HB HS
 simp only[fmO] at hW
 have F0:=hF.c0
 have F1:=hF.c1
 have F2:=hF.c2
 have F3:=hF.c3
 have F4:=hF.c4
 have F5:=hF.c5
 have F6:=hF.c6
 have F7:=hF.c7
 have F8:=hF.c8
 have F9:=hF.c9
 have F10:=hF.c10
 have F11:=hF.c11
 have F12:=hF.c12
 simp only[Nat.zero_add] at F1 F2 F3 F4 F5 F6 F7 F8 F9 F10 F11 F12
 have hY:Hid (∀ W',Below W.heap.size W W'->W'.cell? ⟨w.heap.size,12,none⟩=some (.slice pp f.toks.length cp)/\TkL W' pp w.heap.size f.toks):=⟨fun W' hb=>⟨by simpa using(hF.below (by omega) hb).c12,(tl.below HB).below (hb.mono (by omega))⟩⟩
 have cP:=parts_any f i ks pp cp W ((tl.below HB).mono (by omega)) (kt.up HB) (mt.below mt.pos HB) h
 have hkl:Hid _:=⟨parts_tok h⟩
 have hlk:=parts_len h
 have hll:f.toks.length<=733007751850:=by omega
 replace HB:=Hid.mk HB
 clear hF tl kt mt h HS hlm
 obtain⟨Z,hZ⟩:∃ Z,fndZ f.toks s ks=Z:=⟨_,rfl⟩
 rw[hZ]
 replace hZ:=Hid.mk hZ
 go_enter Tryz.func10,Tryz.ntmps10
 go_wp2_with (go_at_call 22;refine cP.mono ?_;clear cP;rintro _ w1 ⟨v,rfl,r1,b1⟩;obtain⟨pv,cv,rfl,hcv⟩:=r1.shape;obtain⟨y12,hTl⟩:=hY.out w1 b1;replace b1:=Hid.mk b1;replace hcv:=Hid.mk hcv;replace hTl:=Hid.mk hTl;clear r1 hY)
 clear hW F0 F1 F2 F3 F4 F5 F6 F7 F8 F9 F10 F11 F12
 go_loopw [13] (fun q wr=>∃ m:Nat,m<=ks.length/\q = .int .i64 (m:Int)/\w1=wr/\Hid (fndZ f.toks s (ks.drop m)=Z)) (fun q _=>ks.length-(RowKit.intOf q).toNat)
 case atStart=>exact⟨0,Nat.zero_le _,by go_num,rfl,hZ⟩
 case round =>
  clear hZ
  obtain⟨m,hm,rfl,rfl,hI⟩:=hrel
  by_cases hlt:m<ks.length
  ·obtain⟨k,hk⟩:∃ k,ks[m]?=some k:=⟨ks[m],List.getElem?_eq_getElem hlt⟩
   have hkf:=hkl.out k (List.mem_of_getElem? hk)
   obtain⟨t,ht⟩:∃ t,f.toks[k]?=some t:=⟨f.toks[k],List.getElem?_eq_getElem hkf⟩
   obtain⟨gv,rfl,hgv,kc⟩:=hcv.out m k hk
   obtain⟨gf,ofs,pc,cc,rfl,hgf,hTk,-,-,htok⟩:=hTl.out.at ht
   have tn:=hTk.c1
   have hD:=fnd_drop (s:=s) hk ht
   rw[hI.out] at hD
   have hmi:(m:Int)<ks.length:=by omega
   have hki:(k:Int)<f.toks.length:=by omega
   have hmb:(m:Int)<=733007751850:=by omega
   have hB:Hid (Below w.heap.size w w1):=⟨HB.out.trans (b1.out.mono HB.out.size)⟩
   by_cases hn:t.name=s
   ·rw[if_pos hn] at hD
    have e1:(t.name.toList==s.toList)=true:=by rw[hn];simp
    clear hn hTk hk ht htok hI hcv
    subst hD
    go_wp2_with fail
    go_ret
    exact⟨rfl,hB.out⟩
   ·rw[if_neg hn] at hD
    have e1:=beq_ba hn
    replace hD:Hid _:=⟨hD.symm⟩
    replace hlt:=Hid.mk hlt
    clear hn hTk hk ht htok hI hcv
    go_wp2_with fail
    go_roundw
    case rel=>exact⟨m+1,by have:=hlt.out;omega,by go_num,by first|trivial|rfl,hD⟩
    case measure=>have:=hlt.out;simp[RowKit.intOf];omega
  ·obtain rfl:m=ks.length:=by omega
   have d3:decide ((ks.length:Int)<ks.length)=false:=by simp
   have hD:=hI.out
   rw[List.drop_length] at hD
   subst hD
   clear hcv hTl hI
   go_wp2_with fail
   go_ret
   exact⟨rfl,HB.out.trans (b1.out.mono HB.out.size)⟩
theorem refFind_any (f:Fm) (i:Int) (s:ByteArray) (ks:List Nat) (pp:Option Addr) (cp:Nat) (w:World) (tl:TkL w pp w.heap.size f.toks) (fo:FmOk f) (hlm:f.toks.length*192<=140737488351232) (h:PartsOf f i ks) :
  Calls Tryz.prog 5 #[fmV f pp cp,.int .i64 i,.string s] w fun e w'=>e = .returned (.int .i64 (fndZ f.toks s ks))/\Below w.heap.size w w':=by
 have hF:=fm_new w f pp cp
 have HB:Below w.heap.size w (w.alloc (fmO f pp cp)):=nbel _ _
 have HS:(w.alloc (fmO f pp cp)).heap.size=w.heap.size+1:=World.size_alloc _ _
 generalize hW:w.alloc (fmO f pp cp)=W at hF HB HS
 simp only[fmO] at hW
 have F0:=hF.c0
 have F1:=hF.c1
 have F2:=hF.c2
 have F3:=hF.c3
 have F4:=hF.c4
 have F5:=hF.c5
 have F6:=hF.c6
 have F7:=hF.c7
 have F8:=hF.c8
 have F9:=hF.c9
 have F10:=hF.c10
 have F11:=hF.c11
 have F12:=hF.c12
 simp only[Nat.zero_add] at F1 F2 F3 F4 F5 F6 F7 F8 F9 F10 F11 F12
 have hY:Hid (∀ W',Below W.heap.size W W'->W'.cell? ⟨w.heap.size,12,none⟩=some (.slice pp f.toks.length cp)/\TkL W' pp w.heap.size f.toks):=⟨fun W' hb=>⟨by simpa using(hF.below (by omega) hb).c12,(tl.below HB).below (hb.mono (by omega))⟩⟩
 have cP:=refParts_any f i ks pp cp W fo ((tl.below HB).mono (by omega)) h
 have hkl:Hid _:=⟨parts_tok h⟩
 have hlk:=parts_len h
 have hll:f.toks.length<=733007751850:=by omega
 replace HB:=Hid.mk HB
 clear hF tl fo h HS hlm
 obtain⟨Z,hZ⟩:∃ Z,fndZ f.toks s ks=Z:=⟨_,rfl⟩
 rw[hZ]
 replace hZ:=Hid.mk hZ
 go_enter Tryz.func5,Tryz.ntmps5
 go_wp2_with (go_at_call 18;refine cP.mono ?_;clear cP;rintro _ w1 ⟨v,rfl,r1,b1⟩;obtain⟨pv,cv,rfl,hcv⟩:=r1.shape;have hY1:Hid (∀ V,Below w1.heap.size w1 V->V.cell? ⟨w.heap.size,12,none⟩=some (.slice pp f.toks.length cp)/\TkL V pp w.heap.size f.toks):=⟨fun V h=>hY.out V (b1.trans (h.mono b1.size))⟩;replace b1:=Hid.mk b1;replace hcv:=Hid.mk hcv;clear r1 hY)
 clear hW F0 F1 F2 F3 F4 F5 F6 F7 F8 F9 F10 F11 F12
 go_loopw [8] (fun q wr=>∃ m:Nat,m<=ks.length/\q = .int .i64 (m:Int)/\Hid (fndZ f.toks s (ks.drop m)=Z/\Below w1.heap.size w1 wr)) (fun q _=>ks.length-(RowKit.intOf q).toNat)
 case atStart=>exact⟨0,Nat.zero_le _,by go_num,⟨hZ.out,Below.refl _ _⟩⟩
 case round =>
  clear hZ
  obtain⟨m,hm,rfl,hI⟩:=hrel
  have hBr:Hid (Below w.heap.size w wr):=⟨HB.out.trans ((b1.out.trans (hI.out.2.mono b1.out.size)).mono HB.out.size)⟩
  by_cases hlt:m<ks.length
  ·obtain⟨k,hk⟩:∃ k,ks[m]?=some k:=⟨ks[m],List.getElem?_eq_getElem hlt⟩
   have hkf:=hkl.out k (List.mem_of_getElem? hk)
   obtain⟨t,ht⟩:∃ t,f.toks[k]?=some t:=⟨f.toks[k],List.getElem?_eq_getElem hkf⟩
   obtain⟨gv,rfl,hgv,kc⟩:=hcv.out m k hk
   have hTr:=(hY1.out wr hI.out.2).2
   obtain⟨gf,ofs,pc,cc,rfl,hgf,hTk,-,-,htok⟩:=hTr.at ht
   have hD:=fnd_drop (s:=s) hk ht
   rw[hI.out.1] at hD
   have hmi:(m:Int)<ks.length:=by omega
   have hki:(k:Int)<f.toks.length:=by omega
   have hmb:(m:Int)<=733007751850:=by omega
   have hI2:=hI.out.2
   obtain⟨p,p0,pN,pE,x12,xk,xn⟩:∃ p:World->Prop,p wr.drew/\Nonempty (CW p)/\(∀ V,p V->Hid (Below w1.heap.size w1 V/\Below w.heap.size w V))/\(∀ θ:CW p,θ.w.cell? ⟨w.heap.size,12,none⟩=some (.slice (some ⟨gf,ofs,none⟩) f.toks.length cp))/\(∀ θ:CW p,θ.w.cell? ⟨gv,m,none⟩=some (.int .i64 (k:Int)))/\(∀ θ:CW p,θ.w.cell? ⟨gf,ofs+k*21+1,none⟩=some (.string t.name)) :=
    ⟨fun V=>Below wr.heap.size wr V,(Below.refl _ _).drew,⟨⟨wr,Below.refl _ _⟩⟩,fun V h=>⟨hI2.trans (h.mono hI2.size),hBr.out.trans (h.mono hBr.out.size)⟩,fun θ=>(hY1.out θ.w (hI2.trans (θ.h.mono hI2.size))).1,fun θ=>(((θ.h.cell (p:=⟨gv,m,none⟩) (by have:=hI2.size;show gv<_;omega)).trans (hI2.cell (p:=⟨gv,m,none⟩) hgv))).trans kc,fun θ=>(hTk.below (by have:=hBr.out.size;omega) θ.h).c1⟩
   have hZc:fndZ f.toks s (ks.drop m)=Z:=hI.out.1
   replace hlt:=Hid.mk hlt
   by_cases hn:t.name=s
   ·rw[if_pos hn] at hD
    have e1:(t.name.toList==s.toList)=true:=by rw[hn];simp
    clear hn hTk hk ht htok hI hcv hI2 hTr hY1 hZc
    subst hD
    go_wp2_with fail
    refine wp_region_lx p (by kernel_rfl) (by kernel_rfl) (fun _ _ d _ _ h=>by cases d<;>exact h) p0 ?_
    have hp:=p0
    generalize wr.drew=W2 at hp ⊢
    have kc2:W2.cell? ⟨gv,m,none⟩=some (.int .i64 (k:Int)):=xk ⟨W2,hp⟩
    repeat (refine lx_one rfl ?_;(first|go_big_quiet_skip|(go_big_quiet_want;go_big_quiet_op;go_big_quiet_on));refine wpQuiet_nil ?_)
    refine lx_done ?_
    have hF:=pE _ hp
    clear x12 xk xn pE pN p0 hp
    go_wp2_with fail
    go_ret
    exact⟨rfl,hF.out.2⟩
   ·rw[if_neg hn] at hD
    have e1:=beq_ba hn
    have hD2:Hid _:=⟨hD.symm⟩
    clear hn hTk hk ht htok hI hcv hI2 hTr hY1 hZc hD
    go_wp2_with fail
    refine wp_region_lx p (by kernel_rfl) (by kernel_rfl) (fun _ _ d _ _ h=>by cases d<;>exact h) p0 ?_
    have hp:=p0
    generalize wr.drew=W2 at hp ⊢
    repeat (refine lx_one rfl ?_;(first|go_big_quiet_skip|(go_big_quiet_want;go_big_quiet_op;go_big_quiet_on));refine wpQuiet_nil ?_)
    refine lx_done ?_
    have hF:=pE _ hp
    clear x12 xk xn pE pN p0 hp
    go_wp2_with fail
    go_roundw
    case rel=>exact⟨m+1,by have:=hlt.out;omega,by go_num,⟨hD2.out,hF.out.1⟩⟩
    case measure=>have:=hlt.out;simp[RowKit.intOf];omega
  ·obtain rfl:m=ks.length:=by omega
   have d3:decide ((ks.length:Int)<ks.length)=false:=by simp
   have hD:=hI.out.1
   rw[List.drop_length] at hD
   subst hD
   clear hcv hY1 hI
   go_wp2_with fail
   go_ret
   exact⟨rfl,hBr.out⟩
open J
theorem numL (n:Int) (w:World):Calls Tryz.prog 9 #[.int .i64 n] w fun e w'=>e = .returned (.int .i64 n)/\w'=w:=by
 go_enter Tryz.func9,Tryz.ntmps9
 go_wp2_with fail
 go_ret
 exact⟨rfl,rfl⟩
structure Ic (w:World) (f:Fm) (pp:Option Addr) (cp:Nat) (vl:Value) (g cap:Nat) (ps:List TkP) (y:Nat) (V:World):Prop where
 b:Below w.heap.size w V
 fb:V.heap[w.heap.size]?=some (fmO f pp cp)
 yb:V.heap[y]?=some (fmO f (some ⟨g,0,none⟩) cap)
 c:∃ base,CopS spS V base g cap ps
 rl:∃ base,SRow V base vl (shZ f)
theorem Ic.below {w:World} {f:Fm} {pp:Option Addr} {cp:Nat} {vl:Value} {g cap:Nat} {ps:List TkP} {y:Nat} {V V':World} (h:Ic w f pp cp vl g cap ps y V) (hb:Below V.heap.size V V'):Ic w f pp cp vl g cap ps y V':=by
 obtain⟨b1,c⟩:=h.c
 obtain⟨b2,r⟩:=h.rl
 exact⟨h.b.trans (hb.mono h.b.size),(hb.block _ (Array.getElem?_eq_some_iff.1 h.fb).1).trans h.fb,(hb.block _ (Array.getElem?_eq_some_iff.1 h.yb).1).trans h.yb,⟨b1,c.below hb⟩,⟨b2,r.below hb⟩⟩
theorem Ic.ldF {w:World} {f:Fm} {pp:Option Addr} {cp:Nat} {vl:Value} {g cap:Nat} {ps:List TkP} {y:Nat} {V:World} (h:Ic w f pp cp vl g cap ps y V):(Instr.loadAt 30 (.pointer (some ⟨w.heap.size,0,none⟩))).run Tryz.prog V = .ok (fmV f pp cp) V:=(fm_of h.fb).load
theorem Ic.ldO {w:World} {f:Fm} {pp:Option Addr} {cp:Nat} {vl:Value} {g cap:Nat} {ps:List TkP} {y:Nat} {V:World} (h:Ic w f pp cp vl g cap ps y V):(Instr.loadAt 30 (.pointer (some ⟨y,0,none⟩))).run Tryz.prog V = .ok (fmV f (some ⟨g,0,none⟩) cap) V:=(fm_of h.yb).load
structure IcH (w:World) (f:Fm) (pp:Option Addr):Prop where
 fo:FmOk f
 tl:TkL w pp w.heap.size f.toks
 kt:KT w
 mt:MT w
 tb:ShTb w
 hlm:f.toks.length*192<=140737488351232
 hcm:∀ t∈f.toks,t.cst.length*8<=140737488351232
 hnm:∀ t∈f.toks,t.name.size<=140737488351232
theorem IcH.at' {w V:World} {f:Fm} {pp:Option Addr} (h:IcH w f pp) (hb:Below w.heap.size w V):IcH V f pp :=
 ⟨h.fo,(h.tl.below hb).mono hb.size,h.kt.up hb,h.mt.below h.mt.pos hb,h.tb.below hb,h.hlm,h.hcm,h.hnm⟩
theorem Ic.own {w:World} {f:Fm} {pp:Option Addr} {cp:Nat} {vl:Value} {g cap:Nat} {ps:List TkP} {y:Nat} {V:World} (h:Ic w f pp cp vl g cap ps y V) (hh:IcH w f pp) (hps:ps.map TkP.t=f.toks):IcH V f (some ⟨g,0,none⟩):=by
 obtain⟨b1,c⟩:=h.c
 have h1:=hh.at' h.b
 exact⟨h1.fo,⟨hps▸c.trow,h1.tl.len,h1.tl.ok⟩,h1.kt,h1.mt,h1.tb,h1.hlm,h1.hcm,h1.hnm⟩
theorem IrChecks_any (f:Fm) (i:Int) (s:ByteArray) (pp:Option Addr) (cp:Nat) (w:World) (hh:IcH w f pp) :
  Calls Tryz.prog 3 #[fmV f pp cp,.int .i64 i,.string s] w fun e w'=>e = .returned (.bool true)/\Below w.heap.size w w':=by
 obtain⟨ks,hks⟩:=parts_ex f i
 have hF:=fm_new w f pp cp
 have HB:Below w.heap.size w (w.alloc (fmO f pp cp)):=nbel _ _
 have HS:(w.alloc (fmO f pp cp)).heap.size=w.heap.size+1:=World.size_alloc _ _
 have HX:(w.alloc (fmO f pp cp)).heap[w.heap.size]?=some (fmO f pp cp):=heap_al _ _
 generalize hW:w.alloc (fmO f pp cp)=W at hF HB HS HX
 simp only[fmO] at hW
 have LF:Hid (∀ V,Below W.heap.size W V->(Instr.loadAt 30 (.pointer (some ⟨w.heap.size,0,none⟩))).run Tryz.prog V = .ok (fmV f pp cp) V):=⟨fun V h=>(fm_of ((h.block _ (by omega)).trans HX)).load⟩
 have H1:=hh.at' HB
 have c1:=refCheck_any f pp cp W H1.fo H1.tl
 have lf:=LF.out W (Below.refl _ _)
 have K:Hid _:=⟨hh⟩
 have KP:Hid _:=⟨hks⟩
 replace HB:=Hid.mk HB
 have HX':Hid (∀ V,Below W.heap.size W V->V.heap[w.heap.size]?=some (fmO f pp cp)):=⟨fun V h=>(h.block _ (by omega)).trans HX⟩
 obtain⟨Z,hZ⟩:∃ Z,fndZ f.toks s ks=Z:=⟨_,rfl⟩
 replace hZ:=Hid.mk hZ
 generalize hE:errZ (chkZ f)=E at c1
 generalize hA:atZ (chkZ f)=A at c1
 replace hE:=Hid.mk hE
 replace hA:=Hid.mk hA
 clear hF HS HX H1 hh hks
 go_enter Tryz.func3,Tryz.ntmps3
 go_upto_region 11 with (first
  | (guard_target =~ wpList _ _ _ (Oper.mk _ (Op.load 30 _) _ _ _ _::_) _ _;go_must (first|refine wpList_ld 30 (.tmp 3) rfl rfl _ _ rfl lf ?_|refine wpList_ld 30 (.tmp 12) rfl rfl _ _ rfl lo ?_);simp only[pts])
  | (go_at_call 4;refine c1.mono ?_;clear c1;rintro _ w1 ⟨rfl,b1⟩;clear lf;have lf:=LF.out w1 b1;have h1:=K.out.at' (HB.out.trans (b1.mono HB.out.size));have c2:=refFind_any f i s ks pp cp w1 h1.tl h1.fo h1.hlm KP.out;rw[hZ.out] at c2;replace b1:=Hid.mk b1;clear h1)
  | (go_at_call 5;refine c2.mono ?_;clear c2;rintro _ w2 ⟨rfl,b2⟩;have B2:Hid _:=⟨b1.out.trans (b2.mono b1.out.size)⟩;clear lf;have lf:=LF.out w2 B2.out;have h2:=K.out.at' (HB.out.trans (B2.out.mono HB.out.size));have c3:=refShow_any f pp cp w2 h2.fo h2.tl h2.hlm h2.hnm;rw[hE.out] at c3;clear b2 h2)
  | (go_at_call 6;refine c3.mono ?_;clear c3;rintro _ w3 ⟨vl,rfl,r3,b3⟩;obtain⟨pl,cl,rfl,hcl,-⟩:=r3.shape;replace r3:=Hid.mk r3;have B3:Hid _:=⟨B2.out.trans (b3.mono B2.out.size)⟩;clear lf;have lf:=LF.out w3 B3.out;have h3:=K.out.at' (HB.out.trans (B3.out.mono HB.out.size));have c4:=copied12 f pp cp w3 h3.tl h3.hlm h3.hcm;clear b3 h3)
  | (go_at_call 7;refine c4.mono ?_;clear c4;rintro _ w4 ⟨g,cap,ps,rfl,hps,hC,b4⟩;have sY:Hid _:=⟨fun z hz=>st_newF w4 z hz f (some ⟨g,0,none⟩) cap⟩;have hI:Hid (Ic w f pp cp (.slice pl (shZ f).length cl) g cap ps w4.heap.size (w4.alloc (fmO f (some ⟨g,0,none⟩) cap))):=⟨by
    have B4:Below W.heap.size W w4:=B3.out.trans (b4.mono B3.out.size)
    have n4:=nbel w4 (fmO f (some ⟨g,0,none⟩) cap)
    have B5:Below W.heap.size W (w4.alloc (fmO f (some ⟨g,0,none⟩) cap)):=B4.trans (n4.mono B4.size)
    exact⟨HB.out.trans (B5.mono HB.out.size),HX'.out _ B5,heap_al _ _,⟨_,hC.below n4⟩,⟨_,(r3.out.below b4).below n4⟩⟩⟩;clear lf LF HX' B3 r3 hC b4)
  | (guard_target =~ wpList _ _ _ (Oper.mk _ (Op.store 30 _ _) _ _ _ _::_) _ _;go_must (refine wpList_st 30 _ _ rfl rfl _ _ rfl rfl (sY.out _ rfl) ?_);simp only[pts];clear sY;generalize w4.heap.size=y at hI ⊢;generalize w4.alloc (fmO f (some ⟨g,0,none⟩) cap)=w5 at hI ⊢;have lo:=hI.out.ldO;have h5:=hI.out.own K.out hps;have c5:=Check_any f (some ⟨g,0,none⟩) cap w5 h5.tl h5.kt h5.mt;rw[hE.out,hA.out] at c5;clear h5)
  | (go_at_call 8;refine c5.mono ?_;clear c5 lo;rintro _ w6 ⟨rfl,b6⟩;have hI6:Hid _:=⟨hI.out.below b6⟩;clear hI b6;have lo:=hI6.out.ldO;have h6:=hI6.out.own K.out hps;have c7:=Find_any f i s ks (some ⟨g,0,none⟩) cap w6 h6.tl h6.kt h6.mt h6.hlm KP.out;rw[hZ.out] at c7;clear h6)
  | (go_at_call 9;refine(numL _ _).mono ?_;rintro _ wq ⟨rfl,e⟩;replace e:=e.symm;subst e)
  | (go_at_call 10;refine c7.mono ?_;clear c7 lo;rintro _ w7 ⟨rfl,b7⟩;have hI7:Hid _:=⟨hI6.out.below b7⟩;clear hI6 b7;have lo:=hI7.out.ldO;have h7:=hI7.out.own K.out hps;have c8:=Show_any f (some ⟨g,0,none⟩) cap w7 h7.tl h7.kt h7.mt h7.tb h7.hlm h7.hnm;rw[hE.out] at c8;clear h7)
  | (go_at_call 11;refine c8.mono ?_;clear c8 lo;rintro _ w8 ⟨vm,rfl,r8,b8⟩;obtain⟨pm,cm,rfl,hcm,-⟩:=r8.shape;have hI8:Hid _:=⟨hI7.out.below b8⟩;clear hI7 b8;replace r8:=Hid.mk r8;have lo:=hI8.out.ldO;have lf:=hI8.out.ldF;have h8:=K.out.at' hI8.out.b;obtain⟨b9,hC9⟩:=hI8.out.c;have c9:=untouched12 f g cap ps b9 pp cp w8 hC9 hps h8.tl;clear h8 hC9)
  | (go_at_call 12;refine c9.mono ?_;clear c9 lo lf;rintro _ w9 ⟨rfl,q9⟩;have hI9:Hid _:=⟨hI8.out.below q9⟩;have r9:Hid _:=⟨r8.out.below q9⟩;clear hI8 r8 q9))
 have hll:(shZ f).length<=733007751850:=by
  unfold shZ
  split
  ·rw[shL_len];have:=K.out.hlm;omega
  ·exact Nat.zero_le _
 have hB9:Hid (Below w.heap.size w w9):=⟨hI9.out.b⟩
 obtain⟨bl,rl⟩:=hI9.out.rl
 obtain⟨pl',cl',e1,-,sl⟩:=rl.shape
 obtain⟨pm',cm',e2,-,sm⟩:=r9.out.shape
 cases e1
 cases e2
 replace sl:=Hid.mk sl
 replace sm:=Hid.mk sm
 clear rl hI9 r9 K KP hZ hE hA hps hW HB B2 b1 hcl hcm
 generalize shZ f=LL at *
 go_wp2_with fail
 go_loopw [17] (fun q wr=>∃ m:Nat,m<=LL.length/\q = .int .i64 (m:Int)/\Hid (Below w9.heap.size w9 wr)) (fun q _=>LL.length-(RowKit.intOf q).toNat)
 case atStart=>exact⟨0,Nat.zero_le _,by go_num,⟨Below.refl _ _⟩⟩
 case round =>
  obtain⟨m,hm,rfl,hI⟩:=hrel
  by_cases hlt:m<LL.length
  ·obtain⟨x,hx⟩:∃ x,LL[m]?=some x:=⟨LL[m],List.getElem?_eq_getElem hlt⟩
   obtain⟨g1,rfl,-,hg1,x1⟩:=sl.out m x hx
   obtain⟨g2,rfl,-,hg2,x2⟩:=sm.out m x hx
   have hI2:=hI.out
   obtain⟨p,p0,pN,pE,k1,k2⟩:∃ p:World->Prop,p wr.drew/\Nonempty (CW p)/\(∀ V,p V->Hid (Below w9.heap.size w9 V))/\(∀ θ:CW p,θ.w.cell? ⟨g1,m,none⟩=some (.string x))/\(∀ θ:CW p,θ.w.cell? ⟨g2,m,none⟩=some (.string x)) :=
    ⟨fun V=>Below w9.heap.size w9 V,hI2.drew,⟨⟨wr,hI2⟩⟩,fun V h=>⟨h⟩,fun θ=>(θ.h.cell (p:=⟨g1,m,none⟩) hg1).trans x1,fun θ=>(θ.h.cell (p:=⟨g2,m,none⟩) hg2).trans x2⟩
   have hmi:(m:Int)<LL.length:=by omega
   have hmb:(m:Int)<=733007751850:=by omega
   replace hlt:=Hid.mk hlt
   clear sl sm hx x1 x2 hI hI2 hg1 hg2
   go_wp2_with fail
   refine wp_region_lx p (by kernel_rfl) (by kernel_rfl) (fun _ _ d _ _ h=>by cases d<;>exact h) p0 ?_
   have hp:=p0
   generalize wr.drew=W2 at hp ⊢
   repeat (refine lx_one rfl ?_;(first|go_big_quiet_skip|(go_big_quiet_want;go_big_quiet_op;go_big_quiet_on));refine wpQuiet_nil ?_)
   refine lx_done ?_
   have hF:=pE _ hp
   clear k1 k2 pE pN p0 hp
   go_wp2_with fail
   go_roundw
   case rel=>exact⟨m+1,by have:=hlt.out;omega,by go_num,hF⟩
   case measure=>have:=hlt.out;simp[RowKit.intOf];omega
  ·obtain rfl:m=LL.length:=by omega
   have d3:decide ((LL.length:Int)<LL.length)=false:=by simp
   clear sl sm
   go_wp2_with fail
   go_ret
   exact⟨rfl,hB9.out.trans (hI.out.mono hB9.out.size)⟩
end Go.Proofs.YtjnafpefolgcoaaGreatDoor
