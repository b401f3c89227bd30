import Derived.Test.YtkcjdncchoohoaaGreatDoorK33
import Derived.Test.YtkcjdncchoohoaaGreatDoorK46
import Derived.Test.YtkcjdncchoohoaaGreatDoorRows
import Derived.Deep.DeepHandedRow
import Derived.Lib.LaidTab
import Derived.LaidMore
namespace Go.Proofs.YtkcjdncchoohoaaGreatDoor
set_option maxRecDepth 1000000
set_option maxHeartbeats 16000000
open Go.ChangeShapes Go.WideShapes Go.ChangeAt Go.RowKit Go.Shelf Go.Maps
theorem fstB_ok {l:List Tk} (hl:∀ t∈l,TkOk t) (C:List Nat) (v:Int):∀ (ks:List Nat) (x:Int),fstB l C v ks=some x->i64ok x
 | [],_,h=>by cases h
 | k::r,x,h=>by
  rw[fstB] at h
  split at h
  ·cases h
   unfold offAt
   cases ht:l[k]? with
   | none=>exact⟨by decide,by decide⟩
   | some t=>exact(hl t (List.mem_of_getElem? ht)).off
  ·exact fstB_ok hl C v r x h
theorem trnT_ok {l:List Tk} (hl:∀ t∈l,TkOk t) (C:List Nat) (v:Int) (i:Nat) {t:Tk} (ht:TkOk t) (hc:C.length<=1000000000000):TkOk (trnT l C v i t):=by
 have hp:i64ok ((rnk C v t.pair.toNat:Nat):Int):=by
  have:rnk C v t.pair.toNat<=C.length:=by
   unfold rnk
   exact Nat.le_trans List.countP_le_length (by rw[List.length_take];omega)
  unfold i64ok
  omega
 have hb:i64ok (if t.op=0\/t.op=4 then blkZ l C v i t else t.blk):=by
  split
  ·unfold blkZ
   cases hf:fstB l C v (kidsZ l i) with
   | none=>exact ht.blk
   | some x=>exact fstB_ok hl C v _ x hf
  ·exact ht.blk
 exact { ht with pair:=hp,blk:=hb }
theorem kepF_ok {l:List Tk} (hl:∀ t∈l,TkOk t) (C:List Nat) (v:Int) (hc:C.length<=1000000000000):∀ n,∀ t∈kepF l C v n,TkOk t
 | 0,t,h=>by cases h
 | n+1,t,h=>by
  rw[kepF] at h
  rcases List.mem_append.1 h with h|h
  ·exact kepF_ok hl C v hc n t h
  ·cases ht:l[n]? with
   | none=>rw[ht] at h;cases h
   | some u =>
    rw[ht] at h
    simp only at h
    split at h
    ·obtain rfl:=List.mem_singleton.1 h
     exact trnT_ok hl C v n (hl u (List.mem_of_getElem? ht)) hc
    ·cases h
theorem atG_ok {f:Fm} (hl:∀ t∈f.toks,TkOk t) (hlm:f.toks.length*192<=140737488351232) (v:Int):(∀ t∈(atG f v).toks,TkOk t)/\(atG f v).toks.length*192<=140737488355328:=by
 unfold atG
 split
 ·refine⟨kepF_ok hl _ v (by rw[camZ_length];omega) _,?_⟩
  have h1:=kepF_length f.toks (camZ f) v f.toks.length (Nat.le_refl _) (by rw[camZ_length];exact Nat.le_refl _)
  have h2:=rnk_le (camZ f) v f.toks.length
  show (kepF f.toks (camZ f) v f.toks.length).length*192<=_
  omega
 ·exact⟨fun t h=>(by cases h),by decide⟩
theorem dAt_any {w:World} {f:Fm} {pp:Option Addr} {cp:Nat} (hC:DCk w f pp cp) (tl:TkL w pp w.heap.size f.toks) (hlm:f.toks.length*192<=140737488351232) (v:Int) :
  Calls Tryz.prog 7 #[fmV f pp cp,.int .i64 v] w fun e w'=>∃ pp' cp' ks,e = .returned (.tuple #[fmV (atG f v) pp' cp',.int .i64 (atE f v)])/\ks.map Ktp.t=(atG f v).toks/\KtR w' w.heap.size (.slice pp' ks.length cp') ks/\Below w.heap.size w w':=by
 by_cases he:atE f v=0
 ·have hG:atG f v=atF f v:=by unfold atG;rw[if_pos he]
  rw[hG,he]
  exact dAt_yes hC tl hlm v he
 ·have hG:atG f v=zFm:=by unfold atG;rw[if_neg he]
  rw[hG]
  exact(dAt_no hC tl v he).mono fun e w' ⟨h1,h2⟩=>⟨none,0,[],h1,rfl,KtR.nil _ _,h2⟩
structure Pq (f:Fm) (pp:Option Addr) (cp:Nat) (g cap base:Nat) (ps:List J.TkP) (w:World) (m:Nat) (W:World):Prop where
 fb:W.heap[w.heap.size]?=some (fmO f pp cp)
 mb:W.heap[m]?=some (fmO f (some ⟨g,0,none⟩) cap)
 co:J.Cop W base g cap ps
 tl:TkL W pp W.heap.size f.toks
 bl:Below w.heap.size w W
theorem Pq.below {f:Fm} {pp:Option Addr} {cp g cap base:Nat} {ps:List J.TkP} {w:World} {m:Nat} {W W':World} (h:Pq f pp cp g cap base ps w m W) (hb:Below W.heap.size W W'):Pq f pp cp g cap base ps w m W' :=
 ⟨(hb.block _ (Array.getElem?_eq_some_iff.1 h.fb).1).trans h.fb,(hb.block _ (Array.getElem?_eq_some_iff.1 h.mb).1).trans h.mb,h.co.below hb,(h.tl.below hb).mono hb.size,h.bl.trans (hb.mono h.bl.size)⟩
theorem Pq.tm {f:Fm} {pp:Option Addr} {cp g cap base:Nat} {ps:List J.TkP} {w:World} {m:Nat} {W:World} (h:Pq f pp cp g cap base ps w m W) (hp:ps.map J.TkP.t=f.toks):TkL W (some ⟨g,0,none⟩) W.heap.size f.toks:=⟨hp▸h.co.trow,h.tl.len,h.tl.ok⟩
structure PqC (f:Fm) (w:World) (ps:List J.TkP):Prop where
 fo:FmOk f
 kt:KT w
 mt:MT w
 lm:f.toks.length*192<=140737488351232
 hp:ps.map J.TkP.t=f.toks
section
variable {f:Fm} {pp:Option Addr} {cp g cap base:Nat} {ps:List J.TkP} {w:World} {m:Nat} {W:World}
theorem Pq.pck (h:Pq f pp cp g cap base ps w m W) (c:PqC f w ps):PCk W f (some ⟨g,0,none⟩) cap:=pCk_of _ _ _ _ (h.tm c.hp) (c.kt.up h.bl) (c.mt.below c.mt.pos h.bl)
theorem Pq.dck (h:Pq f pp cp g cap base ps w m W) (c:PqC f w ps):DCk W f pp cp:=fun W' hW=>refCheck_any f pp cp W' c.fo ((h.tl.below hW).mono hW.size)
theorem Pq.ldF (h:Pq f pp cp g cap base ps w m W):(Instr.loadAt 30 (.pointer (some ⟨w.heap.size,0,none⟩))).run Tryz.prog W = .ok (fmV f pp cp) W:=(J.fm_of h.fb).load
theorem Pq.ldM (h:Pq f pp cp g cap base ps w m W):(Instr.loadAt 30 (.pointer (some ⟨m,0,none⟩))).run Tryz.prog W = .ok (fmV f (some ⟨g,0,none⟩) cap) W:=(J.fm_of h.mb).load
theorem Pq.livP (h:Pq f pp cp g cap base ps w m W) (c:PqC f w ps) (i v:Int):Calls Tryz.prog 10 #[fmV f (some ⟨g,0,none⟩) cap,.int .i64 i,.int .i64 v] W fun e w'=>e = .returned (.bool (livB f i v))/\Pq f pp cp g cap base ps w m w' :=
 (pLives_any (h.pck c) (h.tm c.hp) c.lm i v).mono fun _ _ ⟨h1,h2⟩=>⟨h1,h.below h2⟩
theorem Pq.livD (h:Pq f pp cp g cap base ps w m W) (c:PqC f w ps) (i v:Int):Calls Tryz.prog 11 #[fmV f pp cp,.int .i64 i,.int .i64 v] W fun e w'=>e = .returned (.bool (livB f i v))/\Pq f pp cp g cap base ps w m w' :=
 (dLives_any (h.dck c) h.tl c.lm i v).mono fun _ _ ⟨h1,h2⟩=>⟨h1,h.below h2⟩
theorem Pq.spa (h:Pq f pp cp g cap base ps w m W) (c:PqC f w ps):Calls Tryz.prog 9 #[fmV f (some ⟨g,0,none⟩) cap,fmV f pp cp] W fun e w'=>e = .returned (.bool true)/\Pq f pp cp g cap base ps w m w' :=
 (spared13 f g cap ps base pp cp W h.co c.hp h.tl).mono fun _ _ ⟨h1,h2⟩=>⟨h1,h.below h2⟩
theorem Pq.ats (h:Pq f pp cp g cap base ps w m W) (c:PqC f w ps) (v:Int):Calls Tryz.prog 6 #[fmV f (some ⟨g,0,none⟩) cap,.int .i64 v] W fun e w1=>∃ pa ca W2,e = .returned (.tuple #[fmV (atG f v) pa ca,.int .i64 (atE f v)]) /\
  (∀ z:Array Value,z.size=13->(Instr.storeAt 30 (.pointer (some ⟨w1.heap.size,0,none⟩)) (fmV (atG f v) pa ca)).run Tryz.prog (w1.alloc (.cells z 30)) = .ok () W2)/\(Instr.loadAt 30 (.pointer (some ⟨w.heap.size,0,none⟩))).run Tryz.prog W2 = .ok (fmV f pp cp) W2 /\
  Calls Tryz.prog 7 #[fmV f pp cp,.int .i64 v] W2 fun e w3=>∃ pb cb W4,e = .returned (.tuple #[fmV (atG f v) pb cb,.int .i64 (atE f v)]) /\
   (∀ z:Array Value,z.size=13->(Instr.storeAt 30 (.pointer (some ⟨w3.heap.size,0,none⟩)) (fmV (atG f v) pb cb)).run Tryz.prog (w3.alloc (.cells z 30)) = .ok () W4)/\(Instr.loadAt 30 (.pointer (some ⟨w1.heap.size,0,none⟩))).run Tryz.prog W4 = .ok (fmV (atG f v) pa ca) W4/\(Instr.loadAt 30 (.pointer (some ⟨w3.heap.size,0,none⟩))).run Tryz.prog W4 = .ok (fmV (atG f v) pb cb) W4 /\
   Calls Tryz.prog 8 #[fmV (atG f v) pa ca,fmV (atG f v) pb cb] W4 fun e w5=>e = .returned (.bool true)/\Pq f pp cp g cap base ps w m w5:=by
 obtain⟨o1,o2⟩:=atG_ok h.tl.ok c.lm v
 refine(pAt_any (h.pck c) (h.tm c.hp) c.lm v).mono fun e w1 hP=>?_
 obtain⟨pa,ca,ks,rfl,k1,k2,k3⟩:=hP
 have b2:=bel1 w1 (fmO (atG f v) pa ca)
 have h2:=heap_al w1 (fmO (atG f v) pa ca)
 have ta:TkRow (w1.alloc (fmO (atG f v) pa ca)) pa (w1.alloc (fmO (atG f v) pa ca)).heap.size (atG f v).toks:=by rw[<- k1];exact(k2.below b2).trow
 have q2:=h.below (k3.trans (b2.mono k3.size))
 refine⟨pa,ca,_,rfl,fun z hz=>J.st_newF w1 z hz (atG f v) pa ca,q2.ldF,?_⟩
 generalize w1.alloc (fmO (atG f v) pa ca)=W2 at ta q2 b2 h2
 have hl2:=(Array.getElem?_eq_some_iff.1 h2).1
 refine(dAt_any (q2.dck c) q2.tl c.lm v).mono fun e w3 hP=>?_
 obtain⟨pb,cb,ls,rfl,j1,j2,j3⟩:=hP
 have b4:=bel1 w3 (fmO (atG f v) pb cb)
 have h4:=heap_al w3 (fmO (atG f v) pb cb)
 have tb:TkRow (w3.alloc (fmO (atG f v) pb cb)) pb (w3.alloc (fmO (atG f v) pb cb)).heap.size (atG f v).toks:=by rw[<- j1];exact(j2.below b4).trow
 have hb4:=j3.trans (b4.mono j3.size)
 have q4:=q2.below hb4
 refine⟨pb,cb,_,rfl,fun z hz=>J.st_newF w3 z hz (atG f v) pb cb,(J.fm_of ((hb4.block _ hl2).trans h2)).load,(J.fm_of h4).load,?_⟩
 exact(sameForm13 (atG f v) pa pb ca cb _ ⟨(ta.below hb4).mono hb4.size,o2,o1⟩ ⟨tb,o2,o1⟩).mono fun _ _ ⟨h1,h2⟩=>⟨h1,q4.below h2⟩
theorem Pq.vers (h:Pq f pp cp g cap base ps w m W) (c:PqC f w ps):Calls Tryz.prog 12 #[fmV f (some ⟨g,0,none⟩) cap] W fun e w1=>∃ va,e = .returned va/\(Instr.loadAt 30 (.pointer (some ⟨w.heap.size,0,none⟩))).run Tryz.prog w1 = .ok (fmV f pp cp) w1 /\
  Calls Tryz.prog 14 #[fmV f pp cp] w1 fun e w2=>∃ vb,e = .returned vb/\Calls Tryz.prog 13 #[va,vb] w2 fun e w3=>e = .returned (.bool true)/\(Instr.loadAt 30 (.pointer (some ⟨w.heap.size,0,none⟩))).run Tryz.prog w3 = .ok (fmV f pp cp) w3/\(Instr.loadAt 30 (.pointer (some ⟨m,0,none⟩))).run Tryz.prog w3 = .ok (fmV f (some ⟨g,0,none⟩) cap) w3 /\
   Calls Tryz.prog 9 #[fmV f (some ⟨g,0,none⟩) cap,fmV f pp cp] w3 fun e w'=>e = .returned (.bool true)/\Hid (Below w.heap.size w w'):=by
 refine(pVersions_any (h.pck c) (h.tm c.hp) c.lm).mono fun e w1 hP=>?_
 obtain⟨va,rfl,a1,a2⟩:=hP
 have q1:=h.below a2
 refine⟨va,rfl,q1.ldF,(dVersions_any (q1.dck c) q1.tl c.lm).mono fun e w2 hP=>?_⟩
 obtain⟨vb,rfl,b1,b2⟩:=hP
 have q2:=q1.below b2
 have hl:(verZ f).length<=1000000000000:=by
  unfold verZ
  split
  ·rename_i hz
   have hv:=head_ver hz
   have:=List.length_filter_le (fun v=>(camZ f).contains v) (List.range (f.ver.toNat+1))
   rw[List.length_range] at this
   omega
  ·exact Nat.zero_le _
 refine⟨vb,rfl,(sameInts_any (a1.below b2) b1 hl).mono fun e w3 hP=>?_⟩
 obtain⟨rfl,b3⟩:=hP
 have q3:=q2.below b3
 exact⟨rfl,q3.ldF,q3.ldM,(q3.spa c).mono fun _ _ ⟨h1,h2⟩=>⟨h1,⟨h2.bl⟩⟩⟩
end
theorem ent_livP:∀ ag w,(callFunc 10 ag).run Tryz.prog w = .ok (.enter 10 ag) w:=enters_of Tryz.func10 (by kernel_rfl) rfl
theorem ent_livD:∀ ag w,(callFunc 11 ag).run Tryz.prog w = .ok (.enter 11 ag) w:=enters_of Tryz.func11 (by kernel_rfl) rfl
theorem ProjectAts_any (f:Fm) (pp:Option Addr) (cp:Nat) (w:World) (v i:Int) (fo:FmOk f) (kt:KT w) (mt:MT w) (hr:TkL w pp w.heap.size f.toks) (hlm:f.toks.length*192<=140737488351232) (hcm:∀ t∈f.toks,t.cst.length*8<=140737488351232) :
  Calls Tryz.prog 3 #[fmV f pp cp,.int .i64 v,.int .i64 i] w fun e w'=>e = .returned (.bool true)/\Below w.heap.size w w':=by
 have hb:=bel1 w (fmO f pp cp)
 have H1:=heap_al w (fmO f pp cp)
 have hs1:(w.alloc (fmO f pp cp)).heap.size=w.heap.size+1:=World.size_alloc _ _
 generalize hW:w.alloc (fmO f pp cp)=W1 at hb H1 hs1
 simp only[fmO] at hW
 have cS:=sure_any W1 (kt.up hb) (mt.below mt.pos hb)
 have CC:Hid (∀ w2,Below W1.heap.size W1 w2->(Instr.loadAt 30 (.pointer (some ⟨w.heap.size,0,none⟩))).run Tryz.prog w2 = .ok (fmV f pp cp) w2/\Calls Tryz.prog 5 #[fmV f pp cp] w2 fun e w3=>∃ g cap ps W4,e = .returned (fmV f (some ⟨g,0,none⟩) cap)/\Hid (∀ z:Array Value,z.size=13->(Instr.storeAt 30 (.pointer (some ⟨w3.heap.size,0,none⟩)) (fmV f (some ⟨g,0,none⟩) cap)).run Tryz.prog (w3.alloc (.cells z 30)) = .ok () W4)/\Hid (Pq f pp cp g cap w2.heap.size ps w w3.heap.size W4/\PqC f w ps)):=⟨fun w2 h=>by
  have hx:=hb.trans (h.mono hb.size)
  have h2:=(h.block w.heap.size (by omega)).trans H1
  refine⟨(J.fm_of h2).load,(J.copied_any f pp cp w2 ((hr.below hx).mono hx.size) hlm hcm).mono fun e w3 hP=>?_⟩
  obtain⟨g,cap,ps,rfl,hp,hc,b3⟩:=hP
  have b4:=bel1 w3 (fmO f (some ⟨g,0,none⟩) cap)
  have hb4:=b3.trans (b4.mono b3.size)
  have hx4:=hx.trans (hb4.mono hx.size)
  exact⟨g,cap,ps,_,rfl,⟨fun z hz=>J.st_newF w3 z hz f (some ⟨g,0,none⟩) cap⟩,⟨⟨(hb4.block _ (by have:=h.size;omega)).trans h2,heap_al _ _,hc.below b4,(hr.below hx4).mono hx4.size,hx4⟩,⟨fo,kt,mt,hlm,hp⟩⟩⟩⟩
 clear kt mt hr hlm hcm fo hb H1 hs1
 go_enter Tryz.func3,Tryz.ntmps3
 go_wp2_with (first
  | (go_at_call 4;refine cS.mono ?_;rintro _ w2 ⟨rfl,hb2⟩;obtain⟨l2,cO⟩:=CC.out w2 hb2;replace l2:=Hid.mk l2;clear hb2)
  | (go_at_call 5;refine cO.mono ?_;rintro _ w3 ⟨g,cap,ps,W4,rfl,s4,hq⟩;generalize hm:w3.heap.size=m at hq;have l4:Hid _:=⟨hq.out.1.ldM⟩;have cA:=hq.out.1.ats hq.out.2 v;rw[<- hm] at l4;replace hm:=Hid.mk hm)
  | (go_at_call 6;refine cA.mono ?_;rintro _ w5 ⟨pa,ca,W6,rfl,s6,l6,cB⟩;replace s6:=Hid.mk s6;replace l6:=Hid.mk l6)
  | (go_at_call 7;refine cB.mono ?_;rintro _ w7 ⟨pb,cb,W8,rfl,s8,l8a,l8b,cF⟩;replace s8:=Hid.mk s8;replace l8a:=Hid.mk l8a;replace l8b:=Hid.mk l8b)
  | (go_at_call 8;refine cF.mono ?_;rintro _ w9 ⟨rfl,q9⟩;have l9a:Hid _:=⟨q9.ldM⟩;rw[<- hm.out] at l9a;have l9b:Hid _:=⟨q9.ldF⟩;have cP:=q9.spa hq.out.2;clear q9)
  | (go_at_call 9;refine cP.mono ?_;rintro _ w10 ⟨rfl,q10⟩;replace q10:=Hid.mk q10)
  | (guard_target =~ wpList _ _ _ (Oper.mk _ (Op.load 30 _) _ _ _ _::_) _ _;go_must (first|refine wpList_ld 30 _ rfl rfl _ _ rfl l2.out ?_|refine wpList_ld 30 _ rfl rfl _ _ rfl l4.out ?_|refine wpList_ld 30 _ rfl rfl _ _ rfl l6.out ?_|refine wpList_ld 30 _ rfl rfl _ _ rfl l8a.out ?_|refine wpList_ld 30 _ rfl rfl _ _ rfl l8b.out ?_|refine wpList_ld 30 _ rfl rfl _ _ rfl l9a.out ?_|refine wpList_ld 30 _ rfl rfl _ _ rfl l9b.out ?_);simp only[pts])
  | (guard_target =~ wpList _ _ _ (Oper.mk _ (Op.store 30 _ _) _ _ _ _::_) _ _;go_must (first|refine wpList_st 30 _ _ rfl rfl _ _ rfl rfl (s4.out _ rfl) ?_|refine wpList_st 30 _ _ rfl rfl _ _ rfl rfl (s6.out _ rfl) ?_|refine wpList_st 30 _ _ rfl rfl _ _ rfl rfl (s8.out _ rfl) ?_);simp only[pts]))
 clear cS CC l2 cO s4 l4 cA s6 l6 cB s8 l8a l8b cF l9a l9b cP
 rw[hm.out]
 have cV:Hid _:=⟨hq.out.2⟩
 clear hm hq
 generalize w2.heap.size=B at *
 go_loopw [13] (fun q wr=>∃ j:Nat,j<=4/\q = .int .i64 (j:Int)/\Hid (Pq f pp cp g cap B ps w m wr)) (fun q _=>4-(RowKit.intOf q).toNat)
 case atStart=>exact⟨0,by omega,by go_num,q10⟩
 case round =>
  clear q10
  obtain⟨j,hj,rfl,hI⟩:=hrel
  by_cases hlt:j<4
  ·have d4:decide ((j:Int)<4)=true:=by simp;omega
   obtain⟨p,p0,pN,pE,l3,l8,p12,cP,cD⟩:∃ p:World->Prop,p wr.drew/\Nonempty (CW p)/\(∀ W,p W->Hid (Pq f pp cp g cap B ps w m W))/\Hid (∀ W,(∃ θ:CW p,W=θ.w)->(Instr.loadAt 30 (.pointer (some ⟨w.heap.size,0,none⟩))).run Tryz.prog W = .ok (fmV f pp cp) W)/\Hid (∀ W,(∃ θ:CW p,W=θ.w)->(Instr.loadAt 30 (.pointer (some ⟨m,0,none⟩))).run Tryz.prog W = .ok (fmV f (some ⟨g,0,none⟩) cap) W)/\(∀ θ:CW p,θ.w.cell? ⟨w.heap.size,12,none⟩=some (.slice pp f.toks.length cp)) /\
     Hid (∀ a W,p W->Calls Tryz.prog 10 #[fmV f (some ⟨g,0,none⟩) cap,.int .i64 a,.int .i64 v] W fun e w'=>e = .returned (.bool (livB f a v))/\p w')/\Hid (∀ a W,p W->Calls Tryz.prog 11 #[fmV f pp cp,.int .i64 a,.int .i64 v] W fun e w'=>e = .returned (.bool (livB f a v))/\p w') :=
    ⟨Pq f pp cp g cap B ps w m,hI.out.below (Below.refl _ _).drew,⟨⟨_,hI.out⟩⟩,fun _ h=>⟨h⟩,⟨by rintro _ ⟨θ,rfl⟩;exact Pq.ldF θ.h⟩,⟨by rintro _ ⟨θ,rfl⟩;exact Pq.ldM θ.h⟩,fun θ=>cell_at (Pq.fb θ.h) 12,⟨fun a W h=>h.livP cV.out a v⟩,⟨fun a W h=>h.livD cV.out a v⟩⟩
   clear hI cV
   go_wp2_with fail
   refine wp_region_pp p [0,1,2,3,4,6,7,8,9,10,5,11,12,13,14,15,16,17,18,19,20,22,23,24,25,26,27,28,21,29,30,31] (by kernel_rfl) (by kernel_rfl) (fun _ _ d _ _ h=>by cases d<;>exact h) p0 ?_
   simp only[List.filterMap_cons,List.filterMap_nil,List.getElem?_cons_zero,List.getElem?_cons_succ]
   have hp:=p0
   generalize wr.drew=W at hp ⊢
   repeat (first
    | (guard_target =~ Lx _ _ _ _ (Oper.mk _ (Op.load 30 _) _ _ _ _::_) _ _;(first|refine lx_ld l3.out rfl (by rfl) ?_|refine lx_ld l8.out rfl (by rfl) ?_);simp only[pts])
    | (guard_target =~ Lx _ _ _ _ (Oper.mk _ (Op.call { callee:=Callee.value (Operand.func 10),args:=_,argTypes:=_ }) _ _ _ _::_) _ _;refine lx_p3 ent_livP (cP.out _) hp rfl rfl rfl (by rfl) ?_;intro W hp;simp only[pts])
    | (guard_target =~ Lx _ _ _ _ (Oper.mk _ (Op.call { callee:=Callee.value (Operand.func 11),args:=_,argTypes:=_ }) _ _ _ _::_) _ _;refine lx_p3 ent_livD (cD.out _) hp rfl rfl rfl (by rfl) ?_;intro W hp;simp only[pts])
    | (refine lx_one rfl ?_;(first|go_big_quiet_skip|(go_big_quiet_want;go_big_quiet_op;go_big_quiet_on));refine wpQuiet_nil ?_))
   refine lx_done ?_
   have hF:=pE _ hp
   clear l3 l8 cP cD p12 pE pN p0 hp
   go_wp2_with fail
   go_roundw
   case rel=>exact⟨j+1,by omega,by go_num,hF⟩
   case measure=>simp[RowKit.intOf];omega
  ·obtain rfl:j=4:=by omega
   have lM:Hid _:=⟨hI.out.ldM⟩
   have cR:=hI.out.vers cV.out
   clear hI cV
   go_wp2_with (first
    | (go_at_call 12;refine cR.mono ?_;rintro _ w1 ⟨va,rfl,lF,cT⟩;replace lF:=Hid.mk lF)
    | (go_at_call 14;refine cT.mono ?_;rintro _ w2 ⟨vb,rfl,cI⟩)
    | (go_at_call 13;refine cI.mono ?_;rintro _ w3 ⟨rfl,lF3,lM3,cSp⟩;replace lF3:=Hid.mk lF3;replace lM3:=Hid.mk lM3)
    | (go_at_call 9;refine cSp.mono ?_;rintro _ w4 ⟨rfl,hZ⟩)
    | (guard_target =~ wpList _ _ _ (Oper.mk _ (Op.load 30 _) _ _ _ _::_) _ _;go_must (first|refine wpList_ld 30 _ rfl rfl _ _ rfl lM.out ?_|refine wpList_ld 30 _ rfl rfl _ _ rfl lF.out ?_|refine wpList_ld 30 _ rfl rfl _ _ rfl lF3.out ?_|refine wpList_ld 30 _ rfl rfl _ _ rfl lM3.out ?_);simp only[pts]))
   go_ret
   exact⟨rfl,hZ.out⟩
open Go.Lib
abbrev laid2:List (String×DataW Unit):=[("stencil/prim.kinds",Rows.laid_stencil_prim_kinds),("stencil/ir.mayHave",Rows.laid_stencil_ir_mayHave)]
theorem gTab:Tryz.prog.globalNamed "stencil/prim.kinds" = some 1:=by kernel_rfl
theorem gTabType:(Tryz.prog.globals[1]?).map (·.type)=some 169:=by kernel_rfl
theorem gMay:Tryz.prog.globalNamed "stencil/ir.mayHave" = some 0:=by kernel_rfl
theorem gMayType:(Tryz.prog.globals[0]?).map (·.type)=some 153:=by kernel_rfl
theorem cellsKs:Tryz.prog.cellsOf 169=55:=by kernel_rfl
theorem cellsK:Tryz.prog.cellsOf 161=5:=by kernel_rfl
theorem cellsKr:Tryz.prog.cellsOf 159=1:=by kernel_rfl
theorem cellsKu:Tryz.prog.cellsOf 44=1:=by kernel_rfl
theorem cellsKi:Tryz.prog.cellsOf 3=1:=by kernel_rfl
theorem cellsMs:Tryz.prog.cellsOf 153=16:=by kernel_rfl
theorem cellsM:Tryz.prog.cellsOf 151=1:=by kernel_rfl
def kindD {H:Type} (p:Int):DataW H:=.agg [.lit (.int .i64 (sz p)),.lit (.int .i64 (rd p)),.lit (.int .u64 (nl p)),.lit (.int .u64 (mn p)),.lit (.int .u64 (mx p))]
theorem kindsD_eq {H:Type}:(Rows.laid_stencil_prim_kinds:DataW H) = .agg ((List.range 11).map fun i:Nat=>kindD i):=by kernel_rfl
def mayTab:List Int:=(List.range 16).map fun p:Nat=>(mayN p:Int)
theorem mayD_eq:(Rows.laid_stencil_ir_mayHave:DataW Unit)=Lib.tabData .i64 mayTab:=by kernel_rfl
theorem klist5 {α:Type} {l:List α} (h:l.length=5):∃ a b c d e,l=[a,b,c,d,e]:=by
 rcases l with _|⟨a,_|⟨b,_|⟨c,_|⟨d,_|⟨e,l⟩⟩⟩⟩⟩<;>simp at h
 subst h;exact⟨a,b,c,d,e,rfl⟩
theorem klit_of {H:Type} {enc:TypeId×Value->H} {w:World} {base:Nat} {sp:Nat->Bool} {held:Bool} {fuel:Nat} {t:TypeId} {k:IntKind} {c:Value} {z:Int} {q:List MemPlace}
  (ht:Tryz.prog.underlying t=some (.int k)) (h:DataW.trod enc Tryz.prog w base sp held fuel t [c]=some (.lit (.int k z),q)):c = .int k z:=by
 obtain⟨n,hc,hx,_⟩:=DataW.trod_int ht h
 simp at hc hx
 rw[hc,hx.1]
theorem kind_cells {H:Type} {enc:TypeId×Value->H} {w:World} {base:Nat} {sp:Nat->Bool} {held:Bool} {fuel:Nat} {cs:List Value} {p:Int} {q:List MemPlace}
  (h:DataW.trod enc Tryz.prog w base sp held fuel 161 cs=some (kindD p,q)):cs=[.int .i64 (sz p),.int .i64 (rd p),.int .u64 (nl p),.int .u64 (mn p),.int .u64 (mx p)]:=by
 obtain⟨ys,n,_,hx,hl,hyl,hf⟩:=DataW.trod_struct Tryz.underlying161 h
 rw[cellsK] at hl
 obtain⟨c0,c1,c2,c3,c4,rfl⟩:=klist5 hl
 obtain⟨⟨d0,q0⟩,⟨d1,q1⟩,⟨d2,q2⟩,⟨d3,q3⟩,⟨d4,q4⟩,rfl⟩:=klist5 hyl
 have f0:=hf 0 _ rfl
 have f1:=hf 1 _ rfl
 have f2:=hf 2 _ rfl
 have f3:=hf 3 _ rfl
 have f4:=hf 4 _ rfl
 simp[cellsKi,cellsKr,cellsKu] at f0 f1 f2 f3 f4
 simp[kindD] at hx
 obtain⟨⟨rfl,rfl,rfl,rfl,rfl⟩,_⟩:=hx
 rw[klit_of Tryz.underlying3 f0,klit_of Tryz.underlying159 f1,klit_of Tryz.underlying44 f2,klit_of Tryz.underlying44 f3,klit_of Tryz.underlying44 f4]
theorem tabs_of_laid {W:World} (h:laidMetH Tryz.prog laid2 W):KT W/\MT W:=by
 have h':laidMet Tryz.prog laid2 W:=h
 obtain⟨ps,⟨g',t',cs,fuel,p,q,hg',ht',hvar,hd,⟨g2,t2,cs2,f2,p2,q2,hg2,ht2,hv2,hd2,_,_⟩,_⟩,_⟩:=h'
 obtain rfl:=Option.some.inj (gTab.symm.trans hg')
 obtain rfl:=Option.some.inj (gTabType.symm.trans ht')
 obtain rfl:=Option.some.inj (gMay.symm.trans hg2)
 obtain rfl:=Option.some.inj (gMayType.symm.trans ht2)
 rw[kindsD_eq] at hd
 rw[mayD_eq] at hd2
 have hpos:∀ (g:Nat) (o:Nat) (v:Value),W.cell? ⟨g,o,none⟩=some v->g<W.heap.size:=fun g o v hc=>by
  rcases Nat.lt_or_ge g W.heap.size with h1|h1
  ·exact h1
  ·simp[World.cell?,Array.getElem?_eq_none h1] at hc
 constructor
 ·obtain⟨xs,m,_,hx,hl,hxl,hf⟩:=DataW.trod_array Tryz.underlying169 hd
  rw[cellsKs] at hl
  have hxs:xs.map (·.1)=(List.range 11).map fun i:Nat=>(kindD i:DataW Unit):=by
   have:=congrArg Prod.fst hx
   simpa using this.symm
  have row:∀ i:Nat,i<11->(cs.toList.drop (i*5)).take 5=[.int .i64 (sz i),.int .i64 (rd i),.int .u64 (nl i),.int .u64 (mn i),.int .u64 (mx i)]:=by
   intro i hi
   have h1:=hf i hi
   rw[cellsK] at h1
   have h2:(xs.map (·.1))[i]?=some (kindD i):=by rw[hxs];simp[hi]
   simp only[List.getElem?_map,Option.map_eq_some_iff] at h2
   obtain⟨⟨d,q'⟩,h3,rfl⟩:=h2
   rw[h3] at h1
   exact kind_cells h1
  have cell:∀ (i j:Nat) (v:Value),i<11->j<5->([.int .i64 (sz i),.int .i64 (rd i),.int .u64 (nl i),.int .u64 (mn i),.int .u64 (mx i)]:List Value)[j]?=some v->W.cell? ⟨1,5*i+j,none⟩=some v:=by
   intro i j v hi hj hv
   have:=World.var?_cell gTab hvar (5*i+j)
   rw[this]
   rw[<- row i hi] at hv
   simp[hj] at hv
   simpa[Nat.mul_comm] using hv
  exact⟨hpos _ _ _ (cell 0 0 _ (by omega) (by omega) rfl),fun i hi=>cell i 0 _ hi (by omega) rfl,fun i hi=>cell i 1 _ hi (by omega) rfl,fun i hi=>cell i 2 _ hi (by omega) rfl,fun i hi=>cell i 3 _ hi (by omega) rfl,fun i hi=>cell i 4 _ hi (by omega) rfl⟩
 ·have hcs2:=Lib.cells_of_tab Tryz.underlying153 Tryz.underlying151 cellsM cellsMs hd2
  have cell:∀ p:Nat,p<16->W.cell? ⟨0,p,none⟩=some (.int .i64 (mayN p:Int)):=fun p hp=>by
   rw[World.var?_cell gMay hv2 p]
   have hc:cs2.toList[p]?=some (.int .i64 (mayN p:Int)):=by
    rw[hcs2,List.getElem?_map]
    unfold mayTab
    rw[List.getElem?_map,List.getElem?_range hp]
    rfl
   simpa using hc
  exact⟨hpos _ _ _ (cell 0 (by omega)),cell⟩
end Go.Proofs.YtkcjdncchoohoaaGreatDoor
