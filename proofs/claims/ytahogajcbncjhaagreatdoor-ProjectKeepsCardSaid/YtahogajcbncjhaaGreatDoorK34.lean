import Derived.Test.YtahogajcbncjhaaGreatDoorK33
namespace Go.Proofs.YtahogajcbncjhaaGreatDoor
open Go.ChangeShapes Go.WideShapes Go.ChangeAt Go.RowKit Go.Shelf Go.Maps
theorem fstB_ok {l:List Tk} (hl:∀ t∈l,TkOk t) (C:List Nat) (v:Int):∀ (ks:List Nat) (x:Int),fstB l C v ks=some x->i64ok x
 | [],_,h=>by cases h
 | k::r,x,h=>by
  rw[fstB] at h
  split at h
  ·cases h
   unfold offAt
   cases ht:l[k]? with
   | none=>exact⟨by decide,by decide⟩
   | some t=>exact(hl t (List.mem_of_getElem? ht)).off
  ·exact fstB_ok hl C v r x h
theorem trnT_ok {l:List Tk} (hl:∀ t∈l,TkOk t) (C:List Nat) (v:Int) (i:Nat) {t:Tk} (ht:TkOk t) (hc:C.length<=1000000000000):TkOk (trnT l C v i t):=by
 have hp:i64ok ((rnk C v t.pair.toNat:Nat):Int):=by
  have:rnk C v t.pair.toNat<=C.length:=by
   unfold rnk
   exact Nat.le_trans List.countP_le_length (by rw[List.length_take];omega)
  unfold i64ok
  omega
 have hb:i64ok (if t.op=0\/t.op=4 then blkZ l C v i t else t.blk):=by
  split
  ·unfold blkZ
   cases hf:fstB l C v (kidsZ l i) with
   | none=>exact ht.blk
   | some x=>exact fstB_ok hl C v _ x hf
  ·exact ht.blk
 exact { ht with pair:=hp,blk:=hb }
theorem kepF_ok {l:List Tk} (hl:∀ t∈l,TkOk t) (C:List Nat) (v:Int) (hc:C.length<=1000000000000):∀ n,∀ t∈kepF l C v n,TkOk t
 | 0,t,h=>by cases h
 | n+1,t,h=>by
  rw[kepF] at h
  rcases List.mem_append.1 h with h|h
  ·exact kepF_ok hl C v hc n t h
  ·cases ht:l[n]? with
   | none=>rw[ht] at h;cases h
   | some u =>
    rw[ht] at h
    simp only at h
    split at h
    ·obtain rfl:=List.mem_singleton.1 h
     exact trnT_ok hl C v n (hl u (List.mem_of_getElem? ht)) hc
    ·cases h
theorem atG_ok {f:Fm} (hl:∀ t∈f.toks,TkOk t) (hlm:f.toks.length*192<=140737488351232) (v:Int):(∀ t∈(atG f v).toks,TkOk t)/\(atG f v).toks.length*192<=140737488355328:=by
 unfold atG
 split
 ·refine⟨kepF_ok hl _ v (by rw[camZ_length];omega) _,?_⟩
  have h1:=kepF_length f.toks (camZ f) v f.toks.length (Nat.le_refl _) (by rw[camZ_length];exact Nat.le_refl _)
  have h2:=rnk_le (camZ f) v f.toks.length
  show (kepF f.toks (camZ f) v f.toks.length).length*192<=_
  omega
 ·exact⟨fun t h=>(by cases h),by decide⟩
theorem trn_ok0 {l:List Tk} (C:List Nat) (v:Int) (i:Nat) {t:Tk} (ht:TkOk t):TkOk (t00 t)/\t00 (trnT l C v i t)=t00 t:=⟨{ ht with pair:=(show i64ok 0 from ⟨by decide,by decide⟩),blk:=(show i64ok 0 from ⟨by decide,by decide⟩) },rfl⟩
structure Lq (f:Fm) (pp:Option Addr) (cp:Nat) (v:Int) (pa:Option Addr) (ca:Nat) (ks:List Ktp) (B:Nat) (w:World) (b:Nat) (W:World):Prop where
 fb:W.heap[w.heap.size]?=some (fmO f pp cp)
 gb:W.heap[b]?=some (fmO (atF f v) pa ca)
 tl:TkL W pp W.heap.size f.toks
 kt:KtR W B (.slice pa ks.length ca) ks
 bl:Below w.heap.size w W
theorem Lq.below {f:Fm} {pp:Option Addr} {cp:Nat} {v:Int} {pa:Option Addr} {ca:Nat} {ks:List Ktp} {B:Nat} {w:World} {b:Nat} {W W':World} (h:Lq f pp cp v pa ca ks B w b W) (hb:Below W.heap.size W W'):Lq f pp cp v pa ca ks B w b W' :=
 ⟨(hb.block _ (Array.getElem?_eq_some_iff.1 h.fb).1).trans h.fb,(hb.block _ (Array.getElem?_eq_some_iff.1 h.gb).1).trans h.gb,(h.tl.below hb).mono hb.size,h.kt.below hb,h.bl.trans (hb.mono h.bl.size)⟩
structure LqC (f:Fm) (v:Int) (w:World) (ks:List Ktp):Prop where
 kt:KT w
 mt:MT w
 lm:f.toks.length*192<=140737488351232
 z:chkZ f=none
 hv:fstV f<=v/\v<=f.ver
 hks:ks.map Ktp.t=(atF f v).toks
section
variable {f:Fm} {pp:Option Addr} {cp:Nat} {v:Int} {pa:Option Addr} {ca:Nat} {ks:List Ktp} {B:Nat} {w:World} {b:Nat} {W:World}
theorem LqC.ok (c:LqC f v w ks) (hl:∀ t∈f.toks,TkOk t):(∀ t∈(atF f v).toks,TkOk t)/\(atF f v).toks.length*192<=140737488351232:=by
 refine⟨kepF_ok hl _ v (by rw[camZ_length];have:=c.lm;omega) _,?_⟩
 have h1:=new_len (f:=f) (v:=v)
 have h2:=rnk_le (camZ f) v f.toks.length
 have:=c.lm
 omega
theorem Lq.tg (h:Lq f pp cp v pa ca ks B w b W) (c:LqC f v w ks):TkL W pa W.heap.size (atF f v).toks:=by
 obtain⟨o1,o2⟩:=c.ok h.tl.ok
 exact⟨by rw[<- c.hks];exact h.kt.trow,by omega,o1⟩
theorem Lq.ldF (h:Lq f pp cp v pa ca ks B w b W):(Instr.loadAt 30 (.pointer (some ⟨w.heap.size,0,none⟩))).run Tryz.prog W = .ok (fmV f pp cp) W:=(J.fm_of h.fb).load
theorem Lq.ldG (h:Lq f pp cp v pa ca ks B w b W):(Instr.loadAt 30 (.pointer (some ⟨b,0,none⟩))).run Tryz.prog W = .ok (fmV (atF f v) pa ca) W:=(J.fm_of h.gb).load
theorem Lq.sin (h:Lq f pp cp v pa ca ks B w b W) (c:LqC f v w ks) {i:Nat} (hi:i<f.toks.length):Calls Tryz.prog 8 #[fmV f pp cp,.int .i64 (i:Int)] W fun e w'=>e = .returned (.int .i64 (((camZ f).getD i 0:Nat):Int))/\Lq f pp cp v pa ca ks B w b w' :=
 (since_any c.z h.tl c.lm hi).mono fun _ _ ⟨h1,h2⟩=>⟨h1,h.below h2⟩
theorem Lq.liv (h:Lq f pp cp v pa ca ks B w b W) (c:LqC f v w ks) {i:Nat} (hi:i<f.toks.length):Calls Tryz.prog 9 #[fmV f pp cp,.int .i64 (i:Int),.int .i64 v] W fun e w'=>e = .returned (.bool (kp (camZ f) v i))/\Lq f pp cp v pa ca ks B w b w':=by
 have hE:livB f (i:Int) v=kp (camZ f) v i:=by
  unfold livB kp
  rw[decide_eq_true c.z,decide_eq_true (show (0:Int)<=i/\(i:Int)<f.toks.length by omega),Int.toNat_natCast]
  rfl
 rw[<- hE]
 exact(pLives_any (pCk_of _ _ _ _ h.tl (c.kt.up h.bl) (c.mt.below c.mt.pos h.bl)) h.tl c.lm i v).mono fun _ _ ⟨h1,h2⟩=>⟨h1,h.below h2⟩
theorem Lq.chk (h:Lq f pp cp v pa ca ks B w b W) (c:LqC f v w ks):Calls Tryz.prog 7 #[fmV (atF f v) pa ca] W fun r w'=>∃ A,r = .returned (.tuple #[.int .i64 0,.int .i64 A])/\Lq f pp cp v pa ca ks B w b w' :=
 (pCk_of (atF f v) pa ca W (h.tg c) (c.kt.up h.bl) (c.mt.below c.mt.pos h.bl) W (Below.refl _ _)).mono fun r w' ⟨h1,h2⟩=>⟨atZ (chkZ (atF f v)),by rw[h1];rw[show errZ (chkZ (atF f v))=0 by rw[atF_valid c.z c.hv];rfl],h.below h2⟩
theorem Lq.rch (h:Lq f pp cp v pa ca ks B w b W) (c:LqC f v w ks):Calls Tryz.prog 11 #[fmV f pp cp,fmV (atF f v) pa ca,.int .i64 v] W fun r w'=>r = .returned (.bool true)/\Lq f pp cp v pa ca ks B w b w' :=
 (reach_any c.z c.hv h.tl (h.tg c).row c.lm).mono fun _ _ ⟨h1,h2⟩=>⟨h1,h.below h2⟩
theorem Lq.two (h:Lq f pp cp v pa ca ks B w b W) (c:LqC f v w ks) {i:Nat} {t:Tk} (ht:f.toks[i]?=some t) (hk:kp (camZ f) v i=true):∃ gf ofs pc cc ga pd cd,pp=some ⟨gf,ofs,none⟩/\pa=some ⟨ga,0,none⟩/\∀ V,Below W.heap.size W V->(Instr.loadAt 42 (.pointer (some ⟨gf,ofs+i*21,none⟩))).run Tryz.prog V = .ok (tkV t pc cc) V/\(Instr.loadAt 42 (.pointer (some ⟨ga,rnk (camZ f) v i*21,none⟩))).run Tryz.prog V = .ok (tkV (trnT f.toks (camZ f) v i t) pd cd) V /\
  V.cell? ⟨ga,rnk (camZ f) v i*21+14,none⟩=some (.int .i64 (trnT f.toks (camZ f) v i t).blk)/\V.cell? ⟨gf,ofs+i*21+14,none⟩=some (.int .i64 t.blk) /\
  Calls Tryz.prog 10 #[tkV (trnT f.toks (camZ f) v i t) pd cd,tkV t pc cc] V fun r w'=>r = .returned (.bool true)/\Below W.heap.size W w':=by
 obtain⟨gf,ofs,pc,cc,e1,hgf,hT,hU,hc,hO⟩:=h.tl.at ht
 obtain⟨ga,og,pd,cd,e2,hga,hT2,hU2,hc2,hO2⟩:=(h.tg c).at (at_new ht hk)
 have hog:og=0:=by
  rcases h.kt.row.2 with ⟨e0,-⟩|⟨g',cap',cur,e3,-⟩
  ·injection e0 with a _ _
   rw[a] at e2
   cases e2
  ·injection e3 with a _ _
   rw[a] at e2
   cases e2
   rfl
 subst hog
 rw[Nat.zero_add] at hT2
 refine⟨gf,ofs,pc,cc,ga,pd,cd,e1,e2,fun V hV=>⟨(hT.below hgf hV).load,(hT2.below hga hV).load,(hT2.below hga hV).c14,(hT.below hgf hV).c14,?_⟩⟩
 obtain⟨k1,k2⟩:=trn_ok0 (l:=f.toks) (camZ f) v i hO
 exact(alike_any (trnT f.toks (camZ f) v i t) t pd pc cd cc V k2 ((hU2.below hV).mono hV.size) ((hU.below hV).mono hV.size) hc2 hc (by rw[k2];exact k1)).mono fun _ _ ⟨h1,h2⟩=>⟨h1,hV.trans (h2.mono hV.size)⟩
theorem blk_le (hz:chkZ f=none) {i:Nat} {t:Tk} (ht:f.toks[i]?=some t):(trnT f.toks (camZ f) v i t).blk<=t.blk:=by
 show (if t.op=0\/t.op=4 then _ else _)<=_
 split
 ·rename_i ho
  have hb:0<=t.blk:=by
   have hg:bgO t.op=true:=by rcases ho with e|e<;>rw[e]<;>rfl
   obtain⟨m,x,o,-,-,-,-,-,e,-,e5⟩:=close_at hz ht hg
   have:=e5.blk
   rw[e] at this
   exact this.1
  exact(blk_low hz v ht ho hb).1.2
 ·exact Int.le_refl _
theorem Lq.again (h:Lq f pp cp v pa ca ks B w b W) (c:LqC f v w ks) (u:Int):Calls Tryz.prog 6 #[fmV (atF f v) pa ca,.int .i64 u] W fun e w1=>∃ ph ch W2,e = .returned (.tuple #[fmV (atG (atF f v) u) ph ch,.int .i64 (atE (atF f v) u)]) /\
  (∀ z:Array Value,z.size=13->(Instr.storeAt 30 (.pointer (some ⟨w1.heap.size,0,none⟩)) (fmV (atG (atF f v) u) ph ch)).run Tryz.prog (w1.alloc (.cells z 30)) = .ok () W2)/\(Instr.loadAt 30 (.pointer (some ⟨w.heap.size,0,none⟩))).run Tryz.prog W2 = .ok (fmV f pp cp) W2/\Below w.heap.size w W2 /\
  (u<=v->Calls Tryz.prog 6 #[fmV f pp cp,.int .i64 u] W2 fun e w3=>∃ pk ck W4,e = .returned (.tuple #[fmV (atG (atF f v) u) pk ck,.int .i64 (atE (atF f v) u)]) /\
   (∀ z:Array Value,z.size=13->(Instr.storeAt 30 (.pointer (some ⟨w3.heap.size,0,none⟩)) (fmV (atG (atF f v) u) pk ck)).run Tryz.prog (w3.alloc (.cells z 30)) = .ok () W4)/\(Instr.loadAt 30 (.pointer (some ⟨w1.heap.size,0,none⟩))).run Tryz.prog W4 = .ok (fmV (atG (atF f v) u) ph ch) W4/\(Instr.loadAt 30 (.pointer (some ⟨w3.heap.size,0,none⟩))).run Tryz.prog W4 = .ok (fmV (atG (atF f v) u) pk ck) W4 /\
   Calls Tryz.prog 12 #[fmV (atG (atF f v) u) ph ch,fmV (atG (atF f v) u) pk ck] W4 fun e w5=>e = .returned (.bool true)/\Hid (Below w.heap.size w w5)):=by
 obtain⟨o1,o2⟩:=c.ok h.tl.ok
 obtain⟨o3,o4⟩:=atG_ok o1 o2 u
 have tg:=h.tg c
 refine(pAt_any (pCk_of _ _ _ _ tg (c.kt.up h.bl) (c.mt.below c.mt.pos h.bl)) tg o2 u).mono fun e w1 hP=>?_
 obtain⟨ph,ch,ls,rfl,k1,k2,k3⟩:=hP
 have b2:=bel1 w1 (fmO (atG (atF f v) u) ph ch)
 have h2:=heap_al w1 (fmO (atG (atF f v) u) ph ch)
 have ta:TkRow (w1.alloc (fmO (atG (atF f v) u) ph ch)) ph (w1.alloc (fmO (atG (atF f v) u) ph ch)).heap.size (atG (atF f v) u).toks:=by rw[<- k1];exact(k2.below b2).trow
 have q2:=h.below (k3.trans (b2.mono k3.size))
 refine⟨ph,ch,_,rfl,fun z hz=>J.st_newF w1 z hz _ ph ch,q2.ldF,q2.bl,fun hu=>?_⟩
 generalize w1.alloc (fmO (atG (atF f v) u) ph ch)=W2 at ta q2 b2 h2
 have hl2:=(Array.getElem?_eq_some_iff.1 h2).1
 obtain⟨e1,e2⟩:=at_comp c.z c.hv hu
 refine(pAt_any (pCk_of _ _ _ _ q2.tl (c.kt.up q2.bl) (c.mt.below c.mt.pos q2.bl)) q2.tl c.lm u).mono fun e w3 hP=>?_
 obtain⟨pk,ck,ms,rfl,j1,j2,j3⟩:=hP
 rw[<- e1,<- e2]
 rw[<- e2] at j1
 have b4:=bel1 w3 (fmO (atG (atF f v) u) pk ck)
 have h4:=heap_al w3 (fmO (atG (atF f v) u) pk ck)
 have tb:TkRow (w3.alloc (fmO (atG (atF f v) u) pk ck)) pk (w3.alloc (fmO (atG (atF f v) u) pk ck)).heap.size (atG (atF f v) u).toks:=by rw[<- j1];exact(j2.below b4).trow
 have hb4:=j3.trans (b4.mono j3.size)
 have q4:=q2.below hb4
 refine⟨pk,ck,_,rfl,fun z hz=>J.st_newF w3 z hz _ pk ck,(J.fm_of ((hb4.block _ hl2).trans h2)).load,(J.fm_of h4).load,?_⟩
 exact(sameForm13 (atG (atF f v) u) ph pk ch ck _ ⟨(ta.below hb4).mono hb4.size,o4,o3⟩ ⟨tb,o4,o3⟩).mono fun _ _ ⟨h1,h2⟩=>⟨h1,⟨(q4.below h2).bl⟩⟩
end
def Lfd (r:Ending) (P:Prop) (c:Df) (w w':World) (D:Prop):Prop:=∃ b,r = .returned (.bool b)/\(b=true↔P)/\Kb [c.go] w w'/\(b=true->D)
theorem Lfd.no {P D:Prop} {c:Df} {w w':World} (h:¬ P) (hk:Kb [c.go] w w'):Lfd (.returned (.bool false)) P c w w' D:=⟨false,rfl,by simp[h],hk,fun e=>by cases e⟩
theorem Lfd.yes {P D:Prop} {c:Df} {w w':World} (h:P) (hk:Kb [c.go] w w') (hd:D):Lfd (.returned (.bool true)) P c w w' D:=⟨true,rfl,by simp[h],hk,fun _=>hd⟩
theorem Kb.drewM {E:List Nat} {a b:World} (h:Kb E a b) (n:Nat):Kb E a (b.drewN n):=⟨h.os,h.tape,h.output,h.size,h.block⟩
def Lfg (r:Ending) (P:Prop) (c:Df) (w w':World) (D:Prop):Prop:=∃ b,r = .returned (.bool b)/\(b=true↔P)/\(b=false->Below w.heap.size w w')/\Kb [c.go] w w'/\(b=true->D)
theorem Lfg.no {P D:Prop} {c:Df} {w w':World} (h:¬ P) (hb:Below w.heap.size w w'):Lfg (.returned (.bool false)) P c w w' D:=⟨false,rfl,by simp[h],fun _=>hb,Kb.of_below hb,fun e=>by cases e⟩
theorem Lfg.yes {P D:Prop} {c:Df} {w w':World} (h:P) (hk:Kb [c.go] w w') (hd:D):Lfg (.returned (.bool true)) P c w w' D:=⟨true,rfl,by simp[h],(fun e=>by cases e),hk,fun _=>hd⟩
end Go.Proofs.YtahogajcbncjhaaGreatDoor
