import Derived.Test.YtjlbcdnkglaheaaGreatDoorK28
namespace Go.Proofs.YtjlbcdnkglaheaaGreatDoor
set_option maxRecDepth 1000000
set_option maxHeartbeats 16000000
open Go.ChangeShapes Go.WideShapes Go.ChangeAt Go.RowKit
namespace C
def ordV (hi:Bool):Int:=if hi then 1 else 0
structure Cs (w:World) (c o g len cap st en:Nat) (hi:Bool) (f:Nat->Int):Prop where
 lt:c<w.heap.size
 buf:w.cell? ⟨c,o,none⟩=some (.slice (some ⟨g,0,none⟩) len cap)
 fro:w.cell? ⟨c,o+1,none⟩=some (.int .i64 st)
 too:w.cell? ⟨c,o+2,none⟩=some (.int .i64 en)
 ord:w.cell? ⟨c,o+3,none⟩=some (.int .i64 (ordV hi))
 frz:w.frozen? ⟨c,o+2,none⟩=false
 row:RowM w g 5 cap (fun j=>.int .u8 (f j))
 bd:∀ j,0<=f j/\f j<=255
 ne:c≠g
 h1:st<=en
 h2:en<=len
 h3:len<=cap
 h4:len<=140737488355328
structure Cb (c o g:Nat) (w w':World):Prop where
 os:w'.os=w.os
 tape:w'.tape=w.tape
 output:w'.output=w.output
 size:w.heap.size<=w'.heap.size
 block:∀ k,k<w.heap.size->k≠c->k≠g->w'.heap[k]?=w.heap[k]?
 cell:∀ i,i≠o+2->w'.cell? ⟨c,i,none⟩=w.cell? ⟨c,i,none⟩
 froz:∀ i,w'.frozen? ⟨c,i,none⟩=w.frozen? ⟨c,i,none⟩
theorem Cb.refl (c o g:Nat) (w:World):Cb c o g w w:=⟨rfl,rfl,rfl,Nat.le_refl _,fun _ _ _ _=>rfl,fun _ _=>rfl,fun _=>rfl⟩
theorem Cb.trans {c o g:Nat} {a b d:World} (h:Cb c o g a b) (k:Cb c o g b d):Cb c o g a d :=
 ⟨k.os.trans h.os,k.tape.trans h.tape,k.output.trans h.output,Nat.le_trans h.size k.size,fun i hi h1 h2=>(k.block i (Nat.lt_of_lt_of_le hi h.size) h1 h2).trans (h.block i hi h1 h2),
  fun i hi=>(k.cell i hi).trans (h.cell i hi),fun i=>(k.froz i).trans (h.froz i)⟩
theorem Cb.of_below {c o g:Nat} {w w':World} (h:Below w.heap.size w w') (hc:c<w.heap.size):Cb c o g w w' :=
 ⟨h.os,h.tape,h.output,h.size,fun k hk _ _=>h.block k hk,fun i _=>h.cell (p:=⟨c,i,none⟩) hc,fun i=>h.frozen (p:=⟨c,i,none⟩) hc⟩
theorem Cb.of_only {c o g:Nat} {w w':World} (h:Only g w w') (hc:c<w.heap.size) (hn:c≠g):Cb c o g w w' :=
 ⟨h.os,h.tape,h.output,h.size,fun k hk _ h2=>h.block k hk h2,fun _ _=>World.cell?_of_block (w:=w) (h.block c hc hn),fun _=>World.frozen?_of_block (w:=w) (h.block c hc hn)⟩
theorem Cb.below {c o g B:Nat} {w w':World} (h:Cb c o g w w') (hc:B<=c) (hg:B<=g) (hB:B<=w.heap.size):Below B w w':=⟨h.os,h.tape,h.output,h.size,fun k hk=>h.block k (by omega) (by omega) (by omega)⟩
theorem Cb.at {c o g:Nat} {w w':World} (h:Cb c o g w w') {b i:Nat} (hb:b<w.heap.size) (h1:b≠c) (h2:b≠g):w'.cell? ⟨b,i,none⟩=w.cell? ⟨b,i,none⟩:=World.cell?_of_block (w:=w) (h.block b hb h1 h2)
theorem Cb.kt {c o g:Nat} {w w':World} (h:Cb c o g w w') (k:KT w) (hc:0<c) (hg:0<g):KT w':=k.below (B:=0+1) (by omega) (h.below hc hg k.pos)
theorem Cs.below {w w':World} {c o g len cap st en:Nat} {hi:Bool} {f:Nat->Int} (h:Cs w c o g len cap st en hi f) (hb:Below w.heap.size w w'):Cs w' c o g len cap st en hi f :=
 ⟨Nat.lt_of_lt_of_le h.lt hb.size,(hb.cell (p:=⟨c,o,none⟩) h.lt).trans h.buf,(hb.cell (p:=⟨c,o+1,none⟩) h.lt).trans h.fro,(hb.cell (p:=⟨c,o+2,none⟩) h.lt).trans h.too,(hb.cell (p:=⟨c,o+3,none⟩) h.lt).trans h.ord,
  (hb.frozen (p:=⟨c,o+2,none⟩) h.lt).trans h.frz,rowM_below h.row hb h.row.lt,h.bd,h.ne,h.h1,h.h2,h.h3,h.h4⟩
theorem Cs.only {w w':World} {c o g len cap st en:Nat} {hi:Bool} {f f':Nat->Int} (h:Cs w c o g len cap st en hi f) (ho:Only g w w') (hr:RowM w' g 5 cap (fun j=>.int .u8 (f' j))) (hb:∀ j,0<=f' j/\f' j<=255):Cs w' c o g len cap st en hi f' :=
 ⟨Nat.lt_of_lt_of_le h.lt ho.size,(ho.cell (p:=⟨c,o,none⟩) h.lt h.ne).trans h.buf,(ho.cell (p:=⟨c,o+1,none⟩) h.lt h.ne).trans h.fro,(ho.cell (p:=⟨c,o+2,none⟩) h.lt h.ne).trans h.too,(ho.cell (p:=⟨c,o+3,none⟩) h.lt h.ne).trans h.ord,
  (World.frozen?_of_block (w:=w) (ho.block c h.lt h.ne)).trans h.frz,hr,hb,h.ne,h.h1,h.h2,h.h3,h.h4⟩
theorem Cs.other {w w':World} {c o g len cap st en:Nat} {hi:Bool} {f:Nat->Int} {c2 o2 g2:Nat} (h:Cs w c o g len cap st en hi f) (hb:Cb c2 o2 g2 w w') (n1:c≠c2) (n2:c≠g2) (n3:g≠c2) (n4:g≠g2):Cs w' c o g len cap st en hi f :=
 ⟨Nat.lt_of_lt_of_le h.lt hb.size,(hb.at h.lt n1 n2).trans h.buf,(hb.at h.lt n1 n2).trans h.fro,(hb.at h.lt n1 n2).trans h.too,(hb.at h.lt n1 n2).trans h.ord,
  (World.frozen?_of_block (w:=w) (hb.block c h.lt n1 n2)).trans h.frz,h.row.of_block (hb.block g h.row.lt n3 n4),h.bd,h.ne,h.h1,h.h2,h.h3,h.h4⟩
theorem Cs.moved {w:World} {c o g len cap st en:Nat} {hi:Bool} {f:Nat->Int} (h:Cs w c o g len cap st en hi f) (m:Nat) (h1:st<=m) (h2:m<=len) :
  Cs (w.setCell ⟨c,o+2,none⟩ (.int .i64 m)) c o g len cap st m hi f/\Cb c o g w (w.setCell ⟨c,o+2,none⟩ (.int .i64 m)):=by
 have hcl:∀ b,b≠c->(w.setCell ⟨c,o+2,none⟩ (.int .i64 m)).heap[b]?=w.heap[b]?:=fun b hb=>Below.heap_setCell w _ _ b hb
 have hoc:∀ i,i≠o+2->(w.setCell ⟨c,o+2,none⟩ (.int .i64 m)).cell? ⟨c,i,none⟩=w.cell? ⟨c,i,none⟩:=fun i hi=>World.cell?_setCell_other _ _ _ _ (fun e=>hi (by simpa using congrArg Addr.off e.symm))
 refine⟨⟨by simpa[World.setCell] using h.lt,(hoc _ (by omega)).trans h.buf,(hoc _ (by omega)).trans h.fro,?_,(hoc _ (by omega)).trans h.ord,?_,h.row.of_block (hcl g (Ne.symm h.ne)),h.bd,h.ne,h1,h2,h.h3,h.h4⟩,?_⟩
 ·exact World.cell?_setCell_same _ _ _ h.too
 ·rw[World.frozen?_setCell];exact h.frz
 ·exact⟨rfl,rfl,rfl,by simp[World.setCell],fun k _ h1 _=>hcl k h1,hoc,fun i=>World.frozen?_setCell _ _ _ _⟩
theorem size_any (p:Int) (w:World) (h:KT w):Calls Tryz.prog 59 #[.int .i64 p] w fun e w'=>e = .returned (.int .i64 (sz p))/\Below w.heap.size w w':=by
 have hf:=field0
 go_enter Tryz.func59,Tryz.ntmps59
 go_wp2_with (go_at_call 60;refine(kindOf_any _ _ h).mono ?_;rintro e w' ⟨rfl,hbl⟩)
 go_ret
 exact⟨rfl,hbl⟩
theorem max_any (p:Int) (w:World) (h:KT w):Calls Tryz.prog 38 #[.int .i64 p] w fun e w'=>e = .returned (.int .u64 (mx p))/\Below w.heap.size w w':=by
 have hf:=field4
 go_enter Tryz.func38,Tryz.ntmps38
 go_wp2_with (go_at_call 60;refine(kindOf_any _ _ h).mono ?_;rintro e w' ⟨rfl,hbl⟩)
 go_ret
 exact⟨rfl,hbl⟩
theorem dN {w:World} {n:Nat}:Below w.heap.size w (w.drewN n):=below_drewN (Below.refl _ _) n
theorem Room_any {w:World} {c g len cap st en:Nat} {hi:Bool} {f:Nat->Int} (h:Cs w c 0 g len cap st en hi f) :
  Calls Tryz.prog 22 #[.pointer (some ⟨c,0,none⟩)] w fun e w'=>e = .returned (.int .i64 ((len:Int)-en))/\∃ m,w'=w.drewN m:=by
 have c0:=h.buf
 have c2:=h.too
 have:=h.h2
 have:=h.h4
 go_enter Tryz.func22,Tryz.ntmps22
 go_wp2_with fail
 go_quiet (fail)
 go_wp2_with fail
 go_ret
 exact⟨rfl,_,rfl⟩
theorem holds_any {w:World} {c g len cap st en:Nat} {hi:Bool} {f:Nat->Int} (h:Cs w c 0 g len cap st en hi f) (at' n:Int) (h0:0<=n) (h1:n<=9223372036854775807) :
  Calls Tryz.prog 62 #[.pointer (some ⟨c,0,none⟩),.int .i64 at',.int .i64 n] w fun e w'=>e = .returned (.bool (inC st en at' n))/\w'=w:=by
 have c1:=h.fro
 have c2:=h.too
 have:=h.h2
 have:=h.h4
 by_cases hs:(st:Int)<=at'
 ·have e:inC st en at' n=decide (at'<=(en:Int)-n):=by unfold inC;exact decide_eq_decide.2 (by omega)
  rw[e]
  clear e
  go_enter Tryz.func62,Tryz.ntmps62
  go_wp2
  go_ret
  exact⟨rfl,rfl⟩
 ·rw[inC_no (by omega)]
  have hd:decide ((st:Int)<=at')=false:=decide_eq_false hs
  go_enter Tryz.func62,Tryz.ntmps62
  go_wp2
  go_ret
  exact⟨rfl,rfl⟩
theorem grow_any {w:World} {c g len cap st en:Nat} {hi:Bool} {f:Nat->Int} (h:Cs w c 0 g len cap st en hi f) (n:Nat) (hn:en+n<=len) :
  Calls Tryz.prog 43 #[.pointer (some ⟨c,0,none⟩),.int .i64 n] w fun e w'=>e = .returned (.int .i64 en)/\Cs w' c 0 g len cap st (en+n) hi f/\Cb c 0 g w w':=by
 have c2:=h.too
 have f2:=h.frz
 have:=h.h2
 have:=h.h4
 have:=h.lt
 have M:=h.moved (en+n) (by have:=h.h1;omega) hn
 have e:((en+n:Nat):Int)=(en:Int)+(n:Int):=by omega
 rw[e] at M
 clear h
 go_enter Tryz.func43,Tryz.ntmps43
 go_wp2
 go_ret
 exact⟨rfl,M⟩
theorem Claim_any {w:World} {c g len cap st en:Nat} {hi:Bool} {f:Nat->Int} (h:Cs w c 0 g len cap st en hi f) (n:Int) :
  Calls Tryz.prog 24 #[.pointer (some ⟨c,0,none⟩),.int .i64 n] w fun e w'=>e = .returned (.tuple #[.int .i64 (clP len en n),.int .i64 (clE len en n)])/\Cs w' c 0 g len cap st (clN len en n) hi f/\Cb c 0 g w w':=by
 have h2:=h.h2
 have h4:=h.h4
 unfold clP clN
 rcases clE_cases len en n with ⟨e,hn⟩|⟨e,hn,hr⟩|⟨e,hn,hr⟩
 ·rw[e]
  have H:Go.RowKit.Hid (Cs w c 0 g len cap st en hi f):=h
  clear h e
  go_enter Tryz.func24,Tryz.ntmps24
  go_wp2
  go_ret2
  exact⟨rfl,H.out,Cb.refl _ _ _ _⟩
 ·rw[e]
  have H:Go.RowKit.Hid (Cs w c 0 g len cap st en hi f):=h
  have R:=Room_any h
  clear h e
  go_enter Tryz.func24,Tryz.ntmps24
  go_wp2_with (go_at_call 22;refine R.mono ?_;rintro e w1 ⟨rfl,m,rfl⟩)
  go_ret2
  exact⟨rfl,H.out.below dN,Cb.of_below dN H.out.lt⟩
 ·rw[e]
  obtain⟨m,rfl⟩:∃ m:Nat,n=m:=⟨n.toNat,by omega⟩
  have R:=Room_any h
  have G:=fun n=>grow_any (h.below (dN (n:=n))) m (by omega)
  have hB:=fun n=>Cb.of_below (o:=0) (g:=g) (dN (w:=w) (n:=n)) h.lt
  clear h e
  go_enter Tryz.func24,Tryz.ntmps24
  go_wp2_with (first
   | (go_at_call 22;refine R.mono ?_;rintro e w1 ⟨rfl,m1,rfl⟩)
   | (go_at_call 43;refine(G _).mono ?_;rintro e w2 ⟨rfl,G1,G2⟩))
  go_ret2
  exact⟨rfl,G1,(hB _).trans G2⟩
theorem sz_toNat {p:Int} (h:sz p≠0):sz p=((sz p).toNat:Int)/\((sz p).toNat=1\/(sz p).toNat=2\/(sz p).toNat=4\/(sz p).toNat=8):=by
 have:=sz_cases p
 omega
theorem only_below {g:Nat} {w W w':World} (h:Only g w W) (hb:Below w.heap.size W w'):Only g w w' :=
 ⟨hb.os.trans h.os,hb.tape.trans h.tape,hb.output.trans h.output,Nat.le_trans h.size hb.size,fun k hk hg=>(hb.block k hk).trans (h.block k hk hg)⟩
theorem Put_cur {w:World} {c g len cap st en:Nat} {hi:Bool} {f:Nat->Int} (h:Cs w c 0 g len cap st en hi f) (kt:KT w) (at' p x:Int) (hp:sz p≠0) (hx0:0<=x) (hx1:x<18446744073709551616) (hf:fitsF (sz p) (rd p) x=true) (hin:inC st en at' (sz p)=true) {W:World} (hW:Below w.heap.size w W) :
  Calls Tryz.prog 63 #[.slice (some ⟨g,0,none⟩) len cap,.int .i64 at',.int .i64 p,.int .i64 (ordV hi),.int .u64 x] W fun e w'=>e = .returned (.int .i64 0)/\Only g W w'/\RowM w' g 5 cap (fun j=>.int .u8 (pb hi f at'.toNat p x j)):=by
 obtain⟨e1,e2⟩:=sz_toNat hp
 have hb:=inC_of hin
 have h2:=h.h2
 have h3:=h.h3
 have h4:=h.h4
 have hh:=h.below hW
 obtain⟨a,rfl⟩:∃ a:Nat,at'=a:=⟨at'.toNat,by omega⟩
 have ha:((a:Int)).toNat=a:=by omega
 rw[ha]
 refine(Put_ok g 0 len cap a p _ x hi (sz p).toNat W (kt.below kt.pos hW) rfl e1 e2 hx0 hx1 hf (fun j hj=>?_) (fun j hj=>?_) (by omega) (by omega) hh.row.lt).mono ?_
 ·rw[Nat.zero_add]
  exact⟨_,hh.row.cell (by omega)⟩
 ·exact hh.row.frozen (by omega)
 ·rintro _ w' ⟨rfl,hB⟩
  rw[Nat.zero_add] at hB
  have R1:=rowM_setBytes hi (sz p).toNat x a hh.row (sz p).toNat
  refine⟨rfl,only_below (only_setCells _ _ _ (Only.refl _ _)) hB,(R1.of_block (hB.block g hh.row.lt)).congr fun j _=>?_⟩
  unfold pb
  by_cases c1:a<=j/\j<a+(sz p).toNat
  ·rw[if_pos c1,if_pos c1]
  ·rw[if_neg c1,if_neg c1]
theorem PutCu_any {w:World} {c g len cap st en:Nat} {hi:Bool} {f:Nat->Int} (h:Cs w c 0 g len cap st en hi f) (kt:KT w) (at' p x:Int) (hx0:0<=x) (hx1:x<18446744073709551616) :
  Calls Tryz.prog 36 #[.pointer (some ⟨c,0,none⟩),.int .i64 at',.int .i64 p,.int .u64 x] w fun e w'=>e = .returned (.int .i64 (putE st en at' p x))/\Cs w' c 0 g len cap st en hi (putF hi st en f at' p x)/\Only g w w':=by
 unfold putF putE
 have S:=size_any p w kt
 have hsz:=sz_cases p
 have H:Go.RowKit.Hid (Cs w c 0 g len cap st en hi f):=h
 by_cases hp:sz p=0
 ·rw[if_pos hp,if_neg (by decide)]
  have hp':(sz p==0)=true:=by rw[hp];rfl
  clear hp h
  go_enter Tryz.func36,Tryz.ntmps36
  go_wp2_with (go_at_call 59;refine S.mono ?_;rintro e w1 ⟨rfl,hb1⟩)
  go_ret
  exact⟨rfl,H.out.below hb1,Only.of_below hb1⟩
 ·rw[if_neg hp]
  have hp':(sz p==0)=false:=by simpa using hp
  have F:=fun W hW=>Fits_any p x W (kt.below (w':=W) kt.pos hW) hx0 hx1
  have T:∀ {a b d:World},Below a.heap.size a b->Below b.heap.size b d->Below a.heap.size a d:=fun h1 h2=>h1.trans (h2.mono h1.size)
  by_cases hf:fitsF (sz p) (rd p) x=true
  ·rw[if_pos hf]
   have HO:=fun W hW=>holds_any (h.below (w':=W) hW) at' (sz p) (by omega) (by omega)
   by_cases hin:inC st en at' (sz p)=true
   ·rw[if_pos hin,if_pos rfl]
    have G:=fun W hW=>Put_cur h kt at' p x hp hx0 hx1 hf hin (W:=W) hW
    have B:=fun W hW=>(h.below (w':=W) hW).buf
    have O:=fun W hW=>(h.below (w':=W) hW).ord
    have z:=h.lt
    have zn:=h.ne
    rw[hin] at HO
    rw[hf] at F
    clear hin h hp hf
    go_enter Tryz.func36,Tryz.ntmps36
    go_wp2_with (first
     | (go_at_call 59;refine S.mono ?_;rintro e w1 ⟨rfl,hb1⟩)
     | (go_at_call 35;refine(F _ hb1).mono ?_;rintro e w2 ⟨rfl,hb2⟩;replace hb2:=T hb1 hb2;have B1:=B _ hb2;have O1:=O _ hb2)
     | (go_at_call 62;refine(HO _ hb2).mono ?_;rintro e w3 ⟨rfl,he⟩;replace he:=he.symm;subst he))
    go_region_held3 (fun X=>X.cell? ⟨c,0,none⟩=some (.slice (some ⟨g,0,none⟩) len cap)/\X.cell? ⟨c,3,none⟩=some (.int .i64 (ordV hi))) (first|assumption|(refine⟨?_,?_⟩<;>assumption)|go_keep) (first
     | (go_at_call 63;refine(G _ hb2.drew).mono ?_;rintro _ w4 ⟨rfl,hb4,hr4⟩;have B3:=(hb4.cell (p:=⟨c,0,none⟩) (Nat.lt_of_lt_of_le z hb2.size) zn).trans B1;have O3:=(hb4.cell (p:=⟨c,3,none⟩) (Nat.lt_of_lt_of_le z hb2.size) zn).trans O1))
    all_goals
     go_wp2_with fail
     go_ret
     have ho:Only g w w4:=⟨hb4.os.trans hb2.os,hb4.tape.trans hb2.tape,hb4.output.trans hb2.output,Nat.le_trans hb2.size hb4.size,fun k hk hg=>(hb4.block k (Nat.lt_of_lt_of_le hk hb2.size) hg).trans (hb2.block k hk)⟩
     exact⟨rfl,H.out.only ho hr4 (pb_bd hi H.out.bd _ _ _),ho⟩
   ·have hin':inC st en at' (sz p)=false:=by simpa using hin
    rw[if_neg hin,if_neg (by decide)]
    rw[hin'] at HO
    rw[hf] at F
    clear hin h hp hf
    go_enter Tryz.func36,Tryz.ntmps36
    go_wp2_with (first
     | (go_at_call 59;refine S.mono ?_;rintro e w1 ⟨rfl,hb1⟩)
     | (go_at_call 35;refine(F _ hb1).mono ?_;rintro e w2 ⟨rfl,hb2⟩;replace hb2:=T hb1 hb2)
     | (go_at_call 62;refine(HO _ hb2).mono ?_;rintro e w3 ⟨rfl,he⟩;replace he:=he.symm;subst he))
    go_ret
    exact⟨rfl,H.out.below hb2,Only.of_below hb2⟩
  ·have hf':fitsF (sz p) (rd p) x=false:=by simpa using hf
   rw[if_neg hf,if_neg (by decide)]
   rw[hf'] at F
   clear h hp hf hf'
   go_enter Tryz.func36,Tryz.ntmps36
   go_wp2_with (first
    | (go_at_call 59;refine S.mono ?_;rintro e w1 ⟨rfl,hb1⟩)
    | (go_at_call 35;refine(F _ hb1).mono ?_;rintro e w2 ⟨rfl,hb2⟩;replace hb2:=T hb1 hb2))
   go_ret
   exact⟨rfl,H.out.below hb2,Only.of_below hb2⟩
theorem PutChars_cur {w:World} {c g len cap st en:Nat} {hi:Bool} {f:Nat->Int} (h:Cs w c 0 g len cap st en hi f) (at' n:Int) (t:ByteArray) (hn:0<=n) (hin:inC st en at' n=true) {W:World} (hW:Below w.heap.size w W) :
  Calls Tryz.prog 103 #[.slice (some ⟨g,0,none⟩) len cap,.int .i64 at',.int .i64 n,.string t] W fun e w'=>e = .returned (.int .i64 (if (t.size:Int)<=n then 0 else 13))/\Only g W w'/\RowM w' g 5 cap (fun j=>.int .u8 ((if (t.size:Int)<=n then lay f at'.toNat n.toNat t else f) j)):=by
 have hb:=inC_of hin
 have h2:=h.h2
 have h4:=h.h4
 have hh:=h.below hW
 obtain⟨a,rfl⟩:∃ a:Nat,at'=a:=⟨at'.toNat,by omega⟩
 obtain⟨m,rfl⟩:∃ m:Nat,n=m:=⟨n.toNat,by omega⟩
 have ha:((a:Int)).toNat=a:=by omega
 have hm:((m:Int)).toNat=m:=by omega
 rw[ha,hm]
 by_cases hs:(t.size:Int)<=m
 ·rw[if_pos hs,if_pos hs]
  by_cases he:t.size=m
  ·subst he
   exact PutChars_eq g len cap a t f W hh.row (by omega) h.h3 (by omega)
  ·exact PutChars_lt g len cap a m t f W hh.row (by omega) h.h3 (by omega) (by omega)
 ·rw[if_neg hs,if_neg hs]
  refine(PutChars_long (some ⟨g,0,none⟩) len cap a m t W (by omega) (by omega) (inB_yes (by omega)) (by omega)).mono ?_
  rintro _ w' ⟨rfl,rfl⟩
  exact⟨rfl,Only.refl _ _,hh.row⟩
theorem setZ {st en:Nat} {at' n:Int} {t:ByteArray} {f:Nat->Int} (h0:¬ n<0) (hin:inC st en at' n=true):setE st en at' n t=(if (t.size:Int)<=n then 0 else 13)/\setF st en f at' n t=if (t.size:Int)<=n then lay f at'.toNat n.toNat t else f:=by
 unfold setF setE
 rw[if_neg h0,if_pos hin]
 refine⟨rfl,?_⟩
 by_cases hs:(t.size:Int)<=n
 ·rw[if_pos hs,if_pos hs,if_pos rfl]
 ·rw[if_neg hs,if_neg hs,if_neg (by decide)]
theorem setN {st en:Nat} {at' n:Int} {t:ByteArray} {f:Nat->Int} (h:n<0\/(¬ n<0/\inC st en at' n=false)):setE st en at' n t=(if n<0 then 1 else 171)/\setF st en f at' n t=f:=by
 unfold setF setE
 rcases h with h|⟨h,h2⟩
 ·rw[if_pos h,if_pos h,if_neg (by decide)];exact⟨rfl,rfl⟩
 ·rw[if_neg h,if_neg h,h2,if_neg (by decide),if_neg (by decide)];exact⟨rfl,rfl⟩
theorem SetCu_any {w:World} {c g len cap st en:Nat} {hi:Bool} {f:Nat->Int} (h:Cs w c 0 g len cap st en hi f) (at' n:Int) (t:ByteArray) (hn:n<=9223372036854775807) :
  Calls Tryz.prog 66 #[.pointer (some ⟨c,0,none⟩),.int .i64 at',.int .i64 n,.string t] w fun e w'=>e = .returned (.int .i64 (setE st en at' n t))/\Cs w' c 0 g len cap st en hi (setF st en f at' n t)/\Only g w w':=by
 have H:Go.RowKit.Hid (Cs w c 0 g len cap st en hi f):=h
 by_cases h0:n<0
 ·obtain⟨e1,e2⟩:=setN (f:=f) (t:=t) (st:=st) (en:=en) (at':=at') (.inl h0)
  rw[e1,e2,if_pos h0]
  clear h e1 e2
  go_enter Tryz.func66,Tryz.ntmps66
  go_wp2
  go_ret
  exact⟨rfl,H.out,Only.refl _ _⟩
 ·have HO:=holds_any h at' n (by omega) hn
  by_cases hin:inC st en at' n=true
  ·obtain⟨e1,e2⟩:=setZ (f:=f) (t:=t) h0 hin
   have G:=fun W hW=>PutChars_cur h at' n t (by omega) hin (W:=W) hW
   have Bd:∀ j,0<=setF st en f at' n t j/\setF st en f at' n t j<=255:=by
    rw[e2]
    split
    ·exact lay_bd h.bd _ _ _
    ·exact h.bd
   rw[<- e1,<- e2] at G
   generalize setE st en at' n t=E at G ⊢
   generalize setF st en f at' n t=F at G Bd ⊢
   have B:=h.buf
   have z:=h.lt
   have zn:=h.ne
   rw[hin] at HO
   clear hin h e1 e2
   go_enter Tryz.func66,Tryz.ntmps66
   go_wp2_with (first
    | (go_at_call 62;refine HO.mono ?_;rintro e w2 ⟨rfl,he⟩;replace he:=he.symm;subst he)
    | (go_at_call 103;refine(G _ (Below.refl _ _)).mono ?_;rintro _ w3 ⟨rfl,hb3,hr3⟩))
   go_ret
   exact⟨rfl,H.out.only hb3 hr3 Bd,hb3⟩
  ·have hin':inC st en at' n=false:=by simpa using hin
   obtain⟨e1,e2⟩:=setN (f:=f) (t:=t) (at':=at') (.inr ⟨h0,hin'⟩)
   rw[e1,e2,if_neg h0]
   rw[hin'] at HO
   clear hin h e1 e2 hin'
   go_enter Tryz.func66,Tryz.ntmps66
   go_wp2_with (first
    | (go_at_call 62;refine HO.mono ?_;rintro e w2 ⟨rfl,he⟩;replace he:=he.symm;subst he))
   go_ret
   exact⟨rfl,H.out,Only.refl _ _⟩
theorem isGood_any (size p off:Int) (w:World) (kt:KT w) (h1:1<=size) (h2:size<=65535) :
  Calls Tryz.prog 104 #[.agg #[.int .i64 p,.int .i64 off],.int .i64 size] w fun e w'=>e = .returned (.bool (goodB size p off))/\Below w.heap.size w w':=by
 have S:=fun W hW=>size_any p W (kt.below (w':=W) kt.pos hW)
 have hsz:=sz_cases p
 have hw:IntKind.i64.wrap (size-sz p)=size-sz p:=by rw[IntKind.wrap_i64];omega
 by_cases hp:p=5\/p=6\/p=7
 ·by_cases h0:0<=off
  ·have e:goodB size p off=decide (off<=size-sz p):=by unfold goodB;exact decide_eq_decide.2 (by omega)
   rw[e]
   clear e
   have hd:decide (0<=off)=true:=decide_eq_true h0
   have hq:(p==5)=true\/((p==5)=false/\(p==6)=true)\/((p==5)=false/\(p==6)=false/\(p==7)=true):=by rcases hp with rfl|rfl|rfl<;>simp
   clear hp
   rcases hq with d5|⟨d5,d6⟩|⟨d5,d6,d7⟩
   all_goals
    go_enter Tryz.func104,Tryz.ntmps104
    go_wp2_with fail
    go_region_held3 (fun X=>X.cell? ⟨w.heap.size,0,none⟩=some (.int .i64 p)/\X.cell? ⟨w.heap.size,1,none⟩=some (.int .i64 off)) (first|assumption|(refine⟨?_,?_⟩<;>assumption)|go_keep) (first
     | (go_at_call 59;refine(S _ (bel1 _ _).drew).mono ?_;rintro _ w3 ⟨rfl,hb3⟩;have B0:=hb3.cell (p:=⟨w.heap.size,0,none⟩) (by simp);have B1:=hb3.cell (p:=⟨w.heap.size,1,none⟩) (by simp)))
    all_goals
     go_wp2_with fail
     go_ret
     exact⟨rfl,(bel1 _ _).drew.trans (hb3.mono (by simp))⟩
  ·have e:goodB size p off=false:=by unfold goodB;exact decide_eq_false (by omega)
   rw[e]
   clear e
   have hd:decide (0<=off)=false:=decide_eq_false h0
   have hq:(p==5)=true\/((p==5)=false/\(p==6)=true)\/((p==5)=false/\(p==6)=false/\(p==7)=true):=by rcases hp with rfl|rfl|rfl<;>simp
   clear hp
   rcases hq with d5|⟨d5,d6⟩|⟨d5,d6,d7⟩
   all_goals
    go_enter Tryz.func104,Tryz.ntmps104
    go_wp2_with fail
    go_quiet (fail)
    go_wp2_with fail
    go_ret
    exact⟨rfl,below_drewN (bel1 _ _) _⟩
 ·have e:goodB size p off=false:=by unfold goodB;exact decide_eq_false (by omega)
  rw[e]
  clear e
  have d5:(p==5)=false:=by simp;omega
  have d6:(p==6)=false:=by simp;omega
  have d7:(p==7)=false:=by simp;omega
  go_enter Tryz.func104,Tryz.ntmps104
  go_wp2_with fail
  go_ret
  exact⟨rfl,bel1 _ _⟩
structure SpRow (w:World) (b:Nat) (l:List (Int×Int)):Prop where
 lt:b<w.heap.size
 p:∀ i s,l[i]?=some s->w.cell? ⟨b,i*2,none⟩=some (.int .i64 s.1)
 o:∀ i s,l[i]?=some s->w.cell? ⟨b,i*2+1,none⟩=some (.int .i64 s.2)
theorem SpRow.below {w w':World} {b:Nat} {l:List (Int×Int)} (h:SpRow w b l) (hb:Below w.heap.size w w'):SpRow w' b l :=
 ⟨Nat.lt_of_lt_of_le h.lt hb.size,fun i s hs=>(hb.cell (p:=⟨b,i*2,none⟩) h.lt).trans (h.p i s hs),fun i s hs=>(hb.cell (p:=⟨b,i*2+1,none⟩) h.lt).trans (h.o i s hs)⟩
theorem areGood_any (size:Int) (b cap:Nat) (l:List (Int×Int)) (w:World) (kt:KT w) (h:SpRow w b l) (hl:l.length<=4) :
  Calls Tryz.prog 67 #[.int .i64 size,.slice (some ⟨b,0,none⟩) l.length cap] w fun e w'=>e = .returned (.bool (goods size l))/\Below w.heap.size w w':=by
 by_cases hs:1<=size/\size<=65535
 ·have e:goods size l=l.all fun s=>goodB size s.1 s.2:=by unfold goods;rw[decide_eq_true hs];rfl
  rw[e]
  clear e
  obtain⟨h1,h2⟩:=hs
  have H:Go.RowKit.Hid (SpRow w b l):=h
  have K:Go.RowKit.Hid (KT w):=kt
  clear h kt
  go_enter Tryz.func67,Tryz.ntmps67
  go_wp2_with fail
  go_loopw [15] (fun i wr=>∃ k:Nat,k<=l.length/\i = .int .i64 k/\Below w.heap.size w wr/\(l.take k).all (fun s=>goodB size s.1 s.2)=true) (fun i _=>l.length-(intOf i).toNat)
  case atStart=>exact⟨0,Nat.zero_le _,rfl,Below.refl _ _,rfl⟩
  case round =>
   obtain⟨k,hk,rfl,HB,HG⟩:=hrel
   by_cases hlt:k<l.length
   ·obtain⟨s,hs⟩:∃ s,l[k]?=some s:=⟨l[k],List.getElem?_eq_getElem hlt⟩
    have c0:=(H.out.below HB).p k s hs
    have c1:=(H.out.below HB).o k s hs
    have hlt':(k:Int)<(l.length:Int):=by omega
    have G:=fun W (hW:Below w.heap.size w W)=>isGood_any size s.1 s.2 W (K.out.below K.out.pos hW) h1 h2
    have T:Go.RowKit.Hid ((l.take (k+1)).all (fun s=>goodB size s.1 s.2)=goodB size s.1 s.2):=by
     show (l.take (k+1)).all (fun s=>goodB size s.1 s.2)=goodB size s.1 s.2
     rw[List.take_add_one,List.all_append,HG,hs]
     simp
    have A:Go.RowKit.Hid (goodB size s.1 s.2=false->l.all (fun s=>goodB size s.1 s.2)=false):=fun e=>by
     rw[Bool.eq_false_iff]
     intro e2
     have:=List.all_eq_true.1 e2 s (List.mem_of_getElem? hs)
     rw[e] at this
     cases this
    cases hg:goodB size s.1 s.2 with
    | true =>
     rw[hg] at G T
     clear hg A HG hs
     go_wp2_with (go_at_call 104;refine(G _ (HB.alloc HB.size _)).mono ?_;rintro e wc ⟨rfl,hbl⟩)
     go_roundw
     case rel=>exact⟨k+1,by omega,by go_num,(HB.alloc HB.size _).trans (hbl.mono (HB.alloc HB.size _).size),T.out⟩
     case measure=>simp[intOf];omega
    | false =>
     rw[hg] at G
     have A2:Go.RowKit.Hid (l.all (fun s=>goodB size s.1 s.2)=false):=A.out hg
     clear hg T A HG hs
     go_wp2_with (go_at_call 104;refine(G _ (HB.alloc HB.size _)).mono ?_;rintro e wc ⟨rfl,hbl⟩)
     go_ret
     exact⟨ret_bool A2.out.symm,(HB.alloc HB.size _).trans (hbl.mono (HB.alloc HB.size _).size)⟩
   ·obtain rfl:k=l.length:=by omega
    rw[List.take_length] at HG
    replace HG:Go.RowKit.Hid _:=HG
    go_wp2
    go_ret
    exact⟨ret_bool HG.out.symm,HB⟩
 ·have e:goods size l=false:=by unfold goods;rw[decide_eq_false hs];rfl
  rw[e]
  clear e h
  by_cases h1:size<1
  ·go_enter Tryz.func67,Tryz.ntmps67
   go_wp2_with fail
   go_ret
   exact⟨rfl,Below.refl _ _⟩
  ·have h2:65535<size:=by omega
   go_enter Tryz.func67,Tryz.ntmps67
   go_wp2_with fail
   go_ret
   exact⟨rfl,Below.refl _ _⟩
theorem beq_ba {a b:ByteArray} (h:a≠b):(a.toList==b.toList)=false :=
 beq_eq_false_iff_ne.2 fun e=>h (by
  rw[ByteArray.toList_eq,ByteArray.toList_eq] at e
  exact ByteArray.ext (Array.toList_inj.1 e))
structure Hd where
 size:Int
 b:Sp
 t:Sp
 s:Sp
 v:Sp
abbrev hdV (h:Hd):Value:=.agg #[.int .i64 h.size,.int .i64 h.b.p,.int .i64 h.b.o,.int .i64 h.t.p,.int .i64 h.t.o,.int .i64 h.s.p,.int .i64 h.s.o,.int .i64 h.v.p,.int .i64 h.v.o]
def hdS (h:Hd):List (Int×Int):=[(h.b.p,h.b.o),(h.t.p,h.t.o),(h.s.p,h.s.o),(h.v.p,h.v.o)]
def headG (h:Hd):Bool:=goods h.size (hdS h)
def dimG (t:Tk):Bool:=decide (t.op=4)&&goods t.siz [(t.a.p,t.a.o),(t.b.p,t.b.o)]
def lenG (t:Tk):Bool:=decide (t.op=6)&&goods t.siz [(t.a.p,t.a.o)]
theorem sp_new (w:World) (l:List (Int×Int)) (cs:Array Value) (ty:TypeId) (h:∀ i s,l[i]?=some s->cs[i*2]?=some (.int .i64 s.1)/\cs[i*2+1]?=some (.int .i64 s.2)):SpRow (w.alloc (.cells cs ty)) w.heap.size l :=
 ⟨by simp,fun i s hs=>(cell_at (heap_al _ _) _).trans (h i s hs).1,fun i s hs=>(cell_at (heap_al _ _) _).trans (h i s hs).2⟩
theorem sp_new4 (w:World) (a b c d:Int×Int) (ty:TypeId):SpRow (w.alloc (.cells #[.int .i64 a.1,.int .i64 a.2,.int .i64 b.1,.int .i64 b.2,.int .i64 c.1,.int .i64 c.2,.int .i64 d.1,.int .i64 d.2] ty)) w.heap.size [a,b,c,d] :=
 sp_new w _ _ ty fun i s hs=>by
  have hi:i<4:=(List.getElem?_eq_some_iff.1 hs).1
  have:i=0\/i=1\/i=2\/i=3:=by omega
  rcases this with rfl|rfl|rfl|rfl<;>cases Option.some.inj hs<;>exact⟨rfl,rfl⟩
theorem sp_new2 (w:World) (a b:Int×Int) (ty:TypeId):SpRow (w.alloc (.cells #[.int .i64 a.1,.int .i64 a.2,.int .i64 b.1,.int .i64 b.2] ty)) w.heap.size [a,b] :=
 sp_new w _ _ ty fun i s hs=>by
  have hi:i<2:=(List.getElem?_eq_some_iff.1 hs).1
  have:i=0\/i=1:=by omega
  rcases this with rfl|rfl<;>cases Option.some.inj hs<;>exact⟨rfl,rfl⟩
theorem sp_new1 (w:World) (a:Int×Int) (ty:TypeId):SpRow (w.alloc (.cells #[.int .i64 a.1,.int .i64 a.2] ty)) w.heap.size [a] :=
 sp_new w _ _ ty fun i s hs=>by
  have hi:i<1:=(List.getElem?_eq_some_iff.1 hs).1
  have:i=0:=by omega
  subst this
  cases Option.some.inj hs
  exact⟨rfl,rfl⟩
theorem sp_new4' {w:World} {a b c d:Int×Int} {ty:TypeId} {g:Nat} (hg:w.heap.size=g):SpRow (w.alloc (.cells #[.int .i64 a.1,.int .i64 a.2,.int .i64 b.1,.int .i64 b.2,.int .i64 c.1,.int .i64 c.2,.int .i64 d.1,.int .i64 d.2] ty)) g [a,b,c,d]:=hg▸sp_new4 w a b c d ty
theorem sp_new2' {w:World} {a b:Int×Int} {ty:TypeId} {g:Nat} (hg:w.heap.size=g):SpRow (w.alloc (.cells #[.int .i64 a.1,.int .i64 a.2,.int .i64 b.1,.int .i64 b.2] ty)) g [a,b]:=hg▸sp_new2 w a b ty
theorem sp_new1' {w:World} {a:Int×Int} {ty:TypeId} {g:Nat} (hg:w.heap.size=g):SpRow (w.alloc (.cells #[.int .i64 a.1,.int .i64 a.2] ty)) g [a]:=hg▸sp_new1 w a ty
theorem bel2 (w:World) (a b:Obj):Below w.heap.size w ((w.alloc a).alloc b):=(bel1 w a).trans ((bel1 (w.alloc a) b).mono (bel1 w a).size)
theorem belT {a b d:World} (h1:Below a.heap.size a b) (h2:Below b.heap.size b d):Below a.heap.size a d:=h1.trans (h2.mono h1.size)
theorem isHead_any (h:Hd) (w:World) (kt:KT w):Calls Tryz.prog 41 #[hdV h] w fun e w'=>e = .returned (.bool (headG h))/\Below w.heap.size w w':=by
 have G:=fun W (hW:Below w.heap.size w W) b (hs:SpRow W b (hdS h))=>areGood_any h.size b 4 (hdS h) W (kt.below kt.pos hW) hs (by simp[hdS])
 have hl:(hdS h).length=4:=rfl
 rw[hl] at G
 go_enter Tryz.func41,Tryz.ntmps41
 go_wp2_with (go_at_call 67;refine(G _ (bel2 _ _ _) (w.heap.size+1) (sp_new4' (by simp))).mono ?_;rintro e w1 ⟨rfl,hb1⟩)
 go_ret
 exact⟨rfl,belT (bel2 _ _ _) hb1⟩
theorem isDim_any (t:Tk) (pc:Option Addr) (cc:Nat) (w:World) (kt:KT w):Calls Tryz.prog 64 #[tkV t pc cc] w fun e w'=>e = .returned (.bool (dimG t))/\Below w.heap.size w w':=by
 unfold dimG
 by_cases h4:t.op=4
 ·rw[decide_eq_true h4,Bool.true_and]
  have d4:(t.op==4)=true:=by simp[h4]
  clear h4
  have G:=fun W (hW:Below w.heap.size w W) b (hs:SpRow W b [(t.a.p,t.a.o),(t.b.p,t.b.o)])=>areGood_any t.siz b 2 [(t.a.p,t.a.o),(t.b.p,t.b.o)] W (kt.below kt.pos hW) hs (by simp)
  have hl:[(t.a.p,t.a.o),(t.b.p,t.b.o)].length=2:=rfl
  rw[hl] at G
  go_enter Tryz.func64,Tryz.ntmps64
  go_wp2_with (go_at_call 67;refine(G _ (bel2 _ _ _) (w.heap.size+1) (sp_new2' (by simp))).mono ?_;rintro e w1 ⟨rfl,hb1⟩)
  go_ret
  exact⟨rfl,belT (bel2 _ _ _) hb1⟩
 ·rw[decide_eq_false h4,Bool.false_and]
  have d4:(t.op==4)=false:=by simpa using h4
  clear h4
  go_enter Tryz.func64,Tryz.ntmps64
  go_wp2_with fail
  go_ret
  exact⟨rfl,bel1 _ _⟩
theorem isLen_any (t:Tk) (pc:Option Addr) (cc:Nat) (w:World) (kt:KT w):Calls Tryz.prog 65 #[tkV t pc cc] w fun e w'=>e = .returned (.bool (lenG t))/\Below w.heap.size w w':=by
 unfold lenG
 by_cases h4:t.op=6
 ·rw[decide_eq_true h4,Bool.true_and]
  have d4:(t.op==6)=true:=by simp[h4]
  clear h4
  have G:=fun W (hW:Below w.heap.size w W) b (hs:SpRow W b [(t.a.p,t.a.o)])=>areGood_any t.siz b 1 [(t.a.p,t.a.o)] W (kt.below kt.pos hW) hs (by simp)
  have hl:[(t.a.p,t.a.o)].length=1:=rfl
  rw[hl] at G
  go_enter Tryz.func65,Tryz.ntmps65
  go_wp2_with (go_at_call 67;refine(G _ (bel2 _ _ _) (w.heap.size+1) (sp_new1' (by simp))).mono ?_;rintro e w1 ⟨rfl,hb1⟩)
  go_ret
  exact⟨rfl,belT (bel2 _ _ _) hb1⟩
 ·rw[decide_eq_false h4,Bool.false_and]
  have d4:(t.op==6)=false:=by simpa using h4
  clear h4
  go_enter Tryz.func65,Tryz.ntmps65
  go_wp2_with fail
  go_ret
  exact⟨rfl,bel1 _ _⟩
end C
end Go.Proofs.YtjlbcdnkglaheaaGreatDoor
