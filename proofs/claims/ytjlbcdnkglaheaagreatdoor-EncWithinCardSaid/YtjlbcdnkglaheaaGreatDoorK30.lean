import Derived.Test.YtjlbcdnkglaheaaGreatDoorK29
namespace Go.Proofs.YtjlbcdnkglaheaaGreatDoor
set_option maxRecDepth 1000000
set_option maxHeartbeats 16000000
open Go.ChangeShapes Go.WideShapes Go.ChangeAt Go.RowKit
namespace C
structure NbRow (w:World) (b:Nat) (l:List Nb):Prop where
 lt:b<w.heap.size
 p:∀ i s,l[i]?=some s->w.cell? ⟨b,i*3,none⟩=some (.int .i64 s.p)
 o:∀ i s,l[i]?=some s->w.cell? ⟨b,i*3+1,none⟩=some (.int .i64 s.off)
 v:∀ i s,l[i]?=some s->w.cell? ⟨b,i*3+2,none⟩=some (.int .u64 s.v)
theorem NbRow.below {w w':World} {b:Nat} {l:List Nb} (h:NbRow w b l) (hb:Below w.heap.size w w'):NbRow w' b l :=
 ⟨Nat.lt_of_lt_of_le h.lt hb.size,fun i s hs=>(hb.cell (p:=⟨b,i*3,none⟩) h.lt).trans (h.p i s hs),fun i s hs=>(hb.cell (p:=⟨b,i*3+1,none⟩) h.lt).trans (h.o i s hs),fun i s hs=>(hb.cell (p:=⟨b,i*3+2,none⟩) h.lt).trans (h.v i s hs)⟩
theorem NbRow.other {w w':World} {b:Nat} {l:List Nb} {c o g:Nat} (h:NbRow w b l) (hb:Cb c o g w w') (h1:b≠c) (h2:b≠g):NbRow w' b l :=
 ⟨Nat.lt_of_lt_of_le h.lt hb.size,fun i s hs=>(hb.at h.lt h1 h2).trans (h.p i s hs),fun i s hs=>(hb.at h.lt h1 h2).trans (h.o i s hs),fun i s hs=>(hb.at h.lt h1 h2).trans (h.v i s hs)⟩
structure NbOk (ns:List Nb):Prop where
 off:∀ n∈ns,0<=n.off/\n.off<=65535
 v:∀ n∈ns,0<=n.v/\n.v<18446744073709551616
theorem over_take {ns:List Nb} {k:Nat} {n:Nb} (hk:ns[k]?=some n) (h:over (ns.take k)=false):over (ns.take (k+1))=decide (mx n.p<n.v):=by
 unfold over at h ⊢
 rw[List.take_add_one,List.any_append,h,hk]
 simp
theorem over_mem {ns:List Nb} {k:Nat} {n:Nb} (hk:ns[k]?=some n) (h:mx n.p<n.v):over ns=true:=by
 unfold over
 exact List.any_eq_true.2 ⟨n,List.mem_of_getElem? hk,decide_eq_true h⟩
theorem puts_take {hi:Bool} {st en b:Nat} {f:Nat->Int} {ns:List Nb} {k:Nat} {n:Nb} (hk:ns[k]?=some n):puts hi st en b f (ns.take (k+1))=putF hi st en (puts hi st en b f (ns.take k)) (b+n.off) n.p n.v:=by
 unfold puts
 rw[List.take_add_one,List.foldl_append,hk]
 rfl
theorem setE_zero {st en a n:Nat} {f:Nat->Int} (h1:st<=a) (h2:a+n<=en):setE st en a n ByteArray.empty=0/\setF st en f a n ByteArray.empty=lay f a n ByteArray.empty:=by
 obtain⟨e1,e2⟩:=setZ (st:=st) (en:=en) (at':=a) (n:=n) (t:=ByteArray.empty) (f:=f) (by omega) (inC_yes (by omega))
 have e3:((ByteArray.empty.size:Nat):Int)<=(n:Int):=by show ((0:Nat):Int)<=n;omega
 rw[e1,e2,if_pos e3,if_pos e3]
 exact⟨rfl,rfl⟩
theorem write_any {w:World} {c g len cap st en:Nat} {hi:Bool} {f:Nat->Int} (h:Cs w c 0 g len cap st en hi f) (kt:KT w) (zc:0<c) (zg:0<g) (size:Int) (ns:List Nb) (b bc:Nat) (hr:NbRow w b ns) (hn:NbOk ns) (hl:ns.length<=4) (h1:b≠c) (h2:b≠g) (hs:1<=size) (hs2:size<=65535) :
  Calls Tryz.prog 42 #[.pointer (some ⟨c,0,none⟩),.int .i64 size,.slice (some ⟨b,0,none⟩) ns.length bc] w fun e w'=>e = .returned (.int .i64 (wrE len en size ns))/\Cs w' c 0 g len cap st (wrN len en size ns) hi (wrF hi len st en f size ns)/\Cb c 0 g w w':=by
 have H:Go.RowKit.Hid (Cs w c 0 g len cap st en hi f):=h
 have HR:Go.RowKit.Hid (NbRow w b ns):=hr
 have K:Go.RowKit.Hid (KT w):=kt
 have HN:Go.RowKit.Hid (NbOk ns):=hn
 clear h hr kt hn
 go_enter Tryz.func42,Tryz.ntmps42
 go_wp2_with fail
 go_loopw [15] (fun i wr=>∃ k:Nat,k<=ns.length/\i = .int .i64 k/\Below w.heap.size w wr/\over (ns.take k)=false) (fun i _=>ns.length-(intOf i).toNat)
 case atStart=>exact⟨0,Nat.zero_le _,rfl,Below.refl _ _,rfl⟩
 case round =>
  obtain⟨k,hk,rfl,HB,HG⟩:=hrel
  by_cases hlt:k<ns.length
  ·obtain⟨n,hs⟩:∃ s,ns[k]?=some s:=⟨ns[k],List.getElem?_eq_getElem hlt⟩
   have c0:=(HR.out.below HB).p k n hs
   have c1:=(HR.out.below HB).o k n hs
   have c2:=(HR.out.below HB).v k n hs
   have hlt':(k:Int)<(ns.length:Int):=by omega
   have M:=fun W (hW:Below w.heap.size w W)=>max_any n.p W (K.out.below K.out.pos hW)
   have T:Go.RowKit.Hid (over (ns.take (k+1))=decide (mx n.p<n.v)):=over_take hs HG
   have A:Go.RowKit.Hid (mx n.p<n.v->over ns=true):=over_mem hs
   have HB2:Go.RowKit.Hid (Below w.heap.size w wr):=HB
   clear HG hs
   by_cases hv:mx n.p<n.v
   ·have hd:decide (mx n.p<n.v)=true:=decide_eq_true hv
    have A2:Go.RowKit.Hid (over ns=true):=A.out hv
    clear A T HB
    go_wp2_with fail
    go_region_held3 (fun X=>X.cell? ⟨wr.heap.size,0,none⟩=some (.int .i64 n.p)/\X.cell? ⟨wr.heap.size,2,none⟩=some (.int .u64 n.v)) (first|assumption|(refine⟨?_,?_⟩<;>assumption)|go_keep) (first
     | (go_at_call 38;refine(M _ (HB2.out.alloc HB2.out.size _).drew).mono ?_;rintro _ w3 ⟨rfl,hb3⟩;have B0:=hb3.cell (p:=⟨wr.heap.size,0,none⟩) (by simp);have B2:=hb3.cell (p:=⟨wr.heap.size,2,none⟩) (by simp)))
    all_goals
     go_wp2_with fail
     go_ret
     have hB4:=(HB2.out.alloc HB2.out.size _).drew.trans (hb3.mono (HB2.out.alloc HB2.out.size _).drew.size)
     have e1:wrE len en size ns=12:=by unfold wrE;rw[A2.out];rfl
     refine⟨ret_int e1.symm,?_,Cb.of_below hB4 H.out.lt⟩
     unfold wrN wrF
     rw[e1,if_neg (by decide),if_neg (by decide)]
     exact H.out.below hB4
   ·have hd:decide (mx n.p<n.v)=false:=decide_eq_false hv
    rw[hd] at T
    clear A HB
    go_wp2_with fail
    go_region_held3 (fun X=>X.cell? ⟨wr.heap.size,0,none⟩=some (.int .i64 n.p)/\X.cell? ⟨wr.heap.size,2,none⟩=some (.int .u64 n.v)) (first|assumption|(refine⟨?_,?_⟩<;>assumption)|go_keep) (first
     | (go_at_call 38;refine(M _ (HB2.out.alloc HB2.out.size _).drew).mono ?_;rintro _ w3 ⟨rfl,hb3⟩;have B0:=hb3.cell (p:=⟨wr.heap.size,0,none⟩) (by simp);have B2:=hb3.cell (p:=⟨wr.heap.size,2,none⟩) (by simp)))
    all_goals
     go_wp2_with fail
     go_roundw
     case rel=>exact⟨k+1,by omega,by go_num,(HB2.out.alloc HB2.out.size _).drew.trans (hb3.mono (HB2.out.alloc HB2.out.size _).drew.size),T.out⟩
     case measure=>simp[intOf];omega
  ·obtain rfl:k=ns.length:=by omega
   rw[List.take_length] at HG
   have A:Go.RowKit.Hid (over ns=false):=HG
   clear HG
   have C:=Claim_any (H.out.below HB) size
   rcases clE_cases len en size with ⟨e,hq⟩|⟨e,hq⟩|⟨e,hq0,hq⟩
   ·omega
   ·unfold clP clN at C
    rw[e,if_neg (by decide),if_neg (by decide)] at C
    have e1:Go.RowKit.Hid (wrE len en size ns=11):=by show wrE len en size ns=11;unfold wrE;rw[A.out];exact e
    have HB2:Go.RowKit.Hid (Below w.heap.size w wr):=HB
    clear e A HB
    go_wp2_with (first|(go_at_call 24;refine C.mono ?_;rintro e w2 ⟨rfl,C2,C3⟩))
    go_ret
    refine⟨ret_int e1.out.symm,?_,(Cb.of_below HB2.out H.out.lt).trans C3⟩
    unfold wrN wrF
    rw[e1.out,if_neg (by decide),if_neg (by decide)]
    exact C2
   ·unfold clP clN at C
    rw[e,if_pos rfl,if_pos rfl] at C
    have E0:Go.RowKit.Hid (clE len en size=0):=e
    clear e
    obtain⟨m,hm⟩:∃ m:Nat,size=m:=⟨size.toNat,by omega⟩
    subst hm
    have em:((m:Int)).toNat=m:=by omega
    rw[em] at C
    have hst:=H.out.h1
    have S1:=setE_zero (f:=f) (st:=st) (en:=en+m) (a:=en) (n:=m) hst (Nat.le_refl _)
    have S:=fun W (hW:Cs W c 0 g len cap st (en+m) hi f)=>SetCu_any hW en m ByteArray.empty (by omega)
    rw[S1.1,S1.2] at S
    clear S1 em
    have D:Go.RowKit.Hid (∀ w2,Cs w2 c 0 g len cap st (en+m) hi f->Cb c 0 g wr w2->∀ w3,Cs w3 c 0 g len cap st (en+m) hi (lay f en m ByteArray.empty)->Only g w2 w3->Cb c 0 g w w3):=fun w2 q1 q2 w3 _ q4=>(Cb.of_below HB H.out.lt).trans (q2.trans (Cb.of_only q4 q1.lt q1.ne))
    clear HB
    go_wp2_with (first|(go_at_call 24;refine C.mono ?_;rintro e w2 ⟨rfl,C2,C3⟩)|(go_at_call 66;refine(S _ C2).mono ?_;rintro e w3 ⟨rfl,C4,C5⟩;replace D:=D.out w2 C2 C3 w3 C4 C5;clear C S C2 C3 C5))
    have W0:Go.RowKit.Hid (wrE len en (m:Int) ns=0):=by show wrE len en (m:Int) ns=0;unfold wrE;rw[A.out];exact E0.out
    replace C4:Go.RowKit.Hid _:=C4
    replace D:Go.RowKit.Hid _:=D
    clear A E0
    generalize hF:lay f en m ByteArray.empty=F0 at C4
    replace hF:Go.RowKit.Hid _:=hF
    have hll:=H.out.h4
    go_loopw [42] (fun i wz=>∃ k:Nat,k<=ns.length/\i = .int .i64 k/\Cs wz c 0 g len cap st (en+m) hi (puts hi st (en+m) en F0 (ns.take k))/\Cb c 0 g w wz) (fun i _=>ns.length-(intOf i).toNat)
    case atStart=>exact⟨0,Nat.zero_le _,rfl,C4.out,D.out⟩
    case round =>
     clear C4 D
     obtain⟨k,hk,rfl,X1,X2⟩:=hrel
     by_cases hlt:k<ns.length
     ·obtain⟨n,hs⟩:∃ s,ns[k]?=some s:=⟨ns[k],List.getElem?_eq_getElem hlt⟩
      have R:=HR.out.other X2 h1 h2
      rename World=>wz
      have c0:=R.p k n hs
      have c1:=R.o k n hs
      have c2:=R.v k n hs
      have hlt':(k:Int)<(ns.length:Int):=by omega
      have n1:=HN.out.off n (List.mem_of_getElem? hs)
      have n2:=HN.out.v n (List.mem_of_getElem? hs)
      have hw:IntKind.i64.wrap ((en:Int)+n.off)=(en:Int)+n.off:=by rw[IntKind.wrap_i64];omega
      have KZ:=X2.kt K.out zc zg
      have P:=fun W (hW:Below wz.heap.size wz W)=>PutCu_any (X1.below hW) (KZ.below KZ.pos hW) (en+n.off) n.p n.v n2.1 n2.2
      rw[<- puts_take hs] at P
      have Z:Go.RowKit.Hid (∀ W,Below wz.heap.size wz W->∀ w',Only g W w'->Cb c 0 g w w'):=fun W hW w' hO=>X2.trans ((Cb.of_below hW X1.lt).trans (Cb.of_only hO (Nat.lt_of_lt_of_le X1.lt hW.size) X1.ne))
      clear hs R X1 X2 KZ
      go_wp2_with (go_at_call 36;refine(P _ (bel1 _ _)).mono ?_;rintro e w5 ⟨rfl,P1,P2⟩)
      go_roundw
      case rel=>exact⟨k+1,by omega,by go_num,P1,Z.out _ (bel1 _ _) _ P2⟩
      case measure=>simp[intOf];omega
     ·obtain rfl:k=ns.length:=by omega
      rw[List.take_length] at X1
      replace X1:Go.RowKit.Hid _:=X1
      replace X2:Go.RowKit.Hid _:=X2
      go_wp2
      go_ret
      refine⟨ret_int W0.out.symm,?_,X2.out⟩
      unfold wrN wrF
      rw[if_pos W0.out,if_pos W0.out,show ((m:Int)).toNat=m by omega,hF.out]
      exact X1.out
def told (vs:List Int) (k j:Nat):Int:=if j<k then vs.getD j 0 else 0
structure Four where
 a:Int
 b:Int
 c:Int
 d:Int
structure FourOk (v:Four):Prop where
 a:0<=v.a/\v.a<18446744073709551616
 b:0<=v.b/\v.b<18446744073709551616
 c:0<=v.c/\v.c<18446744073709551616
 d:0<=v.d/\v.d<18446744073709551616
abbrev fourV (v:Four):Value:=.agg #[.int .u64 v.a,.int .u64 v.b,.int .u64 v.c,.int .u64 v.d]
def hdN (h:Hd) (v:Four):List Nb:=[⟨h.b.p,h.b.o,v.a⟩,⟨h.t.p,h.t.o,v.b⟩,⟨h.s.p,h.s.o,v.c⟩,⟨h.v.p,h.v.o,v.d⟩]
def pwE (g:Bool) (len en:Nat) (size:Int) (ns:List Nb):Int:=if g then wrE len en size ns else 1
def pwN (g:Bool) (len en:Nat) (size:Int) (ns:List Nb):Nat:=if g then wrN len en size ns else en
def pwF (g:Bool) (hi:Bool) (len st en:Nat) (f:Nat->Int) (size:Int) (ns:List Nb):Nat->Int:=if g then wrF hi len st en f size ns else f
theorem goods_ok {size:Int} {l:List (Int×Int)} (h:goods size l=true):(1<=size/\size<=65535)/\∀ s∈l,goodB size s.1 s.2=true:=by
 unfold goods at h
 rw[Bool.and_eq_true] at h
 exact⟨of_decide_eq_true h.1,fun s hs=>List.all_eq_true.1 h.2 s hs⟩
theorem goodB_ok {size p off:Int} (h:goodB size p off=true):(p=5\/p=6\/p=7)/\0<=off/\off<=size-sz p:=of_decide_eq_true h
theorem goodB_off {size p off:Int} (h:goodB size p off=true) (hs:size<=65535):0<=off/\off<=65535:=by
 have:=goodB_ok h
 have:=sz_cases p
 omega
theorem nb_new (w:World) (l:List Nb) (cs:Array Value) (ty:TypeId) (h:∀ i s,l[i]?=some s->cs[i*3]?=some (.int .i64 s.p)/\cs[i*3+1]?=some (.int .i64 s.off)/\cs[i*3+2]?=some (.int .u64 s.v)) {g:Nat} (hg:w.heap.size=g):NbRow (w.alloc (.cells cs ty)) g l:=by
 subst hg
 exact⟨by simp,fun i s hs=>(cell_at (heap_al _ _) _).trans (h i s hs).1,fun i s hs=>(cell_at (heap_al _ _) _).trans (h i s hs).2.1,fun i s hs=>(cell_at (heap_al _ _) _).trans (h i s hs).2.2⟩
theorem nb_new4 {w:World} {a b c d:Nb} {ty:TypeId} {g:Nat} (hg:w.heap.size=g):NbRow (w.alloc (.cells #[.int .i64 a.p,.int .i64 a.off,.int .u64 a.v,.int .i64 b.p,.int .i64 b.off,.int .u64 b.v,.int .i64 c.p,.int .i64 c.off,.int .u64 c.v,.int .i64 d.p,.int .i64 d.off,.int .u64 d.v] ty)) g [a,b,c,d] :=
 nb_new w _ _ ty (fun i s hs=>by
  have hi:i<4:=(List.getElem?_eq_some_iff.1 hs).1
  have:i=0\/i=1\/i=2\/i=3:=by omega
  rcases this with rfl|rfl|rfl|rfl<;>cases Option.some.inj hs<;>exact⟨rfl,rfl,rfl⟩) hg
theorem nb_new2 {w:World} {a b:Nb} {ty:TypeId} {g:Nat} (hg:w.heap.size=g):NbRow (w.alloc (.cells #[.int .i64 a.p,.int .i64 a.off,.int .u64 a.v,.int .i64 b.p,.int .i64 b.off,.int .u64 b.v] ty)) g [a,b] :=
 nb_new w _ _ ty (fun i s hs=>by
  have hi:i<2:=(List.getElem?_eq_some_iff.1 hs).1
  have:i=0\/i=1:=by omega
  rcases this with rfl|rfl<;>cases Option.some.inj hs<;>exact⟨rfl,rfl,rfl⟩) hg
theorem nb_new1 {w:World} {a:Nb} {ty:TypeId} {g:Nat} (hg:w.heap.size=g):NbRow (w.alloc (.cells #[.int .i64 a.p,.int .i64 a.off,.int .u64 a.v] ty)) g [a] :=
 nb_new w _ _ ty (fun i s hs=>by
  have hi:i<1:=(List.getElem?_eq_some_iff.1 hs).1
  have:i=0:=by omega
  subst this
  cases Option.some.inj hs
  exact⟨rfl,rfl,rfl⟩) hg
theorem PutHead_any {w:World} {c g len cap st en:Nat} {hi:Bool} {f:Nat->Int} (h:Cs w c 0 g len cap st en hi f) (kt:KT w) (zc:0<c) (zg:0<g) (d:Hd) (v:Four) (hv:FourOk v) :
  Calls Tryz.prog 23 #[.pointer (some ⟨c,0,none⟩),hdV d,fourV v] w fun e w'=>e = .returned (.int .i64 (pwE (headG d) len en d.size (hdN d v)))/\Cs w' c 0 g len cap st (pwN (headG d) len en d.size (hdN d v)) hi (pwF (headG d) hi len st en f d.size (hdN d v))/\Cb c 0 g w w':=by
 have G:=fun W (hW:Below w.heap.size w W)=>isHead_any d W (kt.below kt.pos hW)
 unfold pwE pwN pwF
 cases hg:headG d with
 | false =>
  rw[hg] at G
  have H:Go.RowKit.Hid (Cs w c 0 g len cap st en hi f):=h
  clear h
  go_enter Tryz.func23,Tryz.ntmps23
  go_wp2_with (go_at_call 41;refine(G _ (bel2 _ _ _)).mono ?_;rintro e w1 ⟨rfl,hb1⟩)
  go_ret
  exact⟨rfl,H.out.below (belT (bel2 _ _ _) hb1),Cb.of_below (belT (bel2 _ _ _) hb1) H.out.lt⟩
 | true =>
  rw[hg] at G
  obtain⟨hsz,hsp⟩:=goods_ok hg
  have off:∀ n∈hdN d v,0<=n.off/\n.off<=65535:=by
   unfold hdS at hsp
   unfold hdN
   simp only[List.mem_cons,List.not_mem_nil,or_false] at hsp ⊢
   rintro n (rfl|rfl|rfl|rfl)
   ·exact goodB_off (hsp _ (.inl rfl)) hsz.2
   ·exact goodB_off (hsp _ (.inr (.inl rfl))) hsz.2
   ·exact goodB_off (hsp _ (.inr (.inr (.inl rfl)))) hsz.2
   ·exact goodB_off (hsp _ (.inr (.inr (.inr rfl)))) hsz.2
  have vok:∀ n∈hdN d v,0<=n.v/\n.v<18446744073709551616:=by
   unfold hdN
   simp only[List.mem_cons,List.not_mem_nil,or_false]
   rintro n (rfl|rfl|rfl|rfl)
   ·exact hv.a
   ·exact hv.b
   ·exact hv.c
   ·exact hv.d
  have WR:=fun W (hW:Below w.heap.size w W) b (hb:w.heap.size<=b) (hr:NbRow W b (hdN d v))=>write_any (h.below hW) (kt.below kt.pos hW) zc zg d.size (hdN d v) b 4 hr ⟨off,vok⟩ (by simp[hdN]) (by have:=h.lt;omega) (by have:=h.row.lt;omega) hsz.1 hsz.2
  have hl:(hdN d v).length=4:=rfl
  rw[hl] at WR
  have H:Go.RowKit.Hid (Cs w c 0 g len cap st en hi f):=h
  clear h off vok hsp hsz hl hg
  rw[if_pos rfl,if_pos rfl,if_pos rfl]
  go_enter Tryz.func23,Tryz.ntmps23
  go_wp2_with (first
   | (go_at_call 41;refine(G _ (bel2 _ _ _)).mono ?_;rintro e w1 ⟨rfl,hb1⟩;obtain⟨hc1,hf1⟩:=bcell hb1)
   | (go_at_call 42;refine(WR _ (belT (belT (bel2 _ _ _) hb1) (bel1 _ _)) w1.heap.size (belT (bel2 _ _ _) hb1).size (nb_new4 rfl)).mono ?_;rintro e w2 ⟨rfl,R1,R2⟩))
  go_ret
  exact⟨rfl,R1,(Cb.of_below (belT (belT (bel2 _ _ _) hb1) (bel1 _ _)) H.out.lt).trans R2⟩
def u64W (x:Int):Int:=x % 18446744073709551616
def dimS (t:Tk):List (Int×Int):=[(t.a.p,t.a.o),(t.b.p,t.b.o)]
def dimN (t:Tk) (block count:Int):List Nb:=[⟨t.a.p,t.a.o,u64W block⟩,⟨t.b.p,t.b.o,u64W count⟩]
theorem u64W_bd (x:Int):0<=u64W x/\u64W x<18446744073709551616:=by unfold u64W;omega
theorem dim_ok {t:Tk} (h:dimG t=true):goods t.siz (dimS t)=true:=by unfold dimG at h;rw[Bool.and_eq_true] at h;exact h.2
theorem PutDim_any {w:World} {c g len cap st en:Nat} {hi:Bool} {f:Nat->Int} (h:Cs w c 0 g len cap st en hi f) (kt:KT w) (zc:0<c) (zg:0<g) (t:Tk) (pc:Option Addr) (cc:Nat) (block count:Int) :
  Calls Tryz.prog 37 #[.pointer (some ⟨c,0,none⟩),tkV t pc cc,.int .i64 block,.int .i64 count] w fun e w'=>e = .returned (.int .i64 (pwE (dimG t) len en t.siz (dimN t block count)))/\Cs w' c 0 g len cap st (pwN (dimG t) len en t.siz (dimN t block count)) hi (pwF (dimG t) hi len st en f t.siz (dimN t block count))/\Cb c 0 g w w':=by
 have G:=fun W (hW:Below w.heap.size w W)=>isDim_any t pc cc W (kt.below kt.pos hW)
 have LD:=(tk_of (heap_al w (tkO t pc cc))).load
 unfold pwE pwN pwF
 cases hg:dimG t with
 | false =>
  rw[hg] at G
  have H:Go.RowKit.Hid (Cs w c 0 g len cap st en hi f):=h
  clear h
  go_enter Tryz.func37,Tryz.ntmps37
  go_wp2_with (first|(go_at_call 64;refine(G _ (bel1 _ _)).mono ?_;rintro e w1 ⟨rfl,hb1⟩)|(guard_target =~ wpList _ _ _ (Oper.mk _ (Op.load 78 _) _ _ _ _::_) _ _;go_must (refine wpList_ld 78 _ rfl rfl _ _ rfl LD ?_);simp only[pts]))
  go_ret
  exact⟨rfl,H.out.below (belT (bel1 _ _) hb1),Cb.of_below (belT (bel1 _ _) hb1) H.out.lt⟩
 | true =>
  rw[hg] at G
  obtain⟨hsz,hsp⟩:=goods_ok (dim_ok hg)
  have off:∀ n∈dimN t block count,0<=n.off/\n.off<=65535:=by
   unfold dimS at hsp
   unfold dimN
   simp only[List.mem_cons,List.not_mem_nil,or_false] at hsp ⊢
   rintro n (rfl|rfl)
   ·exact goodB_off (hsp _ (.inl rfl)) hsz.2
   ·exact goodB_off (hsp _ (.inr rfl)) hsz.2
  have vok:∀ n∈dimN t block count,0<=n.v/\n.v<18446744073709551616:=by
   unfold dimN
   simp only[List.mem_cons,List.not_mem_nil,or_false]
   rintro n (rfl|rfl)
   ·exact u64W_bd _
   ·exact u64W_bd _
  have WR:=fun W (hW:Below w.heap.size w W) b (hb:w.heap.size<=b) (hr:NbRow W b (dimN t block count))=>write_any (h.below hW) (kt.below kt.pos hW) zc zg t.siz (dimN t block count) b 2 hr ⟨off,vok⟩ (by simp[dimN]) (by have:=h.lt;omega) (by have:=h.row.lt;omega) hsz.1 hsz.2
  have hl:(dimN t block count).length=2:=rfl
  rw[hl] at WR
  have H:Go.RowKit.Hid (Cs w c 0 g len cap st en hi f):=h
  have w1':IntKind.u64.wrap block=u64W block:=IntKind.wrap_u64 _
  have w2':IntKind.u64.wrap count=u64W count:=IntKind.wrap_u64 _
  clear h off vok hsp hsz hl hg
  rw[if_pos rfl,if_pos rfl,if_pos rfl]
  go_enter Tryz.func37,Tryz.ntmps37
  go_wp2_with (first
   | (go_at_call 64;refine(G _ (bel1 _ _)).mono ?_;rintro e w1 ⟨rfl,hb1⟩;obtain⟨hc1,hf1⟩:=bcell hb1)
   | (guard_target =~ wpList _ _ _ (Oper.mk _ (Op.load 78 _) _ _ _ _::_) _ _;go_must (refine wpList_ld 78 _ rfl rfl _ _ rfl LD ?_);simp only[pts])
   | (go_at_call 42;refine(WR _ (belT (belT (bel1 _ _) hb1) (bel1 _ _)) w1.heap.size (belT (bel1 _ _) hb1).size (nb_new2 rfl)).mono ?_;rintro e w2 ⟨rfl,R1,R2⟩))
  go_ret
  exact⟨rfl,R1,(Cb.of_below (belT (belT (bel1 _ _) hb1) (bel1 _ _)) H.out.lt).trans R2⟩
def lenS (t:Tk):List (Int×Int):=[(t.a.p,t.a.o)]
def lenN (t:Tk) (n:Nat):List Nb:=[⟨t.a.p,t.a.o,n⟩]
def pdE (len en:Nat) (t:Tk) (n:Nat):Int:=if lenG t then (if mx t.a.p<n then 164 else if (len:Int)-en-t.siz<n then 11 else 0) else 1
def pdN (len en:Nat) (t:Tk) (n:Nat):Nat:=if pdE len en t n=0 then en+t.siz.toNat+n else en
def pdF (hi:Bool) (len st en:Nat) (f:Nat->Int) (t:Tk) (s:ByteArray):Nat->Int:=if pdE len en t s.size=0 then lay (wrF hi len st en f t.siz (lenN t s.size)) (en+t.siz.toNat) s.size s else f
theorem len_ok {t:Tk} (h:lenG t=true):goods t.siz (lenS t)=true:=by unfold lenG at h;rw[Bool.and_eq_true] at h;exact h.2
theorem mx_bd {p:Int} (h:p=5\/p=6\/p=7):0<=mx p/\mx p<=4294967294:=by rcases h with rfl|rfl|rfl<;>decide
theorem over_one (n:Nb) (h:¬ mx n.p<n.v):over [n]=false:=by unfold over;simp;omega
theorem PutData_any {w:World} {c g len cap st en:Nat} {hi:Bool} {f:Nat->Int} (h:Cs w c 0 g len cap st en hi f) (kt:KT w) (zc:0<c) (zg:0<g) (t:Tk) (pc:Option Addr) (cc:Nat) (s:ByteArray) (hs:s.size<=281474976710656) :
  Calls Tryz.prog 39 #[.pointer (some ⟨c,0,none⟩),tkV t pc cc,.string s] w fun e w'=>e = .returned (.int .i64 (pdE len en t s.size))/\Cs w' c 0 g len cap st (pdN len en t s.size) hi (pdF hi len st en f t s)/\Cb c 0 g w w':=by
 have G:=fun W (hW:Below w.heap.size w W)=>isLen_any t pc cc W (kt.below kt.pos hW)
 have LD:=(tk_of (heap_al w (tkO t pc cc))).load
 have M:=fun W (hW:Below w.heap.size w W)=>max_any t.a.p W (kt.below kt.pos hW)
 have H:Go.RowKit.Hid (Cs w c 0 g len cap st en hi f):=h
 cases hg:lenG t with
 | false =>
  have e1:pdE len en t s.size=1:=by unfold pdE;rw[hg];rfl
  have e2:pdN len en t s.size=en:=by unfold pdN;rw[e1];rfl
  have e3:pdF hi len st en f t s=f:=by unfold pdF;rw[e1];rfl
  rw[e1,e2,e3]
  clear e1 e2 e3
  rw[hg] at G
  clear h
  go_enter Tryz.func39,Tryz.ntmps39
  go_wp2_with (first|(go_at_call 65;refine(G _ (bel1 _ _)).mono ?_;rintro e w1 ⟨rfl,hb1⟩)|(guard_target =~ wpList _ _ _ (Oper.mk _ (Op.load 78 _) _ _ _ _::_) _ _;go_must (refine wpList_ld 78 _ rfl rfl _ _ rfl LD ?_);simp only[pts]))
  go_ret
  exact⟨rfl,H.out.below (belT (bel1 _ _) hb1),Cb.of_below (belT (bel1 _ _) hb1) H.out.lt⟩
 | true =>
  rw[hg] at G
  obtain⟨hsz,hsp⟩:=goods_ok (len_ok hg)
  have gA:=goodB_ok (hsp (t.a.p,t.a.o) (by simp[lenS]))
  have mb:=mx_bd gA.1
  have wl:IntKind.u64.wrap (s.size:Int)=(s.size:Int):=by rw[IntKind.wrap_u64];omega
  by_cases hm:mx t.a.p<(s.size:Int)
  ·have e1:pdE len en t s.size=164:=by unfold pdE;rw[hg,if_pos rfl,if_pos hm]
   have e2:pdN len en t s.size=en:=by unfold pdN;rw[e1];rfl
   have e3:pdF hi len st en f t s=f:=by unfold pdF;rw[e1];rfl
   rw[e1,e2,e3]
   clear e1 e2 e3 h hsp hg
   go_enter Tryz.func39,Tryz.ntmps39
   go_wp2_with (first|(go_at_call 65;refine(G _ (bel1 _ _)).mono ?_;rintro e w1 ⟨rfl,hb1⟩;obtain⟨hc1,hf1⟩:=bcell hb1)|(guard_target =~ wpList _ _ _ (Oper.mk _ (Op.load 78 _) _ _ _ _::_) _ _;go_must (refine wpList_ld 78 _ rfl rfl _ _ rfl LD ?_);simp only[pts])|(go_at_call 38;refine(M _ (belT (bel1 _ _) hb1)).mono ?_;rintro e w2 ⟨rfl,hb2⟩))
   go_ret
   have B2:=belT (belT (bel1 _ _) hb1) hb2
   exact⟨rfl,H.out.below B2,Cb.of_below B2 H.out.lt⟩
  ·have hR:=fun W (hW:Below w.heap.size w W)=>Room_any (h.below hW)
   have h2':=h.h2
   have h4':=h.h4
   have wr1:IntKind.i64.wrap ((len:Int)-en-t.siz)=(len:Int)-en-t.siz:=by rw[IntKind.wrap_i64];omega
   by_cases hq:(len:Int)-en-t.siz<s.size
   ·have e1:pdE len en t s.size=11:=by unfold pdE;rw[hg,if_pos rfl,if_neg hm,if_pos hq]
    have e2:pdN len en t s.size=en:=by unfold pdN;rw[e1];rfl
    have e3:pdF hi len st en f t s=f:=by unfold pdF;rw[e1];rfl
    rw[e1,e2,e3]
    clear e1 e2 e3 h hsp hg
    go_enter Tryz.func39,Tryz.ntmps39
    go_wp2_with (first|(go_at_call 65;refine(G _ (bel1 _ _)).mono ?_;rintro e w1 ⟨rfl,hb1⟩;obtain⟨hc1,hf1⟩:=bcell hb1)|(guard_target =~ wpList _ _ _ (Oper.mk _ (Op.load 78 _) _ _ _ _::_) _ _;go_must (refine wpList_ld 78 _ rfl rfl _ _ rfl LD ?_);simp only[pts])|(go_at_call 38;refine(M _ (belT (bel1 _ _) hb1)).mono ?_;rintro e w2 ⟨rfl,hb2⟩;have B2:=belT (belT (bel1 _ _) hb1) hb2;obtain⟨hc2,hf2⟩:=bcell hb2))
    have a4:w2.cell? ⟨w.heap.size,4,none⟩=some (.int .i64 t.siz):=by rw[hc2 _ _ (Nat.lt_of_lt_of_le (by simp) hb1.size),hc1 _ _ (by simp)];simp
    replace B2:Go.RowKit.Hid _:=B2
    clear hc1 hf1 hc2 hf2 hb1 hb2
    go_quiet (first|(go_at_call 22;refine Calls.quiet_of (hR _ ?_);exact below_drewN B2.out _))
    go_wp2_with fail
    go_ret
    exact⟨rfl,H.out.below (below_drewN B2.out _),Cb.of_below (below_drewN B2.out _) H.out.lt⟩
   ·have e1:pdE len en t s.size=0:=by unfold pdE;rw[hg,if_pos rfl,if_neg hm,if_neg hq]
    have e2:pdN len en t s.size=en+t.siz.toNat+s.size:=by unfold pdN;rw[e1];rfl
    have e3:pdF hi len st en f t s=lay (wrF hi len st en f t.siz (lenN t s.size)) (en+t.siz.toNat) s.size s:=by unfold pdF;rw[e1];rfl
    rw[e1,e2,e3]
    have off:∀ n∈lenN t s.size,0<=n.off/\n.off<=65535:=by
     unfold lenN
     simp only[List.mem_cons,List.not_mem_nil,or_false]
     rintro n rfl
     exact goodB_off (hsp (t.a.p,t.a.o) (by simp[lenS])) hsz.2
    have vok:∀ n∈lenN t s.size,0<=n.v/\n.v<18446744073709551616:=by
     unfold lenN
     simp only[List.mem_cons,List.not_mem_nil,or_false]
     rintro n rfl
     exact⟨by show (0:Int)<=(s.size:Int);omega,by show (s.size:Int)<_;omega⟩
    have WR:=fun W (hW:Below w.heap.size w W) b (hb:w.heap.size<=b) (hr:NbRow W b (lenN t s.size))=>write_any (h.below hW) (kt.below kt.pos hW) zc zg t.siz (lenN t s.size) b 1 hr ⟨off,vok⟩ (by simp[lenN]) (by have:=h.lt;omega) (by have:=h.row.lt;omega) hsz.1 hsz.2
    have hl:(lenN t s.size).length=1:=rfl
    have ew:wrE len en t.siz (lenN t s.size)=0:=by
     unfold wrE lenN
     rw[over_one _ (by exact hm)]
     unfold clE
     rw[if_neg (by decide),if_neg (by omega),if_neg (by omega)]
    have en':wrN len en t.siz (lenN t s.size)=en+t.siz.toNat:=by unfold wrN;rw[ew];rfl
    rw[hl,en'] at WR
    have GR:=fun W f' (hW:Cs W c 0 g len cap st (en+t.siz.toNat) hi f')=>grow_any hW s.size (by omega)
    have h1':=h.h1
    obtain⟨s1,s2⟩:=setZ (st:=st) (en:=en+t.siz.toNat+s.size) (at':=(en+t.siz.toNat:Nat)) (n:=s.size) (t:=s) (f:=wrF hi len st en f t.siz (lenN t s.size)) (by omega) (inC_yes (by omega))
    rw[if_pos (Int.le_refl _)] at s1 s2
    have SC:=fun W (hW:Cs W c 0 g len cap st (en+t.siz.toNat+s.size) hi (wrF hi len st en f t.siz (lenN t s.size)))=>SetCu_any hW ((en+t.siz.toNat:Nat)) s.size s (by omega)
    rw[s1,s2] at SC
    clear e1 e2 e3 h hsp hg off vok hl ew en' s1 s2
    rw[show ((((en+t.siz.toNat:Nat):Int)).toNat)=en+t.siz.toNat by omega,show (((s.size:Nat):Int).toNat)=s.size by omega] at SC
    obtain⟨e0,he0⟩:∃ e0,en+t.siz.toNat=e0:=⟨_,rfl⟩
    rw[he0] at WR SC GR ⊢
    replace he0:Go.RowKit.Hid _:=he0
    generalize wrF hi len st en f t.siz (lenN t s.size)=f1 at WR SC ⊢
    go_enter Tryz.func39,Tryz.ntmps39
    go_wp2_with (first|(go_at_call 65;refine(G _ (bel1 _ _)).mono ?_;rintro e w1 ⟨rfl,hb1⟩;obtain⟨hc1,hf1⟩:=bcell hb1)|(guard_target =~ wpList _ _ _ (Oper.mk _ (Op.load 78 _) _ _ _ _::_) _ _;go_must (refine wpList_ld 78 _ rfl rfl _ _ rfl LD ?_);simp only[pts])|(go_at_call 38;refine(M _ (belT (bel1 _ _) hb1)).mono ?_;rintro e w2 ⟨rfl,hb2⟩;have B2:=belT (belT (bel1 _ _) hb1) hb2;obtain⟨hc2,hf2⟩:=bcell hb2))
    have a4:w2.cell? ⟨w.heap.size,4,none⟩=some (.int .i64 t.siz):=by rw[hc2 _ _ (Nat.lt_of_lt_of_le (by simp) hb1.size),hc1 _ _ (by simp)];simp
    have a16:w2.cell? ⟨w.heap.size,16,none⟩=some (.int .i64 t.a.p):=by rw[hc2 _ _ (Nat.lt_of_lt_of_le (by simp) hb1.size),hc1 _ _ (by simp)];simp
    have a17:w2.cell? ⟨w.heap.size,17,none⟩=some (.int .i64 t.a.o):=by rw[hc2 _ _ (Nat.lt_of_lt_of_le (by simp) hb1.size),hc1 _ _ (by simp)];simp
    replace B2:Go.RowKit.Hid _:=B2
    clear hc1 hf1 hc2 hf2 hb1 hb2
    go_quiet (first|(go_at_call 22;refine Calls.quiet_of (hR _ ?_);exact below_drewN B2.out _))
    go_wp2_with (first
     | (go_at_call 42;refine(WR _ (belT (below_drewN B2.out _) (bel1 _ _)) w2.heap.size B2.out.size (nb_new1 rfl)).mono ?_;rintro e w4 ⟨rfl,R1,R2⟩)
     | (go_at_call 43;refine(GR _ _ R1).mono ?_;rintro e w5 ⟨rfl,R3,R4⟩)
     | (go_at_call 66;refine(SC _ R3).mono ?_;rintro e w6 ⟨rfl,R5,R6⟩))
    go_ret
    exact⟨rfl,R5,(Cb.of_below (belT (below_drewN B2.out _) (bel1 _ _)) H.out.lt).trans (R2.trans (R4.trans (Cb.of_only R6 R3.lt R3.ne)))⟩
theorem st4 {W:World} {b:Nat} {x0 x1 x2 x3:Int} {u0 u1 u2 u3:Value} (h0:W.cell? ⟨b,0,none⟩=some u0) (h1:W.cell? ⟨b,1,none⟩=some u1) (h2:W.cell? ⟨b,2,none⟩=some u2) (h3:W.cell? ⟨b,3,none⟩=some u3) (hf:∀ i,W.frozen? ⟨b,i,none⟩=false) :
  (Instr.storeAt 54 (.pointer (some ⟨b,0,none⟩)) (.agg #[.int .u64 x0,.int .u64 x1,.int .u64 x2,.int .u64 x3])).run Tryz.prog W.drew = .ok () ((((W.drew.setCell ⟨b,0,none⟩ (.int .u64 x0)).setCell ⟨b,1,none⟩ (.int .u64 x1)).setCell ⟨b,2,none⟩ (.int .u64 x2)).setCell ⟨b,3,none⟩ (.int .u64 x3)):=by
 simp[go_sem,h0,h1,h2,h3,hf]
theorem New_ok {w:World} {g len cap:Nat} {f:Nat->Int} (row:RowM w g 5 cap (fun j=>.int .u8 (f j))) (bd:∀ j,0<=f j/\f j<=255) (h3:len<=cap) (h4:len<=140737488355328) (a:Nat) (ha:a<=len) (hi:Bool) :
  Calls Tryz.prog 21 #[.slice (some ⟨g,0,none⟩) len cap,.int .i64 a,.int .i64 (ordV hi)] w fun e w'=>∃ c,e = .returned (.tuple #[.pointer (some ⟨c,0,none⟩),.int .i64 0])/\w.heap.size<=c/\Cs w' c 0 g len cap a a hi f/\Below w.heap.size w w':=by
 have h1:(ordV hi != 0&&ordV hi != 1)=false:=by cases hi<;>rfl
 have hd1:¬ (a:Int)<0:=by omega
 have hd2:¬ (len:Int)<(a:Int):=by omega
 have lt:=row.lt
 have FIN:Go.RowKit.Hid (∀ ty,Cs (w.alloc (.cells #[.slice (some ⟨g,0,none⟩) len cap,.int .i64 a,.int .i64 a,.int .i64 (ordV hi)] ty)) w.heap.size 0 g len cap a a hi f):=fun ty=>by
  have hh:=heap_al w (.cells #[.slice (some ⟨g,0,none⟩) len cap,.int .i64 a,.int .i64 a,.int .i64 (ordV hi)] ty)
  exact⟨by simp,cell_at hh 0,cell_at hh 1,cell_at hh 2,cell_at hh 3,by simp only[World.frozen?,hh];rfl,rowM_below row (bel1 _ _) lt,bd,by omega,Nat.le_refl _,ha,h3,h4⟩
 clear row
 cases hi
 ·have o0:ordV false=0:=rfl
  rw[o0] at FIN ⊢
  go_enter Tryz.func21,Tryz.ntmps21
  go_wp2_with fail
  go_ret2
  exact⟨_,rfl,Nat.le_refl _,FIN.out _,bel1 _ _⟩
 ·have o0:ordV true=1:=rfl
  rw[o0] at FIN ⊢
  go_enter Tryz.func21,Tryz.ntmps21
  go_wp2_with fail
  go_ret2
  exact⟨_,rfl,Nat.le_refl _,FIN.out _,bel1 _ _⟩
theorem New_none {w:World} {p:Option Addr} {len cap:Nat} (a:Int) (o:Int) (h:(o=0\/o=1)/\(a<0\/(len:Int)<a)) :
  Calls Tryz.prog 21 #[.slice p len cap,.int .i64 a,.int .i64 o] w fun e w'=>e = .returned (.tuple #[.pointer none,.int .i64 170])/\Below w.heap.size w w':=by
 obtain⟨h1,h2⟩:=h
 by_cases h3:a<0
 ·rcases h1 with rfl|rfl
  all_goals
   go_enter Tryz.func21,Tryz.ntmps21
   go_wp2_with fail
   go_ret2
   exact⟨rfl,Below.refl _ _⟩
 ·have h4:(len:Int)<a:=by omega
  have h5:¬ a<=(len:Int):=by omega
  rcases h1 with rfl|rfl
  all_goals
   go_enter Tryz.func21,Tryz.ntmps21
   go_wp2_with fail
   go_ret2
   exact⟨rfl,Below.refl _ _⟩
end C
end Go.Proofs.YtjlbcdnkglaheaaGreatDoor
