import Derived.Test.YtbhmciieiilcfaaGreatDoorK03
import Derived.Deep.AppendLies
import Derived.Deep.AppendSrc
namespace Go.Proofs.YtbhmciieiilcfaaGreatDoor
set_option maxRecDepth 1000000
set_option maxHeartbeats 16000000
open Go.ChangeShapes Go.WideShapes Go.ChangeAt Go.RowKit Go.Shelf
variable {B H H' base cap cc cp g go hi i j k lo m n o s:Nat} {E ns:List Nat} {P:Prop} {W W' a b w w':World} {e:TypeId} {ent:Int} {f:Fm} {hs:Value->Prop} {l:List Tk} {p pc pp:Option Addr} {t:Tk} {v:Value} {xs:List Value} {zs:List (Nat×Lv)}
theorem drop_at {α:Type} {l:List α} {a:α} (h:l[j]?=some a):l.drop j=a::l.drop (j+1):=by
 obtain⟨h1,h2⟩:=List.getElem?_eq_some_iff.1 h
 rw[List.drop_eq_getElem_cons h1,h2]
theorem take_at {α:Type} {l:List α} {a:α} (h:l[j]?=some a):l.take (j+1)=l.take j++[a]:=by
 rw[List.take_add_one,h];rfl
def spOk (n:Int):List Sp->List Sp->Bool
 | _,[]=>true
 | pre,s::r=>lieB s n&&pre.all (aptB s)&&spOk n (pre++[s]) r
structure SpRow (w:World) (g o:Nat) (l:List Sp):Prop where
 c:∀ (i:Nat) (s:Sp),l[i]?=some s->w.cell? ⟨g,o+i*2,none⟩=some (.int .i64 s.p)/\w.cell? ⟨g,o+i*2+1,none⟩=some (.int .i64 s.o)
theorem SpRow.below {l:List Sp} (h:SpRow w g o l) (hg:g<B) (hb:Below B w w'):SpRow w' g o l :=
 ⟨fun i s hs=>⟨(hb.cell (p:=⟨g,o+i*2,none⟩) hg).trans (h.c i s hs).1,(hb.cell (p:=⟨g,o+i*2+1,none⟩) hg).trans (h.c i s hs).2⟩⟩
theorem areSpots_any (l:List Sp) (n:Int) (g o cp:Nat) (w:World) (h:KT w) (hg:g<w.heap.size) (hr:SpRow w g o l) (hl:l.length<=4) (hcp:l.length<=cp) (hn:0<=n/\n<=9223372036854775000) :
  Calls Tryz.prog 83 #[.int .i64 n,.slice (some ⟨g,o,none⟩) l.length cp] w fun r w'=>r = .returned (.bool (spOk n [] l))/\Below w.heap.size w w':=by
 obtain⟨Z,hZ⟩:∃ Z,spOk n [] l=Z:=⟨_,rfl⟩
 rw[hZ]
 go_enter Tryz.func83,Tryz.ntmps83
 go_wp2_with fail
 go_loopw [11] (fun q wr=>∃ j:Nat,j<=l.length/\q = .int .i64 j/\Below w.heap.size w wr/\(∀ t∈l.take j,lieB t n=true)/\spOk n (l.take j) (l.drop j)=Z) (fun q _=>l.length-(RowKit.intOf q).toNat)
 case atStart=>exact⟨0,Nat.zero_le _,rfl,Below.refl _ _,fun t ht=>absurd ht List.not_mem_nil,hZ⟩
 case round =>
  obtain⟨wo,hwo⟩:∃ wo,wo=wr:=⟨_,rfl⟩
  subst hwo
  obtain⟨j,hj,rfl,hB,hL,hR⟩:=hrel
  by_cases hlt:j<l.length
  ·obtain⟨s,hs⟩:∃ s,l[j]?=some s:=⟨l[j],List.getElem?_eq_getElem hlt⟩
   obtain⟨c0,c1⟩:=(hr.below hg hB).c j s hs
   have hlti:(j:Int)<l.length:=by omega
   have hji:(j:Int)<=cp:=by omega
   rw[drop_at hs,spOk] at hR
   have cL:=fun W hW=>liesIn_any s n W hW (by omega)
   cases k1:lieB s n with
   | false =>
    rw[k1] at hR cL
    simp only[Bool.false_and] at hR
    subst hR
    go_wp2_with (go_at_call 107;refine(cL _ (h.up (hB.alloc hB.size _))).mono ?_;rintro _ w1 ⟨rfl,hb⟩)
    go_ret
    exact⟨rfl,(hB.alloc hB.size _).trans (hb.mono (hB.alloc hB.size _).size)⟩
   | true =>
    rw[k1] at hR cL
    simp only[Bool.true_and] at hR
    have hin:(l.take j).length=j:=by rw[List.length_take];omega
    have ls:=k1
    unfold lieB at ls
    rw[Bool.and_eq_true] at ls
    have ls:=decT ls.2
    have hz:=sz_b s.p
    cases k2:(l.take j).all (aptB s) with
    | false =>
     rw[k2] at hR
     simp only[Bool.false_and] at hR
     subst hR
     go_wp2_with (go_at_call 107;refine(cL _ (h.up (hB.alloc hB.size _))).mono ?_;rintro _ w1 ⟨rfl,hb⟩)
     have hA:=hB.alloc hB.size (.cells #[.int .i64 s.p,.int .i64 s.o] 25)
     have hC:Below (wo.heap.size+1) (wo.alloc (.cells #[.int .i64 s.p,.int .i64 s.o] 25)) w1:=(Below.refl _ _).trans (hb.mono (szal _ _))
     go_loopw [24] (fun q wq=>∃ k:Nat,k<=j/\q = .int .i64 k/\Below (wo.heap.size+1) (wo.alloc (.cells #[.int .i64 s.p,.int .i64 s.o] 25)) wq/\((l.take j).drop k).all (aptB s)=false) (fun q _=>j-(RowKit.intOf q).toNat)
     case atStart=>exact⟨0,Nat.zero_le _,rfl,hC,k2⟩
     case round =>
      obtain⟨k,hk,rfl,hD,hQ⟩:=hrel
      have hE:Below w.heap.size w wr:=hA.trans (hD.mono (Nat.le_succ_of_le hB.size))
      by_cases hkj:k<j
      ·obtain⟨t,ht⟩:∃ t,l[k]?=some t:=⟨l[k],List.getElem?_eq_getElem (by omega)⟩
       have ht2:(l.take j)[k]?=some t:=by rw[List.getElem?_take,if_pos hkj];exact ht
       obtain⟨d0,d1⟩:=(hr.below hg hE).c k t ht
       have hlo:wo.heap.size<wr.heap.size:=Nat.lt_of_lt_of_le (szal _ _) hD.size
       have e0:(wr.alloc (.cells #[.int .i64 t.p,.int .i64 t.o] 25)).cell? ⟨wo.heap.size,0,none⟩=some (.int .i64 s.p):=((bel1 wr _).cell (p:=⟨wo.heap.size,0,none⟩) hlo).trans (own_cell rfl hD 0)
       have e1:(wr.alloc (.cells #[.int .i64 t.p,.int .i64 t.o] 25)).cell? ⟨wo.heap.size,1,none⟩=some (.int .i64 s.o):=((bel1 wr _).cell (p:=⟨wo.heap.size,1,none⟩) hlo).trans (own_cell rfl hD 1)
       have lt:=hL t (List.mem_of_getElem? ht2)
       unfold lieB at lt
       rw[Bool.and_eq_true] at lt
       have lt:=decT lt.2
       have hy:=sz_b t.p
       have hkji:(k:Int)<j:=by omega
       rw[drop_at ht2,List.all_cons] at hQ
       have cM:=fun W hW=>meet_any s t W hW (by omega) (by omega)
       cases k3:aptB s t with
       | false =>
        rw[k3] at cM
        go_wp2_with (go_at_call 108;refine(cM _ (h.up (hE.alloc hE.size _))).mono ?_;rintro _ w2 ⟨rfl,hb2⟩)
        go_ret
        exact⟨rfl,(hE.alloc hE.size _).trans (hb2.mono (hE.alloc hE.size _).size)⟩
       | true =>
        rw[k3] at cM hQ
        simp only[Bool.true_and] at hQ
        go_wp2_with (go_at_call 108;refine(cM _ (h.up (hE.alloc hE.size _))).mono ?_;rintro _ w2 ⟨rfl,hb2⟩)
        go_roundw
        case rel=>exact⟨k+1,by omega,by go_num,(hD.alloc (Nat.le_trans (szal _ _) hD.size) _).trans (hb2.mono (Nat.le_trans (Nat.le_trans (szal _ _) hD.size) (al_le _ _))),hQ⟩
        case measure=>simp[RowKit.intOf];omega
      ·obtain rfl:k=j:=by omega
       rw[List.drop_eq_nil_of_le (by omega)] at hQ
       cases hQ
    | true =>
     rw[k2] at hR
     simp only[Bool.true_and] at hR
     go_wp2_with (go_at_call 107;refine(cL _ (h.up (hB.alloc hB.size _))).mono ?_;rintro _ w1 ⟨rfl,hb⟩)
     have hA:=hB.alloc hB.size (.cells #[.int .i64 s.p,.int .i64 s.o] 25)
     have hC:Below (wo.heap.size+1) (wo.alloc (.cells #[.int .i64 s.p,.int .i64 s.o] 25)) w1:=(Below.refl _ _).trans (hb.mono (szal _ _))
     go_loopw [24] (fun q wq=>∃ k:Nat,k<=j/\q = .int .i64 k/\Below (wo.heap.size+1) (wo.alloc (.cells #[.int .i64 s.p,.int .i64 s.o] 25)) wq/\((l.take j).drop k).all (aptB s)=true) (fun q _=>j-(RowKit.intOf q).toNat)
     case atStart=>exact⟨0,Nat.zero_le _,rfl,hC,k2⟩
     case round =>
      obtain⟨k,hk,rfl,hD,hQ⟩:=hrel
      have hE:Below w.heap.size w wr:=hA.trans (hD.mono (Nat.le_succ_of_le hB.size))
      by_cases hkj:k<j
      ·obtain⟨t,ht⟩:∃ t,l[k]?=some t:=⟨l[k],List.getElem?_eq_getElem (by omega)⟩
       have ht2:(l.take j)[k]?=some t:=by rw[List.getElem?_take,if_pos hkj];exact ht
       obtain⟨d0,d1⟩:=(hr.below hg hE).c k t ht
       have hlo:wo.heap.size<wr.heap.size:=Nat.lt_of_lt_of_le (szal _ _) hD.size
       have e0:(wr.alloc (.cells #[.int .i64 t.p,.int .i64 t.o] 25)).cell? ⟨wo.heap.size,0,none⟩=some (.int .i64 s.p):=((bel1 wr _).cell (p:=⟨wo.heap.size,0,none⟩) hlo).trans (own_cell rfl hD 0)
       have e1:(wr.alloc (.cells #[.int .i64 t.p,.int .i64 t.o] 25)).cell? ⟨wo.heap.size,1,none⟩=some (.int .i64 s.o):=((bel1 wr _).cell (p:=⟨wo.heap.size,1,none⟩) hlo).trans (own_cell rfl hD 1)
       have lt:=hL t (List.mem_of_getElem? ht2)
       unfold lieB at lt
       rw[Bool.and_eq_true] at lt
       have lt:=decT lt.2
       have hy:=sz_b t.p
       have hkji:(k:Int)<j:=by omega
       rw[drop_at ht2,List.all_cons] at hQ
       have cM:=fun W hW=>meet_any s t W hW (by omega) (by omega)
       rw[Bool.and_eq_true] at hQ
       rw[hQ.1] at cM
       go_wp2_with (go_at_call 108;refine(cM _ (h.up (hE.alloc hE.size _))).mono ?_;rintro _ w2 ⟨rfl,hb2⟩)
       go_roundw
       case rel=>exact⟨k+1,by omega,by go_num,(hD.alloc (Nat.le_trans (szal _ _) hD.size) _).trans (hb2.mono (Nat.le_trans (Nat.le_trans (szal _ _) hD.size) (al_le _ _))),hQ.2⟩
       case measure=>simp[RowKit.intOf];omega
      ·obtain rfl:k=j:=by omega
       rw[List.drop_eq_nil_of_le (by omega)] at hQ
       go_wp2_with fail
       go_roundw
       case rel =>
        refine⟨k+1,by omega,by go_num,hE,?_,?_⟩
        ·intro t ht
         rw[take_at hs] at ht
         rcases List.mem_append.1 ht with ht|ht
         ·exact hL t ht
         ·rw[List.mem_singleton.1 ht];exact k1
        ·rw[take_at hs];exact hR
       case measure=>simp[RowKit.intOf];omega
  ·obtain rfl:j=l.length:=by omega
   rw[List.drop_length,spOk] at hR
   subst hR
   go_wp2_with fail
   go_ret
   exact⟨rfl,hB⟩
structure Hid (p:Prop):Prop where
 out:p
abbrev tkV (t:Tk) (pc:Option Addr) (cc:Nat):Value:=.agg #[.int .i64 t.op,.string t.name,.int .i64 t.id,.int .i64 t.off,.int .i64 t.siz,.int .i64 t.since,.int .i64 t.prim,.int .i64 t.len,.int .i64 t.pres,.int .u64 t.nul,.int .u64 t.lo,.int .u64 t.hi,.slice pc t.cst.length cc,.int .u64 t.val,.int .i64 t.blk,.int .i64 t.full,.int .i64 t.a.p,.int .i64 t.a.o,.int .i64 t.b.p,.int .i64 t.b.o,.int .i64 t.pair]
def tkC (t:Tk) (pc:Option Addr) (cc:Nat):List Value:=[.int .i64 t.op,.string t.name,.int .i64 t.id,.int .i64 t.off,.int .i64 t.siz,.int .i64 t.since,.int .i64 t.prim,.int .i64 t.len,.int .i64 t.pres,.int .u64 t.nul,.int .u64 t.lo,.int .u64 t.hi,.slice pc t.cst.length cc,.int .u64 t.val,.int .i64 t.blk,.int .i64 t.full,.int .i64 t.a.p,.int .i64 t.a.o,.int .i64 t.b.p,.int .i64 t.b.o,.int .i64 t.pair]
structure URow (w:World) (p:Option Addr) (H:Nat) (l:List Int):Prop where
 c:∀ (i:Nat) (t:Int),l[i]?=some t->∃ g o,p=some ⟨g,o,none⟩/\g<H/\w.cell? ⟨g,o+i,none⟩=some (.int .u64 t)
theorem cell_blk (hb:w'.heap[g]?=w.heap[g]?):w'.cell? ⟨g,o,none⟩=w.cell? ⟨g,o,none⟩:=by simp only[World.cell?,hb]
theorem URow.same {l:List Int} (h:URow w p H l) (hb:∀ k,k<H->w'.heap[k]?=w.heap[k]?):URow w' p H l :=
 ⟨fun i t ht=>by
  obtain⟨g,o,e,hg,h0⟩:=h.c i t ht
  exact⟨g,o,e,hg,(cell_blk (hb g hg)).trans h0⟩⟩
theorem URow.mono {l:List Int} (h:URow w p H l) (hH:H<=H'):URow w p H' l :=
 ⟨fun i t ht=>by obtain⟨g,o,e,hg,r⟩:=h.c i t ht;exact⟨g,o,e,by omega,r⟩⟩
theorem URow.below {l:List Int} (h:URow w p H l) (hb:Below H w w'):URow w' p H l:=h.same fun k hk=>hb.block k hk
theorem URow.nil (w:World) (p:Option Addr) (H:Nat):URow w p H []:=⟨fun i t ht=>by cases ht⟩
structure TkC (w:World) (g o:Nat) (t:Tk) (pc:Option Addr) (cc:Nat):Prop where
 c0:w.cell? ⟨g,o,none⟩=some (.int .i64 t.op)
 c1:w.cell? ⟨g,o+1,none⟩=some (.string t.name)
 c2:w.cell? ⟨g,o+2,none⟩=some (.int .i64 t.id)
 c3:w.cell? ⟨g,o+3,none⟩=some (.int .i64 t.off)
 c4:w.cell? ⟨g,o+4,none⟩=some (.int .i64 t.siz)
 c5:w.cell? ⟨g,o+5,none⟩=some (.int .i64 t.since)
 c6:w.cell? ⟨g,o+6,none⟩=some (.int .i64 t.prim)
 c7:w.cell? ⟨g,o+7,none⟩=some (.int .i64 t.len)
 c8:w.cell? ⟨g,o+8,none⟩=some (.int .i64 t.pres)
 c9:w.cell? ⟨g,o+9,none⟩=some (.int .u64 t.nul)
 c10:w.cell? ⟨g,o+10,none⟩=some (.int .u64 t.lo)
 c11:w.cell? ⟨g,o+11,none⟩=some (.int .u64 t.hi)
 c12:w.cell? ⟨g,o+12,none⟩=some (.slice pc t.cst.length cc)
 c13:w.cell? ⟨g,o+13,none⟩=some (.int .u64 t.val)
 c14:w.cell? ⟨g,o+14,none⟩=some (.int .i64 t.blk)
 c15:w.cell? ⟨g,o+15,none⟩=some (.int .i64 t.full)
 c16:w.cell? ⟨g,o+16,none⟩=some (.int .i64 t.a.p)
 c17:w.cell? ⟨g,o+17,none⟩=some (.int .i64 t.a.o)
 c18:w.cell? ⟨g,o+18,none⟩=some (.int .i64 t.b.p)
 c19:w.cell? ⟨g,o+19,none⟩=some (.int .i64 t.b.o)
 c20:w.cell? ⟨g,o+20,none⟩=some (.int .i64 t.pair)
theorem TkC.same (h:TkC w g o t pc cc) (hb:w'.heap[g]?=w.heap[g]?):TkC w' g o t pc cc :=
 ⟨(cell_blk hb).trans h.c0,(cell_blk hb).trans h.c1,(cell_blk hb).trans h.c2,(cell_blk hb).trans h.c3,(cell_blk hb).trans h.c4,(cell_blk hb).trans h.c5,(cell_blk hb).trans h.c6,(cell_blk hb).trans h.c7,(cell_blk hb).trans h.c8,(cell_blk hb).trans h.c9,(cell_blk hb).trans h.c10,(cell_blk hb).trans h.c11,(cell_blk hb).trans h.c12,(cell_blk hb).trans h.c13,(cell_blk hb).trans h.c14,(cell_blk hb).trans h.c15,(cell_blk hb).trans h.c16,(cell_blk hb).trans h.c17,(cell_blk hb).trans h.c18,(cell_blk hb).trans h.c19,(cell_blk hb).trans h.c20⟩
theorem tkC_of (h:∀ (j:Nat) (u:Value),(tkC t pc cc)[j]?=some u->w.cell? ⟨g,o+j,none⟩=some u):TkC w g o t pc cc :=
 ⟨h 0 _ rfl,h 1 _ rfl,h 2 _ rfl,h 3 _ rfl,h 4 _ rfl,h 5 _ rfl,h 6 _ rfl,h 7 _ rfl,h 8 _ rfl,h 9 _ rfl,h 10 _ rfl,h 11 _ rfl,h 12 _ rfl,h 13 _ rfl,h 14 _ rfl,h 15 _ rfl,h 16 _ rfl,h 17 _ rfl,h 18 _ rfl,h 19 _ rfl,h 20 _ rfl⟩
structure TkRow (w:World) (pp:Option Addr) (H:Nat) (l:List Tk):Prop where
 c:∀ (i:Nat) (t:Tk),l[i]?=some t->∃ g o pc cc,pp=some ⟨g,o,none⟩/\g<H/\TkC w g (o+i*21) t pc cc/\URow w pc H t.cst/\t.cst.length<=cc
theorem TkRow.same (h:TkRow w pp H l) (hb:∀ k,k<H->w'.heap[k]?=w.heap[k]?):TkRow w' pp H l :=
 ⟨fun i t ht=>by
  obtain⟨g,o,pc,cc,e,hg,h0,h1,h2⟩:=h.c i t ht
  exact⟨g,o,pc,cc,e,hg,h0.same (hb g hg),h1.same hb,h2⟩⟩
theorem TkRow.below (h:TkRow w pp H l) (hb:Below H w w'):TkRow w' pp H l:=h.same fun k hk=>hb.block k hk
theorem TkRow.mono (h:TkRow w pp H l) (hH:H<=H'):TkRow w pp H' l :=
 ⟨fun i t ht=>by obtain⟨g,o,pc,cc,e,hg,h0,h1,h2⟩:=h.c i t ht;exact⟨g,o,pc,cc,e,by omega,h0,h1.mono hH,h2⟩⟩
structure TkOk (t:Tk):Prop where
 op:i64ok t.op
 name:t.name.size<=281474976710656
 id:i64ok t.id
 off:i64ok t.off
 siz:i64ok t.siz
 since:i64ok t.since
 prim:i64ok t.prim
 len:i64ok t.len
 pres:i64ok t.pres
 nul:u64ok t.nul
 lo:u64ok t.lo
 hi:u64ok t.hi
 cst:t.cst.length*8<=140737488355328
 cs:∀ x∈t.cst,u64ok x
 val:u64ok t.val
 blk:i64ok t.blk
 full:i64ok t.full
 ap:i64ok t.a.p
 ao:i64ok t.a.o
 bp:i64ok t.b.p
 bo:i64ok t.b.o
 pair:i64ok t.pair
structure TkL (w:World) (pp:Option Addr) (H:Nat) (l:List Tk):Prop where
 row:TkRow w pp H l
 len:l.length*192<=140737488355328
 ok:∀ t∈l,TkOk t
theorem TkL.below (h:TkL w pp H l) (hb:Below H w w'):TkL w' pp H l:=⟨h.row.below hb,h.len,h.ok⟩
theorem TkL.mono (h:TkL w pp H l) (hH:H<=H'):TkL w pp H' l:=⟨h.row.mono hH,h.len,h.ok⟩
theorem TkL.at (h:TkL w pp H l) (hi:l[i]?=some t):∃ g o pc cc,pp=some ⟨g,o,none⟩/\g<H/\TkC w g (o+i*21) t pc cc/\URow w pc H t.cst/\t.cst.length<=cc/\TkOk t:=by
 obtain⟨g,o,pc,cc,e,hg,h0,h1,h2⟩:=h.row.c i t hi
 exact⟨g,o,pc,cc,e,hg,h0,h1,h2,h.ok t (List.mem_of_getElem? hi)⟩
abbrev fmV (f:Fm) (pp:Option Addr) (cp:Nat):Value:=.agg #[.int .i64 f.ord,.int .i64 f.sch,.int .i64 f.ver,.int .i64 f.hsz,.int .i64 f.hb.p,.int .i64 f.hb.o,.int .i64 f.ht.p,.int .i64 f.ht.o,.int .i64 f.hs.p,.int .i64 f.hs.o,.int .i64 f.hv.p,.int .i64 f.hv.o,.slice pp f.toks.length cp]
abbrev fmO (f:Fm) (pp:Option Addr) (cp:Nat):Obj:=.cells #[.int .i64 f.ord,.int .i64 f.sch,.int .i64 f.ver,.int .i64 f.hsz,.int .i64 f.hb.p,.int .i64 f.hb.o,.int .i64 f.ht.p,.int .i64 f.ht.o,.int .i64 f.hs.p,.int .i64 f.hs.o,.int .i64 f.hv.p,.int .i64 f.hv.o,.slice pp f.toks.length cp] 30
structure FmC (w:World) (g o:Nat) (f:Fm) (pp:Option Addr) (cp:Nat):Prop where
 c0:w.cell? ⟨g,o,none⟩=some (.int .i64 f.ord)
 c1:w.cell? ⟨g,o+1,none⟩=some (.int .i64 f.sch)
 c2:w.cell? ⟨g,o+2,none⟩=some (.int .i64 f.ver)
 c3:w.cell? ⟨g,o+3,none⟩=some (.int .i64 f.hsz)
 c4:w.cell? ⟨g,o+4,none⟩=some (.int .i64 f.hb.p)
 c5:w.cell? ⟨g,o+5,none⟩=some (.int .i64 f.hb.o)
 c6:w.cell? ⟨g,o+6,none⟩=some (.int .i64 f.ht.p)
 c7:w.cell? ⟨g,o+7,none⟩=some (.int .i64 f.ht.o)
 c8:w.cell? ⟨g,o+8,none⟩=some (.int .i64 f.hs.p)
 c9:w.cell? ⟨g,o+9,none⟩=some (.int .i64 f.hs.o)
 c10:w.cell? ⟨g,o+10,none⟩=some (.int .i64 f.hv.p)
 c11:w.cell? ⟨g,o+11,none⟩=some (.int .i64 f.hv.o)
 c12:w.cell? ⟨g,o+12,none⟩=some (.slice pp f.toks.length cp)
theorem FmC.same (h:FmC w g o f pp cp) (hb:w'.heap[g]?=w.heap[g]?):FmC w' g o f pp cp :=
 ⟨(cell_blk hb).trans h.c0,(cell_blk hb).trans h.c1,(cell_blk hb).trans h.c2,(cell_blk hb).trans h.c3,(cell_blk hb).trans h.c4,(cell_blk hb).trans h.c5,(cell_blk hb).trans h.c6,(cell_blk hb).trans h.c7,(cell_blk hb).trans h.c8,(cell_blk hb).trans h.c9,(cell_blk hb).trans h.c10,(cell_blk hb).trans h.c11,(cell_blk hb).trans h.c12⟩
theorem FmC.below (h:FmC w g o f pp cp) (hg:g<B) (hb:Below B w w'):FmC w' g o f pp cp:=h.same (hb.block g hg)
theorem TkC.below (h:TkC w g o t pc cc) (hg:g<B) (hb:Below B w w'):TkC w' g o t pc cc:=h.same (hb.block g hg)
structure SpOk (s:Sp):Prop where
 p:i64ok s.p
 o:i64ok s.o
structure FmOk (f:Fm):Prop where
 ord:i64ok f.ord
 sch:i64ok f.sch
 ver:i64ok f.ver
 hsz:i64ok f.hsz
 hb:SpOk f.hb
 ht:SpOk f.ht
 hs:SpOk f.hs
 hv:SpOk f.hv
theorem fm_new (w:World) (f:Fm) (pp:Option Addr) (cp:Nat):FmC (w.alloc (fmO f pp cp)) w.heap.size 0 f pp cp :=
 ⟨cell_at (heap_al _ _) 0,cell_at (heap_al _ _) 1,cell_at (heap_al _ _) 2,cell_at (heap_al _ _) 3,cell_at (heap_al _ _) 4,cell_at (heap_al _ _) 5,cell_at (heap_al _ _) 6,cell_at (heap_al _ _) 7,cell_at (heap_al _ _) 8,cell_at (heap_al _ _) 9,cell_at (heap_al _ _) 10,cell_at (heap_al _ _) 11,cell_at (heap_al _ _) 12⟩
open Go.Maps
theorem laidOut:laidOutB Tryz.prog=true:=by kernel_rfl
theorem lawI:Keyed Tryz.prog 3:=int_keyed Tryz.underlying3
theorem lawN:Keyed Tryz.prog 176:=Keyed.of_law (deep_law_laid laidOut (m:=3) (by omega) (of_decide_eq_true (by kernel_rfl)) (by kernel_rfl) (by kernel_rfl))
theorem lawV:Keyed Tryz.prog 162:=Keyed.of_law (deep_law_laid laidOut (m:=3) (by omega) (of_decide_eq_true (by kernel_rfl)) (by kernel_rfl) (by kernel_rfl))
theorem zeroI (w:World):(zeroValue 3).run Tryz.prog w = .ok (.int .i64 0) w:=by kernel_rfl
def MHas (W:World) (k:TypeId) (m n:Nat) (hs:Value->Prop):Prop:=∃ D:DataW Unit,W.ownsMap Tryz.prog k (plainElem Tryz.prog 3) m n D/\∀ v kl,keyOf Tryz.prog k v=some kl->(Maps.has D kl=true↔hs v)
theorem MHas.same {k:TypeId} (h:MHas W k m n hs) (hb:W'.heap[m]?=W.heap[m]?):MHas W' k m n hs:=by
 obtain⟨D,⟨es,ck,e,r⟩,h2⟩:=h
 exact⟨D,⟨es,ck,hb.trans e,r⟩,h2⟩
theorem MHas.lt {k:TypeId} (h:MHas W k m n hs):m<W.heap.size:=by
 obtain⟨D,h1,h2⟩:=h
 exact h1.lt
theorem has_nil (kl:Lit):Maps.has (DataW.map []:DataW Unit) kl=false:=rfl
theorem MHas.made (w:World) (k:TypeId):MHas (w.alloc (.map #[] 0)) k w.heap.size 0 (fun _=>False) :=
 ⟨_,World.ownsMap_made w _ _ _,fun v kl _=>by rw[has_nil];simp⟩
theorem MHas.put {k:TypeId} (K:Keyed Tryz.prog k) {D:DataW Unit} (hD:W.ownsMap Tryz.prog k (plainElem Tryz.prog 3) m n D) (h:∀ v kl,keyOf Tryz.prog k v=some kl->(Maps.has D kl=true↔hs v)) {v0:Value} {k0:Lit} (hk:keyOf Tryz.prog k v0=some k0) {d:DataW Unit} (h':W'.ownsMap Tryz.prog k (plainElem Tryz.prog 3) m (n+1) (D.put k0 d)) :
  MHas W' k m (n+1) (fun v=>v=v0\/hs v):=by
 refine⟨_,h',fun v kl hv=>?_⟩
 by_cases e:kl=k0
 ·subst e
  rw[has_put_same hD.isMap (K.key hk)]
  have:=K.inj hv hk
  simp[this]
 ·rw[has_put_other e,h v kl hv]
  constructor
  ·exact .inr
  ·rintro(rfl|h)
   ·rw[hk] at hv;cases hv;exact absurd rfl e
   ·exact h
theorem isNewI_any (m n:Nat) (x i:Int) (hs:Value->Prop) (b:Bool) (w:World) (hM:MHas w 3 m n hs) (hn:n<17592186044416) (hx:i64ok x) (hi:i64ok i) (hb:b=true↔¬ hs (.int .i64 x)) :
  Calls Tryz.prog 130 #[.map (some m),.int .i64 x,.int .i64 i] w fun r w'=>r = .returned (.bool b)/\MHas w' 3 m (n+1) (fun v=>v = .int .i64 x\/hs v)/\w.grownBy w' (some m):=by
 obtain⟨D,hD,hh⟩:=hM
 have hkey:keyOf Tryz.prog 3 (.int .i64 x)=some (.int .i64 x):=keyOf_int_mk Tryz.underlying3 (WalkArith.wf_i64 hx)
 have e:Maps.has D (.int .i64 x) = !b:=by
  have:=hh _ _ hkey
  cases b<;>simp_all
 go_enter Tryz.func130,Tryz.ntmps130
 go_wp2_with (first|(at_lookup;refine wpList_lookup_own_ok_int _ rfl _ _ 130 rfl 3 3 .i64 lawI Tryz.underlying130 Tryz.underlying3 (zeroI _) m n D rfl hD _ _ rfl hkey ?_;intro c hat hwc)|(at_mapUpdate;refine wpList_mapUpdate_own _ rfl _ _ _ 130 rfl 3 3 lawI Tryz.underlying130 _ m n D rfl hD (by unfold maxLen;omega) _ _ _ rfl rfl hkey _ [] (plainElem_int Tryz.underlying3 (WalkArith.wf_i64 hi)) ?_;intro w1 hown1 hturn1))
 go_ret
 exact⟨rfl,MHas.put lawI hD hh hkey hown1,hturn1⟩
theorem tySize:∃ m,Tryz.prog.types.size=m+1:=⟨Tryz.prog.types.size-1,by kernel_rfl⟩
theorem ktN:Tryz.prog.keyType 176=true:=by kernel_rfl
theorem ktV:Tryz.prog.keyType 162=true:=by kernel_rfl
theorem clN:Tryz.prog.cellsOf 176=2:=by kernel_rfl
theorem clV:Tryz.prog.cellsOf 162=2:=by kernel_rfl
theorem clI:Tryz.prog.cellsOf 3=1:=by kernel_rfl
theorem clS:Tryz.prog.cellsOf 9=1:=by kernel_rfl
theorem clU:Tryz.prog.cellsOf 81=1:=by kernel_rfl
theorem keyN (a:Int) (s:ByteArray) (ha:i64ok a) (hs:s.size<=maxLen):∃ kl,keyOf Tryz.prog 176 (.agg #[.int .i64 a,.string s])=some kl:=by
 obtain⟨m,hm⟩:=tySize
 have wa:(Lit.int .i64 a).wf=true:=WalkArith.wf_i64 ha
 have hf:(Value.agg #[.int .i64 a,.string s]).formed Tryz.prog 176=true:=by simp[Value.formed,Tryz.underlying176,clN]
 unfold keyOf
 rw[Tryz.underlying176]
 simp only[ktN,hf,Bool.and_self,if_true,Value.cells]
 rw[hm]
 simp[Program.keyLits,Tryz.underlying176,Tryz.underlying3,Tryz.underlying9,clN,clI,clS,wa,hs]
theorem keyV (a b:Int) (ha:i64ok a) (hb:u64ok b):∃ kl,keyOf Tryz.prog 162 (.agg #[.int .i64 a,.int .u64 b])=some kl:=by
 obtain⟨m,hm⟩:=tySize
 have wa:(Lit.int .i64 a).wf=true:=WalkArith.wf_i64 ha
 have wb:(Lit.int .u64 b).wf=true:=WalkArith.wf_u64 hb
 have hf:(Value.agg #[.int .i64 a,.int .u64 b]).formed Tryz.prog 162=true:=by simp[Value.formed,Tryz.underlying162,clV]
 unfold keyOf
 rw[Tryz.underlying162]
 simp only[ktV,hf,Bool.and_self,if_true,Value.cells]
 rw[hm]
 simp[Program.keyLits,Tryz.underlying162,Tryz.underlying3,Tryz.underlying81,clV,clI,clU,wa,wb]
theorem isNewN_any (m n:Nat) (a i:Int) (s:ByteArray) (hs:Value->Prop) (b:Bool) (w:World) (hM:MHas w 176 m n hs) (hn:n<17592186044416) (ha:i64ok a) (hl:s.size<=maxLen) (hi:i64ok i) (hb:b=true↔¬ hs (.agg #[.int .i64 a,.string s])) :
  Calls Tryz.prog 131 #[.map (some m),.agg #[.int .i64 a,.string s],.int .i64 i] w fun r w'=>r = .returned (.bool b)/\MHas w' 176 m (n+1) (fun v=>v = .agg #[.int .i64 a,.string s]\/hs v)/\w.grownBy w' (some m):=by
 obtain⟨D,hD,hh⟩:=hM
 obtain⟨kl,hkey⟩:=keyN a s ha hl
 have e:Maps.has D kl = !b:=by
  have:=hh _ _ hkey
  cases b<;>simp_all
 go_enter Tryz.func131,Tryz.ntmps131
 go_wp2_with (first|(at_lookup;refine wpList_lookup_own_ok_int _ rfl _ _ 131 rfl 176 3 .i64 lawN Tryz.underlying131 Tryz.underlying3 (zeroI _) m n D rfl (hD.alloc _) _ _ rfl hkey ?_;intro c hat hwc)|(at_mapUpdate;refine wpList_mapUpdate_own _ rfl _ _ _ 131 rfl 176 3 lawN Tryz.underlying131 _ m n D rfl (hD.alloc _) (by unfold maxLen;omega) _ _ _ rfl rfl hkey _ [] (plainElem_int Tryz.underlying3 (WalkArith.wf_i64 hi)) ?_;intro w1 hown1 hturn1))
 go_ret
 exact⟨rfl,MHas.put lawN hD hh hkey hown1,(World.grownBy_alloc w _ _).trans hturn1⟩
theorem isNewV_any (m n:Nat) (a i x:Int) (hs:Value->Prop) (b:Bool) (w:World) (hM:MHas w 162 m n hs) (hn:n<17592186044416) (ha:i64ok a) (hx:u64ok x) (hi:i64ok i) (hb:b=true↔¬ hs (.agg #[.int .i64 a,.int .u64 x])) :
  Calls Tryz.prog 120 #[.map (some m),.agg #[.int .i64 a,.int .u64 x],.int .i64 i] w fun r w'=>r = .returned (.bool b)/\MHas w' 162 m (n+1) (fun v=>v = .agg #[.int .i64 a,.int .u64 x]\/hs v)/\w.grownBy w' (some m):=by
 obtain⟨D,hD,hh⟩:=hM
 obtain⟨kl,hkey⟩:=keyV a x ha hx
 have e:Maps.has D kl = !b:=by
  have:=hh _ _ hkey
  cases b<;>simp_all
 go_enter Tryz.func120,Tryz.ntmps120
 go_wp2_with (first|(at_lookup;refine wpList_lookup_own_ok_int _ rfl _ _ 132 rfl 162 3 .i64 lawV Tryz.underlying132 Tryz.underlying3 (zeroI _) m n D rfl (hD.alloc _) _ _ rfl hkey ?_;intro c hat hwc)|(at_mapUpdate;refine wpList_mapUpdate_own _ rfl _ _ _ 132 rfl 162 3 lawV Tryz.underlying132 _ m n D rfl (hD.alloc _) (by unfold maxLen;omega) _ _ _ rfl rfl hkey _ [] (plainElem_int Tryz.underlying3 (WalkArith.wf_i64 hi)) ?_;intro w1 hown1 hturn1))
 go_ret
 exact⟨rfl,MHas.put lawV hD hh hkey hown1,(World.grownBy_alloc w _ _).trans hturn1⟩
theorem pick_map (l:List Oper):∀ sc:List Nat,sc.all (fun i=>decide (i<l.length))=true->sc.map (fun i=>l.toArray[i]?)=(sc.filterMap fun i=>l[i]?).map some
 | [],_=>rfl
 | i::r,h=>by
  rw[List.all_cons,Bool.and_eq_true,decide_eq_true_eq] at h
  rw[List.map_cons,List.filterMap_cons,List.getElem?_eq_getElem h.1,pick_map l r h.2]
  simp[h.1]
theorem wp_region_pp {P:Program} {Q:Exit->Act->World->Prop} {id:Nat} {a:Act} {l:List Oper} (p:World->Prop) (sc:List Nat) (hm:P.follows .mixedOrders=true) (hv:(Region.noSelect l.toArray&&schB .any l.toArray sc (Array.replicate l.length false)&&(sc.length==l.length)&&sc.all (fun i=>decide (i<l.length)))=true)
  (hQ:∀ c (a:Act) d v w,Q (.panic c) (a.put d v) w->Q (.panic c) a w) (hp:p w.drew) (h:Lx P l.toArray (fun W=>∃ θ:CW p,W=θ.w) Q (sc.filterMap fun i=>l[i]?) a w.drew):(Code.region id l.toArray true).wp P Q a w:=by
 rw[Bool.and_eq_true] at hv
 exact wp_region_px p sc _ (pick_map l sc hv.2) hm hv.1 hQ hp h
structure Kb (E:List Nat) (w W:World):Prop where
 os:W.os=w.os
 tape:W.tape=w.tape
 output:W.output=w.output
 size:w.heap.size<=W.heap.size
 block:∀ k,k<w.heap.size->k∉E->W.heap[k]?=w.heap[k]?
theorem Kb.refl (E:List Nat) (w:World):Kb E w w:=⟨rfl,rfl,rfl,Nat.le_refl _,fun _ _ _=>rfl⟩
theorem Kb.trans {c:World} (h:Kb E a b) (h':Kb E b c):Kb E a c :=
 ⟨h'.os.trans h.os,h'.tape.trans h.tape,h'.output.trans h.output,Nat.le_trans h.size h'.size,fun k hk he=>(h'.block k (Nat.lt_of_lt_of_le hk h.size) he).trans (h.block k hk he)⟩
theorem Kb.mono {E':List Nat} (h:Kb E a b) (hE:∀ x∈E,x∈E'):Kb E' a b:=⟨h.os,h.tape,h.output,h.size,fun k hk he=>h.block k hk fun hx=>he (hE k hx)⟩
theorem Kb.of_below (h:Below a.heap.size a b):Kb E a b:=⟨h.os,h.tape,h.output,h.size,fun k hk _=>h.block k hk⟩
theorem Kb.of_grown (h:a.grownBy b (some m)) (hm:m∈E):Kb E a b:=⟨h.os,h.tape,h.output,h.size,fun k hk he=>h.block k hk fun e=>he (by cases e;exact hm)⟩
theorem Kb.drew (h:Kb E a b):Kb E a b.drew:=⟨h.os,h.tape,h.output,h.size,h.block⟩
theorem Kb.alloc (h:Kb E a b) (o:Obj):Kb E a (b.alloc o):=h.trans (Kb.of_below (bel1 _ _))
theorem Kb.set (h:Kb E a b) (hg:g∈E) (v:Value):Kb E a (b.setCell ⟨g,o,none⟩ v):=by
 refine⟨h.os,h.tape,h.output,?_,fun k hk he=>?_⟩
 ·show a.heap.size<=(b.heap.modify g _).size
  rw[Array.size_modify];exact h.size
 ·show (b.heap.modify g _)[k]?=_
  rw[Array.getElem?_modify,if_neg (fun e=>he (by subst e;exact hg))]
  exact h.block k hk he
theorem Kb.below (h:Kb E a b) (hB:B<=a.heap.size) (hE:∀ x∈E,B<=x):Below B a b:=⟨h.os,h.tape,h.output,h.size,fun k hk=>h.block k (by omega) fun hx=>by have:=hE k hx;omega⟩
theorem Kb.cell (h:Kb E a b) (hg:g<a.heap.size) (hE:g∉E):b.cell? ⟨g,o,none⟩=a.cell? ⟨g,o,none⟩:=cell_blk (h.block g hg hE)
theorem Kb0 (h:Kb [] w W):Below w.heap.size w W:=⟨h.os,h.tape,h.output,h.size,fun k hk=>h.block k hk List.not_mem_nil⟩
theorem tdr1 (h:Below B a w):Below B a w.drew:=⟨h.os,h.tape,h.output,h.size,h.block⟩
structure Sv where
 at_:Nat
 cnt:Int
 last:Int
 fld:Int
 row:Int
 en:Int
 cod:Int
def svC (g o:Nat) (s:Sv):List Value:=[.pointer (some ⟨g,o+s.at_*21,none⟩),.int .i64 (s.at_:Int),.int .i64 s.cnt,.int .i64 s.last,.int .i64 s.fld,.int .i64 s.row,.int .i64 s.en,.int .i64 s.cod]
def svCs (g o:Nat) (l:List Sv):List Value:=l.flatMap (svC g o)
theorem svCs_length (g o:Nat) (l:List Sv):(svCs g o l).length=l.length*8:=by
 induction l with
 | nil=>rfl
 | cons a r ih =>
  unfold svCs at ih ⊢
  rw[List.flatMap_cons,List.length_append,ih,List.length_cons]
  show 8+_=_
  omega
theorem svCs_append (g o:Nat) (a b:List Sv):svCs g o (a++b)=svCs g o a++svCs g o b:=by unfold svCs;rw[List.flatMap_append]
structure ScC (w:World) (g o go k:Nat) (x:Sv):Prop where
 c0:w.cell? ⟨go,k,none⟩=some (.pointer (some ⟨g,o+x.at_*21,none⟩))
 c1:w.cell? ⟨go,k+1,none⟩=some (.int .i64 (x.at_:Int))
 c2:w.cell? ⟨go,k+2,none⟩=some (.int .i64 x.cnt)
 c3:w.cell? ⟨go,k+3,none⟩=some (.int .i64 x.last)
 c4:w.cell? ⟨go,k+4,none⟩=some (.int .i64 x.fld)
 c5:w.cell? ⟨go,k+5,none⟩=some (.int .i64 x.row)
 c6:w.cell? ⟨go,k+6,none⟩=some (.int .i64 x.en)
 c7:w.cell? ⟨go,k+7,none⟩=some (.int .i64 x.cod)
structure OpR (w:World) (g o go cap:Nat) (l:List Sv):Prop where
 ex:∃ cur:Array Value,w.heap[go]?=some (.cells cur 149 (0,0))/\l.length<=cap/\cap<=maxLen/\cur.size=cap*8/\cur.toList.take (l.length*8)=svCs g o l
theorem OpR.same {l:List Sv} (h:OpR w g o go cap l) (hb:w'.heap[go]?=w.heap[go]?):OpR w' g o go cap l:=by
 obtain⟨cur,h1,r⟩:=h.ex
 exact⟨cur,hb.trans h1,r⟩
theorem OpR.lt {l:List Sv} (h:OpR w g o go cap l):go<w.heap.size:=by
 obtain⟨cur,h1,_⟩:=h.ex
 exact(Array.getElem?_eq_some_iff.1 h1).1
theorem OpR.owns {l:List Sv} (h:OpR w g o go cap l) (hb:base<=go):w.ownsRow base 149 8 (.slice (some ⟨go,0,none⟩) l.length cap) l.length (svCs g o l):=by
 obtain⟨cur,h1,h2,h3,h4,h5⟩:=h.ex
 exact⟨svCs_length g o l,.inr ⟨go,cap,cur,rfl,hb,h1,h2,h3,h4,h5⟩⟩
theorem OpR.cell {l:List Sv} (h:OpR w g o go cap l) {u:Value} (hu:(svCs g o l)[j]?=some u):w.cell? ⟨go,j,none⟩=some u:=by
 obtain⟨cur,h1,h2,h3,h4,h5⟩:=h.ex
 rw[<- h5,List.getElem?_take] at hu
 split at hu
 ·simp only[World.cell?,h1]
  simpa using hu
 ·cases hu
theorem svCs_last (g o:Nat) (L:List Sv) (x:Sv) (j:Nat) (hj:j<8):(svCs g o (L++[x]))[L.length*8+j]?=(svC g o x)[j]?:=by
 rw[svCs_append,List.getElem?_append_right (by rw[svCs_length];omega),svCs_length]
 rw[show L.length*8+j-L.length*8=j by omega]
 unfold svCs
 rw[List.flatMap_cons,List.flatMap_nil,List.append_nil]
theorem OpR.last {L:List Sv} {x:Sv} (h:OpR w g o go cap (L++[x])):ScC w g o go (L.length*8) x :=
 have c:=fun j u (hj:j<8) (hu:(svC g o x)[j]?=some u)=>h.cell ((svCs_last g o L x j hj).trans hu)
 ⟨c 0 _ (by decide) rfl,c 1 _ (by decide) rfl,c 2 _ (by decide) rfl,c 3 _ (by decide) rfl,c 4 _ (by decide) rfl,c 5 _ (by decide) rfl,c 6 _ (by decide) rfl,c 7 _ (by decide) rfl⟩
theorem OpR.set {L:List Sv} {x x':Sv} (h:OpR w g o go cap (L++[x])) (hj:j<8) (hx:svC g o x'=(svC g o x).set j v):OpR (w.setCell ⟨go,L.length*8+j,none⟩ v) g o go cap (L++[x']):=by
 obtain⟨cur,h1,h2,h3,h4,h5⟩:=h.ex
 have hl:(L++[x]).length=(L++[x']).length:=by simp
 have hx8:(svC g o x).length=8:=rfl
 refine⟨cur.setIfInBounds (L.length*8+j) v,?_,by rw[<- hl];exact h2,h3,by rw[Array.size_setIfInBounds];exact h4,?_⟩
 ·show (w.heap.modify go _)[go]?=_
  rw[Array.getElem?_modify,if_pos rfl,h1]
  rfl
 ·rw[Array.toList_setIfInBounds,List.take_set,<- hl,h5,svCs_append,svCs_append,List.set_append_right _ _ (by rw[svCs_length];omega),svCs_length]
  rw[show L.length*8+j-L.length*8=j by omega]
  congr 1
  unfold svCs
  rw[List.flatMap_cons,List.flatMap_nil,List.append_nil,List.flatMap_cons,List.flatMap_nil,List.append_nil,hx]
theorem tdr (h:Below B a w):Below B a (w.drewN n):=⟨h.os,h.tape,h.output,h.size,h.block⟩
theorem top_any (B go n cap:Nat) (w:World) (hc:w.cell? ⟨B,0,none⟩=some (.slice (some ⟨go,0,none⟩) (n+1) cap)) (hn:n<1000000000000) :
  Calls Tryz.prog 100 #[.pointer (some ⟨B,0,none⟩)] w fun r w'=>r = .returned (.pointer (some ⟨go,n*8,none⟩))/\Below w.heap.size w w':=by
 have e1:((n+1:Nat):Int)-1=(n:Int):=by omega
 have e2:(n:Int)<((n+1:Nat):Int):=by omega
 go_enter Tryz.func100,Tryz.ntmps100
 go_wp2_with fail
 go_quiet (fail)
 go_wp2_with fail
 go_ret
 exact⟨rfl,tdr (Below.refl _ _)⟩
theorem isEmpty_any (B n cap:Nat) (p:Option Addr) (w:World) (hc:w.cell? ⟨B,0,none⟩=some (.slice p n cap)) :
  Calls Tryz.prog 99 #[.pointer (some ⟨B,0,none⟩)] w fun r w'=>r = .returned (.bool (decide (n=0)))/\w'=w:=by
 go_enter Tryz.func99,Tryz.ntmps99
 go_wp2_with fail
 go_ret
 exact⟨rb (by rw[Bool.eq_iff_iff];simp),rfl⟩
structure CkC (w:World) (B gf:Nat) (op:Value) (i:Int) (rl:Value) (m1 m2 m3:Nat) (dep:Nat->Int) (wh:Bool):Prop where
 lt:B<w.heap.size
 c0:w.cell? ⟨B,0,none⟩=some op
 c1:w.cell? ⟨B,1,none⟩=some (.pointer (some ⟨gf,0,none⟩))
 c2:w.cell? ⟨B,2,none⟩=some (.int .i64 i)
 c3:w.cell? ⟨B,3,none⟩=some rl
 cd:∀ q,q<16->w.cell? ⟨B,4+q,none⟩=some (.int .i64 (dep q))
 c20:w.cell? ⟨B,20,none⟩=some (.map (some m1))
 c21:w.cell? ⟨B,21,none⟩=some (.map (some m2))
 c22:w.cell? ⟨B,22,none⟩=some (.map (some m3))
 c23:w.cell? ⟨B,23,none⟩=some (.bool wh)
theorem CkC.same {gf:Nat} {op:Value} {i:Int} {rl:Value} {m1 m2 m3:Nat} {dep:Nat->Int} {wh:Bool} (h:CkC w B gf op i rl m1 m2 m3 dep wh) (hs:w.heap.size<=w'.heap.size) (hb:w'.heap[B]?=w.heap[B]?):CkC w' B gf op i rl m1 m2 m3 dep wh :=
 ⟨Nat.lt_of_lt_of_le h.lt hs,(cell_blk hb).trans h.c0,(cell_blk hb).trans h.c1,(cell_blk hb).trans h.c2,(cell_blk hb).trans h.c3,fun q hq=>(cell_blk hb).trans (h.cd q hq),(cell_blk hb).trans h.c20,(cell_blk hb).trans h.c21,(cell_blk hb).trans h.c22,(cell_blk hb).trans h.c23⟩
theorem ScC.same {x:Sv} (h:ScC w g o go k x) (hb:w'.heap[go]?=w.heap[go]?):ScC w' g o go k x :=
 ⟨(cell_blk hb).trans h.c0,(cell_blk hb).trans h.c1,(cell_blk hb).trans h.c2,(cell_blk hb).trans h.c3,(cell_blk hb).trans h.c4,(cell_blk hb).trans h.c5,(cell_blk hb).trans h.c6,(cell_blk hb).trans h.c7⟩
theorem nbel (w:World) (o:Obj):Below w.heap.size w (w.alloc o):=(Below.refl _ _).alloc (Nat.le_refl _) _
theorem thnK (w:World) (o:Obj):(w.alloc o).heap[w.heap.size]?=some o:=by
 show (w.heap.push o)[w.heap.size]?=some o
 simp
def cI (n:Nat):Value:=.int .i64 (n:Int)
def NRow (W:World) (base:Nat) (v:Value) (ns:List Nat):Prop:=W.ownsRow base 3 1 v ns.length (ns.map cI)
theorem own_lower {z:Nat} {ty:TypeId} (h:w.ownsRow H ty z v n xs) (hH:H'<=H):w.ownsRow H' ty z v n xs:=by
 refine⟨h.1,?_⟩
 rcases h.2 with h0|⟨g,cap,cur,e,hb',r⟩
 ·exact .inl h0
 ·exact .inr ⟨g,cap,cur,e,Nat.le_trans hH hb',r⟩
theorem own_keep (h:W.ownsRow base e s v n xs) (hb:Below W.heap.size W W'):W'.ownsRow base e s v n xs:=by
 refine⟨h.1,?_⟩
 rcases h.2 with h0|⟨g,cap,cur,rfl,hb',hg,r⟩
 ·exact .inl h0
 ·exact .inr ⟨g,cap,cur,rfl,hb',(hb.block g (Array.getElem?_eq_some_iff.1 hg).1).trans hg,r⟩
theorem NRow.below (h:NRow W base v ns) (hb:Below W.heap.size W W'):NRow W' base v ns:=own_keep h hb
theorem NRow.low {base':Nat} (h:NRow W base v ns) (hB:base'<=base):NRow W base' v ns:=own_lower h hB
theorem NRow.nil (W:World) (base:Nat):NRow W base (.slice none 0 0) []:=World.ownsRow_nil _ _ _ 1
theorem NRow.shape (h:NRow W base v ns):∃ pp cp,v = .slice pp ns.length cp/\∀ (i n:Nat),ns[i]?=some n->∃ g,pp=some ⟨g,0,none⟩/\g<W.heap.size/\W.cell? ⟨g,i,none⟩=some (.int .i64 (n:Int)):=by
 rcases h.2 with ⟨hv,hn⟩|⟨g,cap,cur,hv,_,hg,hc,_,hs,ht⟩
 ·refine⟨none,0,by rw[hv,hn],fun i n hi=>?_⟩
  rw[List.eq_nil_of_length_eq_zero hn] at hi
  cases hi
 ·refine⟨_,_,hv,fun i n hi=>⟨g,rfl,(Array.getElem?_eq_some_iff.1 hg).1,?_⟩⟩
  have hi2:(ns.map cI)[i]?=some (.int .i64 (n:Int)):=by rw[List.getElem?_map,hi];rfl
  rw[<- ht] at hi2
  rw[List.getElem?_take] at hi2
  split at hi2
  ·simp only[World.cell?,hg]
   rw[<- hi2,Array.getElem?_toList]
   rfl
  ·cases hi2
theorem grown_below {Wp:World} (hW:Below w.heap.size w Wp) (q2:Wp.grownBy w' v.ownBlock) (hH:H<=w.heap.size) (hv:∀ k,v.ownBlock=some k->H<=k):Below H w w' :=
 ⟨q2.os.trans hW.os,q2.tape.trans hW.tape,q2.output.trans hW.output,Nat.le_trans hW.size q2.size,fun j hj=>(q2.block j (by have:=hW.size;omega) (fun e=>by have:=hv j e.symm;omega)).trans (hW.block j (by omega))⟩
theorem infoInt:(Tryz.prog.info? 3).map (fun i=>(i.zero,i.size,i.bytes))=some (some (.int .i64 0),1,8):=by kernel_rfl
theorem n_ap {wr:World} (k:Nat) (h:NRow wr base v ns) (hl:ns.length+1<=977343669134) (hb:base<=wr.heap.size) :
  ∃ v' w',(∀ ty,(Builtin.append_ #[68,68] ty #[v,.slice (some ⟨wr.heap.size,0,none⟩) 1 1]).run Tryz.prog (wr.alloc (.cells #[.int .i64 (k:Int)] 3)) = .ok v' w')/\(NRow w' base v' (ns++[k])/\Below base wr w'):=by
 obtain⟨i0,hi,hz⟩:=Option.map_eq_some_iff.1 infoInt
 simp only[Prod.mk.injEq] at hz
 have h1:=own_keep h (nbel wr (.cells #[.int .i64 (k:Int)] 3))
 have hN:∀ (j:Nat) (u:Value),[Value.int .i64 (k:Int)][j]?=some u->(wr.alloc (.cells #[.int .i64 (k:Int)] 3)).cell? ((⟨wr.heap.size,0,none⟩:Addr).add j)=some u:=World.news_of_block (thnK wr _)
 have hr:=run_append_own_at (P:=Tryz.prog) (wr.alloc (.cells #[.int .i64 (k:Int)] 3)) base 68 0 3 i0 _ 1 8 Tryz.underlying68 hi hz.1 hz.2.1 hz.2.2 rfl (by decide) v ns.length (ns.map cI) h1 ⟨wr.heap.size,0,none⟩ 1 1 [.int .i64 (k:Int)] rfl hN (fun u hu=>by rw[List.mem_singleton.1 hu];rfl) (by simp only[maxLen];omega) (by omega) (by simp;omega)
 obtain⟨v',w',h2,h3,h4,_⟩:=hr
 refine⟨v',w',fun _=>h2,?_,grown_below (nbel _ _) h4 hb (fun j hj=>(h.lt j hj).1)⟩
 unfold NRow
 rw[List.length_append,List.map_append]
 exact h3
theorem ap_step {P:Program} {ops:Array Oper} {rest:List Oper} {o:Oper} {a:Act} {Q:Exit->Act->World->Prop} (hgd:o.guard=none) (s x:Operand) (t tx:TypeId)
  (ho:o.op = .call { callee:=.builtin .append,args:=#[s,x],argTypes:=#[t,tx] }) (sv xv:Value) (hs:a.eval s=sv) (hx:a.eval x=xv) (Post:Value->World->Prop)
  (hrun:∃ v w',(∀ ty,(Builtin.append_ #[t,tx] ty #[sv,xv]).run P w = .ok v w')/\Post v w')
  (h:∀ v w',Post v w'->wpList P ops Q rest (a.put o.dst v) w'):wpList P ops Q (o::rest) a w:=by
 obtain⟨v,w',hr,hp⟩:=hrun
 refine wpList_plain hgd fun _ hK=>?_
 unfold Oper.wp execOp
 simp only[ho,resolve,invoke,builtin,Sem.run_bind,Sem.run_pure,Result.andThen_ok,List.map_toArray,List.map_cons,List.map_nil,hs,hx,hr]
 exact hK _ _ (h v w' hp)
theorem lawS:Keyed Tryz.prog 9:=string_keyed Tryz.underlying9
theorem zeroU (w:World):(zeroValue 106).run Tryz.prog w = .ok (.agg #[]) w:=by kernel_rfl
theorem keyS (s:ByteArray) (hs:s.size<=maxLen):keyOf Tryz.prog 9 (.string s)=some (.string s.data.toList):=by
 exact Go.WideMaps.keyOf_string_mk Tryz.underlying9 hs
def SHas (W:World) (m n:Nat) (hs:ByteArray->Prop):Prop:=∃ D:DataW Unit,W.ownsMap Tryz.prog 9 unitElem m n D/\∀ s:ByteArray,s.size<=maxLen->(Maps.has D (.string s.data.toList)=true↔hs s)
theorem SHas.same {hs:ByteArray->Prop} (h:SHas W m n hs) (hb:W'.heap[m]?=W.heap[m]?):SHas W' m n hs:=by
 obtain⟨D,⟨es,ck,e,r⟩,h2⟩:=h
 exact⟨D,⟨es,ck,hb.trans e,r⟩,h2⟩
theorem SHas.made (w:World):SHas (w.alloc (.map #[] 0)) w.heap.size 0 (fun _=>False) :=
 ⟨_,World.ownsMap_made w _ _ _,fun s _=>by rw[has_nil];simp⟩
theorem ba_inj {a b:ByteArray} (h:a.data.toList=b.data.toList):a=b:=ByteArray.ext (Array.toList_inj.1 h)
theorem SHas.put {hs:ByteArray->Prop} {D:DataW Unit} (hD:W.ownsMap Tryz.prog 9 unitElem m n D) (h:∀ s:ByteArray,s.size<=maxLen->(Maps.has D (.string s.data.toList)=true↔hs s)) {s0:ByteArray} (hs0:s0.size<=maxLen) {d:DataW Unit} (h':W'.ownsMap Tryz.prog 9 unitElem m (n+1) (D.put (.string s0.data.toList) d)) :
  SHas W' m (n+1) (fun s=>s=s0\/hs s):=by
 refine⟨_,h',fun s hs=>?_⟩
 by_cases e:s=s0
 ·subst e
  rw[has_put_same hD.isMap (lawS.key (keyS s hs))]
  simp
 ·rw[has_put_other (fun e'=>e (ba_inj (by injection e'))),h s hs]
  simp[e]
def PtC (l:List Tk) (W:World) (lo hi:Nat):Nat->Nat->Nat->Prop
 | 0,_,_=>False
 | d+1,g,p=>(lo<=g/\g<hi)/\∃ (m k:Nat) (v:Value) (gs:List Nat),W.heap[g]?=some (.cells #[.int .i64 (knd (opAt l p)),.string (nmAt l p),.int .i64 (p:Int),.int .u64 (gmax (bpAt l p)),.map (some m),v] 104) /\
  (lo<=m/\m<hi/\SHas W m k (fun s=>∃ i∈fldZ l p,nmAt l i=s))/\(∀ r,v.ownBlock=some r->r<hi)/\W.ownsRow lo 62 1 v gs.length (gs.map fun g=>Value.pointer (some ⟨g,0,none⟩)) /\
  gs.length=(rowZ l p).length/\∀ (j g' q:Nat),gs[j]?=some g'->(rowZ l p)[j]?=some q->PtC l W lo hi d g' q
theorem own_keepP (h:W.ownsRow base e s v n xs) (hb:∀ k,v.ownBlock=some k->W'.heap[k]?=W.heap[k]?):W'.ownsRow base e s v n xs:=by
 refine⟨h.1,?_⟩
 rcases h.2 with h0|⟨g,cap,cur,rfl,hb',hg,r⟩
 ·exact .inl h0
 ·exact .inr ⟨g,cap,cur,rfl,hb',(hb g rfl).trans hg,r⟩
theorem PtC.same (hb:∀ k,lo<=k->k<hi->W'.heap[k]?=W.heap[k]?):∀ {d g p:Nat},PtC l W lo hi d g p->PtC l W' lo hi d g p
 | 0,_,_,h=>h.elim
 | _+1,g,_,⟨hg,m,k,v,gs,h1,⟨h2,h3,h4⟩,h5,h6,h7,h8⟩ =>
  ⟨hg,m,k,v,gs,(hb g hg.1 hg.2).trans h1,⟨h2,h3,h4.same (hb m h2 h3)⟩,h5,own_keepP h6 (fun r hr=>hb r (h6.lt r hr).1 (h5 r hr)),h7,fun j g' q e1 e2=>PtC.same hb (h8 j g' q e1 e2)⟩
theorem PtC.mono {lo' hi':Nat} (hl:lo'<=lo) (hh:hi<=hi'):∀ {d g p:Nat},PtC l W lo hi d g p->PtC l W lo' hi' d g p
 | 0,_,_,h=>h.elim
 | _+1,_,_,⟨hg,m,k,v,gs,h1,⟨h2,h3,h4⟩,h5,h6,h7,h8⟩ =>
  ⟨⟨by omega,by omega⟩,m,k,v,gs,h1,⟨by omega,by omega,h4⟩,fun r hr=>by have:=h5 r hr;omega,own_lower h6 hl,h7,fun j g' q e1 e2=>PtC.mono hl hh (h8 j g' q e1 e2)⟩
def PtA (l:List Tk) (W:World) (lo hi g p:Nat):Prop:=∃ d,PtC l W lo hi d g p
theorem PtA.same {p:Nat} (h:PtA l W lo hi g p) (hb:∀ k,lo<=k->k<hi->W'.heap[k]?=W.heap[k]?):PtA l W' lo hi g p:=⟨h.choose,PtC.same hb h.choose_spec⟩
def lvC (g:Nat) (x:Lv):List Value:=[.pointer (some ⟨g,0,none⟩),.int .i64 x.left,.bool x.begun,.int .i64 (x.come:Int)]
def lvCs:List (Nat×Lv)->List Value
 | []=>[]
 | y::r=>lvC y.1 y.2++lvCs r
theorem lvCs_append (a b:List (Nat×Lv)):lvCs (a++b)=lvCs a++lvCs b:=by
 induction a with
 | nil=>rfl
 | cons x a ih=>rw[List.cons_append,lvCs,lvCs,ih,List.append_assoc]
theorem lvCs_length (a:List (Nat×Lv)):(lvCs a).length=a.length*4:=by
 induction a with
 | nil=>rfl
 | cons x a ih=>rw[lvCs,List.length_append,ih,List.length_cons];show 4+_=_;omega
theorem lvCs_one (a:List (Nat×Lv)):∀ u∈lvCs a,u.oneCell'=true:=by
 induction a with
 | nil=>intro u hu;cases hu
 | cons x a ih =>
  intro u hu
  rcases List.mem_append.1 hu with h|h
  ·simp only[lvC,List.mem_cons,List.not_mem_nil,or_false] at h
   rcases h with rfl|rfl|rfl|rfl<;>rfl
  ·exact ih u h
def Op4 (W:World) (go cap:Nat) (zs:List (Nat×Lv)):Prop:=∃ cur:Array Value,W.heap[go]?=some (.cells cur 65)/\zs.length<=cap/\cap<=maxLen/\cur.size=cap*4/\cur.toList.take (zs.length*4)=lvCs zs
theorem Op4.same (h:Op4 W go cap zs) (hb:W'.heap[go]?=W.heap[go]?):Op4 W' go cap zs:=by
 obtain⟨cur,h1,h2⟩:=h
 exact⟨cur,hb.trans h1,h2⟩
theorem Op4.lt (h:Op4 W go cap zs):go<W.heap.size:=by
 obtain⟨cur,h1,_⟩:=h
 exact(Array.getElem?_eq_some_iff.1 h1).1
theorem lvCs_get:∀ (zs:List (Nat×Lv)) (i:Nat) (y:Nat×Lv) (ys:List Value),zs[i]?=some y->∀ j,j<4->(lvCs zs++ys)[i*4+j]?=(lvC y.1 y.2)[j]?
 | [],_,_,_,h,_,_=>by cases h
 | a::r,0,y,ys,h,j,hj=>by
  cases h
  rw[lvCs,List.append_assoc,List.getElem?_append_left (by show 0*4+j<4;omega),Nat.zero_mul,Nat.zero_add]
 | a::r,i+1,y,ys,h,j,hj=>by
  have ih:=lvCs_get r i y ys h j hj
  have hl:(lvC a.1 a.2).length=4:=rfl
  rw[lvCs,List.append_assoc,List.getElem?_append_right (by omega),hl,<- ih]
  congr 1
  omega
theorem Op4.at (h:Op4 W go cap zs) {y:Nat×Lv} (hy:zs[i]?=some y) (j:Nat) (hj:j<4):W.cell? ⟨go,i*4+j,none⟩=(lvC y.1 y.2)[j]?:=by
 obtain⟨cur,h1,h2,h3,h4,h5⟩:=h
 have hi:=(List.getElem?_eq_some_iff.1 hy).1
 have e:=lvCs_get zs i y [] hy j hj
 rw[List.append_nil,<- h5,List.getElem?_take,if_pos (by omega),Array.getElem?_toList] at e
 rw[cell_at h1]
 exact e
structure SM (W:World) (a go cap k:Nat) (zs:List (Nat×Lv)) (ent:Int):Prop where
 c:W.heap[a]?=some (.cells #[.slice (some ⟨go,0,none⟩) k cap,.int .i64 ent] 60)
 o:Op4 W go cap zs
 kl:k<=zs.length
 k1:0<k
 ne:a≠go
 zl:zs.length<=1000000
theorem SM.same {a:Nat} (h:SM W a go cap k zs ent) (h1:W'.heap[a]?=W.heap[a]?) (h2:W'.heap[go]?=W.heap[go]?):SM W' a go cap k zs ent:=⟨h1.trans h.c,h.o.same h2,h.kl,h.k1,h.ne,h.zl⟩
theorem SM.lt {a:Nat} (h:SM W a go cap k zs ent):a<W.heap.size/\go<W.heap.size:=⟨(Array.getElem?_eq_some_iff.1 h.c).1,h.o.lt⟩
theorem SM.below {a:Nat} (h:SM W a go cap k zs ent) (hb:Below W.heap.size W W'):SM W' a go cap k zs ent:=h.same (hb.block _ h.lt.1) (hb.block _ h.lt.2)
theorem SM.c0 {a:Nat} (h:SM W a go cap k zs ent):W.cell? ⟨a,0,none⟩=some (.slice (some ⟨go,0,none⟩) k cap):=cell_at h.c 0
theorem SM.c1 {a:Nat} (h:SM W a go cap k zs ent):W.cell? ⟨a,1,none⟩=some (.int .i64 ent):=cell_at h.c 1
abbrev lvV (g:Nat) (x:Lv):Value:=.agg #[.pointer (some ⟨g,0,none⟩),.int .i64 x.left,.bool x.begun,.int .i64 (x.come:Int)]
abbrev lvO (g:Nat) (x:Lv):Obj:=.cells #[.pointer (some ⟨g,0,none⟩),.int .i64 x.left,.bool x.begun,.int .i64 (x.come:Int)] 65
theorem PtA.row {p:Nat} (h:PtA l W lo hi g p):∃ (m k:Nat) (pr:Option Addr) (cr:Nat),W.heap[g]?=some (.cells #[.int .i64 (knd (opAt l p)),.string (nmAt l p),.int .i64 (p:Int),.int .u64 (gmax (bpAt l p)),.map (some m),.slice pr (rowZ l p).length cr] 104)/\SHas W m k (fun s=>∃ i∈fldZ l p,nmAt l i=s) /\
  ∀ (j q:Nat),(rowZ l p)[j]?=some q->∃ r g',pr=some ⟨r,0,none⟩/\W.cell? ⟨r,j,none⟩=some (.pointer (some ⟨g',0,none⟩))/\PtA l W lo hi g' q:=by
 obtain⟨d,h⟩:=h
 cases d with
 | zero=>exact h.elim
 | succ d =>
  obtain⟨hg,m,k,v,gs,h1,⟨h2,h3,h4⟩,h5,h6,h7,h8⟩:=h
  rcases h6.2 with ⟨hv,hn⟩|⟨r,cap,cur,hv,_,hr,hc,_,hs,ht⟩
  ·refine⟨m,k,none,0,by rw[h1,hv,<- h7,hn],h4,fun j q hq=>?_⟩
   have:=(List.getElem?_eq_some_iff.1 hq).1
   omega
  ·refine⟨m,k,some ⟨r,0,none⟩,cap,by rw[h1,hv,<- h7],h4,fun j q hq=>?_⟩
   have hj:=(List.getElem?_eq_some_iff.1 hq).1
   obtain⟨g',hg'⟩:∃ g',gs[j]?=some g':=⟨gs[j]'(by omega),List.getElem?_eq_getElem (by omega)⟩
   refine⟨r,g',rfl,?_,d,h8 j g' q hg' hq⟩
   have e:(gs.map fun g=>Value.pointer (some ⟨g,0,none⟩))[j]?=some (.pointer (some ⟨g',0,none⟩)):=by rw[List.getElem?_map,hg'];rfl
   rw[<- ht,List.getElem?_take] at e
   split at e
   ·rw[cell_at hr,<- e,Array.getElem?_toList]
   ·cases e
structure Hid0 (p:Prop):Prop where
 out:p
def Ans (r:Ending) (P:Prop):Prop:=∃ b,r = .returned (.bool b)/\(b=true↔P)
theorem Ans.yes (h:P):Ans (.returned (.bool true)) P:=⟨true,rfl,by simp[h]⟩
theorem Ans.no (h:¬ P):Ans (.returned (.bool false)) P:=⟨false,rfl,by simp[h]⟩
theorem Ans.said {r:Ending} (h:Ans r P) {b:Bool} (hb:P↔b=true):r = .returned (.bool b):=by
 obtain⟨c,rfl,hc⟩:=h
 rw[hb] at hc
 congr 2
 cases c<;>cases b<;>simp_all
theorem Ans.same {r:Ending} {b:Bool} (h:Ans r (b=true)):r = .returned (.bool b):=h.said Iff.rfl
theorem refBegins_any (op:Int) (w:World) (h:i64ok op):Calls Tryz.prog 36 #[.int .i64 op] w fun r w'=>r = .returned (.bool (bgO op))/\w'=w:=by
 have hb:bgO op=true↔0<=op/\op<14/\op % 2=0:=by
  unfold bgO
  rw[decide_eq_true_eq]
  omega
 replace hb:Hid0 _:=⟨hb⟩
 unfold i64ok at h
 suffices hh:Calls Tryz.prog 36 #[.int .i64 op] w fun r w'=>Ans r (bgO op=true)/\w'=w from hh.mono fun r w' h=>⟨h.1.same,h.2⟩
 go_enter Tryz.func36,Tryz.ntmps36
 go_wp2_with fail
 all_goals
  go_ret
  refine⟨⟨_,rfl,?_⟩,rfl⟩
  rw[hb.out]
  simp[*]
  try omega
theorem typeOp_any (op:Int) (w:World):Calls Tryz.prog 80 #[.int .i64 op] w fun r w'=>r = .returned (.bool (tyO op))/\w'=w:=by
 have hb:tyO op=true↔op=8\/op=10\/op=12\/op=14:=by
  unfold tyO
  rw[decide_eq_true_eq]
 replace hb:Hid0 _:=⟨hb⟩
 suffices hh:Calls Tryz.prog 80 #[.int .i64 op] w fun r w'=>Ans r (tyO op=true)/\w'=w from hh.mono fun r w' h=>⟨h.1.same,h.2⟩
 go_enter Tryz.func80,Tryz.ntmps80
 go_wp2_with fail
 all_goals
  go_ret
  refine⟨⟨_,rfl,?_⟩,rfl⟩
  rw[hb.out]
  simp[*]
end Go.Proofs.YtbhmciieiilcfaaGreatDoor
