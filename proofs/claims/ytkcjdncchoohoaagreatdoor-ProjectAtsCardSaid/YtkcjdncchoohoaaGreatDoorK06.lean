import Derived.Test.YtkcjdncchoohoaaGreatDoorK05
import Derived.Deep.AppendSrc
namespace Go.Proofs.YtkcjdncchoohoaaGreatDoor
set_option maxRecDepth 1000000
set_option maxHeartbeats 16000000
open Go.ChangeShapes Go.WideShapes Go.ChangeAt Go.RowKit Go.Shelf
variable {B H H' cc cp g h j o tb:Nat} {P:Prop} {W w w':World} {b:Bool} {cs st:List Nat} {f:Fm} {l:List Tk} {p pc pp:Option Addr} {t:Tk} {vc:Value}
theorem drop_at {α:Type} {l:List α} {a:α} (h:l[j]?=some a):l.drop j=a::l.drop (j+1):=by
 obtain⟨h1,h2⟩:=List.getElem?_eq_some_iff.1 h
 rw[List.drop_eq_getElem_cons h1,h2]
theorem take_at {α:Type} {l:List α} {a:α} (h:l[j]?=some a):l.take (j+1)=l.take j++[a]:=by
 rw[List.take_add_one,h];rfl
def spOk (n:Int):List Sp->List Sp->Bool
 | _,[]=>true
 | pre,s::r=>lieB s n&&pre.all (aptB s)&&spOk n (pre++[s]) r
structure SpRow (w:World) (g o:Nat) (l:List Sp):Prop where
 c:∀ (i:Nat) (s:Sp),l[i]?=some s->w.cell? ⟨g,o+i*2,none⟩=some (.int .i64 s.p)/\w.cell? ⟨g,o+i*2+1,none⟩=some (.int .i64 s.o)
theorem SpRow.below {l:List Sp} (h:SpRow w g o l) (hg:g<B) (hb:Below B w w'):SpRow w' g o l :=
 ⟨fun i s hs=>⟨(hb.cell (p:=⟨g,o+i*2,none⟩) hg).trans (h.c i s hs).1,(hb.cell (p:=⟨g,o+i*2+1,none⟩) hg).trans (h.c i s hs).2⟩⟩
theorem areSpots_any (l:List Sp) (n:Int) (g o cp:Nat) (w:World) (h:KT w) (hg:g<w.heap.size) (hr:SpRow w g o l) (hl:l.length<=4) (hcp:l.length<=cp) (hn:0<=n/\n<=9223372036854775000) :
  Calls Tryz.prog 85 #[.int .i64 n,.slice (some ⟨g,o,none⟩) l.length cp] w fun r w'=>r = .returned (.bool (spOk n [] l))/\Below w.heap.size w w':=by
 obtain⟨Z,hZ⟩:∃ Z,spOk n [] l=Z:=⟨_,rfl⟩
 rw[hZ]
 go_enter Tryz.func85,Tryz.ntmps85
 go_wp2_with fail
 go_loopw [11] (fun q wr=>∃ j:Nat,j<=l.length/\q = .int .i64 j/\Below w.heap.size w wr/\(∀ t∈l.take j,lieB t n=true)/\spOk n (l.take j) (l.drop j)=Z) (fun q _=>l.length-(RowKit.intOf q).toNat)
 case atStart=>exact⟨0,Nat.zero_le _,rfl,Below.refl _ _,fun t ht=>absurd ht List.not_mem_nil,hZ⟩
 case round =>
  obtain⟨wo,hwo⟩:∃ wo,wo=wr:=⟨_,rfl⟩
  subst hwo
  obtain⟨j,hj,rfl,hB,hL,hR⟩:=hrel
  by_cases hlt:j<l.length
  ·obtain⟨s,hs⟩:∃ s,l[j]?=some s:=⟨l[j],List.getElem?_eq_getElem hlt⟩
   obtain⟨c0,c1⟩:=(hr.below hg hB).c j s hs
   have hlti:(j:Int)<l.length:=by omega
   have hji:(j:Int)<=cp:=by omega
   rw[drop_at hs,spOk] at hR
   have cL:=fun W hW=>liesIn_any s n W hW (by omega)
   cases k1:lieB s n with
   | false =>
    rw[k1] at hR cL
    simp only[Bool.false_and] at hR
    subst hR
    go_wp2_with (go_at_call 117;refine(cL _ (h.up (hB.alloc hB.size _))).mono ?_;rintro _ w1 ⟨rfl,hb⟩)
    go_ret
    exact⟨rfl,(hB.alloc hB.size _).trans (hb.mono (hB.alloc hB.size _).size)⟩
   | true =>
    rw[k1] at hR cL
    simp only[Bool.true_and] at hR
    have hin:(l.take j).length=j:=by rw[List.length_take];omega
    have ls:=k1
    unfold lieB at ls
    rw[Bool.and_eq_true] at ls
    have ls:=decT ls.2
    have hz:=sz_b s.p
    cases k2:(l.take j).all (aptB s) with
    | false =>
     rw[k2] at hR
     simp only[Bool.false_and] at hR
     subst hR
     go_wp2_with (go_at_call 117;refine(cL _ (h.up (hB.alloc hB.size _))).mono ?_;rintro _ w1 ⟨rfl,hb⟩)
     have hA:=hB.alloc hB.size (.cells #[.int .i64 s.p,.int .i64 s.o] 25)
     have hC:Below (wo.heap.size+1) (wo.alloc (.cells #[.int .i64 s.p,.int .i64 s.o] 25)) w1:=(Below.refl _ _).trans (hb.mono (szal _ _))
     go_loopw [24] (fun q wq=>∃ k:Nat,k<=j/\q = .int .i64 k/\Below (wo.heap.size+1) (wo.alloc (.cells #[.int .i64 s.p,.int .i64 s.o] 25)) wq/\((l.take j).drop k).all (aptB s)=false) (fun q _=>j-(RowKit.intOf q).toNat)
     case atStart=>exact⟨0,Nat.zero_le _,rfl,hC,k2⟩
     case round =>
      obtain⟨k,hk,rfl,hD,hQ⟩:=hrel
      have hE:Below w.heap.size w wr:=hA.trans (hD.mono (Nat.le_succ_of_le hB.size))
      by_cases hkj:k<j
      ·obtain⟨t,ht⟩:∃ t,l[k]?=some t:=⟨l[k],List.getElem?_eq_getElem (by omega)⟩
       have ht2:(l.take j)[k]?=some t:=by rw[List.getElem?_take,if_pos hkj];exact ht
       obtain⟨d0,d1⟩:=(hr.below hg hE).c k t ht
       have hlo:wo.heap.size<wr.heap.size:=Nat.lt_of_lt_of_le (szal _ _) hD.size
       have e0:(wr.alloc (.cells #[.int .i64 t.p,.int .i64 t.o] 25)).cell? ⟨wo.heap.size,0,none⟩=some (.int .i64 s.p):=((bel1 wr _).cell (p:=⟨wo.heap.size,0,none⟩) hlo).trans (own_cell rfl hD 0)
       have e1:(wr.alloc (.cells #[.int .i64 t.p,.int .i64 t.o] 25)).cell? ⟨wo.heap.size,1,none⟩=some (.int .i64 s.o):=((bel1 wr _).cell (p:=⟨wo.heap.size,1,none⟩) hlo).trans (own_cell rfl hD 1)
       have lt:=hL t (List.mem_of_getElem? ht2)
       unfold lieB at lt
       rw[Bool.and_eq_true] at lt
       have lt:=decT lt.2
       have hy:=sz_b t.p
       have hkji:(k:Int)<j:=by omega
       rw[drop_at ht2,List.all_cons] at hQ
       have cM:=fun W hW=>meet_any s t W hW (by omega) (by omega)
       cases k3:aptB s t with
       | false =>
        rw[k3] at cM
        go_wp2_with (go_at_call 118;refine(cM _ (h.up (hE.alloc hE.size _))).mono ?_;rintro _ w2 ⟨rfl,hb2⟩)
        go_ret
        exact⟨rfl,(hE.alloc hE.size _).trans (hb2.mono (hE.alloc hE.size _).size)⟩
       | true =>
        rw[k3] at cM hQ
        simp only[Bool.true_and] at hQ
        go_wp2_with (go_at_call 118;refine(cM _ (h.up (hE.alloc hE.size _))).mono ?_;rintro _ w2 ⟨rfl,hb2⟩)
        go_roundw
        case rel=>exact⟨k+1,by omega,by go_num,(hD.alloc (Nat.le_trans (szal _ _) hD.size) _).trans (hb2.mono (Nat.le_trans (Nat.le_trans (szal _ _) hD.size) (al_le _ _))),hQ⟩
        case measure=>simp[RowKit.intOf];omega
      ·obtain rfl:k=j:=by omega
       rw[List.drop_eq_nil_of_le (by omega)] at hQ
       cases hQ
    | true =>
     rw[k2] at hR
     simp only[Bool.true_and] at hR
     go_wp2_with (go_at_call 117;refine(cL _ (h.up (hB.alloc hB.size _))).mono ?_;rintro _ w1 ⟨rfl,hb⟩)
     have hA:=hB.alloc hB.size (.cells #[.int .i64 s.p,.int .i64 s.o] 25)
     have hC:Below (wo.heap.size+1) (wo.alloc (.cells #[.int .i64 s.p,.int .i64 s.o] 25)) w1:=(Below.refl _ _).trans (hb.mono (szal _ _))
     go_loopw [24] (fun q wq=>∃ k:Nat,k<=j/\q = .int .i64 k/\Below (wo.heap.size+1) (wo.alloc (.cells #[.int .i64 s.p,.int .i64 s.o] 25)) wq/\((l.take j).drop k).all (aptB s)=true) (fun q _=>j-(RowKit.intOf q).toNat)
     case atStart=>exact⟨0,Nat.zero_le _,rfl,hC,k2⟩
     case round =>
      obtain⟨k,hk,rfl,hD,hQ⟩:=hrel
      have hE:Below w.heap.size w wr:=hA.trans (hD.mono (Nat.le_succ_of_le hB.size))
      by_cases hkj:k<j
      ·obtain⟨t,ht⟩:∃ t,l[k]?=some t:=⟨l[k],List.getElem?_eq_getElem (by omega)⟩
       have ht2:(l.take j)[k]?=some t:=by rw[List.getElem?_take,if_pos hkj];exact ht
       obtain⟨d0,d1⟩:=(hr.below hg hE).c k t ht
       have hlo:wo.heap.size<wr.heap.size:=Nat.lt_of_lt_of_le (szal _ _) hD.size
       have e0:(wr.alloc (.cells #[.int .i64 t.p,.int .i64 t.o] 25)).cell? ⟨wo.heap.size,0,none⟩=some (.int .i64 s.p):=((bel1 wr _).cell (p:=⟨wo.heap.size,0,none⟩) hlo).trans (own_cell rfl hD 0)
       have e1:(wr.alloc (.cells #[.int .i64 t.p,.int .i64 t.o] 25)).cell? ⟨wo.heap.size,1,none⟩=some (.int .i64 s.o):=((bel1 wr _).cell (p:=⟨wo.heap.size,1,none⟩) hlo).trans (own_cell rfl hD 1)
       have lt:=hL t (List.mem_of_getElem? ht2)
       unfold lieB at lt
       rw[Bool.and_eq_true] at lt
       have lt:=decT lt.2
       have hy:=sz_b t.p
       have hkji:(k:Int)<j:=by omega
       rw[drop_at ht2,List.all_cons] at hQ
       have cM:=fun W hW=>meet_any s t W hW (by omega) (by omega)
       rw[Bool.and_eq_true] at hQ
       rw[hQ.1] at cM
       go_wp2_with (go_at_call 118;refine(cM _ (h.up (hE.alloc hE.size _))).mono ?_;rintro _ w2 ⟨rfl,hb2⟩)
       go_roundw
       case rel=>exact⟨k+1,by omega,by go_num,(hD.alloc (Nat.le_trans (szal _ _) hD.size) _).trans (hb2.mono (Nat.le_trans (Nat.le_trans (szal _ _) hD.size) (al_le _ _))),hQ.2⟩
       case measure=>simp[RowKit.intOf];omega
      ·obtain rfl:k=j:=by omega
       rw[List.drop_eq_nil_of_le (by omega)] at hQ
       go_wp2_with fail
       go_roundw
       case rel =>
        refine⟨k+1,by omega,by go_num,hE,?_,?_⟩
        ·intro t ht
         rw[take_at hs] at ht
         rcases List.mem_append.1 ht with ht|ht
         ·exact hL t ht
         ·rw[List.mem_singleton.1 ht];exact k1
        ·rw[take_at hs];exact hR
       case measure=>simp[RowKit.intOf];omega
  ·obtain rfl:j=l.length:=by omega
   rw[List.drop_length,spOk] at hR
   subst hR
   go_wp2_with fail
   go_ret
   exact⟨rfl,hB⟩
structure Hid (p:Prop):Prop where
 out:p
abbrev tkV (t:Tk) (pc:Option Addr) (cc:Nat):Value:=.agg #[.int .i64 t.op,.string t.name,.int .i64 t.id,.int .i64 t.off,.int .i64 t.siz,.int .i64 t.since,.int .i64 t.prim,.int .i64 t.len,.int .i64 t.pres,.int .u64 t.nul,.int .u64 t.lo,.int .u64 t.hi,.slice pc t.cst.length cc,.int .u64 t.val,.int .i64 t.blk,.int .i64 t.full,.int .i64 t.a.p,.int .i64 t.a.o,.int .i64 t.b.p,.int .i64 t.b.o,.int .i64 t.pair]
def tkC (t:Tk) (pc:Option Addr) (cc:Nat):List Value:=[.int .i64 t.op,.string t.name,.int .i64 t.id,.int .i64 t.off,.int .i64 t.siz,.int .i64 t.since,.int .i64 t.prim,.int .i64 t.len,.int .i64 t.pres,.int .u64 t.nul,.int .u64 t.lo,.int .u64 t.hi,.slice pc t.cst.length cc,.int .u64 t.val,.int .i64 t.blk,.int .i64 t.full,.int .i64 t.a.p,.int .i64 t.a.o,.int .i64 t.b.p,.int .i64 t.b.o,.int .i64 t.pair]
structure URow (w:World) (p:Option Addr) (H:Nat) (l:List Int):Prop where
 c:∀ (i:Nat) (t:Int),l[i]?=some t->∃ g o,p=some ⟨g,o,none⟩/\g<H/\w.cell? ⟨g,o+i,none⟩=some (.int .u64 t)
theorem cell_blk (hb:w'.heap[g]?=w.heap[g]?):w'.cell? ⟨g,o,none⟩=w.cell? ⟨g,o,none⟩:=by simp only[World.cell?,hb]
theorem URow.same {l:List Int} (h:URow w p H l) (hb:∀ k,k<H->w'.heap[k]?=w.heap[k]?):URow w' p H l :=
 ⟨fun i t ht=>by
  obtain⟨g,o,e,hg,h0⟩:=h.c i t ht
  exact⟨g,o,e,hg,(cell_blk (hb g hg)).trans h0⟩⟩
theorem URow.mono {l:List Int} (h:URow w p H l) (hH:H<=H'):URow w p H' l :=
 ⟨fun i t ht=>by obtain⟨g,o,e,hg,r⟩:=h.c i t ht;exact⟨g,o,e,by omega,r⟩⟩
theorem URow.below {l:List Int} (h:URow w p H l) (hb:Below H w w'):URow w' p H l:=h.same fun k hk=>hb.block k hk
theorem URow.nil (w:World) (p:Option Addr) (H:Nat):URow w p H []:=⟨fun i t ht=>by cases ht⟩
structure TkC (w:World) (g o:Nat) (t:Tk) (pc:Option Addr) (cc:Nat):Prop where
 c0:w.cell? ⟨g,o,none⟩=some (.int .i64 t.op)
 c1:w.cell? ⟨g,o+1,none⟩=some (.string t.name)
 c2:w.cell? ⟨g,o+2,none⟩=some (.int .i64 t.id)
 c3:w.cell? ⟨g,o+3,none⟩=some (.int .i64 t.off)
 c4:w.cell? ⟨g,o+4,none⟩=some (.int .i64 t.siz)
 c5:w.cell? ⟨g,o+5,none⟩=some (.int .i64 t.since)
 c6:w.cell? ⟨g,o+6,none⟩=some (.int .i64 t.prim)
 c7:w.cell? ⟨g,o+7,none⟩=some (.int .i64 t.len)
 c8:w.cell? ⟨g,o+8,none⟩=some (.int .i64 t.pres)
 c9:w.cell? ⟨g,o+9,none⟩=some (.int .u64 t.nul)
 c10:w.cell? ⟨g,o+10,none⟩=some (.int .u64 t.lo)
 c11:w.cell? ⟨g,o+11,none⟩=some (.int .u64 t.hi)
 c12:w.cell? ⟨g,o+12,none⟩=some (.slice pc t.cst.length cc)
 c13:w.cell? ⟨g,o+13,none⟩=some (.int .u64 t.val)
 c14:w.cell? ⟨g,o+14,none⟩=some (.int .i64 t.blk)
 c15:w.cell? ⟨g,o+15,none⟩=some (.int .i64 t.full)
 c16:w.cell? ⟨g,o+16,none⟩=some (.int .i64 t.a.p)
 c17:w.cell? ⟨g,o+17,none⟩=some (.int .i64 t.a.o)
 c18:w.cell? ⟨g,o+18,none⟩=some (.int .i64 t.b.p)
 c19:w.cell? ⟨g,o+19,none⟩=some (.int .i64 t.b.o)
 c20:w.cell? ⟨g,o+20,none⟩=some (.int .i64 t.pair)
theorem TkC.same (h:TkC w g o t pc cc) (hb:w'.heap[g]?=w.heap[g]?):TkC w' g o t pc cc :=
 ⟨(cell_blk hb).trans h.c0,(cell_blk hb).trans h.c1,(cell_blk hb).trans h.c2,(cell_blk hb).trans h.c3,(cell_blk hb).trans h.c4,(cell_blk hb).trans h.c5,(cell_blk hb).trans h.c6,(cell_blk hb).trans h.c7,(cell_blk hb).trans h.c8,(cell_blk hb).trans h.c9,(cell_blk hb).trans h.c10,(cell_blk hb).trans h.c11,(cell_blk hb).trans h.c12,(cell_blk hb).trans h.c13,(cell_blk hb).trans h.c14,(cell_blk hb).trans h.c15,(cell_blk hb).trans h.c16,(cell_blk hb).trans h.c17,(cell_blk hb).trans h.c18,(cell_blk hb).trans h.c19,(cell_blk hb).trans h.c20⟩
theorem tkC_of (h:∀ (j:Nat) (u:Value),(tkC t pc cc)[j]?=some u->w.cell? ⟨g,o+j,none⟩=some u):TkC w g o t pc cc :=
 ⟨h 0 _ rfl,h 1 _ rfl,h 2 _ rfl,h 3 _ rfl,h 4 _ rfl,h 5 _ rfl,h 6 _ rfl,h 7 _ rfl,h 8 _ rfl,h 9 _ rfl,h 10 _ rfl,h 11 _ rfl,h 12 _ rfl,h 13 _ rfl,h 14 _ rfl,h 15 _ rfl,h 16 _ rfl,h 17 _ rfl,h 18 _ rfl,h 19 _ rfl,h 20 _ rfl⟩
structure TkRow (w:World) (pp:Option Addr) (H:Nat) (l:List Tk):Prop where
 c:∀ (i:Nat) (t:Tk),l[i]?=some t->∃ g o pc cc,pp=some ⟨g,o,none⟩/\g<H/\TkC w g (o+i*21) t pc cc/\URow w pc H t.cst/\t.cst.length<=cc
theorem TkRow.same (h:TkRow w pp H l) (hb:∀ k,k<H->w'.heap[k]?=w.heap[k]?):TkRow w' pp H l :=
 ⟨fun i t ht=>by
  obtain⟨g,o,pc,cc,e,hg,h0,h1,h2⟩:=h.c i t ht
  exact⟨g,o,pc,cc,e,hg,h0.same (hb g hg),h1.same hb,h2⟩⟩
theorem TkRow.below (h:TkRow w pp H l) (hb:Below H w w'):TkRow w' pp H l:=h.same fun k hk=>hb.block k hk
theorem TkRow.mono (h:TkRow w pp H l) (hH:H<=H'):TkRow w pp H' l :=
 ⟨fun i t ht=>by obtain⟨g,o,pc,cc,e,hg,h0,h1,h2⟩:=h.c i t ht;exact⟨g,o,pc,cc,e,by omega,h0,h1.mono hH,h2⟩⟩
structure TkOk (t:Tk):Prop where
 op:i64ok t.op
 name:t.name.size<=281474976710656
 id:i64ok t.id
 off:i64ok t.off
 siz:i64ok t.siz
 since:i64ok t.since
 prim:i64ok t.prim
 len:i64ok t.len
 pres:i64ok t.pres
 nul:u64ok t.nul
 lo:u64ok t.lo
 hi:u64ok t.hi
 cst:t.cst.length*8<=140737488355328
 cs:∀ x∈t.cst,u64ok x
 val:u64ok t.val
 blk:i64ok t.blk
 full:i64ok t.full
 ap:i64ok t.a.p
 ao:i64ok t.a.o
 bp:i64ok t.b.p
 bo:i64ok t.b.o
 pair:i64ok t.pair
structure TkL (w:World) (pp:Option Addr) (H:Nat) (l:List Tk):Prop where
 row:TkRow w pp H l
 len:l.length*192<=140737488355328
 ok:∀ t∈l,TkOk t
theorem TkL.below (h:TkL w pp H l) (hb:Below H w w'):TkL w' pp H l:=⟨h.row.below hb,h.len,h.ok⟩
theorem TkL.mono (h:TkL w pp H l) (hH:H<=H'):TkL w pp H' l:=⟨h.row.mono hH,h.len,h.ok⟩
theorem TkL.at (h:TkL w pp H l) {i:Nat} (hi:l[i]?=some t):∃ g o pc cc,pp=some ⟨g,o,none⟩/\g<H/\TkC w g (o+i*21) t pc cc/\URow w pc H t.cst/\t.cst.length<=cc/\TkOk t:=by
 obtain⟨g,o,pc,cc,e,hg,h0,h1,h2⟩:=h.row.c i t hi
 exact⟨g,o,pc,cc,e,hg,h0,h1,h2,h.ok t (List.mem_of_getElem? hi)⟩
abbrev fmV (f:Fm) (pp:Option Addr) (cp:Nat):Value:=.agg #[.int .i64 f.ord,.int .i64 f.sch,.int .i64 f.ver,.int .i64 f.hsz,.int .i64 f.hb.p,.int .i64 f.hb.o,.int .i64 f.ht.p,.int .i64 f.ht.o,.int .i64 f.hs.p,.int .i64 f.hs.o,.int .i64 f.hv.p,.int .i64 f.hv.o,.slice pp f.toks.length cp]
abbrev fmO (f:Fm) (pp:Option Addr) (cp:Nat):Obj:=.cells #[.int .i64 f.ord,.int .i64 f.sch,.int .i64 f.ver,.int .i64 f.hsz,.int .i64 f.hb.p,.int .i64 f.hb.o,.int .i64 f.ht.p,.int .i64 f.ht.o,.int .i64 f.hs.p,.int .i64 f.hs.o,.int .i64 f.hv.p,.int .i64 f.hv.o,.slice pp f.toks.length cp] 30
structure FmC (w:World) (g o:Nat) (f:Fm) (pp:Option Addr) (cp:Nat):Prop where
 c0:w.cell? ⟨g,o,none⟩=some (.int .i64 f.ord)
 c1:w.cell? ⟨g,o+1,none⟩=some (.int .i64 f.sch)
 c2:w.cell? ⟨g,o+2,none⟩=some (.int .i64 f.ver)
 c3:w.cell? ⟨g,o+3,none⟩=some (.int .i64 f.hsz)
 c4:w.cell? ⟨g,o+4,none⟩=some (.int .i64 f.hb.p)
 c5:w.cell? ⟨g,o+5,none⟩=some (.int .i64 f.hb.o)
 c6:w.cell? ⟨g,o+6,none⟩=some (.int .i64 f.ht.p)
 c7:w.cell? ⟨g,o+7,none⟩=some (.int .i64 f.ht.o)
 c8:w.cell? ⟨g,o+8,none⟩=some (.int .i64 f.hs.p)
 c9:w.cell? ⟨g,o+9,none⟩=some (.int .i64 f.hs.o)
 c10:w.cell? ⟨g,o+10,none⟩=some (.int .i64 f.hv.p)
 c11:w.cell? ⟨g,o+11,none⟩=some (.int .i64 f.hv.o)
 c12:w.cell? ⟨g,o+12,none⟩=some (.slice pp f.toks.length cp)
theorem FmC.same (h:FmC w g o f pp cp) (hb:w'.heap[g]?=w.heap[g]?):FmC w' g o f pp cp :=
 ⟨(cell_blk hb).trans h.c0,(cell_blk hb).trans h.c1,(cell_blk hb).trans h.c2,(cell_blk hb).trans h.c3,(cell_blk hb).trans h.c4,(cell_blk hb).trans h.c5,(cell_blk hb).trans h.c6,(cell_blk hb).trans h.c7,(cell_blk hb).trans h.c8,(cell_blk hb).trans h.c9,(cell_blk hb).trans h.c10,(cell_blk hb).trans h.c11,(cell_blk hb).trans h.c12⟩
theorem FmC.below (h:FmC w g o f pp cp) (hg:g<B) (hb:Below B w w'):FmC w' g o f pp cp:=h.same (hb.block g hg)
theorem TkC.below (h:TkC w g o t pc cc) (hg:g<B) (hb:Below B w w'):TkC w' g o t pc cc:=h.same (hb.block g hg)
structure SpOk (s:Sp):Prop where
 p:i64ok s.p
 o:i64ok s.o
structure FmOk (f:Fm):Prop where
 ord:i64ok f.ord
 sch:i64ok f.sch
 ver:i64ok f.ver
 hsz:i64ok f.hsz
 hb:SpOk f.hb
 ht:SpOk f.ht
 hs:SpOk f.hs
 hv:SpOk f.hv
theorem fm_new (w:World) (f:Fm) (pp:Option Addr) (cp:Nat):FmC (w.alloc (fmO f pp cp)) w.heap.size 0 f pp cp :=
 ⟨cell_at (heap_al _ _) 0,cell_at (heap_al _ _) 1,cell_at (heap_al _ _) 2,cell_at (heap_al _ _) 3,cell_at (heap_al _ _) 4,cell_at (heap_al _ _) 5,cell_at (heap_al _ _) 6,cell_at (heap_al _ _) 7,cell_at (heap_al _ _) 8,cell_at (heap_al _ _) 9,cell_at (heap_al _ _) 10,cell_at (heap_al _ _) 11,cell_at (heap_al _ _) 12⟩
theorem op_cases (op:Int):(op<0\/15<op)\/op=0\/op=1\/op=2\/op=3\/op=4\/op=5\/op=6\/op=7\/op=8\/op=9\/op=10\/op=11\/op=12\/op=13\/op=14\/op=15:=by omega
theorem endOf_any (op:Int) (w:World) (h:-100<=op/\op<=100):Calls Tryz.prog 132 #[.int .i64 op] w fun r w'=>r = .returned (.int .i64 (op+1))/\w'=w:=by
 have hw:IntKind.i64.wrap (op+1)=op+1:=by rw[IntKind.wrap_i64];omega
 go_enter Tryz.func132,Tryz.ntmps132
 go_wp2_with fail
 go_ret
 exact⟨rfl,rfl⟩
theorem begins_any (op:Int) (w:World) (h:0<=op/\op<=15):Calls Tryz.prog 103 #[.int .i64 op] w fun r w'=>r = .returned (.bool (bgO op))/\w'=w:=by
 rcases op_cases op with h' | rfl|rfl|rfl|rfl|rfl|rfl|rfl|rfl|rfl|rfl|rfl|rfl|rfl|rfl|rfl|rfl
 ·omega
 all_goals
  go_enter Tryz.func103,Tryz.ntmps103
  go_wp2_with fail
  go_ret
  exact⟨rfl,rfl⟩
theorem ends_any (op:Int) (w:World) (h:0<=op/\op<=15):Calls Tryz.prog 99 #[.int .i64 op] w fun r w'=>r = .returned (.bool (edO op))/\w'=w:=by
 rcases op_cases op with h' | rfl|rfl|rfl|rfl|rfl|rfl|rfl|rfl|rfl|rfl|rfl|rfl|rfl|rfl|rfl|rfl
 ·omega
 all_goals
  go_enter Tryz.func99,Tryz.ntmps99
  go_wp2_with fail
  go_ret
  exact⟨rfl,rfl⟩
theorem beqN {a b:Int} (h:a≠b):(a==b)=false:=beq_eq_false_iff_ne.2 h
theorem beqD (a b:Int):(a==b)=decide (a=b):=by rw[Bool.eq_iff_iff];simp
theorem isPart_any (op:Int) (w:World):Calls Tryz.prog 133 #[.int .i64 op] w fun r w'=>r = .returned (.bool (ptO op))/\w'=w:=by
 unfold ptO
 by_cases h2:op=2
 ·subst h2
  go_enter Tryz.func133,Tryz.ntmps133
  go_wp2_with fail
  go_ret
  exact⟨rfl,rfl⟩
 have d2:=beqN h2
 by_cases h4:op=4
 ·subst h4
  go_enter Tryz.func133,Tryz.ntmps133
  go_wp2_with fail
  go_ret
  exact⟨rfl,rfl⟩
 have d4:=beqN h4
 go_enter Tryz.func133,Tryz.ntmps133
 go_wp2_with fail
 go_ret
 exact⟨rb (by rw[Bool.eq_iff_iff];simp[h2,h4]),rfl⟩
theorem isType_any (op:Int) (w:World):Calls Tryz.prog 134 #[.int .i64 op] w fun r w'=>r = .returned (.bool (tyO op))/\w'=w:=by
 unfold tyO
 by_cases h14:op=14
 ·subst h14
  go_enter Tryz.func134,Tryz.ntmps134
  go_wp2_with fail
  go_ret
  exact⟨rfl,rfl⟩
 have d14:=beqN h14
 by_cases h10:op=10
 ·subst h10
  go_enter Tryz.func134,Tryz.ntmps134
  go_wp2_with fail
  go_ret
  exact⟨rfl,rfl⟩
 have d10:=beqN h10
 by_cases h12:op=12
 ·subst h12
  go_enter Tryz.func134,Tryz.ntmps134
  go_wp2_with fail
  go_ret
  exact⟨rfl,rfl⟩
 have d12:=beqN h12
 go_enter Tryz.func134,Tryz.ntmps134
 go_wp2_with fail
 go_ret
 exact⟨rb (by rw[Bool.eq_iff_iff];simp[h14,h10,h12]),rfl⟩
section
variable {P:Program} {md:Region.Mode} {ops:Array Oper} {Q:Exit->Act->World->Prop} {z:Nat}
variable {d:Option Tmp} {op:Op} {ty:TypeId} {ps:String} {af:Array Edge} {gd:Option (Nat×Bool)} {r:List Oper} {a:Act} {w:World} {C:World->Prop} {l1 l2:List Oper}
theorem lw_call2 {f:FuncId} {x1 x2:Operand} {y1 y2:Value} {tx:Array TypeId} {R:Value->World->Prop} (hen:∀ ag w,(callFunc f ag).run P w = .ok (.enter f ag) w) (hc:Calls P f #[y1,y2] w fun e w'=>∃ v,e = .returned v/\R v w') (h1:a.eval x1=y1) (h2:a.eval x2=y2) (hw:Region.wanted ⟨d,.call { callee:=.value (.func f),args:=#[x1,x2],argTypes:=tx },ty,ps,af,gd⟩ (yielded ops a.tmps)=true)
  (h:∀ v w',R v w'->C w'/\Lw P ops Q C r (a.put d v) w'):Lw P ops Q C (⟨d,.call { callee:=.value (.func f),args:=#[x1,x2],argTypes:=tx },ty,ps,af,gd⟩::r) a w :=
 lw_act hw rfl fun K hK=>by
  have hf:a.eval (.func f) = .func (.func f) #[] #[]:=rfl
  unfold Oper.wp execOp
  simp only[resolve,invoke,Sem.run_bind,hf]
  simp[Deferred.ofValue,hen,Oper.upon_enter,h1,h2]
  refine hc.mono ?_
  rintro e w' ⟨v,rfl,hp⟩
  exact hK _ _ C (.inr ⟨fun _ h=>h,(h v w' hp).1⟩) (h v w' hp).2
end
open Go.Maps
structure Hs (W:World) (B h tb:Nat) (st cs:List Nat) (vc:Value):Prop where
 c:∃ vo,W.heap[h]?=some (.cells #[vo,vc] 74)/\NRow W B vo st.reverse/\NRow W B vc cs/\(∀ k,vo.ownBlock=some k->k≠h/\vc.ownBlock≠some k)/\(∀ k,vc.ownBlock=some k->k≠h)/\tb≠h/\vo.ownBlock≠some tb
 b:B<=h
theorem Hs.any (H:Hs W B h tb st cs vc) {tb':Nat} (ht:W.heap.size<=tb'):Hs W B h tb' st cs vc:=by
 obtain⟨vo,h1,h2,h3,h4,h5,-⟩:=H.c
 exact⟨⟨vo,h1,h2,h3,h4,h5,by have:=(Array.getElem?_eq_some_iff.1 h1).1;omega,fun e=>by have:=(NRow.ltP h2 _ e).2;omega⟩,H.b⟩
theorem Hs.lt (H:Hs W B h tb st cs vc):h<W.heap.size:=by
 obtain⟨vo,h1,-⟩:=H.c
 exact(Array.getElem?_eq_some_iff.1 h1).1
theorem Hs.below {W':World} (H:Hs W B h tb st cs vc) (hb:Below W.heap.size W W'):Hs W' B h tb st cs vc:=by
 have hl:=H.lt
 obtain⟨vo,h1,h2,h3,h4,h5,h6⟩:=H.c
 exact⟨⟨vo,(hb.block _ hl).trans h1,h2.below hb,h3.below hb,h4,h5,h6⟩,H.b⟩
theorem ent_pTop:∀ ag w,(callFunc 58 ag).run Tryz.prog w = .ok (.enter 58 ag) w:=enters_of Tryz.func58 (by kernel_rfl) rfl
theorem ent_pPass:∀ ag w,(callFunc 37 ag).run Tryz.prog w = .ok (.enter 37 ag) w:=enters_of Tryz.func37 (by kernel_rfl) rfl
theorem pBegins_any (op:Int) (w:World) (h:0<=op/\op<=15):Calls Tryz.prog 59 #[.int .i64 op] w fun r w'=>r = .returned (.bool (bgO op))/\w'=w:=by
 rcases op_cases op with h' | rfl|rfl|rfl|rfl|rfl|rfl|rfl|rfl|rfl|rfl|rfl|rfl|rfl|rfl|rfl|rfl
 ·omega
 all_goals
  go_enter Tryz.func59,Tryz.ntmps59
  go_wp2_with fail
  go_ret
  exact⟨rfl,rfl⟩
theorem pEnds_any (op:Int) (w:World) (h:0<=op/\op<=15):Calls Tryz.prog 56 #[.int .i64 op] w fun r w'=>r = .returned (.bool (edO op))/\w'=w:=by
 rcases op_cases op with h' | rfl|rfl|rfl|rfl|rfl|rfl|rfl|rfl|rfl|rfl|rfl|rfl|rfl|rfl|rfl|rfl
 ·omega
 all_goals
  go_enter Tryz.func56,Tryz.ntmps56
  go_wp2_with fail
  go_ret
  exact⟨rfl,rfl⟩
theorem pTop_any (H:Hs W B h tb st cs vc) (hl:st.length<=1000000000000) :
  Calls Tryz.prog 58 #[.pointer (some ⟨h,0,none⟩)] W fun e w'=>e = .returned (.int .i64 ((st.headD 0:Nat):Int))/\Below W.heap.size W w':=by
 have hlt:=H.lt
 obtain⟨vo,h1,h2,-⟩:=H.c
 obtain⟨po,co,rfl,h3⟩:=h2.shape
 have c0:W.cell? ⟨h,0,none⟩=some (.slice po st.reverse.length co):=cell_at h1 0
 cases st with
 | nil =>
  clear h1 h2 h3 H
  go_enter Tryz.func58,Tryz.ntmps58
  go_wp2_with fail
  go_ret
  exact⟨rfl,Below.refl _ _⟩
 | cons c r =>
  obtain⟨g,rfl,hg,hc⟩:=h3 r.length c (by simp)
  have hrl:(c::r).reverse.length=r.length+1:=by simp
  rw[hrl] at c0
  simp only[List.length_cons] at hl
  obtain⟨p,p0,pB,pN,k0,k1⟩:∃ p:World->Prop,p W.drew/\(∀ V,p V->Below W.heap.size W V)/\Nonempty (CW p)/\(∀ θ:CW p,θ.w.cell? ⟨h,0,none⟩=some (.slice (some ⟨g,0,none⟩) (r.length+1) co))/\(∀ θ:CW p,θ.w.cell? ⟨g,r.length,none⟩=some (.int .i64 (c:Int))) :=
   ⟨Below W.heap.size W,(Below.refl _ _).drew,fun _ h=>h,⟨⟨W,Below.refl _ _⟩⟩,fun θ=>(θ.h.cell (p:=⟨h,0,none⟩) hlt).trans c0,fun θ=>(θ.h.cell (p:=⟨g,r.length,none⟩) hg).trans hc⟩
  have hd:(List.headD (c::r) 0:Nat)=c:=rfl
  rw[hd]
  clear h1 h2 h3 H hd hrl hlt hg hc
  generalize r.length=n at *
  have lK:(n:Int)<(n:Int)+1:=by omega
  have hw1:IntKind.i64.wrap ((n:Int)+1-1)=(n:Int):=by rw[IntKind.wrap_i64];omega
  have hne:((n:Int)+1==0)=false:=by simp;omega
  go_enter Tryz.func58,Tryz.ntmps58
  go_wp2_with fail
  refine wp_region_ly (fun V=>∃ θ:CW p,V=θ.w) (by kernel_rfl) (by kernel_rfl) (fun _ _ d _ _ h=>by cases d<;>exact h) ⟨⟨_,p0⟩,rfl⟩ ?_
  repeat (refine ly_one rfl ?_;(first|go_big_quiet_skip|(go_big_quiet_want;go_big_quiet_op;go_big_quiet_on));refine wpQuiet_nil ?_)
  refine ly_done ?_
  go_wp2_with fail
  go_ret
  exact⟨rfl,pB _ p0⟩
structure Hid0 (p:Prop):Prop where
 out:p
def Ans (r:Ending) (P:Prop):Prop:=∃ b,r = .returned (.bool b)/\(b=true↔P)
theorem Ans.yes (h:P):Ans (.returned (.bool true)) P:=⟨true,rfl,by simp[h]⟩
theorem Ans.no (h:¬ P):Ans (.returned (.bool false)) P:=⟨false,rfl,by simp[h]⟩
theorem Ans.said {r:Ending} (h:Ans r P) (hb:P↔b=true):r = .returned (.bool b):=by
 obtain⟨c,rfl,hc⟩:=h
 rw[hb] at hc
 congr 2
 cases c<;>cases b<;>simp_all
theorem Ans.same {r:Ending} (h:Ans r (b=true)):r = .returned (.bool b):=h.said Iff.rfl
theorem refBegins_any (op:Int) (w:World) (h:i64ok op):Calls Tryz.prog 34 #[.int .i64 op] w fun r w'=>r = .returned (.bool (bgO op))/\w'=w:=by
 have hb:bgO op=true↔0<=op/\op<14/\op % 2=0:=by
  unfold bgO
  rw[decide_eq_true_eq]
  omega
 replace hb:Hid0 _:=⟨hb⟩
 unfold i64ok at h
 suffices hh:Calls Tryz.prog 34 #[.int .i64 op] w fun r w'=>Ans r (bgO op=true)/\w'=w from hh.mono fun r w' h=>⟨h.1.same,h.2⟩
 go_enter Tryz.func34,Tryz.ntmps34
 go_wp2_with fail
 all_goals
  go_ret
  refine⟨⟨_,rfl,?_⟩,rfl⟩
  rw[hb.out]
  simp[*]
  try omega
theorem typeOp_any (op:Int) (w:World):Calls Tryz.prog 71 #[.int .i64 op] w fun r w'=>r = .returned (.bool (tyO op))/\w'=w:=by
 have hb:tyO op=true↔op=8\/op=10\/op=12\/op=14:=by
  unfold tyO
  rw[decide_eq_true_eq]
 replace hb:Hid0 _:=⟨hb⟩
 suffices hh:Calls Tryz.prog 71 #[.int .i64 op] w fun r w'=>Ans r (tyO op=true)/\w'=w from hh.mono fun r w' h=>⟨h.1.same,h.2⟩
 go_enter Tryz.func71,Tryz.ntmps71
 go_wp2_with fail
 all_goals
  go_ret
  refine⟨⟨_,rfl,?_⟩,rfl⟩
  rw[hb.out]
  simp[*]
end Go.Proofs.YtkcjdncchoohoaaGreatDoor
