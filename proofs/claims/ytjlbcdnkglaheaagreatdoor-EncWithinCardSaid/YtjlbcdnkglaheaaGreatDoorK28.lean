import Derived.Test.YtjlbcdnkglaheaaGreatDoorK27
import Derived.Lib.LazyBuf
namespace Go.Proofs.YtjlbcdnkglaheaaGreatDoor
set_option maxRecDepth 1000000
set_option maxHeartbeats 16000000
open Go.ChangeShapes Go.WideShapes Go.ChangeAt Go.RowKit Go.Shelf Go.Maps
theorem ins_blk {f:Fm} {s:Ms} (h:MsOk f.toks s) (hi:InF f.toks s):∃ t,f.toks[insZ s]?=some t/\(t.op=0\/t.op=4):=by
 have key:∀ x∈s.op,∃ t,f.toks[x.p]?=some t/\(t.op=0\/t.op=4):=fun x hx=>by
  have hl:=hi x hx
  have ho:=(h.all x hx).op
  refine⟨f.toks[x.p],List.getElem?_eq_getElem hl,?_⟩
  rwa [opAt_some (List.getElem?_eq_getElem hl)] at ho
 unfold insZ
 cases hs:s.op with
 | nil=>exact absurd hs h.ne
 | cons x r =>
  dsimp only
  split
  ·exact key x (by rw[hs];exact List.mem_cons_self ..)
  ·rename_i hb
   have hr:=h.bot x r hs (by simpa using hb)
   cases r with
   | nil=>exact absurd rfl hr
   | cons y r=>exact key y (by rw[hs];simp)
theorem step_mem {l:List Tk} {s:Ms} {k cnt:Int} {nm:ByteArray} (hk:k≠2) (h0:(stepZ l s k cnt nm).1=0):∃ q∈kidsZ l (insZ (stepZ l s k cnt nm).2),nmAt l q=nm:=by
 unfold stepZ at h0 ⊢
 by_cases hr:k<0\/4<=k
 ·rw[if_pos hr] at h0
  cases h0
 ·rw[if_neg hr] at h0 ⊢
  cases ho:(if k=0 then s.op else leaveR l s.op) with
  | nil=>rw[ho] at h0;cases h0
  | cons x r =>
   rw[ho] at h0
   dsimp only at h0 ⊢
   by_cases hk0:k=0
   ·rw[if_pos hk0] at h0 ho
    rw[if_pos hk0]
    by_cases hf:fieldB l x nm=true
    ·unfold fieldB at hf
     simp only[Bool.and_eq_true,List.any_eq_true,decide_eq_true_eq] at hf
     obtain⟨⟨hb,_⟩,i,hi,hn⟩:=hf
     refine⟨i,?_,hn⟩
     unfold insZ
     dsimp only
     rw[ho]
     dsimp only
     rw[if_pos hb]
     exact(List.mem_filter.1 hi).1
    ·rw[if_neg hf] at h0
     cases h0
   ·rw[if_neg hk0,if_neg hk] at h0
    rw[if_neg hk0,if_neg hk]
    cases hm:memZ l x k nm with
    | none=>rw[hm] at h0;cases h0
    | some q =>
     obtain⟨hb,hq,_,hn⟩:=memZ_some hm
     have hqk:q∈kidsZ l x.p:=(List.mem_filter.1 (List.mem_of_getElem? hq)).1
     rw[hm] at h0
     dsimp only at h0 ⊢
     by_cases h3:k=3
     ·rw[if_pos h3]
      refine⟨q,?_,hn⟩
      unfold insZ
      dsimp only
      rw[if_pos hb]
      exact hqk
     ·rw[if_neg h3] at h0 ⊢
      by_cases h4:cnt<0\/gmax (bpAt l q)<cnt
      ·rw[if_pos h4] at h0;cases h0
      ·rw[if_neg h4] at h0 ⊢
       by_cases h5:65536-s.ent<cnt
       ·rw[if_pos h5] at h0;cases h0
       ·rw[if_neg h5]
        refine⟨q,?_,hn⟩
        unfold insZ
        dsimp only
        by_cases h6:0<cnt
        ·rw[if_pos h6]
         exact hqk
        ·rw[if_neg h6]
         dsimp only [List.nil_append]
         rw[if_pos hb]
         exact hqk
abbrev fnB (k e:Nat):Value:=.func (.func k) #[.pointer (some ⟨e,0,none⟩)] #[]
def enCs (f:Fm) (n:Pn) (pa pm:Nat) (ma cu:Value) (ks:List Value) (bg:Bool) (wt bl:Int):List Value:=[ma,cu,.int .i64 f.ord,.int .i64 f.hsz,.int .i64 f.hb.p,.int .i64 f.hb.o,.int .i64 f.ht.p,.int .i64 f.ht.o,.int .i64 f.hs.p,.int .i64 f.hs.o,.int .i64 f.hv.p,.int .i64 f.hv.o,.int .u64 n.a,.int .u64 n.b,.int .u64 n.c,.int .u64 n.d,.pointer (some ⟨pa,0,none⟩),.map (some pm)]++ks++[.bool bg,.int .i64 wt,.int .i64 bl]
abbrev kindF (e:Nat):List Value:=[fnB 16 e,fnB 17 e,fnB 18 e,fnB 19 e]
abbrev pV (a:Nat):Value:=.pointer (some ⟨a,0,none⟩)
abbrev enO (f:Fm) (n:Pn) (pa pm:Nat) (e ma cu:Nat) (bg:Bool) (wt bl:Int):Obj:=.cells (enCs f n pa pm (pV ma) (pV cu) (kindF e) bg wt bl).toArray 63
structure Ev (f:Fm) (S0 S1 pa pm:Nat) (W:World):Prop where
 pl:PlanC f.toks W S0 S1 pm f.toks.length
 fr:∃ lo hi U,Mk f lo hi W pa newZ U/\(∀ k,U k->S0<=k/\k<S1)/\S0<=lo/\hi<=S1
 le:S1<=W.heap.size
theorem Ev.same {f:Fm} {S0 S1 pa pm:Nat} {W W':World} (h:Ev f S0 S1 pa pm W) (hs:W.heap.size<=W'.heap.size) (hb:∀ k,S0<=k->k<S1->W'.heap[k]?=W.heap[k]?):Ev f S0 S1 pa pm W':=by
 obtain⟨lo,hi,U,h1,h2,h3,h4⟩:=h.fr
 exact⟨h.pl.same hb,⟨lo,hi,U,h1.same hs (fun k hk=>hb k (h2 k hk).1 (h2 k hk).2) (fun k e1 e2=>hb k (by omega) (by omega)),h2,h3,h4⟩,Nat.le_trans h.le hs⟩
theorem Ev.below {f:Fm} {S0 S1 pa pm:Nat} {W W':World} (h:Ev f S0 S1 pa pm W) (hb:Below S1 W W'):Ev f S0 S1 pa pm W':=h.same hb.size fun k _ hk=>hb.block k hk
theorem ent_ins:∀ ag w,(callFunc 57 ag).run Tryz.prog w = .ok (.enter 57 ag) w:=enters_of Tryz.func57 (by kernel_rfl) rfl
namespace C
def shI (hi:Bool) (s k:Int):Int:=if hi then 8*(s-1-k) else 8*k
theorem shI_bd (hi:Bool) (s k:Int) (h0:0<=k) (h1:k<s) (h2:s<=8):0<=shI hi s k/\shI hi s k<=56:=by unfold shI;split<;>omega
def byteF (hi:Bool) (s:Nat) (x:Int) (k:Nat):Int:=x / 2 ^ (shI hi s k).toNat % 256
theorem shift_any (hi:Bool) (i s:Int) (w:World) (h0:0<=i) (h1:i<s) (h2:s<=8) :
  Calls Tryz.prog 125 #[.agg #[.bool hi],.int .i64 i,.int .i64 s] w fun e w'=>e = .returned (.int .i64 (shI hi s i))/\Below w.heap.size w w':=by
 cases hi
 ·go_enter Tryz.func125,Tryz.ntmps125
  go_wp2
  go_ret
  exact⟨rfl,bel1 _ _⟩
 ·go_enter Tryz.func125,Tryz.ntmps125
  go_wp2
  go_ret
  exact⟨rfl,bel1 _ _⟩
theorem shiftOf_0 (w:World):Calls Tryz.prog 101 #[.int .i64 0] w fun e w'=>e = .returned (.func (Fn.func 125) #[.agg #[.bool false]] #[])/\w'=w:=by
 have hmf:∀ (fn:Fn) (first cap:Array Value) (w:World),(Instr.makeFunc fn first cap).run Tryz.prog w = .ok (.func fn first cap) w:=fun _ _ _ _=>rfl
 go_enter Tryz.func101,Tryz.ntmps101
 go_wp2
 go_ret
 exact⟨rfl,rfl⟩
theorem shiftOf_1 (w:World):Calls Tryz.prog 101 #[.int .i64 1] w fun e w'=>e = .returned (.func (Fn.func 125) #[.agg #[.bool true]] #[])/\w'=w:=by
 have hmf:∀ (fn:Fn) (first cap:Array Value) (w:World),(Instr.makeFunc fn first cap).run Tryz.prog w = .ok (.func fn first cap) w:=fun _ _ _ _=>rfl
 go_enter Tryz.func101,Tryz.ntmps101
 go_wp2
 go_ret
 exact⟨rfl,rfl⟩
theorem within_any (a:Option Addr) (len cap:Nat) (at' n:Int) (w:World) (hl:len<=9223372036854775807) (hn:n<=9223372036854775807):
  Calls Tryz.prog 102 #[.slice a len cap,.int .i64 at',.int .i64 n] w fun e w'=>e = .returned (.bool (decide (0<=at')&&decide (0<=n)&&decide (at'<=len-n)))/\w'=w:=by
 by_cases h0:0<=at'
 ·by_cases h1:0<=n
  ·rw[decide_eq_true h0,decide_eq_true h1]
   go_enter Tryz.func102,Tryz.ntmps102
   go_wp2
   go_ret
   exact⟨rfl,rfl⟩
  ·rw[decide_eq_true h0,decide_eq_false h1]
   have h1':decide (0<=n)=false:=decide_eq_false h1
   go_enter Tryz.func102,Tryz.ntmps102
   go_wp2
   go_ret
   exact⟨rfl,rfl⟩
 ·rw[decide_eq_false h0]
  have h0':decide (0<=at')=false:=decide_eq_false h0
  go_enter Tryz.func102,Tryz.ntmps102
  go_wp2
  go_ret
  exact⟨rfl,rfl⟩
theorem shiftOf_b (o:Int) (hi:Bool) (w:World) (ho:o=if hi then 1 else 0):Calls Tryz.prog 101 #[.int .i64 o] w fun e w'=>e = .returned (.func (Fn.func 125) #[.agg #[.bool hi]] #[])/\w'=w:=by
 cases hi
 ·obtain rfl:o=0:=ho
  exact shiftOf_0 w
 ·obtain rfl:o=1:=ho
  exact shiftOf_1 w
theorem func_some (a b:Array Value) (w:World):(binOp .eql 178 (.func (Fn.func 125) a b) .nilFunc).run Tryz.prog w = .ok (.bool false) w:=by kernel_rfl
theorem setCells_snoc (b:Nat) (v:Value):∀ (l:List Value) (o:Nat) (w:World),w.setCells b o (l++[v])=(w.setCells b o l).setCell ⟨b,o+l.length,none⟩ v
 | [],_,_=>rfl
 | u::l,o,w=>by
  show (w.setCell _ _).setCells b (o+1) (l++[v])=_
  rw[setCells_snoc b v l (o+1)]
  simp[World.setCells,Nat.add_assoc,Nat.add_comm 1]
theorem below_setCell_both {B:Nat} {X Y:World} (h:Below B X Y) (a:Addr) (v:Value):Below B (X.setCell a v) (Y.setCell a v) :=
 ⟨h.os,h.tape,h.output,by simpa[World.setCell] using h.size,fun k hk=>by simp only[World.setCell,Array.getElem?_modify];rw[h.block k hk]⟩
def bytesV (hi:Bool) (s:Nat) (x:Int) (k:Nat):List Value:=(List.range k).map fun j=>.int .u8 (byteF hi s x j)
theorem bytesV_len (hi:Bool) (s:Nat) (x:Int) (k:Nat):(bytesV hi s x k).length=k:=by simp[bytesV]
theorem bytesV_succ (hi:Bool) (s:Nat) (x:Int) (k:Nat):bytesV hi s x (k+1)=bytesV hi s x k++[.int .u8 (byteF hi s x k)]:=by simp[bytesV,List.range_succ]
theorem setBytes_succ (hi:Bool) (s:Nat) (x:Int) (k g o:Nat) (w:World):w.setCells g o (bytesV hi s x (k+1))=(w.setCells g o (bytesV hi s x k)).setCell ⟨g,o+k,none⟩ (.int .u8 (byteF hi s x k)):=by
 rw[bytesV_succ,setCells_snoc,bytesV_len]
theorem Put_ok (g off len cap at':Nat) (p o x:Int) (hi:Bool) (s:Nat) (w:World) (h:KT w)
  (ho:o=if hi then 1 else 0) (hs:sz p=s) (h4:s=1\/s=2\/s=4\/s=8) (hx0:0<=x) (hx1:x<18446744073709551616) (hft:fitsF (sz p) (rd p) x=true)
  (hc:∀ j,j<s->∃ v,w.cell? ⟨g,off+(at'+j),none⟩=some v) (hfz:∀ j,j<s->w.frozen? ⟨g,off+(at'+j),none⟩=false)
  (hat:at'+s<=len) (hl:len<=9223372036854775807) (hg:g<w.heap.size) :
  Calls Tryz.prog 63 #[.slice (some ⟨g,off,none⟩) len cap,.int .i64 at',.int .i64 p,.int .i64 o,.int .u64 x] w fun e w'=>e = .returned (.int .i64 0)/\Below w.heap.size (w.setCells g (off+at') (bytesV hi s x s)) w':=by
 have hk:=kok p
 have HO:Go.RowKit.Hid (o=if hi then 1 else 0):=ho
 clear ho
 have ssp:0<(s:Int):=by omega
 have hw1:decide ((0:Int)<=(at':Int))=true:=decide_eq_true (by omega)
 have hw2:decide ((at':Int)<=(len:Int)-(s:Int))=true:=decide_eq_true (by omega)
 have hfn:=func_some
 have hft':fitsF s (rd p) x=true:=by rw[<- hs];exact hft
 have hk':KOk s (rd p):=by rw[<- hs];exact hk
 clear hft
 go_enter Tryz.func63,Tryz.ntmps63
 go_wp2_with (first
  | (go_at_call 60;refine(kindOf_any _ _ h).mono ?_;rintro e w1 ⟨rfl,hbl1⟩)
  | (go_at_call 101;refine(shiftOf_b _ hi _ HO.out).mono ?_;rintro e w2 ⟨rfl,rfl⟩)
  | (go_at_call 99;go_in)
  | (go_at_call 61;refine(fits_any _ _ _ _ _ _ _ hk' hx0 hx1).mono ?_;rintro e w3 ⟨rfl,hbl3⟩;obtain⟨hc3,hf3⟩:=bcell hbl3)
  | (go_at_call 102;refine(within_any _ _ _ _ _ _ hl (by omega)).mono ?_;rintro e w4 ⟨rfl,rfl⟩))
 have hz:w.heap.size<=w2.heap.size:=hbl1.size
 have B4:Below w.heap.size w w4:=((hbl1.alloc hz _).alloc (by simp;omega) _).trans (hbl3.mono (by simp;omega))
 have z4:w2.heap.size<w4.heap.size:=by have:=hbl3.size;simp at this;omega
 have k0:w4.cell? ⟨w2.heap.size,0,none⟩=some (.int .i64 s):=by rw[hc3 _ _ (by simp;omega)];simp
 clear hc3 hf3 hbl3 hbl1 h hk
 go_loopw [37] (fun i wr=>∃ k:Nat,k<=s/\i = .int .i64 k/\Below w.heap.size (w.setCells g (off+at') (bytesV hi s x k)) wr/\wr.cell? ⟨w2.heap.size,0,none⟩=some (.int .i64 s)/\w2.heap.size<wr.heap.size) (fun i _=>s-(intOf i).toNat)
 case atStart=>exact⟨0,Nat.zero_le _,rfl,B4,k0,z4⟩
 case round =>
  obtain⟨k,hk',rfl,HB,K0,Z0⟩:=hrel
  clear B4 k0 z4
  by_cases hlt:k<s
  ·have sb:=shI_bd hi s k (by omega) (by omega) (by omega)
   have hwr:IntKind.i64.wrap ((at':Int)+(k:Int))=(at':Int)+(k:Int):=by rw[IntKind.wrap_i64];omega
   have hidx:(at':Int)+(k:Int)<(len:Int):=by omega
   have hidx0:0<=(at':Int)+(k:Int):=by omega
   have hidt:((at':Int)+(k:Int)).toNat=at'+k:=by omega
   have hv:IntKind.u8.wrap (x / 2 ^ (shI hi s k).toNat)=byteF hi s x k:=IntKind.wrap_u8' _
   obtain⟨v0,hv0⟩:=hc k hlt
   have cb:wr.cell? ⟨g,off+(at'+k),none⟩=some v0:=by
    rw[HB.cell (p:=⟨g,off+(at'+k),none⟩) hg,World.cell?_setCells_out _ _ _ _ _ (fun _ _=>by rw[bytesV_len];show _\/_<=off+(at'+k);omega)];exact hv0
   have fb:wr.frozen? ⟨g,off+(at'+k),none⟩=false:=by
    rw[HB.frozen (p:=⟨g,off+(at'+k),none⟩) hg,World.frozen?_setCells];exact hfz k hlt
   have gz:g<wr.heap.size:=by omega
   have HB':Go.RowKit.Hid (Below w.heap.size (w.setCells g (off+at') (bytesV hi s x k)) wr):=HB
   have gne:¬ g=w2.heap.size:=by omega
   clear HB hc hfz
   go_wp2_with (go_at_call 125;refine(shift_any _ _ _ _ (by omega) (by omega) (by omega)).mono ?_;rintro e wc ⟨rfl,hblc⟩;have cb2:=(hblc.cell (p:=⟨g,off+(at'+k),none⟩) gz).trans cb;have fb2:=(hblc.frozen (p:=⟨g,off+(at'+k),none⟩) gz).trans fb)
   go_roundw
   case rel =>
    have HC:Below w.heap.size (w.setCells g (off+at') (bytesV hi s x k)) wc:=HB'.out.trans (hblc.mono (by omega))
    refine⟨k+1,by omega,by go_num,?_,?_,?_⟩
    ·rw[setBytes_succ,Nat.add_assoc];exact below_setCell_both HC _ _
    ·rw[World.cell?_setCell_other _ _ _ _ (by simp)];exact(hblc.cell (p:=⟨w2.heap.size,0,none⟩) Z0).trans K0
    ·have:=hblc.size;simp[World.setCell];omega
   case measure=>simp[intOf];omega
  ·obtain rfl:k=s:=by omega
   go_wp2
   go_ret
   exact⟨rfl,HB⟩
def RowM (w:World) (b:Nat) (t:TypeId) (n:Nat) (f:Nat->Value):Prop :=
 ∃ (c:Array Value) (m:Nat×Nat),w.heap[b]?=some (.cells c t m)/\(∀ i,i<n->(decide (m.1<=i)&&decide (i<m.2))=false)/\c.size=n/\∀ i,i<n->c[i]?=some (f i)
theorem rowM_of {w:World} {b:Nat} {t:TypeId} {n:Nat} {f:Nat->Value} (h:w.rowIs b t n f):RowM w b t n f:=by
 obtain⟨c,hb,hn,hc⟩:=h
 exact⟨c,(0,0),hb,fun i _=>by simp,hn,hc⟩
theorem RowM.cell {w:World} {b:Nat} {t:TypeId} {n:Nat} {f:Nat->Value} (h:RowM w b t n f) {i:Nat} (hi:i<n):w.cell? ⟨b,i,none⟩=some (f i):=by
 obtain⟨c,m,hb,_,_,hc⟩:=h
 simp[World.cell?,hb,hc i hi]
theorem RowM.frozen {w:World} {b:Nat} {t:TypeId} {n:Nat} {f:Nat->Value} (h:RowM w b t n f) {i:Nat} (hi:i<n):w.frozen? ⟨b,i,none⟩=false:=by
 obtain⟨c,m,hb,hm,_,_⟩:=h
 have:=hm i hi
 simpa[World.frozen?,hb] using this
theorem RowM.lt {w:World} {b:Nat} {t:TypeId} {n:Nat} {f:Nat->Value} (h:RowM w b t n f):b<w.heap.size:=by
 obtain⟨c,m,hb,_,_⟩:=h
 exact(Array.getElem?_eq_some_iff.1 hb).1
theorem RowM.congr {w:World} {b:Nat} {t:TypeId} {n:Nat} {f g:Nat->Value} (h:RowM w b t n f) (e:∀ i,i<n->f i=g i):RowM w b t n g:=by
 obtain⟨c,m,hb,hm,hn,hc⟩:=h
 exact⟨c,m,hb,hm,hn,fun i hi=>by rw[hc i hi,e i hi]⟩
theorem RowM.of_block {w w':World} {b:Nat} {t:TypeId} {n:Nat} {f:Nat->Value} (h:RowM w b t n f) (e:w'.heap[b]?=w.heap[b]?):RowM w' b t n f:=by
 obtain⟨c,m,hb,hm,hn,hc⟩:=h
 exact⟨c,m,e.trans hb,hm,hn,hc⟩
theorem RowM.set {w:World} {b:Nat} {t:TypeId} {n:Nat} {f:Nat->Value} (h:RowM w b t n f) (i:Nat) (v:Value):RowM (w.setCell ⟨b,i,none⟩ v) b t n (fun j=>if j=i then v else f j):=by
 obtain⟨c,m,hb,hm,hn,hc⟩:=h
 refine⟨c.setIfInBounds i v,m,?_,hm,by simpa using hn,fun j hj=>?_⟩
 ·simp[World.setCell,Array.getElem?_modify,hb]
 ·rw[Array.getElem?_setIfInBounds]
  by_cases e:j=i
  ·subst e
   simp[hn,hj]
  ·rw[if_neg (fun h=>e h.symm)]
   show c[j]?=some (if j=i then v else f j)
   rw[if_neg e]
   exact hc j hj
theorem rowM_below {w w':World} {b:Nat} {t:TypeId} {n B:Nat} {f:Nat->Value} (h:RowM w b t n f) (hb:Below B w w') (hB:b<B):RowM w' b t n f:=h.of_block (hb.block b hB)
theorem below_setCells {B b:Nat} {a:World} (hB:B<=b):∀ (vs:List Value) (o:Nat) (w:World),Below B a w->Below B a (w.setCells b o vs)
 | [],_,_,h=>h
 | v::r,o,_,h=>below_setCells hB r (o+1) _ (h.setCell hB v)
theorem rowM_setBytes {b:Nat} {t:TypeId} {n:Nat} {f:Nat->Value} (hi:Bool) (s:Nat) (x:Int) (o:Nat) {w:World} (h:RowM w b t n f) :
  ∀ k:Nat,RowM (w.setCells b o (bytesV hi s x k)) b t n (fun j=>if o<=j/\j<o+k then .int .u8 (byteF hi s x (j-o)) else f j)
 | 0=>h.congr fun i _=>by rw[if_neg (by omega)]
 | k+1=>by
  rw[setBytes_succ]
  refine((rowM_setBytes hi s x o h k).set (o+k) _).congr fun i _=>?_
  by_cases e:i=o+k
  ·subst e;rw[if_pos rfl,if_pos (by omega),show o+k-o=k by omega]
  ·rw[if_neg e]
   by_cases e2:o<=i/\i<o+k
   ·rw[if_pos e2,if_pos (by omega)]
   ·rw[if_neg e2,if_neg (by omega)]
theorem byteF_bd (hi:Bool) (s:Nat) (x:Int) (k:Nat):0<=byteF hi s x k/\byteF hi s x k<=255:=by unfold byteF;omega
def inB (size at' n:Int):Bool:=decide (0<=at'/\0<=n/\at'+n<=size)
theorem inB_yes {size at' n:Int} (h:0<=at'/\0<=n/\at'+n<=size):inB size at' n=true:=decide_eq_true h
theorem within_in (a:Option Addr) (len cap:Nat) (at' n:Int) (w:World) (hl:len<=9223372036854775807) (hn:n<=9223372036854775807) :
  Calls Tryz.prog 102 #[.slice a len cap,.int .i64 at',.int .i64 n] w fun e w'=>e = .returned (.bool (inB len at' n))/\w'=w:=by
 refine(within_any a len cap at' n w hl hn).mono fun e w' ⟨he,hw⟩=>⟨he.trans (ret_bool ?_),hw⟩
 unfold inB
 by_cases h0:0<=at'<;>by_cases h1:0<=n<;>simp[h0,h1]
 omega
def textF (fi:Nat->Int) (at' n:Nat):ByteArray:=strOfNums ((List.range n).map fun i=>fi (at'+i))
theorem text_conv (w:World) (g cap:Nat) (fi:Nat->Int) (R:RowM w g 5 cap (fun j=>.int .u8 (fi j))) (at' n c:Nat) (h:at'+n<=cap) :
  (convert 31 9 (.slice (some ⟨g,at',none⟩) n c)).run Tryz.prog w = .ok (.string (textF fi at' n)) w :=
 run_convert_bytes_arg w 31 5 Tryz.underlying31 Tryz.underlying5 g at' n c _ (by simp) (fun i hi=>by
  rw[R.cell (i:=at'+i) (by omega)];simp[hi]) 9 Tryz.underlying9
def chF (t:ByteArray) (i:Nat):Int:=(t.data.toList.map fun x=>(x.toNat:Int)).getD i 0
theorem size5:∀ w,(Go.sizeOf 5).run Tryz.prog w = .ok 1 w:=fun _=>by kernel_rfl
theorem zero5:∀ w,(zeroValue 5).run Tryz.prog w = .ok (.int .u8 0) w:=fun _=>by kernel_rfl
theorem clear_none (w:World) (a:Addr) (c:Nat) (ty:TypeId):(Builtin.clear_ #[31] ty #[.slice (some a) 0 c]).run Tryz.prog w = .ok (.tuple #[]) w:=by
 simp[Builtin.clear_,run_underlying Tryz.underlying31]
theorem rowIs_setCells {b:Nat} {t:TypeId} {n:Nat}:∀ (vs:List Value) (o:Nat) (f:Nat->Value) (w:World),w.rowIs b t n f->(w.setCells b o vs).rowIs b t n (fun j=>if o<=j/\j<o+vs.length then vs.getD (j-o) (f j) else f j)
 | [],o,f,w,h=>h.congr fun j _=>by rw[if_neg (by simp)]
 | v::vs,o,f,w,h=>by
  refine(rowIs_setCells vs (o+1) _ _ (h.set o v)).congr fun j _=>?_
  simp only[List.length_cons]
  by_cases e:j=o
  ·subst e
   rw[if_neg (by omega),if_pos rfl,if_pos (by omega),Nat.sub_self];rfl
  ·by_cases c:o+1<=j/\j<o+1+vs.length
   ·have hl:j-(o+1)<vs.length:=by omega
    rw[if_pos c,if_pos (show o<=j/\j<o+(vs.length+1) by omega),show j-o=(j-(o+1))+1 by omega]
    simp[List.getD,List.getElem?_eq_getElem hl]
   ·rw[if_neg c,if_neg e,if_neg (by omega)]
theorem rowM_setCells {b:Nat} {t:TypeId} {n:Nat}:∀ (vs:List Value) (o:Nat) (f:Nat->Value) (w:World),RowM w b t n f->RowM (w.setCells b o vs) b t n (fun j=>if o<=j/\j<o+vs.length then vs.getD (j-o) (f j) else f j)
 | [],o,f,w,h=>h.congr fun j _=>by rw[if_neg (by simp)]
 | v::vs,o,f,w,h=>by
  refine(rowM_setCells vs (o+1) _ _ (h.set o v)).congr fun j _=>?_
  simp only[List.length_cons]
  by_cases e:j=o
  ·subst e
   rw[if_neg (by omega),if_pos rfl,if_pos (by omega),Nat.sub_self];rfl
  ·by_cases c:o+1<=j/\j<o+1+vs.length
   ·have hl:j-(o+1)<vs.length:=by omega
    rw[if_pos c,if_pos (show o<=j/\j<o+(vs.length+1) by omega),show j-o=(j-(o+1))+1 by omega]
    simp[List.getD,List.getElem?_eq_getElem hl]
   ·rw[if_neg c,if_neg e,if_neg (by omega)]
theorem tl_len (t:ByteArray):t.data.toList.length=t.size:=Array.length_toList
theorem bytes_len (t:ByteArray):(t.data.toList.map fun x=>Value.int .u8 (x.toNat:Int)).length=t.size:=by rw[List.length_map,tl_len]
theorem bytes_get (t:ByteArray) (i:Nat) (d:Value) (h:i<t.size):(t.data.toList.map fun x=>Value.int .u8 (x.toNat:Int)).getD i d = .int .u8 (chF t i):=by
 have h2:i<t.data.toList.length:=by rw[tl_len];exact h
 simp only[chF,List.getD,List.getElem?_map,List.getElem?_eq_getElem h2,Option.map_some,Option.getD_some]
theorem chF_out (t:ByteArray) (i:Nat) (h:t.size<=i):chF t i=0:=by
 have h2:t.data.toList.length<=i:=by rw[tl_len];exact h
 simp only[chF,List.getD,List.getElem?_map,List.getElem?_eq_none h2,Option.map_none,Option.getD_none]
theorem chF_bd (t:ByteArray) (i:Nat):0<=chF t i/\chF t i<=255:=by
 by_cases h:i<t.data.toList.length
 ·simp only[chF,List.getD,List.getElem?_map,List.getElem?_eq_getElem h,Option.map_some,Option.getD_some]
  have:=(t.data.toList[i]).toNat_lt
  omega
 ·rw[chF_out t i (by rw[tl_len] at h;omega)];omega
structure Only (g:Nat) (w w':World):Prop where
 os:w'.os=w.os
 tape:w'.tape=w.tape
 output:w'.output=w.output
 size:w.heap.size<=w'.heap.size
 block:∀ k,k<w.heap.size->k≠g->w'.heap[k]?=w.heap[k]?
theorem Only.refl (g:Nat) (w:World):Only g w w:=⟨rfl,rfl,rfl,Nat.le_refl _,fun _ _ _=>rfl⟩
theorem only_setCells {g:Nat} {a:World}:∀ (vs:List Value) (o:Nat) (w:World),Only g a w->Only g a (w.setCells g o vs)
 | [],_,_,h=>h
 | v::r,o,w,h=>only_setCells r (o+1) _ ⟨h.os,h.tape,h.output,by simpa[World.setCell] using h.size,fun k hk hg=>(Below.heap_setCell w _ _ k hg).trans (h.block k hk hg)⟩
theorem Only.of_below {g:Nat} {w w':World} (h:Below w.heap.size w w'):Only g w w':=⟨h.os,h.tape,h.output,h.size,fun k hk _=>h.block k hk⟩
theorem Only.cell {g:Nat} {w w':World} (h:Only g w w') {p:Addr} (hp:p.block<w.heap.size) (hb:p.block≠g):w'.cell? p=w.cell? p:=World.cell?_of_block (w:=w) (h.block p.block hp hb)
theorem PutChars_lt (g len cap at' n:Nat) (t:ByteArray) (fi:Nat->Int) (w:World) (R:RowM w g 5 cap (fun j=>.int .u8 (fi j))) (hat:at'+n<=len) (hlc:len<=cap) (hl:len<=9223372036854775700) (ht:t.size<n) :
  Calls Tryz.prog 103 #[.slice (some ⟨g,0,none⟩) len cap,.int .i64 at',.int .i64 n,.string t] w fun e w'=>e = .returned (.int .i64 0)/\Only g w w' /\
   RowM w' g 5 cap (fun j=>.int .u8 (if at'<=j/\j<at'+n then chF t (j-at') else fi j)):=by
 have hin:inB len at' n=true:=inB_yes (by omega)
 have l1:(at':Int)+(n:Int)<=(cap:Int):=by omega
 have hcp:=fun ty c=>run_copy_string (P:=Tryz.prog) w 31 9 ty 5 g at' n c t Tryz.underlying31 size5 (by omega) (fun j hj=>by rw[R.cell (i:=at'+j) (by omega)];rfl) (fun j hj=>R.frozen (by omega))
 have R1:=rowM_setCells (t.data.toList.map fun x=>Value.int .u8 (x.toNat:Int)) at' _ w R
 have B1:Only g w (w.setCells g at' (t.data.toList.map fun x=>Value.int .u8 (x.toNat:Int))):=only_setCells _ _ _ (Only.refl _ _)
 have hcl:=fun ty c=>Lib.run_clear_slice (P:=Tryz.prog) (w.setCells g at' (t.data.toList.map fun x=>Value.int .u8 (x.toNat:Int))) 31 5 ty (.int .u8 0) Tryz.underlying31 zero5 rfl rfl g (at'+t.size) (n-t.size) c (by omega)
  (fun j hj=>by rw[R1.cell (i:=at'+t.size+j) (by omega)];rfl) (fun j hj=>R1.frozen (by omega))
 have R2:=rowM_setCells (List.replicate (n-t.size) (.int .u8 0)) (at'+t.size) _ _ R1
 have B2:Only g w ((w.setCells g at' (t.data.toList.map fun x=>Value.int .u8 (x.toNat:Int))).setCells g (at'+t.size) (List.replicate (n-t.size) (.int .u8 0))):=only_setCells _ _ _ B1
 go_enter Tryz.func103,Tryz.ntmps103
 go_wp2_with (go_at_call 102;refine(within_in _ _ _ _ _ _ (by omega) (by omega)).mono ?_;rintro e w1 ⟨rfl,rfl⟩)
 go_ret
 refine⟨rfl,B2,R2.congr fun j _=>?_⟩
 rw[bytes_len,List.length_replicate]
 by_cases c1:at'+t.size<=j/\j<at'+t.size+(n-t.size)
 ·rw[if_pos c1,if_pos (show at'<=j/\j<at'+n by omega),chF_out t _ (by omega)]
  simp[List.getD,show j-(at'+t.size)<n-t.size by omega]
 ·rw[if_neg c1]
  by_cases c2:at'<=j/\j<at'+t.size
  ·rw[if_pos c2,if_pos (show at'<=j/\j<at'+n by omega),bytes_get t _ _ (by omega)]
  ·rw[if_neg c2,if_neg (show ¬ (at'<=j/\j<at'+n) by omega)]
theorem PutChars_eq (g len cap at':Nat) (t:ByteArray) (fi:Nat->Int) (w:World) (R:RowM w g 5 cap (fun j=>.int .u8 (fi j))) (hat:at'+t.size<=len) (hlc:len<=cap) (hl:len<=9223372036854775700) :
  Calls Tryz.prog 103 #[.slice (some ⟨g,0,none⟩) len cap,.int .i64 at',.int .i64 (t.size:Int),.string t] w fun e w'=>e = .returned (.int .i64 0)/\Only g w w' /\
   RowM w' g 5 cap (fun j=>.int .u8 (if at'<=j/\j<at'+t.size then chF t (j-at') else fi j)):=by
 have hin:inB len at' t.size=true:=inB_yes (by omega)
 have l1:(at':Int)+(t.size:Int)<=(cap:Int):=by omega
 by_cases hce:at'=cap
 ·have hz:t.size=0:=by omega
  have R1:∀ o:Nat,RowM (w.setCells g o (t.data.toList.map fun x=>Value.int .u8 (x.toNat:Int))) g 5 cap (fun j=>.int .u8 (if at'<=j/\j<at'+t.size then chF t (j-at') else fi j)):=fun o =>
   (rowM_setCells (t.data.toList.map fun x=>Value.int .u8 (x.toNat:Int)) o _ w R).congr fun j _=>by rw[bytes_len,if_neg (by omega),if_neg (by omega)]
  have B1:∀ o:Nat,Only g w (w.setCells g o (t.data.toList.map fun x=>Value.int .u8 (x.toNat:Int))):=fun o=>only_setCells _ _ _ (Only.refl _ _)
  have hcp:=fun ty c o=>run_copy_string (P:=Tryz.prog) w 31 9 ty 5 g o 0 c t Tryz.underlying31 size5 (by omega) (fun j hj=>by omega) (fun j hj=>by omega)
  have hcl:=fun (W:World) ty a c=>clear_none W a c ty
  obtain rfl:len=cap:=by omega
  rw[hz] at hcp
  have ez:goInt ((0:Nat):Int) = .int .i64 0:=rfl
  rw[ez] at hcp
  have hin2:inB len len 0=true:=inB_yes (by omega)
  subst hce
  rw[hz]
  rw[hz] at R1
  have g0:¬ (0:Int)<0:=by omega
  go_enter Tryz.func103,Tryz.ntmps103
  go_wp2_with (go_at_call 102;refine(within_in _ _ _ _ _ _ (by omega) (by omega)).mono ?_;rintro e w1 ⟨rfl,rfl⟩)
  go_ret
  exact⟨rfl,B1 _,R1 _⟩
 ·have R1:=(rowM_setCells (t.data.toList.map fun x=>Value.int .u8 (x.toNat:Int)) at' _ w R).congr (g:=fun j=>.int .u8 (if at'<=j/\j<at'+t.size then chF t (j-at') else fi j)) fun j _=>by
   rw[bytes_len]
   by_cases c2:at'<=j/\j<at'+t.size
   ·rw[if_pos c2,if_pos c2,bytes_get t _ _ (by omega)]
   ·rw[if_neg c2,if_neg c2]
  have B1:Only g w (w.setCells g at' (t.data.toList.map fun x=>Value.int .u8 (x.toNat:Int))):=only_setCells _ _ _ (Only.refl _ _)
  have hcp:=fun ty c=>run_copy_string (P:=Tryz.prog) w 31 9 ty 5 g at' t.size c t Tryz.underlying31 size5 (by omega) (fun j hj=>by rw[R.cell (i:=at'+j) (by omega)];rfl) (fun j hj=>R.frozen (by omega))
  have hcl:=fun (W:World) ty a c=>clear_none W a c ty
  go_enter Tryz.func103,Tryz.ntmps103
  go_wp2_with (go_at_call 102;refine(within_in _ _ _ _ _ _ (by omega) (by omega)).mono ?_;rintro e w1 ⟨rfl,rfl⟩)
  all_goals go_ret
  all_goals exact⟨rfl,B1,R1⟩
theorem PutChars_long (a:Option Addr) (len cap:Nat) (at' n:Int) (t:ByteArray) (w:World) (_hn:n<=9223372036854775807) (hl:len<=9223372036854775700) (hin:inB len at' n=true) (ht:n<t.size) :
  Calls Tryz.prog 103 #[.slice a len cap,.int .i64 at',.int .i64 n,.string t] w fun e w'=>e = .returned (.int .i64 13)/\w'=w:=by
 go_enter Tryz.func103,Tryz.ntmps103
 go_wp2_with (go_at_call 102;refine(within_in _ _ _ _ _ _ (by omega) (by omega)).mono ?_;rintro e w1 ⟨rfl,rfl⟩)
 go_ret
 exact⟨rfl,rfl⟩
def inC (st en:Nat) (at' n:Int):Bool:=decide ((st:Int)<=at'/\at'+n<=en)
theorem inC_yes {st en:Nat} {at' n:Int} (h:(st:Int)<=at'/\at'+n<=en):inC st en at' n=true:=decide_eq_true h
theorem inC_no {st en:Nat} {at' n:Int} (h:¬ ((st:Int)<=at'/\at'+n<=en)):inC st en at' n=false:=decide_eq_false h
theorem inC_of {st en:Nat} {at' n:Int} (h:inC st en at' n=true):(st:Int)<=at'/\at'+n<=en:=of_decide_eq_true h
def putE (st en:Nat) (at' p x:Int):Int:=if sz p=0 then 10 else if fitsF (sz p) (rd p) x then (if inC st en at' (sz p) then 0 else 171) else 12
def pb (hi:Bool) (f:Nat->Int) (at':Nat) (p x:Int):Nat->Int:=fun j=>if at'<=j/\j<at'+(sz p).toNat then byteF hi (sz p).toNat x (j-at') else f j
def putF (hi:Bool) (st en:Nat) (f:Nat->Int) (at' p x:Int):Nat->Int:=if putE st en at' p x=0 then pb hi f at'.toNat p x else f
def setE (st en:Nat) (at' n:Int) (t:ByteArray):Int:=if n<0 then 1 else if inC st en at' n then (if (t.size:Int)<=n then 0 else 13) else 171
def lay (f:Nat->Int) (at' n:Nat) (t:ByteArray):Nat->Int:=fun j=>if at'<=j/\j<at'+n then chF t (j-at') else f j
def setF (st en:Nat) (f:Nat->Int) (at' n:Int) (t:ByteArray):Nat->Int:=if setE st en at' n t=0 then lay f at'.toNat n.toNat t else f
def clE (len en:Nat) (n:Int):Int:=if n<0 then 1 else if (len:Int)-en<n then 11 else 0
def clN (len en:Nat) (n:Int):Nat:=if clE len en n=0 then en+n.toNat else en
def clP (len en:Nat) (n:Int):Int:=if clE len en n=0 then en else 0
structure Nb where
 p:Int
 off:Int
 v:Int
def goodB (size p off:Int):Bool:=decide ((p=5\/p=6\/p=7)/\0<=off/\off<=size-sz p)
def goods (size:Int) (l:List (Int×Int)):Bool:=decide (1<=size/\size<=65535)&&l.all fun s=>goodB size s.1 s.2
def over (ns:List Nb):Bool:=ns.any fun n=>decide (mx n.p<n.v)
def wrE (len en:Nat) (size:Int) (ns:List Nb):Int:=if over ns then 12 else clE len en size
def puts (hi:Bool) (st en:Nat) (b:Nat) (f:Nat->Int) (ns:List Nb):Nat->Int:=ns.foldl (fun f n=>putF hi st en f (b+n.off) n.p n.v) f
def wrF (hi:Bool) (len st en:Nat) (f:Nat->Int) (size:Int) (ns:List Nb):Nat->Int:=if wrE len en size ns=0 then puts hi st (en+size.toNat) en (lay f en size.toNat ByteArray.empty) ns else f
def wrN (len en:Nat) (size:Int) (ns:List Nb):Nat:=if wrE len en size ns=0 then en+size.toNat else en
theorem sz_cases (p:Int):sz p=0\/sz p=1\/sz p=2\/sz p=4\/sz p=8:=by have:=kok p;unfold KOk at this;omega
theorem clE_cases (len en:Nat) (n:Int):(clE len en n=1/\n<0)\/(clE len en n=11/\0<=n/\(len:Int)<en+n)\/(clE len en n=0/\0<=n/\(en:Int)+n<=len):=by
 unfold clE
 by_cases h:n<0
 ·rw[if_pos h];exact .inl ⟨rfl,h⟩
 ·rw[if_neg h]
  by_cases h2:(len:Int)-en<n
  ·rw[if_pos h2];exact .inr (.inl ⟨rfl,by omega,by omega⟩)
  ·rw[if_neg h2];exact .inr (.inr ⟨rfl,by omega,by omega⟩)
theorem textF_size (f:Nat->Int) (a n:Nat):(textF f a n).size=n:=by unfold textF;rw[strOfNums_size];simp
theorem textF_congr {f g:Nat->Int} {a n:Nat} (h:∀ j,a<=j->j<a+n->f j=g j):textF f a n=textF g a n:=by
 unfold textF
 congr 1
 exact List.map_congr_left fun i hi=>h _ (by omega) (by have:=List.mem_range.1 hi;omega)
theorem pb_bd (hi:Bool) {f:Nat->Int} (hf:∀ j,0<=f j/\f j<=255) (a:Nat) (p x:Int):∀ j,0<=pb hi f a p x j/\pb hi f a p x j<=255:=fun j=>by
 unfold pb
 split
 ·exact byteF_bd _ _ _ _
 ·exact hf j
theorem lay_bd {f:Nat->Int} (hf:∀ j,0<=f j/\f j<=255) (a n:Nat) (t:ByteArray):∀ j,0<=lay f a n t j/\lay f a n t j<=255:=fun j=>by
 unfold lay
 split
 ·exact chF_bd _ _
 ·exact hf j
theorem putF_out {hi:Bool} {st en:Nat} {f:Nat->Int} {a p x:Int} {j:Nat} (h:j<st\/en<=j):putF hi st en f a p x j=f j:=by
 unfold putF
 split
 ·rename_i e
  have:inC st en a (sz p)=true:=by
   unfold putE at e
   by_cases h0:sz p=0
   ·rw[if_pos h0] at e;cases e
   ·rw[if_neg h0] at e
    by_cases h1:fitsF (sz p) (rd p) x=true
    ·rw[if_pos h1] at e
     by_cases h2:inC st en a (sz p)=true
     ·exact h2
     ·rw[if_neg h2] at e;cases e
    ·rw[if_neg h1] at e;cases e
  have h3:=inC_of this
  have:=sz_cases p
  unfold pb
  rw[if_neg (by omega)]
 ·rfl
theorem puts_out {hi:Bool} {st en b:Nat} {j:Nat} (h:j<st\/en<=j):∀ (ns:List Nb) (f:Nat->Int),puts hi st en b f ns j=f j
 | [],_=>rfl
 | _::ns,_=>(puts_out h ns _).trans (putF_out h)
end C
end Go.Proofs.YtjlbcdnkglaheaaGreatDoor
