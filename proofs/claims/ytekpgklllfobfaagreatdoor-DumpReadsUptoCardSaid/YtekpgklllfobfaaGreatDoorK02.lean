import Derived.Test.YtekpgklllfobfaaGreatDoorK01
namespace Go.Proofs.YtekpgklllfobfaaGreatDoor
set_option maxRecDepth 1000000
set_option maxHeartbeats 16000000
open Go.ChangeShapes Go.WideShapes Go.ChangeAt Go.RowKit
theorem nempty (s : ByteArray) : (s.toList==[])=decide (s.size=0) := by
  have h : s.toList.length=s.size := by rw[ByteArray.toList_eq]; exact Array.length_toList
  cases hs : s.toList with
  | nil => rw[hs] at h; have : s.size=0 := h.symm; simp[this]
  | cons a l => rw [hs] at h; have : ¬ s.size = 0 := by simp at h; omega
                simp[this]
theorem Symbol_any (s:ByteArray) (hs:s.size<=9223372036854775806) (w:World):Calls Tryz.prog 75 #[.string s] w fun e w'=>e = .returned (.bool (symbolB s))/\w'=w:=by
 by_cases h0:s.size=0
 ·have e0:(s.toList==[])=true:=by rw[nempty];simp[h0]
  have g:symbolB s=false:=by unfold symbolB;simp[h0]
  rw[g]
  go_enter Tryz.func75,Tryz.ntmps75
  go_wp2_with fail
  go_ret
  exact⟨rfl,rfl⟩
 have e0:(s.toList==[])=false:=by rw[nempty];simp[h0]
 by_cases h64:64<s.size
 ·have d1:decide (64<(s.size:Int))=true:=by simp;omega
  have g:symbolB s=false:=by unfold symbolB;simp;omega
  rw[g]
  go_enter Tryz.func75,Tryz.ntmps75
  go_wp2_with fail
  go_ret
  exact⟨rfl,rfl⟩
 have d1:decide (64<(s.size:Int))=false:=by simp;omega
 have ix0:∀ w:World,(Instr.index 9 (.string s) (.int .i64 0)).run Tryz.prog w = .ok (.int .u8 (ch s 0:Int)) w:=fun w=>nidx (w:=w) s 0 (by omega) .i64
 cases hd0:ndig (ch s 0)
 case true =>
  have g:symbolB s=false:=by unfold symbolB;simp[hd0]
  rw[g]
  go_enter Tryz.func75,Tryz.ntmps75
  go_wp2_with (go_at_call 67;refine(nisDigit _ _).mono ?_;rintro e w1 ⟨rfl,rfl⟩)
  go_ret
  exact⟨rfl,rfl⟩
 case false =>
 go_enter Tryz.func75,Tryz.ntmps75
 go_wp2_with (go_at_call 67;refine(nisDigit _ _).mono ?_;rintro e w1 ⟨rfl,rfl⟩)
 go_loop [19] (fun i=>∃ k:Nat,k<=s.size/\i = .int .i64 (k:Int)/\∀ j,j<k->nsym (ch s j)=true) (fun i=>s.size-(intOf i).toNat)
 case atStart=>exact⟨0,Nat.zero_le _,rfl,fun j hj=>absurd hj (Nat.not_lt_zero j)⟩
 case round =>
  obtain⟨k,hk,rfl,hall⟩:=hrel
  by_cases hlt:k<s.size
  ·have d1:decide ((k:Int)<(s.size:Int))=true:=by simp;omega
   have ix:∀ w:World,(Instr.index 9 (.string s) (.int .i64 (k:Int))).run Tryz.prog w = .ok (.int .u8 (ch s k:Int)) w:=fun w=>nidx (w:=w) s k hlt .i64
   have hgo:nsym (ch s k)=true\/(nlet (ch s k)=false/\ndig (ch s k)=false/\((ch s k:Int) != 95)=true/\symbolB s=false):=by
    cases hx:nsym (ch s k)
    ·right
     have hx':=hx
     unfold nsym at hx'
     simp only[Bool.or_eq_false_iff,decide_eq_false_iff_not] at hx'
     refine⟨hx'.1.1,hx'.1.2,by simp;omega,?_⟩
     unfold symbolB
     simp only[decide_eq_false_iff_not]
     rintro⟨-,-,-,h⟩
     rw[h k hlt] at hx
     cases hx
    ·exact Or.inl rfl
   rcases hgo with hx|⟨a1,a2,a3,g⟩
   ·have hall2:∀ j,j<k+1->nsym (ch s j)=true:=fun j hj=>by
     by_cases h:j=k
     ·rw[h];exact hx
     ·exact hall j (by omega)
    have a3:((ch s k:Int) != 95) = !(decide (ch s k=95)):=by by_cases h:ch s k=95<;>simp[h];omega
    unfold nsym at hx
    clear hall
    cases hl:nlet (ch s k)<;>cases hd:ndig (ch s k)<;>cases h95:decide (ch s k=95)<;>rw[hl,hd,h95] at hx<;>first|(cases hx;done)|skip
    all_goals
     clear hx
     rw[h95] at a3
     simp only[Bool.not_true,Bool.not_false] at a3
     clear h95
     go_wp2_with (first|(go_at_call 101;refine(nisLetter _ _).mono ?_;rintro e w1 ⟨rfl,rfl⟩)|(go_at_call 67;refine(nisDigit _ _).mono ?_;rintro e w1 ⟨rfl,rfl⟩))
     go_round
     case rel=>exact⟨k+1,by omega,by go_num,hall2⟩
     case measure=>simp[intOf];omega
   ·skip
    go_wp2_with (first|(go_at_call 101;refine(nisLetter _ _).mono ?_;rintro e w1 ⟨rfl,rfl⟩)|(go_at_call 67;refine(nisDigit _ _).mono ?_;rintro e w1 ⟨rfl,rfl⟩))
    go_ret
    first|exact⟨rfl,rfl⟩|exact⟨nret g.symm,rfl⟩
  ·obtain rfl:k=s.size:=by omega
   have g:symbolB s=true:=by
    unfold symbolB
    simp only[decide_eq_true_eq]
    exact⟨by omega,by omega,hd0,hall⟩
   clear hall
   go_wp2_with fail
   go_ret
   first|exact⟨rfl,rfl⟩|exact⟨nret g.symm,rfl⟩
def symC (c:Nat) (first:Bool):Bool:=nsym c && !(ndig c&&first)
def nmE (s:ByteArray) (f:Nat):Nat->Nat->Nat
 | 0,a=>a
 | k+1,a=>if a<s.size/\symC (ch s a) (decide (a=f))=true then nmE s f k (a+1) else a
def nuE (s:ByteArray) (f:Nat):Nat->Nat->Nat->Nat×Nat
 | 0,a,n=>(a,n)
 | k+1,a,n=>if a<s.size/\ndig (ch s a)=true/\(a=f\/0<n)/\10*n+(ch s a-48)<=65535 then nuE s f k (a+1) (10*n+(ch s a-48)) else (a,n)
def stP (s:ByteArray) (a:Nat):Option (ByteArray×Int)×Nat :=
 if nmE s a 64 a=a then (none,a)
 else if nmE s a 64 a<s.size/\ch s (nmE s a 64 a)=91 then
  (if (nuE s (nmE s a 64 a+1) (s.size-(nmE s a 64 a+1)) (nmE s a 64 a+1) 0).1=nmE s a 64 a+1\/¬ ((nuE s (nmE s a 64 a+1) (s.size-(nmE s a 64 a+1)) (nmE s a 64 a+1) 0).1<s.size/\ch s (nuE s (nmE s a 64 a+1) (s.size-(nmE s a 64 a+1)) (nmE s a 64 a+1) 0).1=93)
   then (none,(nuE s (nmE s a 64 a+1) (s.size-(nmE s a 64 a+1)) (nmE s a 64 a+1) 0).1)
   else (some (s.extract a (nmE s a 64 a),((nuE s (nmE s a 64 a+1) (s.size-(nmE s a 64 a+1)) (nmE s a 64 a+1) 0).2:Int)),(nuE s (nmE s a 64 a+1) (s.size-(nmE s a 64 a+1)) (nmE s a 64 a+1) 0).1+1))
 else (some (s.extract a (nmE s a 64 a),-1),nmE s a 64 a)
def paP (s:ByteArray):Nat->Nat->List (ByteArray×Int)->Option (List (ByteArray×Int))×Nat
 | 0,a,_=>(none,a)
 | k+1,a,l=>match stP s a with
  | (none,b)=>(none,b)
  | (some x,b)=>if b=s.size then (some (l++[x]),0) else if ch s b=46 then paP s k (b+1) (l++[x]) else (none,b)
def pathZ (s:ByteArray):Option (List (ByteArray×Int))×Nat:=if s.size=0 then (some [],0) else paP s (s.size+1) 0 []
theorem nmE_ge (s:ByteArray) (f:Nat):∀ k a,a<=nmE s f k a/\nmE s f k a<=a+k/\(a<=s.size->nmE s f k a<=s.size)
 | 0,a=>⟨Nat.le_refl _,Nat.le_refl _,fun h=>h⟩
 | k+1,a=>by
  unfold nmE
  split
  ·rename_i h
   have:=nmE_ge s f k (a+1)
   exact⟨by omega,by omega,fun _=>this.2.2 (by omega)⟩
  ·exact⟨Nat.le_refl _,by omega,fun h=>h⟩
theorem nuE_ge (s:ByteArray) (f:Nat):∀ k a n,a<=(nuE s f k a n).1/\(a<=s.size->(nuE s f k a n).1<=s.size)/\(n<=65535->(nuE s f k a n).2<=65535)
 | 0,a,n=>⟨Nat.le_refl _,fun h=>h,fun h=>h⟩
 | k+1,a,n=>by
  unfold nuE
  split
  ·rename_i h
   have:=nuE_ge s f k (a+1) (10*n+(ch s a-48))
   exact⟨by omega,fun _=>this.2.1 (by omega),fun _=>this.2.2 h.2.2.2⟩
  ·exact⟨Nat.le_refl _,fun h=>h,fun h=>h⟩
theorem stP_ge {s:ByteArray} {a:Nat} (ha:a<=s.size):a<=(stP s a).2/\(stP s a).2<=s.size/\((stP s a).1≠none->a<(stP s a).2):=by
 obtain⟨h1,-,h3⟩:=nmE_ge s a 64 a
 have h4:=h3 ha
 unfold stP
 split
 ·exact⟨Nat.le_refl _,ha,fun h=>absurd rfl h⟩
 ·split
  ·rename_i hn hb
   obtain⟨g1,g2,-⟩:=nuE_ge s (nmE s a 64 a+1) (s.size-(nmE s a 64 a+1)) (nmE s a 64 a+1) 0
   have g4:=g2 (by omega)
   split
   ·exact⟨by show a<=(nuE s (nmE s a 64 a+1) (s.size-(nmE s a 64 a+1)) (nmE s a 64 a+1) 0).1;omega,g4,fun h=>absurd rfl h⟩
   ·rename_i hx
    have hx2:(nuE s (nmE s a 64 a+1) (s.size-(nmE s a 64 a+1)) (nmE s a 64 a+1) 0).1<s.size:=by
     rcases Nat.lt_or_ge (nuE s (nmE s a 64 a+1) (s.size-(nmE s a 64 a+1)) (nmE s a 64 a+1) 0).1 s.size with h|h
     ·exact h
     ·exact absurd (.inr fun hh=>by omega) hx
    exact⟨by show a<=(nuE s (nmE s a 64 a+1) (s.size-(nmE s a 64 a+1)) (nmE s a 64 a+1) 0).1+1;omega,hx2,fun _=>by show a<(nuE s (nmE s a 64 a+1) (s.size-(nmE s a 64 a+1)) (nmE s a 64 a+1) 0).1+1;omega⟩
  ·rename_i hn hb
   exact⟨h1,h4,fun _=>by show a<nmE s a 64 a;omega⟩
theorem sym_piece {s:ByteArray} {f b:Nat} (hb:b<s.size) (hf:f<=b) (hall:∀ i,f<=i->i<b->symC (ch s i) (decide (i=f))=true) (hl:b-f<64):symbolB (s.extract f (b+1))=symC (ch s b) (decide (b=f)):=by
 have hsz:(s.extract f (b+1)).size=b+1-f:=size_ext s f (b+1) (by omega)
 have hch:∀ i,i<b+1-f->ch (s.extract f (b+1)) i=ch s (f+i):=fun i hi=>ch_ext s f (b+1) i hi
 have hsm:∀ c x,symC c x=true↔nsym c=true/\(x=true->ndig c=false):=fun c x=>by
  unfold symC
  cases nsym c<;>cases ndig c<;>cases x<;>simp
 unfold symbolB
 rw[hsz,hch 0 (by omega),Nat.add_zero]
 cases hc:symC (ch s b) (decide (b=f)) with
 | true =>
  have h2:=(hsm _ _).1 hc
  refine decide_eq_true ⟨by omega,by omega,?_,fun i hi=>?_⟩
  ·by_cases e:b=f
   ·subst e
    exact h2.2 (by simp)
   ·exact((hsm _ _).1 (hall f (Nat.le_refl _) (by omega))).2 (by simp)
  ·rw[hch i hi]
   by_cases e:f+i=b
   ·rw[e];exact h2.1
   ·exact((hsm _ _).1 (hall (f+i) (by omega) (by omega))).1
 | false =>
  refine decide_eq_false fun ⟨_,_,h3,h4⟩=>?_
  have h5:=h4 (b-f) (by omega)
  rw[hch _ (by omega),show f+(b-f)=b by omega] at h5
  have:symC (ch s b) (decide (b=f))=true:=(hsm _ _).2 ⟨h5,fun e=>by
   have:=of_decide_eq_true e
   subst this
   exact h3⟩
  rw[hc] at this
  cases this
theorem sym_long {s:ByteArray} {f b:Nat} (hb:b<s.size) (hl:64<=b-f):symbolB (s.extract f (b+1))=false:=by
 have hsz:(s.extract f (b+1)).size=b+1-f:=size_ext s f (b+1) (by omega)
 unfold symbolB
 exact decide_eq_false fun ⟨_,h,_⟩=>by rw[hsz] at h;omega
theorem pick_map (l:List Oper):∀ sc:List Nat,sc.all (fun i=>decide (i<l.length))=true->sc.map (fun i=>l.toArray[i]?)=(sc.filterMap fun i=>l[i]?).map some
 | [],_=>rfl
 | i::r,h=>by
  rw[List.all_cons,Bool.and_eq_true,decide_eq_true_eq] at h
  rw[List.map_cons,List.filterMap_cons,List.getElem?_eq_getElem h.1,pick_map l r h.2]
  simp[h.1]
theorem wp_region_pp {P:Program} {Q:Exit->Act->World->Prop} {id:Nat} {a:Act} {w:World} {l:List Oper} (p:World->Prop) (sc:List Nat) (hm:P.follows .mixedOrders=true) (hv:(Region.noSelect l.toArray&&schB .any l.toArray sc (Array.replicate l.length false)&&(sc.length==l.length)&&sc.all (fun i=>decide (i<l.length)))=true)
  (hQ:∀ c (a:Act) d v w,Q (.panic c) (a.put d v) w->Q (.panic c) a w) (hp:p w.drew) (h:Lx P l.toArray (fun W=>∃ θ:CW p,W=θ.w) Q (sc.filterMap fun i=>l[i]?) a w.drew):(Code.region id l.toArray true).wp P Q a w:=by
 rw[Bool.and_eq_true] at hv
 exact wp_region_px p sc _ (pick_map l sc hv.2) hm hv.1 hQ hp h
structure Hid (p:Prop):Prop where
 out:p
theorem beqN {a b:Int} (h:a≠b):(a==b)=false:=beq_eq_false_iff_ne.2 h
structure But (R:Nat) (w w':World):Prop where
 os:w'.os=w.os
 tape:w'.tape=w.tape
 output:w'.output=w.output
 size:w.heap.size<=w'.heap.size
 block:∀ k,k<w.heap.size->k≠R->w'.heap[k]?=w.heap[k]?
theorem But.refl (R:Nat) (w:World):But R w w:=⟨rfl,rfl,rfl,Nat.le_refl _,fun _ _ _=>rfl⟩
theorem But.trans {R:Nat} {a b c:World} (h:But R a b) (k:But R b c):But R a c :=
 ⟨k.os.trans h.os,k.tape.trans h.tape,k.output.trans h.output,Nat.le_trans h.size k.size,fun i hi hn=>(k.block i (Nat.lt_of_lt_of_le hi h.size) hn).trans (h.block i hi hn)⟩
theorem But.below {R B:Nat} {w w':World} (h:But R w w') (hB:B<=R) (hR:R<w.heap.size):Below B w w':=⟨h.os,h.tape,h.output,h.size,fun k hk=>h.block k (by omega) (by omega)⟩
theorem But.of {R:Nat} {w w':World} (h:Below w.heap.size w w'):But R w w':=⟨h.os,h.tape,h.output,h.size,fun k hk _=>h.block k hk⟩
structure Mv (R:Nat) (w w':World):Prop where
 but:But R w w'
 cell:∀ o,o≠1->w'.cell? ⟨R,o,none⟩=w.cell? ⟨R,o,none⟩
 fz:∀ o,w'.frozen? ⟨R,o,none⟩=w.frozen? ⟨R,o,none⟩
theorem Mv.refl (R:Nat) (w:World):Mv R w w:=⟨But.refl R w,fun _ _=>rfl,fun _=>rfl⟩
theorem Mv.trans {R:Nat} {a b c:World} (h:Mv R a b) (k:Mv R b c):Mv R a c:=⟨h.but.trans k.but,fun o ho=>(k.cell o ho).trans (h.cell o ho),fun o=>(k.fz o).trans (h.fz o)⟩
theorem Mv.of {R:Nat} {w w':World} (h:Below w.heap.size w w') (hR:R<w.heap.size):Mv R w w' :=
 ⟨But.of h,fun o _=>h.cell (p:=⟨R,o,none⟩) hR,fun o=>h.frozen (p:=⟨R,o,none⟩) hR⟩
theorem Mv.set (R:Nat) (w:World) (u:Value):Mv R w (w.setCell ⟨R,1,none⟩ u) :=
 ⟨⟨rfl,rfl,rfl,by simp[World.setCell],fun k _ hk=>Below.heap_setCell _ _ _ _ hk⟩,
  fun o ho=>World.cell?_setCell_other w _ _ _ (fun e=>ho (by injection e with _ e2;exact e2.symm)),fun o=>by rw[World.frozen?_setCell]⟩
theorem Mv.lt {R:Nat} {w w':World} (h:Mv R w w') (hR:R<w.heap.size):R<w'.heap.size:=Nat.lt_of_lt_of_le hR h.but.size
structure RA (w:World) (R:Nat) (s:ByteArray) (a:Nat):Prop where
 h0:w.cell? ⟨R,0,none⟩=some (.string s)
 h1:w.cell? ⟨R,1,none⟩=some (.int .i64 (a:Int))
 fz:∀ o,w.frozen? ⟨R,o,none⟩=false
 lt:R<w.heap.size
theorem RA.mv {w w':World} {R:Nat} {s:ByteArray} {a b:Nat} (h:RA w R s a) (m:Mv R w w') (hb:w'.cell? ⟨R,1,none⟩=some (.int .i64 (b:Int))):RA w' R s b :=
 ⟨(m.cell 0 (by decide)).trans h.h0,hb,fun o=>(m.fz o).trans (h.fz o),m.lt h.lt⟩
theorem RA.below {w w':World} {R:Nat} {s:ByteArray} {a:Nat} (h:RA w R s a) (hb:Below w.heap.size w w'):RA w' R s a :=
 h.mv (Mv.of hb h.lt) ((hb.cell (p:=⟨R,1,none⟩) h.lt).trans h.h1)
theorem RA.put {w:World} {R:Nat} {s:ByteArray} {a b:Nat} (h:RA w R s a) (z:Int) (hz:z=(b:Int)):RA (w.setCell ⟨R,1,none⟩ (.int .i64 z)) R s b :=
 h.mv (Mv.set R w _) (by rw[hz];exact World.cell?_setCell_same w ⟨R,1,none⟩ _ h.h1)
abbrev pvE:PanicEntry:={ v:=.iface 23 (.int .i64 210),recovered:=false }
structure Rd (w0:World) (R:Nat) (s:ByteArray) (a:Nat) (W:World):Prop where
 ra:RA W R s a
 mv:Mv R w0 W
theorem Rd.drew {w0:World} {R:Nat} {s:ByteArray} {a:Nat} {W:World} (h:Rd w0 R s a W):Rd w0 R s a W.drew:=⟨⟨h.ra.h0,h.ra.h1,h.ra.fz,h.ra.lt⟩,⟨⟨h.mv.but.os,h.mv.but.tape,h.mv.but.output,h.mv.but.size,h.mv.but.block⟩,h.mv.cell,h.mv.fz⟩⟩
theorem Rd.below {w0:World} {R:Nat} {s:ByteArray} {a:Nat} {W W':World} (h:Rd w0 R s a W) (hb:Below W.heap.size W W'):Rd w0 R s a W':=⟨h.ra.below hb,h.mv.trans (Mv.of hb h.ra.lt)⟩
theorem Rd.put {w0:World} {R:Nat} {s:ByteArray} {a:Nat} {W:World} (h:Rd w0 R s a W) (z:Int) (b:Nat) (hz:z=(b:Int)):Rd w0 R s b (W.setCell ⟨R,1,none⟩ (.int .i64 z)):=⟨h.ra.put z hz,h.mv.trans (Mv.set R W _)⟩
theorem Rd.refl {w:World} {R:Nat} {s:ByteArray} {a:Nat} (h:RA w R s a):Rd w R s a w:=⟨h,Mv.refl R w⟩
theorem Rd.from {w0 w1:World} {R:Nat} {s:ByteArray} {a b:Nat} {W:World} (h:Rd w0 R s a w1) (k:Rd w1 R s b W):Rd w0 R s b W:=⟨k.ra,h.mv.trans k.mv⟩
theorem rd_class {w0:World} {R:Nat} {s:ByteArray} {a:Nat} {W:World} (h:Rd w0 R s a W):∃ p:World->Prop,p W.drew/\Nonempty (CW p)/\(∀ V,p V->Hid (Rd w0 R s a V))/\(∀ V,Rd w0 R s a V->p V)/\(∀ θ:CW p,θ.w.cell? ⟨R,0,none⟩=some (.string s))/\(∀ θ:CW p,θ.w.cell? ⟨R,1,none⟩=some (.int .i64 (a:Int))) :=
 ⟨Rd w0 R s a,h.drew,⟨⟨_,h⟩⟩,fun _ h=>⟨h⟩,fun _ h=>h,fun θ=>(Rd.ra θ.h).h0,fun θ=>(Rd.ra θ.h).h1⟩
theorem sees_any (R:Nat) (s:ByteArray) (a c:Nat) (w w0:World) (h:Rd w0 R s a w):Calls Tryz.prog 99 #[.pointer (some ⟨R,0,none⟩),.int .u8 (c:Int)] w fun e w'=>e = .returned (.bool (decide (a<s.size/\ch s a=c)))/\Rd w0 R s a w':=by
 obtain⟨p,p0,pN,pE,-,k0,k1⟩:=rd_class h
 have hF:=pE _ p0
 clear h pE
 by_cases ha:a<s.size
 ·have d1:decide ((a:Int)<(s.size:Int))=true:=decide_eq_true (by omega)
  have d1n:decide (a<s.size)=true:=decide_eq_true ha
  have ix:∀ w:World,(Instr.index 9 (.string s) (.int .i64 (a:Int))).run Tryz.prog w = .ok (.int .u8 (ch s a:Int)) w:=fun w=>nidx (w:=w) s a ha .i64
  have hR:decide (a<s.size/\ch s a=c)=((ch s a:Int)==(c:Int)):=by
   by_cases e:ch s a=c
   ·rw[decide_eq_true ⟨ha,e⟩,e];simp
   ·rw[decide_eq_false (fun h=>e h.2),beqN (by omega)]
  rw[hR]
  clear hR
  go_enter Tryz.func99,Tryz.ntmps99
  go_wp2_with fail
  refine wp_region_pp p [0,1,2,3,4,5,6,7,8,9,10,11,12,13,14,15,16,17,18,19,20,21,22,23] (by kernel_rfl) (by kernel_rfl) (fun _ _ d _ _ h=>by cases d<;>exact h) p0 ?_
  simp only[List.filterMap_cons,List.filterMap_nil,List.getElem?_cons_zero,List.getElem?_cons_succ]
  generalize w.drew=W at p0 hF ⊢
  repeat (refine lx_one rfl ?_;(first|go_big_quiet_skip|(go_big_quiet_want;go_big_quiet_op;go_big_quiet_on));refine wpQuiet_nil ?_)
  refine lx_done ?_
  go_wp2_with fail
  go_ret
  exact⟨rfl,hF.out⟩
 ·have d1:decide ((a:Int)<(s.size:Int))=false:=decide_eq_false (by omega)
  have d1n:decide (a<s.size)=false:=decide_eq_false ha
  have hR:decide (a<s.size/\ch s a=c)=false:=decide_eq_false fun h=>ha h.1
  rw[hR]
  clear hR
  go_enter Tryz.func99,Tryz.ntmps99
  go_wp2_with fail
  refine wp_region_pp p [0,1,2,3,4,5,6,7,8,9,10,11,12,13,14,15,16,17,18,19,20,21,22,23] (by kernel_rfl) (by kernel_rfl) (fun _ _ d _ _ h=>by cases d<;>exact h) p0 ?_
  simp only[List.filterMap_cons,List.filterMap_nil,List.getElem?_cons_zero,List.getElem?_cons_succ]
  generalize w.drew=W at p0 hF ⊢
  repeat (refine lx_one rfl ?_;(first|go_big_quiet_skip|(go_big_quiet_want;go_big_quiet_op;go_big_quiet_on));refine wpQuiet_nil ?_)
  refine lx_done ?_
  go_wp2_with fail
  go_ret
  exact⟨rfl,hF.out⟩
theorem needSome_no (R:Nat) (s:ByteArray) (a:Nat) (w w0:World) (h:Rd w0 R s a w):Calls Tryz.prog 112 #[.pointer (some ⟨R,0,none⟩),.int .i64 (a:Int)] w fun e w'=>e = .panicked [pvE]/\Rd w0 R s a w':=by
 have k1:=h.ra.h1
 go_enter Tryz.func112,Tryz.ntmps112
 go_wp2
 exact⟨rfl,rfl,h⟩
theorem needSome_ok (R:Nat) (s:ByteArray) (a f:Nat) (hne:a≠f) (w w0:World) (h:Rd w0 R s a w):Calls Tryz.prog 112 #[.pointer (some ⟨R,0,none⟩),.int .i64 (f:Int)] w fun e w'=>e = .returned (.tuple #[])/\Rd w0 R s a w':=by
 have k1:=h.ra.h1
 have hb:((a:Int)==(f:Int))=false:=beqN (by omega)
 have hb2:(a==f)=false:=beq_eq_false_iff_ne.2 hne
 go_enter Tryz.func112,Tryz.ntmps112
 go_wp2
 go_end0
 exact⟨rfl,h⟩
theorem want_ok (R:Nat) (s:ByteArray) (a c:Nat) (hs:s.size<=9223372036854775806) (hc:a<s.size/\ch s a=c) (w w0:World) (h:Rd w0 R s a w):Calls Tryz.prog 74 #[.pointer (some ⟨R,0,none⟩),.int .u8 (c:Int)] w fun e w'=>e = .returned (.tuple #[])/\Rd w0 R s (a+1) w':=by
 have hp:=sees_any R s a c w w0 h
 rw[decide_eq_true hc] at hp
 have ha:(a:Int)+1<=9223372036854775807:=by omega
 clear h
 go_enter Tryz.func74,Tryz.ntmps74
 go_wp2_with (go_at_call 99;refine hp.mono ?_;clear hp;rintro e w1 ⟨rfl,h1⟩;have k1:=h1.ra.h1;have f1:=h1.ra.fz 1)
 go_end0
 exact⟨rfl,h1.put _ (a+1) (by omega)⟩
theorem want_no (R:Nat) (s:ByteArray) (a c:Nat) (hc:¬ (a<s.size/\ch s a=c)) (w w0:World) (h:Rd w0 R s a w):Calls Tryz.prog 74 #[.pointer (some ⟨R,0,none⟩),.int .u8 (c:Int)] w fun e w'=>e = .panicked [pvE]/\Rd w0 R s a w':=by
 have hp:=sees_any R s a c w w0 h
 rw[decide_eq_false hc] at hp
 clear h
 go_enter Tryz.func74,Tryz.ntmps74
 go_wp2_with (go_at_call 99;refine hp.mono ?_;clear hp;rintro e w1 ⟨rfl,h1⟩)
 exact⟨rfl,rfl,h1⟩
section
variable {P:Program} {md:Region.Mode} {ops:Array Oper} {Q:Exit->Act->World->Prop}
variable {d:Option Tmp} {op:Op} {ty:TypeId} {ps:String} {af:Array Edge} {gd:Option (Nat×Bool)} {r:List Oper} {a:Act} {w:World} {C:World->Prop}
end
open Go
section
variable {P:Program} {ops:Array Oper} {Q:Exit->Act->World->Prop} {md:Region.Mode} {S:World->Prop} {z:Nat}
def wpAnyF (P:Program) (md:Region.Mode) (ops:Array Oper) (Q:Exit->Act->World->Prop) (S:World->Prop) (z:Nat):Nat->Array Bool->Act->World->Prop
 | 0,listed,a,w=>Region.ready md ops listed=[]/\Q .normal a w
 | fuel+1,listed,a,w =>
  (Region.ready md ops listed=[]->Q .normal a w) /\
  ∀ i∈Region.ready md ops listed,wpOp P ops Q i (fun a' w'=>(i≠z->S w')/\wpAnyF P md ops Q S z fuel (listed.setIfInBounds i true) a' w') a w
theorem wpAny_of_F:∀ (fuel:Nat) (listed:Array Bool) (a:Act) (w:World),wpAnyF P md ops Q S z fuel listed a w->wpAny P md ops Q fuel listed a w
 | 0,_,_,_,h=>h
 | fuel+1,_,_,_,h=>⟨h.1,fun i hi=>wpOp_mono (fun a' w' h'=>wpAny_of_F fuel _ a' w' h'.2) (h.2 i hi)⟩
def waitsB (md:Region.Mode) (ops:Array Oper) (z i:Nat):Bool:=match ops[z]? with
 | some o=>o.after.any fun e=>Region.binds md e&&e.on==i
 | none=>true
theorem not_ready {i:Nat} {listed:Array Bool} (hw:waitsB md ops z i=true) (hi:i∈Region.ready md ops listed):z∉Region.ready md ops listed:=fun hz=>by
 obtain⟨_,oz,hoz,hall⟩:=mem_ready.1 hz
 unfold waitsB at hw
 rw[hoz] at hw
 obtain⟨e,he,hb⟩:=Array.any_eq_true'.1 hw
 simp only[Bool.and_eq_true,beq_iff_eq] at hb
 have h1:=hall e he hb.1
 rw[hb.2] at h1
 have h0:=(mem_ready.1 hi).1
 rcases Nat.lt_or_ge i listed.size with h' | h'
 ·simp[h'] at h0 h1;rw[h0] at h1;cases h1
 ·simp[Array.getElem?_eq_none h'] at h1
theorem wpAnyF_first {i:Nat} {oi:Oper} {v:Value} (hi:ops[i]?=some oi) (hsel:∀ (j:Nat) (o:Oper) cs b,ops[j]?=some o->o.op ≠ .select cs b)
  (hQ:∀ c a w,Q (.panic c) (a.put oi.dst v) w->Q (.panic c) a w) (hw:waitsB md ops z i=true) (hiz:i≠z) :
  ∀ (fuel:Nat) (listed:Array Bool) (a:Act) (w:World),
   (∀ j oj,ops[j]?=some oj->j≠i->listed.getD j true=false->(∀ e∈oj.after,Region.binds md e=true->e.on≠i)->oi.apart ops oj=true) ->
   i∈Region.ready md ops listed->YieldsIf P ops S oi v a->S w ->
   wpAnyF P md ops Q S z fuel (listed.setIfInBounds i true) (a.put oi.dst v) w->wpAnyF P md ops Q S z (fuel+1) listed a w:=by
 intro fuel
 induction fuel with
 | zero =>
  intro listed a w _ hr hy hS H
  refine⟨fun h=>(by rw[h] at hr;cases hr),fun j hj=>?_⟩
  by_cases hji:j=i
  ·subst hji;exact hy.wpOp hi hS ⟨fun _=>hS,H⟩
  ·have:=ready_mono hj hji
   rw[H.1] at this
   cases this
 | succ fuel ih =>
  intro listed a w hfree hr hy hS H
  refine⟨fun h=>(by rw[h] at hr;cases hr),fun j hj=>?_⟩
  by_cases hji:j=i
  ·subst hji;exact hy.wpOp hi hS ⟨fun _=>hS,H⟩
  ·have hjz:j≠z:=fun e=>not_ready hw hr (e▸hj)
   have h1:=H.2 j (ready_mono hj hji)
   obtain⟨hjun,oj,hoj,hall⟩:=mem_ready.1 hj
   have hnot:∀ e∈oj.after,Region.binds md e=true->e.on≠i:=fun e he hb heq=>by
    have h1:=hall e he hb
    have h0:=(mem_ready.1 hr).1
    rw[heq] at h1
    rcases Nat.lt_or_ge i listed.size with h' | h'
    ·simp[h'] at h0 h1;rw[h0] at h1;cases h1
    ·simp[Array.getElem?_eq_none h'] at h1
   have h2:=wpOp_putIf hoj (hfree j oj hoj hji hjun hnot) (fun cs b=>hsel i oi cs b hi) (fun cs b=>hsel j oj cs b hoj) hQ hy h1
   have hfree':∀ k ok,ops[k]?=some ok->k≠i->(listed.setIfInBounds j true).getD k true=false ->
     (∀ e∈ok.after,Region.binds md e=true->e.on≠i)->oi.apart ops ok=true:=fun k ok hk hki hun hno=>by
    refine hfree k ok hk hki ?_ hno
    by_cases hjk:j=k
    ·subst hjk;exact hjun
    ·rw[getD_set_ne true hjk] at hun;exact hun
   refine wpOp_mono (fun a' w' h3=>⟨h3.2.1,ih (listed.setIfInBounds j true) a' w' hfree' (ready_mono hr (Ne.symm hji)) h3.1 (h3.2.1 hjz) ?_⟩) h2
   rw[Array.setIfInBounds_comm _ _ hji]
   exact h3.2.2
theorem wpAnyF_take {i:Nat} {oi:Oper} {v:Value} {fuel:Nat} {listed:Array Bool} {a:Act} {w:World} (hi:ops[i]?=some oi)
  (hs:Region.noSelect ops=true) (hf:Region.free md ops listed i=true) (hr:(Region.ready md ops listed).contains i=true) (hw:(waitsB md ops z i && !(i==z))=true)
  (hQ:∀ c a w,Q (.panic c) (a.put oi.dst v) w->Q (.panic c) a w) (hy:YieldsIf P ops S oi v a) (hS:S w)
  (h:wpAnyF P md ops Q S z fuel (listed.setIfInBounds i true) (a.put oi.dst v) w):wpAnyF P md ops Q S z (fuel+1) listed a w:=by
 simp only[Bool.and_eq_true,Bool.not_eq_true',beq_eq_false_iff_ne] at hw
 exact wpAnyF_first hi (Region.noSelect_spec hs) hQ hw.1 hw.2 fuel listed a w (Region.free_spec hi hf) (by simpa using hr) hy hS h
theorem wpAnyF_done {listed:Array Bool} {a:Act} {w:World} (hr:Region.ready md ops listed=[]) (h:Q .normal a w):∀ fuel,wpAnyF P md ops Q S z fuel listed a w
 | 0=>⟨hr,h⟩
 | _+1=>⟨fun _=>h,by rw[hr];simp⟩
theorem wp_region_F {id:Nat} (z:Nat) (S:World->Prop) {a:Act} {w:World} (hm:P.follows .mixedOrders=true) (hS:S w.drew)
  (h:S w.drew->wpAnyF P .any ops Q S z ops.size (Array.replicate ops.size false) a w.drew):(Code.region id ops true).wp P Q a w :=
 wp_region_any hm (wpAny_of_F _ _ _ _ (h hS))
end
theorem wpAnyF_narrow {P:Program} {md:Region.Mode} {ops:Array Oper} {Q:Exit->Act->World->Prop} {S S':World->Prop} {z:Nat} (hSS:∀ w,S' w->S w):∀ (fuel:Nat) (listed:Array Bool) (a:Act) (w:World),wpAnyF P md ops Q S' z fuel listed a w->wpAnyF P md ops Q S z fuel listed a w
 | 0,_,_,_,h=>h
 | fuel+1,_,_,_,h=>⟨h.1,fun i hi=>wpOp_mono (fun a' w' h'=>⟨fun hz=>hSS _ (h'.1 hz),wpAnyF_narrow hSS fuel _ a' w' h'.2⟩) (h.2 i hi)⟩
def schF (md:Region.Mode) (ops:Array Oper) (z:Nat):List Nat->Array Bool->Bool
 | [],listed=>(Region.ready md ops listed).isEmpty
 | i::r,listed=>(match ops[i]? with
  | some o=>if rdK o.op then (Region.free md ops listed i&&(Region.ready md ops listed).contains i&&(waitsB md ops z i && !(i==z)))||(Region.ready md ops listed==[i]) else Region.ready md ops listed==[i]&&(r.isEmpty==(i==z))
  | none=>false)&&schF md ops z r (listed.setIfInBounds i true)
def wpLw (P:Program) (ops:Array Oper) (Q:Exit->Act->World->Prop):List Oper->(World->Prop)->Act->World->Prop
 | [],_,a,w=>Q .normal a w
 | o::r,C,a,w=>if Region.wanted o (yielded ops a.tmps)=true then (if rdK o.op=true then o.quiet P a C (fun a'=>wpLw P ops Q r C a' w) else Oper.wp P o a w (fun a' w'=>∃ C':World->Prop,(r=[]\/((∀ W,C' W->C W)/\C' w'))/\wpLw P ops Q r C' a' w') Q) else wpLw P ops Q r C (a.put o.dst undef) w
section
variable {P:Program} {md:Region.Mode} {ops:Array Oper} {Q:Exit->Act->World->Prop} {z:Nat}
theorem wpAnyF_lw (hs:Region.noSelect ops=true) (hQ:∀ c (a:Act) d v w,Q (.panic c) (a.put d v) w->Q (.panic c) a w):∀ (sc:List Nat) (l:List Oper) (C:World->Prop) (listed:Array Bool) (a:Act) (w:World),sc.map (fun i=>ops[i]?)=l.map some->schF md ops z sc listed=true->C w->wpLw P ops Q l C a w->wpAnyF P md ops Q C z sc.length listed a w
 | [],[],_,listed,a,w,_,hv,_,h=>wpAnyF_done (by simpa[schF] using hv) h _
 | [],_::_,_,_,_,_,e,_,_,_=>by cases e
 | _::_,[],_,_,_,_,e,_,_,_=>by cases e
 | i::r,o::l,C,listed,a,w,e,hv,hC,h=>by
  simp only[List.map_cons,List.cons.injEq] at e
  obtain⟨ho,e⟩:=e
  unfold schF at hv
  rw[Bool.and_eq_true,ho] at hv
  obtain⟨h1,h2⟩:=hv
  dsimp only at h1
  unfold wpLw at h
  rw[List.length_cons]
  by_cases hr:rdK o.op=true
  ·rw[if_pos hr,Bool.or_eq_true] at h1
   have key:∀ v,YieldsIf P ops C o v a->wpAnyF P md ops Q C z r.length (listed.setIfInBounds i true) (a.put o.dst v) w->wpAnyF P md ops Q C z (r.length+1) listed a w:=fun v hy hn=>by
    rcases h1 with h1|h1
    ·rw[Bool.and_eq_true,Bool.and_eq_true] at h1
     exact wpAnyF_take ho hs h1.1.1 h1.1.2 h1.2 (fun c a w=>hQ c a o.dst v w) hy hC hn
    ·rw[beq_iff_eq] at h1
     refine⟨fun h0=>absurd (h1▸h0) (by simp),fun j hj=>?_⟩
     rw[h1] at hj
     rw[List.mem_singleton.1 hj]
     exact hy.wpOp ho hC ⟨fun _=>hC,hn⟩
   by_cases hw:Region.wanted o (yielded ops a.tmps)=true
   ·rw[if_pos hw,if_pos hr] at h
    obtain⟨v,hv,h⟩:=h
    exact key v (.inl ⟨hw,fun W hW=>rd_value hr (hv W hW)⟩) (wpAnyF_lw hs hQ r l C _ _ _ e h2 hC h)
   ·rw[if_neg hw] at h
    rw[Bool.not_eq_true] at hw
    exact key undef (.inr ⟨hw,rfl⟩) (wpAnyF_lw hs hQ r l C _ _ _ e h2 hC h)
  ·rw[if_neg hr,Bool.and_eq_true,beq_iff_eq,beq_iff_eq] at h1
   obtain⟨h1,hl⟩:=h1
   refine⟨fun h0=>absurd (h1▸h0) (by simp),fun j hj=>?_⟩
   rw[h1] at hj
   rw[List.mem_singleton.1 hj]
   unfold wpOp
   rw[ho]
   dsimp only
   by_cases hw:Region.wanted o (yielded ops a.tmps)=true
   ·rw[if_pos hw,if_neg hr] at h
    rw[if_pos hw]
    refine .inl (Oper.wp_mono (fun a' w' h'=>?_) h)
    obtain⟨C',hCC,h''⟩:=h'
    cases r with
    | nil =>
     have hz:i=z:=by simpa using hl.symm
     cases l with
     | nil=>exact⟨fun hne=>absurd hz hne,wpAnyF_done (by simpa[schF] using h2) h'' _⟩
     | cons o2 l2=>cases e
    | cons j2 r2 =>
     cases l with
     | nil=>cases e
     | cons o2 l2 =>
      rcases hCC with hn|⟨hCC,hc⟩
      ·cases hn
      ·exact⟨fun _=>hCC _ hc,wpAnyF_narrow hCC _ _ _ _ (wpAnyF_lw hs hQ (j2::r2) (o2::l2) C' _ _ _ e h2 hc h'')⟩
   ·rw[if_neg hw] at h
    rw[if_neg hw]
    exact⟨fun _=>hC,wpAnyF_lw hs hQ r l C _ _ _ e h2 hC h⟩
structure Lw (P:Program) (ops:Array Oper) (Q:Exit->Act->World->Prop) (C:World->Prop) (l:List Oper) (a:Act) (w:World):Prop where
 out:wpLw P ops Q l C a w
variable {d:Option Tmp} {op:Op} {ty:TypeId} {ps:String} {af:Array Edge} {gd:Option (Nat×Bool)} {r:List Oper} {a:Act} {w:World} {C:World->Prop}
theorem lw_skip (hw:Region.wanted ⟨d,op,ty,ps,af,gd⟩ (yielded ops a.tmps)=false) (h:Lw P ops Q C r (a.put d undef) w):Lw P ops Q C (⟨d,op,ty,ps,af,gd⟩::r) a w:=by
 refine⟨?_⟩
 unfold wpLw
 rw[if_neg (by rw[hw];decide)]
 exact h.out
theorem lw_read (hw:Region.wanted ⟨d,op,ty,ps,af,gd⟩ (yielded ops a.tmps)=true) (hr:rdK op=true) (h:∀ K:Act->Prop,(∀ a',Lw P ops Q C r a' w->K a')->Oper.quiet P ⟨d,op,ty,ps,af,gd⟩ a C K):Lw P ops Q C (⟨d,op,ty,ps,af,gd⟩::r) a w:=by
 refine⟨?_⟩
 unfold wpLw
 rw[if_pos hw,if_pos hr]
 exact h _ fun _ h=>h.out
theorem lw_act (hw:Region.wanted ⟨d,op,ty,ps,af,gd⟩ (yielded ops a.tmps)=true) (hr:rdK op=false) (h:∀ K:Act->World->Prop,(∀ a' w' (C':World->Prop),(r=[]\/((∀ W,C' W->C W)/\C' w'))->Lw P ops Q C' r a' w'->K a' w')->Oper.wp P ⟨d,op,ty,ps,af,gd⟩ a w K Q):Lw P ops Q C (⟨d,op,ty,ps,af,gd⟩::r) a w:=by
 refine⟨?_⟩
 unfold wpLw
 rw[if_pos hw,if_neg (by rw[hr];decide)]
 exact h _ fun _ _ C' h0 h2=>⟨C',h0,h2.out⟩
theorem lw_one (hr:rdK op=true) (h:wpQuiet P ops C (fun a'=>Lw P ops Q C r a' w) [⟨d,op,ty,ps,af,gd⟩] a):Lw P ops Q C (⟨d,op,ty,ps,af,gd⟩::r) a w:=by
 unfold wpQuiet at h
 by_cases hw:Region.wanted ⟨d,op,ty,ps,af,gd⟩ (yielded ops a.tmps)=true
 ·rw[if_pos hw] at h
  refine lw_read hw hr fun K hK=>?_
  exact Oper.quiet_mono (fun a' h'=>hK a' h') h
 ·rw[if_neg hw] at h
  exact lw_skip (by simpa using hw) h
theorem lw_done (h:Q .normal a w):Lw P ops Q C [] a w:=⟨h⟩
theorem lw_st {t:TypeId} {x y:Operand} {p v:Value} {w':World} (hr:(Instr.storeAt t p v).run P w = .ok () w') (hx:a.eval x=p) (hy:a.eval y=v) (hw:Region.wanted ⟨d,.store t x y,ty,ps,af,gd⟩ (yielded ops a.tmps)=true) (h:Q .normal (a.put d undef) w'):Lw P ops Q C [⟨d,.store t x y,ty,ps,af,gd⟩] a w :=
 lw_act hw rfl fun K hK=>by
  unfold Oper.wp execOp
  simp only[hx,hy,hr,Sem.run_bind,Result.andThen_ok]
  exact hK _ _ C (.inl rfl) (lw_done h)
end
theorem wp_region_lw {P:Program} {Q:Exit->Act->World->Prop} {id:Nat} {a:Act} {w:World} {l:List Oper} (z:Nat) (C:World->Prop) (hm:P.follows .mixedOrders=true) (hv:(Region.noSelect l.toArray&&schF .any l.toArray z (List.range l.length) (Array.replicate l.length false))=true)
  (hQ:∀ c (a:Act) d v w,Q (.panic c) (a.put d v) w->Q (.panic c) a w) (hp:C w.drew) (h:Lw P l.toArray Q C l a w.drew):(Code.region id l.toArray true).wp P Q a w:=by
 rw[Bool.and_eq_true] at hv
 refine wp_region_F z C hm hp fun _=>?_
 have:=wpAnyF_lw (z:=z) hv.1 hQ _ _ C _ a w.drew (range_map l) hv.2 hp h.out
 rw[List.length_range] at this
 simpa using this
section
variable {P:Program} {md:Region.Mode} {ops:Array Oper} {Q:Exit->Act->World->Prop} {z:Nat}
variable {d:Option Tmp} {op:Op} {ty:TypeId} {ps:String} {af:Array Edge} {gd:Option (Nat×Bool)} {r:List Oper} {a:Act} {w:World} {C:World->Prop} {l1 l2:List Oper}
end
section
variable {P:Program} {ops:Array Oper} {Q:Exit->Act->World->Prop} {C:World->Prop} {d:Option Tmp} {ty:TypeId} {ps:String} {af:Array Edge} {gd:Option (Nat×Bool)} {r:List Oper} {a:Act} {w:World}
end
end Go.Proofs.YtekpgklllfobfaaGreatDoor
