import Derived.Test.YtjlbcdnkglaheaaGreatDoorK30
namespace Go.Proofs.YtjlbcdnkglaheaaGreatDoor
set_option maxRecDepth 1000000
set_option maxHeartbeats 16000000
open Go.ChangeShapes Go.WideShapes Go.ChangeAt Go.RowKit Go.Shelf Go.Maps
structure Lk (f:Fm) (S0 S1 pm:Nat) (i:Nat) (t:Tk) (nm:ByteArray) (g m b:Nat) (k:Nat) (u:Tk) (v:Value) (W:World):Prop where
 ht:f.toks[i]?=some t
 hu:f.toks[k]?=some u
 hk:k∈kidsZ f.toks i
 nm':u.name=nm
 lt:g<S1/\m<S1/\b<S1/\S1<=W.heap.size
 gb:W.heap[g]?=some (.cells #[.int .i64 t.blk,.int .i64 t.full,.map (some m)] 70)
 pb:W.heap[b]?=some (.cells (ptCs (ptT u) v (ptL f.toks k u)).toArray 89)
 rw':W.ownsRow S0 144 3 v (ptL f.toks k u).length (lfCs (ptL f.toks k u))
 vb:∀ r,v.ownBlock=some r->r<S1
 l1:(Instr.lookup 56 (.map (some pm)) (.int .i64 (i:Int)) false).run Tryz.prog W = .ok (pV g) W
 l2:(Instr.lookup 68 (.map (some m)) (.string nm) false).run Tryz.prog W = .ok (pV b) W
theorem Ev.find {f:Fm} {S0 S1 pa pm:Nat} {W:World} (h:Ev f S0 S1 pa pm W) (hl:f.toks.length<=733007751850) {i:Nat} {t:Tk} (ht:f.toks[i]?=some t) (ho:t.op=0\/t.op=4) {nm:ByteArray} (hn:nm.size<=maxLen) (hk:∃ q∈kidsZ f.toks i,nmAt f.toks q=nm) :
  ∃ g m b k u v,∀ V,W.heap.size<=V.heap.size->(∀ x,S0<=x->x<S1->V.heap[x]?=W.heap[x]?)->Lk f S0 S1 pm i t nm g m b k u v V:=by
 obtain⟨h1,h2,j,hs,h3,h4,h5⟩:=h.pl
 have hil:=(List.getElem?_eq_some_iff.1 ht).1
 obtain⟨g,e1,e2⟩:=h5 i t hil ht ho
 obtain⟨b1,b2,m,j2,hs2,b3,b4,b5,b6,b7,b8⟩:=e2
 obtain⟨q,hq,hqn⟩:=hk
 have e3:=b7 q hq
 rw[hqn] at e3
 obtain⟨b,e4⟩:=Option.isSome_iff_exists.1 e3
 obtain⟨k,hk,u,e5,e6,e7⟩:=b8 nm b e4
 obtain⟨c1,c2,v,c3,c4,c5⟩:=e7
 refine⟨g,m,b,k,u,v,fun V hsz hb=>⟨ht,e5,hk,e6,⟨b2,b5,c2,Nat.le_trans h.le hsz⟩,(hb g b1 b2).trans b3,(hb b c1 c2).trans c3,own_keepP c4 (fun r hr=>hb r (c4.lt r hr).1 (c5 r hr)),c5,?_,?_⟩⟩
 ·have:=(h4.same (hb pm h1 h2)).look lawI Tryz.underlying56 (zeroEb V) (keyI i (by omega))
  rw[e1] at this
  exact this
 ·have:=(b6.same (hb m b4 b5)).look lawS Tryz.underlying68 (zeroEp V) (keyS nm hn)
  rw[e4] at this
  exact this
structure En (f:Fm) (n:Pn) (S0 S1 pa pm e ma cu:Nat) (s:Ms) (U:Nat->Prop) (g len cap st en:Nat) (hi:Bool) (fb:Nat->Int) (wt bl:Int) (W:World):Prop where
 ev:Ev f S0 S1 pa pm W
 eo:W.heap[e]?=some (enO f n pa pm e ma cu true wt bl)
 mc:∃ lo hi',Mk f lo hi' W ma s U/\S0<=lo/\hi'<=S1
 cs:C.Cs W cu 0 g len cap st en hi fb
 up:∀ k,U k->S1<=k/\k≠e/\k≠cu/\k≠g
 ne:S1<=e/\S1<=cu/\S1<=g/\e≠cu/\e≠g
 kt:KT W
 kp:0<S1
theorem En.size {f:Fm} {n:Pn} {S0 S1 pa pm e ma cu:Nat} {s:Ms} {U:Nat->Prop} {g len cap st en:Nat} {hi:Bool} {fb:Nat->Int} {wt bl:Int} {W:World} (h:En f n S0 S1 pa pm e ma cu s U g len cap st en hi fb wt bl W):S1<=W.heap.size:=h.ev.le
theorem En.below {f:Fm} {n:Pn} {S0 S1 pa pm e ma cu:Nat} {s:Ms} {U:Nat->Prop} {g len cap st en:Nat} {hi:Bool} {fb:Nat->Int} {wt bl:Int} {W W':World} (h:En f n S0 S1 pa pm e ma cu s U g len cap st en hi fb wt bl W) (hb:Below W.heap.size W W'):En f n S0 S1 pa pm e ma cu s U g len cap st en hi fb wt bl W':=by
 obtain⟨lo,hi',h1,h2,h3⟩:=h.mc
 exact⟨h.ev.below (hb.mono h.size),(hb.block _ (Array.getElem?_eq_some_iff.1 h.eo).1).trans h.eo,⟨lo,hi',h1.below hb,h2,h3⟩,h.cs.below hb,h.up,h.ne,h.kt.below h.kt.pos hb,h.kp⟩
def Wr (e cu g:Nat) (U:Nat->Prop):Nat->Prop:=fun k=>k=e\/k=cu\/k=g\/U k
theorem frm_cb {cu g:Nat} {V:Nat->Prop} {w w':World} (h:C.Cb cu 0 g w w') (h1:V cu) (h2:V g):Frm V w w':=⟨h.os,h.tape,h.output,h.size,fun k hk hn=>h.block k hk (fun e=>hn (e▸h1)) (fun e=>hn (e▸h2))⟩
theorem Frm.trans {V:Nat->Prop} {a b d:World} (h:Frm V a b) (k:Frm V b d):Frm V a d:=⟨k.os.trans h.os,k.tape.trans h.tape,k.output.trans h.output,Nat.le_trans h.size k.size,fun x hx hn=>(k.block x (Nat.lt_of_lt_of_le hx h.size) hn).trans (h.block x hx hn)⟩
theorem En.cur {f:Fm} {n:Pn} {S0 S1 pa pm e ma cu:Nat} {s:Ms} {U:Nat->Prop} {g len cap st en en':Nat} {hi:Bool} {fb fb':Nat->Int} {wt bl:Int} {W W':World} (h:En f n S0 S1 pa pm e ma cu s U g len cap st en hi fb wt bl W) (hb:C.Cb cu 0 g W W') (hc:C.Cs W' cu 0 g len cap st en' hi fb'):En f n S0 S1 pa pm e ma cu s U g len cap st en' hi fb' wt bl W':=by
 obtain⟨lo,hi',h1,h2,h3⟩:=h.mc
 have hs:=h.size
 obtain⟨n1,n2,n3,n4,n5⟩:=h.ne
 have hh:=h1.hi_lt
 have he:=(Array.getElem?_eq_some_iff.1 h.eo).1
 exact⟨h.ev.same hb.size fun k _ hk=>hb.block k (by omega) (by omega) (by omega),(hb.block e he n4 n5).trans h.eo,⟨lo,hi',h1.same hb.size (fun k hk=>hb.block k (h1.lt k hk) (h.up k hk).2.2.1 (h.up k hk).2.2.2) (fun k e1 e2=>hb.block k (by omega) (by omega) (by omega)),h2,h3⟩,hc,h.up,h.ne,hb.kt h.kt (by have:=h.kp;omega) (by have:=h.kp;omega),h.kp⟩
theorem En.setW {f:Fm} {n:Pn} {S0 S1 pa pm e ma cu:Nat} {s:Ms} {U:Nat->Prop} {g len cap st en:Nat} {hi:Bool} {fb:Nat->Int} {wt bl:Int} {W:World} (h:En f n S0 S1 pa pm e ma cu s U g len cap st en hi fb wt bl W) (wt':Int):En f n S0 S1 pa pm e ma cu s U g len cap st en hi fb wt' bl (W.setCell ⟨e,23,none⟩ (.int .i64 wt')):=by
 obtain⟨lo,hi',h1,h2,h3⟩:=h.mc
 have hs:=h.size
 obtain⟨n1,n2,n3,n4,n5⟩:=h.ne
 have hh:=h1.hi_lt
 have hz:(W.setCell ⟨e,23,none⟩ (.int .i64 wt')).heap.size=W.heap.size:=by simp
 have hb:Below e W (W.setCell ⟨e,23,none⟩ (.int .i64 wt')):=(Below.refl _ _).setCell (p:=⟨e,23,none⟩) (Nat.le_refl _) _
 refine⟨h.ev.same (by omega) fun k _ hk=>eset_off (by omega),(eset_at h.eo _).trans rfl,⟨lo,hi',h1.same (by omega) (fun k hk=>eset_off (h.up k hk).2.1) (fun k e1 e2=>eset_off (by omega)),h2,h3⟩,?_,h.up,h.ne,h.kt.below (B:=e) (by have:=h.kp;omega) hb,h.kp⟩
 exact h.cs.other (c2:=e) (o2:=21) (g2:=e) ⟨rfl,rfl,rfl,by omega,fun k _ hk _=>eset_off hk,fun i hi'=>World.cell?_setCell_other _ _ _ _ (fun e'=>hi' (by simpa using congrArg Addr.off e'.symm)),fun i=>World.frozen?_setCell _ _ _ _⟩ (Ne.symm n4) (Ne.symm n4) (Ne.symm n5) (Ne.symm n5)
theorem En.setB {f:Fm} {n:Pn} {S0 S1 pa pm e ma cu:Nat} {s:Ms} {U:Nat->Prop} {g len cap st en:Nat} {hi:Bool} {fb:Nat->Int} {wt bl:Int} {W:World} (h:En f n S0 S1 pa pm e ma cu s U g len cap st en hi fb wt bl W) (bl':Int):En f n S0 S1 pa pm e ma cu s U g len cap st en hi fb wt bl' (W.setCell ⟨e,24,none⟩ (.int .i64 bl')):=by
 obtain⟨lo,hi',h1,h2,h3⟩:=h.mc
 have hs:=h.size
 obtain⟨n1,n2,n3,n4,n5⟩:=h.ne
 have hh:=h1.hi_lt
 have hz:(W.setCell ⟨e,24,none⟩ (.int .i64 bl')).heap.size=W.heap.size:=by simp
 have hb:Below e W (W.setCell ⟨e,24,none⟩ (.int .i64 bl')):=(Below.refl _ _).setCell (p:=⟨e,24,none⟩) (Nat.le_refl _) _
 refine⟨h.ev.same (by omega) fun k _ hk=>eset_off (by omega),(eset_at h.eo _).trans rfl,⟨lo,hi',h1.same (by omega) (fun k hk=>eset_off (h.up k hk).2.1) (fun k e1 e2=>eset_off (by omega)),h2,h3⟩,?_,h.up,h.ne,h.kt.below (B:=e) (by have:=h.kp;omega) hb,h.kp⟩
 exact h.cs.other (c2:=e) (o2:=22) (g2:=e) ⟨rfl,rfl,rfl,by omega,fun k _ hk _=>eset_off hk,fun i hi'=>World.cell?_setCell_other _ _ _ _ (fun e'=>hi' (by simpa using congrArg Addr.off e'.symm)),fun i=>World.frozen?_setCell _ _ _ _⟩ (Ne.symm n4) (Ne.symm n4) (Ne.symm n5) (Ne.symm n5)
def rdL (o:Op):Bool:=rdK o||(match o with
 | .lookup _ _ _ _=>true
 | _=>false)
section
variable {P:Program} {C:World->Prop}
theorem rdL_value {o:Oper} {a:Act} {W:World} {v:Value} (hr:rdL o.op=true) (h:o.quietAt P a C W v):(execOp a.eval o).run P W = .ok (.value v) W:=by
 unfold rdL at hr
 rw[Bool.or_eq_true] at hr
 rcases hr with hr|hr
 ·exact rd_value hr h
 ·obtain⟨d,op,ty,ps,af,gd⟩:=o
  have hv:ValOnly (execOp a.eval ⟨d,op,ty,ps,af,gd⟩):=by
   cases op
   case lookup=>exact valOnly_v _
   all_goals exact Bool.noConfusion (show false=true from hr)
  have hv:=hv P W
  unfold Oper.quietAt at h
  cases hs:(execOp a.eval ⟨d,op,ty,ps,af,gd⟩).run P W with
  | ok n w' =>
   obtain⟨u,rfl⟩:=hv w' n hs
   rw[hs] at h
   obtain⟨rfl,rfl⟩:=h
   rfl
  | halt x w'=>rw[hs] at h;exact h.elim
end
def schFk (md:Region.Mode) (ops:Array Oper) (z:Nat):List Nat->Array Bool->Bool
 | [],listed=>(Region.ready md ops listed).isEmpty
 | i::r,listed=>(match ops[i]? with
  | some o=>if rdL o.op then (Region.free md ops listed i&&(Region.ready md ops listed).contains i&&(waitsB md ops z i && !(i==z)))||(Region.ready md ops listed==[i]) else Region.ready md ops listed==[i]&&(r.isEmpty==(i==z))
  | none=>false)&&schFk md ops z r (listed.setIfInBounds i true)
def wpLwk (P:Program) (ops:Array Oper) (Q:Exit->Act->World->Prop):List Oper->(World->Prop)->Act->World->Prop
 | [],_,a,w=>Q .normal a w
 | o::r,C,a,w=>if Region.wanted o (yielded ops a.tmps)=true then (if rdL o.op=true then o.quiet P a C (fun a'=>wpLwk P ops Q r C a' w) else Oper.wp P o a w (fun a' w'=>∃ C':World->Prop,(r=[]\/((∀ W,C' W->C W)/\C' w'))/\wpLwk P ops Q r C' a' w') Q) else wpLwk P ops Q r C (a.put o.dst undef) w
section
variable {P:Program} {md:Region.Mode} {ops:Array Oper} {Q:Exit->Act->World->Prop} {z:Nat}
theorem wpAnyF_lwk (hs:Region.noSelect ops=true) (hQ:∀ c (a:Act) d v w,Q (.panic c) (a.put d v) w->Q (.panic c) a w):∀ (sc:List Nat) (l:List Oper) (C:World->Prop) (listed:Array Bool) (a:Act) (w:World),sc.map (fun i=>ops[i]?)=l.map some->schFk md ops z sc listed=true->C w->wpLwk P ops Q l C a w->wpAnyF P md ops Q C z sc.length listed a w
 | [],[],_,listed,a,w,_,hv,_,h=>wpAnyF_done (by simpa[schFk] using hv) h _
 | [],_::_,_,_,_,_,e,_,_,_=>by cases e
 | _::_,[],_,_,_,_,e,_,_,_=>by cases e
 | i::r,o::l,C,listed,a,w,e,hv,hC,h=>by
  simp only[List.map_cons,List.cons.injEq] at e
  obtain⟨ho,e⟩:=e
  unfold schFk at hv
  rw[Bool.and_eq_true,ho] at hv
  obtain⟨h1,h2⟩:=hv
  dsimp only at h1
  unfold wpLwk at h
  rw[List.length_cons]
  by_cases hr:rdL o.op=true
  ·rw[if_pos hr,Bool.or_eq_true] at h1
   have key:∀ v,YieldsIf P ops C o v a->wpAnyF P md ops Q C z r.length (listed.setIfInBounds i true) (a.put o.dst v) w->wpAnyF P md ops Q C z (r.length+1) listed a w:=fun v hy hn=>by
    rcases h1 with h1|h1
    ·rw[Bool.and_eq_true,Bool.and_eq_true] at h1
     exact wpAnyF_take ho hs h1.1.1 h1.1.2 h1.2 (fun c a w=>hQ c a o.dst v w) hy hC hn
    ·rw[beq_iff_eq] at h1
     refine⟨fun h0=>absurd (h1▸h0) (by simp),fun j hj=>?_⟩
     rw[h1] at hj
     rw[List.mem_singleton.1 hj]
     exact hy.wpOp ho hC ⟨fun _=>hC,hn⟩
   by_cases hw:Region.wanted o (yielded ops a.tmps)=true
   ·rw[if_pos hw,if_pos hr] at h
    obtain⟨v,hv,h⟩:=h
    exact key v (.inl ⟨hw,fun W hW=>rdL_value hr (hv W hW)⟩) (wpAnyF_lwk hs hQ r l C _ _ _ e h2 hC h)
   ·rw[if_neg hw] at h
    rw[Bool.not_eq_true] at hw
    exact key undef (.inr ⟨hw,rfl⟩) (wpAnyF_lwk hs hQ r l C _ _ _ e h2 hC h)
  ·rw[if_neg hr,Bool.and_eq_true,beq_iff_eq,beq_iff_eq] at h1
   obtain⟨h1,hl⟩:=h1
   refine⟨fun h0=>absurd (h1▸h0) (by simp),fun j hj=>?_⟩
   rw[h1] at hj
   rw[List.mem_singleton.1 hj]
   unfold wpOp
   rw[ho]
   dsimp only
   by_cases hw:Region.wanted o (yielded ops a.tmps)=true
   ·rw[if_pos hw,if_neg hr] at h
    rw[if_pos hw]
    refine .inl (Oper.wp_mono (fun a' w' h'=>?_) h)
    obtain⟨C',hCC,h''⟩:=h'
    cases r with
    | nil =>
     have hz:i=z:=by simpa using hl.symm
     cases l with
     | nil=>exact⟨fun hne=>absurd hz hne,wpAnyF_done (by simpa[schFk] using h2) h'' _⟩
     | cons o2 l2=>cases e
    | cons j2 r2 =>
     cases l with
     | nil=>cases e
     | cons o2 l2 =>
      rcases hCC with hn|⟨hCC,hc⟩
      ·cases hn
      ·exact⟨fun _=>hCC _ hc,wpAnyF_narrow hCC _ _ _ _ (wpAnyF_lwk hs hQ (j2::r2) (o2::l2) C' _ _ _ e h2 hc h'')⟩
   ·rw[if_neg hw] at h
    rw[if_neg hw]
    exact⟨fun _=>hC,wpAnyF_lwk hs hQ r l C _ _ _ e h2 hC h⟩
structure Lwk (P:Program) (ops:Array Oper) (Q:Exit->Act->World->Prop) (C:World->Prop) (l:List Oper) (a:Act) (w:World):Prop where
 out:wpLwk P ops Q l C a w
variable {d:Option Tmp} {op:Op} {ty:TypeId} {ps:String} {af:Array Edge} {gd:Option (Nat×Bool)} {r:List Oper} {a:Act} {w:World} {C:World->Prop}
theorem lwk_skip (hw:Region.wanted ⟨d,op,ty,ps,af,gd⟩ (yielded ops a.tmps)=false) (h:Lwk P ops Q C r (a.put d undef) w):Lwk P ops Q C (⟨d,op,ty,ps,af,gd⟩::r) a w:=by
 refine⟨?_⟩
 unfold wpLwk
 rw[if_neg (by rw[hw];decide)]
 exact h.out
theorem lwk_read (hw:Region.wanted ⟨d,op,ty,ps,af,gd⟩ (yielded ops a.tmps)=true) (hr:rdL op=true) (h:∀ K:Act->Prop,(∀ a',Lwk P ops Q C r a' w->K a')->Oper.quiet P ⟨d,op,ty,ps,af,gd⟩ a C K):Lwk P ops Q C (⟨d,op,ty,ps,af,gd⟩::r) a w:=by
 refine⟨?_⟩
 unfold wpLwk
 rw[if_pos hw,if_pos hr]
 exact h _ fun _ h=>h.out
theorem lwk_act (hw:Region.wanted ⟨d,op,ty,ps,af,gd⟩ (yielded ops a.tmps)=true) (hr:rdL op=false) (h:∀ K:Act->World->Prop,(∀ a' w' (C':World->Prop),(r=[]\/((∀ W,C' W->C W)/\C' w'))->Lwk P ops Q C' r a' w'->K a' w')->Oper.wp P ⟨d,op,ty,ps,af,gd⟩ a w K Q):Lwk P ops Q C (⟨d,op,ty,ps,af,gd⟩::r) a w:=by
 refine⟨?_⟩
 unfold wpLwk
 rw[if_pos hw,if_neg (by rw[hr];decide)]
 exact h _ fun _ _ C' h0 h2=>⟨C',h0,h2.out⟩
theorem lwk_one (hr:rdL op=true) (h:wpQuiet P ops C (fun a'=>Lwk P ops Q C r a' w) [⟨d,op,ty,ps,af,gd⟩] a):Lwk P ops Q C (⟨d,op,ty,ps,af,gd⟩::r) a w:=by
 unfold wpQuiet at h
 by_cases hw:Region.wanted ⟨d,op,ty,ps,af,gd⟩ (yielded ops a.tmps)=true
 ·rw[if_pos hw] at h
  refine lwk_read hw hr fun K hK=>?_
  exact Oper.quiet_mono (fun a' h'=>hK a' h') h
 ·rw[if_neg hw] at h
  exact lwk_skip (by simpa using hw) h
theorem lwk_done (h:Q .normal a w):Lwk P ops Q C [] a w:=⟨h⟩
theorem lwk_ld {t:TypeId} {x:Operand} {p v:Value} (hl:∀ W,C W->(Instr.loadAt t p).run P W = .ok v W) (hx:a.eval x=p) (hw:Region.wanted ⟨d,.load t x,ty,ps,af,gd⟩ (yielded ops a.tmps)=true) (h:Lwk P ops Q C r (a.put d v) w):Lwk P ops Q C (⟨d,.load t x,ty,ps,af,gd⟩::r) a w :=
 lwk_read hw rfl fun K hK=>⟨v,fun W hW=>by
  unfold Oper.quietAt execOp
  simp only[hx,hl W hW,Sem.run_bind,Result.andThen_ok,Sem.run_pure]
  exact⟨rfl,rfl⟩,hK _ h⟩
theorem lwk_st {t:TypeId} {x y:Operand} {p v:Value} {w':World} (hr:(Instr.storeAt t p v).run P w = .ok () w') (hx:a.eval x=p) (hy:a.eval y=v) (hw:Region.wanted ⟨d,.store t x y,ty,ps,af,gd⟩ (yielded ops a.tmps)=true) (h:Q .normal (a.put d undef) w'):Lwk P ops Q C [⟨d,.store t x y,ty,ps,af,gd⟩] a w :=
 lwk_act hw rfl fun K hK=>by
  unfold Oper.wp execOp
  simp only[hx,hy,hr,Sem.run_bind,Result.andThen_ok]
  exact hK _ _ C (.inl rfl) (lwk_done h)
theorem lwk_al {t:TypeId} {w':World} {v:Value} (hr:(Instr.alloc t true (Value.tuple #[])).run P w = .ok v w') (hC:C w') (hw:Region.wanted ⟨d,.alloc t,ty,ps,af,gd⟩ (yielded ops a.tmps)=true) (h:Lwk P ops Q C r (a.put d v) w'):Lwk P ops Q C (⟨d,.alloc t,ty,ps,af,gd⟩::r) a w :=
 lwk_act hw rfl fun K hK=>by
  unfold Oper.wp execOp
  simp only[hr,Sem.run_bind,Result.andThen_ok]
  exact hK _ _ C (.inr ⟨fun _ h=>h,hC⟩) h
end
def schVk (md:Region.Mode) (ops:Array Oper) (z:Nat) (i:Nat) (r1:List Nat) (j:Nat) (r2:List Nat):List Nat->Array Bool->Bool
 | [],listed=>(Region.ready md ops listed==[i,j])&&(match ops[i]? with|some o=>!rdL o.op|none=>false)&&(match ops[j]? with|some o=>!rdL o.op|none=>false) && !(i==z) && !(j==z) && !r1.isEmpty && !r2.isEmpty&&schFk md ops z r1 (listed.setIfInBounds i true)&&schFk md ops z r2 (listed.setIfInBounds j true)&&(r1.length==r2.length)
 | k::r,listed=>(match ops[k]? with
  | some o=>rdL o.op&&(Region.free md ops listed k&&(Region.ready md ops listed).contains k&&(waitsB md ops z k && !(k==z)))
  | none=>false)&&schVk md ops z i r1 j r2 r (listed.setIfInBounds k true)
def wpLvk (P:Program) (ops:Array Oper) (Q:Exit->Act->World->Prop) (l1 l2:List Oper):List Oper->(World->Prop)->Act->World->Prop
 | [],C,a,w=>wpLwk P ops Q l1 C a w/\wpLwk P ops Q l2 C a w
 | o::r,C,a,w=>if Region.wanted o (yielded ops a.tmps)=true then o.quiet P a C (fun a'=>wpLvk P ops Q l1 l2 r C a' w) else wpLvk P ops Q l1 l2 r C (a.put o.dst undef) w
section
variable {P:Program} {md:Region.Mode} {ops:Array Oper} {Q:Exit->Act->World->Prop} {z:Nat}
theorem headActk (hs:Region.noSelect ops=true) (hQ:∀ c (a:Act) d v w,Q (.panic c) (a.put d v) w->Q (.panic c) a w) {i:Nat} {r:List Nat} {o:Oper} {l:List Oper} {C:World->Prop} {listed:Array Bool} {a:Act} {w:World} (ho:ops[i]?=some o) (hr:rdL o.op=false) (he:r.map (fun i=>ops[i]?)=l.map some) (hne:r≠[]) (hv:schFk md ops z r (listed.setIfInBounds i true)=true) (hC:C w) (h:wpLwk P ops Q (o::l) C a w) :
  wpOp P ops Q i (fun a' w'=>(i≠z->C w')/\wpAnyF P md ops Q C z r.length (listed.setIfInBounds i true) a' w') a w:=by
 unfold wpLwk at h
 unfold wpOp
 rw[ho]
 dsimp only
 by_cases hw:Region.wanted o (yielded ops a.tmps)=true
 ·rw[if_pos hw,if_neg (by rw[hr];decide)] at h
  rw[if_pos hw]
  refine .inl (Oper.wp_mono (fun a' w' h'=>?_) h)
  obtain⟨C',hCC,h''⟩:=h'
  rcases hCC with hn|⟨hCC,hc⟩
  ·rw[hn] at he
   cases r with
   | nil=>exact absurd rfl hne
   | cons _ _=>cases he
  ·exact⟨fun _=>hCC _ hc,wpAnyF_narrow hCC _ _ _ _ (wpAnyF_lwk hs hQ r l C' _ _ _ he hv hc h'')⟩
 ·rw[if_neg hw] at h
  rw[if_neg hw]
  exact⟨fun _=>hC,wpAnyF_lwk hs hQ r l C _ _ _ he hv hC h⟩
theorem wpAnyF_lvk (hs:Region.noSelect ops=true) (hQ:∀ c (a:Act) d v w,Q (.panic c) (a.put d v) w->Q (.panic c) a w) {i j:Nat} {r1 r2:List Nat} {l1 l2:List Oper} (he1:(i::r1).map (fun i=>ops[i]?)=l1.map some) (he2:(j::r2).map (fun i=>ops[i]?)=l2.map some):∀ (sc:List Nat) (l:List Oper) (C:World->Prop) (listed:Array Bool) (a:Act) (w:World),sc.map (fun i=>ops[i]?)=l.map some->schVk md ops z i r1 j r2 sc listed=true->C w->wpLvk P ops Q l1 l2 l C a w->wpAnyF P md ops Q C z (sc.length+(r1.length+1)) listed a w
 | [],[],C,listed,a,w,_,hv,hC,h=>by
  unfold schVk at hv
  simp only[Bool.and_eq_true,beq_iff_eq,Bool.not_eq_true',List.isEmpty_eq_false_iff] at hv
  obtain⟨⟨⟨⟨⟨⟨⟨⟨⟨h1,h2⟩,h3⟩,h4⟩,h5⟩,h6⟩,h7⟩,h8⟩,h9⟩,h10⟩:=hv
  unfold wpLvk at h
  rw[List.length_nil,Nat.zero_add]
  cases l1 with
  | nil=>cases he1
  | cons o1 t1 =>
   cases l2 with
   | nil=>cases he2
   | cons o2 t2 =>
    simp only[List.map_cons,List.cons.injEq] at he1 he2
    rw[he1.1] at h2
    rw[he2.1] at h3
    refine⟨fun h0=>(by rw[h1] at h0;cases h0),fun k hk=>?_⟩
    rw[h1] at hk
    simp only[List.mem_cons,List.not_mem_nil,or_false] at hk
    rcases hk with rfl|rfl
    ·exact headActk hs hQ he1.1 (by simpa using h2) he1.2 h6 h8 hC h.1
    ·rw[h10]
     exact headActk hs hQ he2.1 (by simpa using h3) he2.2 h7 h9 hC h.2
 | [],_::_,_,_,_,_,e,_,_,_=>by cases e
 | _::_,[],_,_,_,_,e,_,_,_=>by cases e
 | k::r,o::l,C,listed,a,w,e,hv,hC,h=>by
  simp only[List.map_cons,List.cons.injEq] at e
  obtain⟨ho,e⟩:=e
  unfold schVk at hv
  rw[Bool.and_eq_true,ho] at hv
  obtain⟨h1,h2⟩:=hv
  dsimp only at h1
  rw[Bool.and_eq_true,Bool.and_eq_true,Bool.and_eq_true] at h1
  obtain⟨hr,⟨hf,hc⟩,hwt⟩:=h1
  unfold wpLvk at h
  rw[List.length_cons,Nat.add_right_comm]
  by_cases hw:Region.wanted o (yielded ops a.tmps)=true
  ·rw[if_pos hw] at h
   obtain⟨v,hv,h⟩:=h
   exact wpAnyF_take ho hs hf hc hwt (fun c a w=>hQ c a o.dst v w) (.inl ⟨hw,fun W hW=>rdL_value hr (hv W hW)⟩) hC (wpAnyF_lvk hs hQ he1 he2 r l C _ _ _ e h2 hC h)
  ·rw[if_neg hw] at h
   rw[Bool.not_eq_true] at hw
   exact wpAnyF_take ho hs hf hc hwt (fun c a w=>hQ c a o.dst undef w) (.inr ⟨hw,rfl⟩) hC (wpAnyF_lvk hs hQ he1 he2 r l C _ _ _ e h2 hC h)
structure Lv2k (P:Program) (ops:Array Oper) (Q:Exit->Act->World->Prop) (l1 l2:List Oper) (C:World->Prop) (l:List Oper) (a:Act) (w:World):Prop where
 out:wpLvk P ops Q l1 l2 l C a w
variable {d:Option Tmp} {op:Op} {ty:TypeId} {ps:String} {af:Array Edge} {gd:Option (Nat×Bool)} {r:List Oper} {a:Act} {w:World} {C:World->Prop} {l1 l2:List Oper}
theorem lvk_read (hw:Region.wanted ⟨d,op,ty,ps,af,gd⟩ (yielded ops a.tmps)=true) (h:∀ K:Act->Prop,(∀ a',Lv2k P ops Q l1 l2 C r a' w->K a')->Oper.quiet P ⟨d,op,ty,ps,af,gd⟩ a C K):Lv2k P ops Q l1 l2 C (⟨d,op,ty,ps,af,gd⟩::r) a w:=by
 refine⟨?_⟩
 unfold wpLvk
 rw[if_pos hw]
 exact h _ fun _ h=>h.out
theorem lvk_one (h:wpQuiet P ops C (fun a'=>Lv2k P ops Q l1 l2 C r a' w) [⟨d,op,ty,ps,af,gd⟩] a):Lv2k P ops Q l1 l2 C (⟨d,op,ty,ps,af,gd⟩::r) a w:=by
 unfold wpQuiet at h
 by_cases hw:Region.wanted ⟨d,op,ty,ps,af,gd⟩ (yielded ops a.tmps)=true
 ·rw[if_pos hw] at h
  refine lvk_read hw fun K hK=>?_
  exact Oper.quiet_mono (fun a' h'=>hK a' h') h
 ·rw[if_neg hw] at h
  refine⟨?_⟩
  unfold wpLvk
  rw[if_neg hw]
  exact h.out
theorem lvk_both (h1:Lwk P ops Q C l1 a w) (h2:Lwk P ops Q C l2 a w):Lv2k P ops Q l1 l2 C [] a w:=⟨⟨h1.out,h2.out⟩⟩
end
theorem wp_region_lvk {P:Program} {Q:Exit->Act->World->Prop} {id:Nat} {a:Act} {w:World} {l:List Oper} (z:Nat) (C:World->Prop) (sc:List Nat) (i:Nat) (r1:List Nat) (j:Nat) (r2:List Nat) (hm:P.follows .mixedOrders=true)
  (hv:(Region.noSelect l.toArray&&schVk .any l.toArray z i r1 j r2 sc (Array.replicate l.length false)&&(sc.length+(r1.length+1)==l.length)&&(sc++i::r1++j::r2).all (fun i=>decide (i<l.length)))=true)
  (hQ:∀ c (a:Act) d v w,Q (.panic c) (a.put d v) w->Q (.panic c) a w) (hp:C w.drew) (h:Lv2k P l.toArray Q ((i::r1).filterMap fun i=>l[i]?) ((j::r2).filterMap fun i=>l[i]?) C (sc.filterMap fun i=>l[i]?) a w.drew):(Code.region id l.toArray true).wp P Q a w:=by
 rw[Bool.and_eq_true,Bool.and_eq_true,Bool.and_eq_true,beq_iff_eq] at hv
 have ha:=hv.2
 rw[List.all_append,List.all_append,Bool.and_eq_true,Bool.and_eq_true] at ha
 refine wp_region_F z C hm hp fun _=>?_
 have:=wpAnyF_lvk (z:=z) hv.1.1.1 hQ (pick_map l (i::r1) ha.1.2) (pick_map l (j::r2) ha.2) _ _ C _ a w.drew (pick_map l sc ha.1.1) hv.1.1.2 hp h.out
 rw[hv.1.2] at this
 simpa using this
section
variable {P:Program} {ops:Array Oper} {Q:Exit->Act->World->Prop} {C:World->Prop} {d:Option Tmp} {ty:TypeId} {ps:String} {af:Array Edge} {gd:Option (Nat×Bool)} {r:List Oper} {a:Act} {w:World}
theorem lwk_call1 {f:FuncId} {x1:Operand} {y1:Value} {tx:Array TypeId} {R:Value->World->Prop} (hen:∀ ag w,(callFunc f ag).run P w = .ok (.enter f ag) w) (hc:Calls P f #[y1] w fun e w'=>∃ v,e = .returned v/\R v w') (h1:a.eval x1=y1) (hw:Region.wanted ⟨d,.call { callee:=.value (.func f),args:=#[x1],argTypes:=tx },ty,ps,af,gd⟩ (yielded ops a.tmps)=true)
  (h:∀ v w',R v w'->C w'/\Lwk P ops Q C r (a.put d v) w'):Lwk P ops Q C (⟨d,.call { callee:=.value (.func f),args:=#[x1],argTypes:=tx },ty,ps,af,gd⟩::r) a w :=
 lwk_act hw rfl fun K hK=>by
  have hf:a.eval (.func f) = .func (.func f) #[] #[]:=rfl
  unfold Oper.wp execOp
  simp only[resolve,invoke,Sem.run_bind,hf]
  simp[Deferred.ofValue,hen,Oper.upon_enter,h1]
  refine hc.mono ?_
  rintro e w' ⟨v,rfl,hp⟩
  exact hK _ _ C (.inr ⟨fun _ h=>h,(h v w' hp).1⟩) (h v w' hp).2
end
section
variable {P:Program} {ops:Array Oper} {Q:Exit->Act->World->Prop} {C:World->Prop} {d:Option Tmp} {ty:TypeId} {ps:String} {af:Array Edge} {gd:Option (Nat×Bool)} {r:List Oper} {a:Act} {w:World} {l1 l2:List Oper}
theorem lwk_lk {t:TypeId} {m x:Operand} {mv p v:Value} {b:Bool} (hl:∀ W,C W->(Instr.lookup t mv p b).run P W = .ok v W) (hm:a.eval m=mv) (hx:a.eval x=p) (hw:Region.wanted ⟨d,.lookup t m x b,ty,ps,af,gd⟩ (yielded ops a.tmps)=true) (h:Lwk P ops Q C r (a.put d v) w):Lwk P ops Q C (⟨d,.lookup t m x b,ty,ps,af,gd⟩::r) a w :=
 lwk_read hw rfl fun K hK=>⟨v,fun W hW=>by
  unfold Oper.quietAt execOp
  simp only[hm,hx,hl W hW,Sem.run_bind,Result.andThen_ok,Sem.run_pure]
  exact⟨rfl,rfl⟩,hK _ h⟩
end
end Go.Proofs.YtjlbcdnkglaheaaGreatDoor
