import Derived.Test.YtjlbcdnkglaheaaGreatDoorK35
namespace Go.Proofs.YtjlbcdnkglaheaaGreatDoor
set_option maxRecDepth 1000000
set_option maxHeartbeats 16000000
open Go.ChangeShapes Go.WideShapes Go.ChangeAt Go.RowKit Go.Shelf Go.Maps
theorem doD_ok (E X Y:Addr) (u:FrameMode) (w:World) (h:w.cell? E=some (.int .i64 0)) :
  CallsD Tryz.prog 28 #[.pointer (some E),.pointer (some X),.pointer (some Y)] u w fun e u' w'=>u'=u/\(e = .returned (.tuple #[])/\w'=w):=by
 go_enter_d Tryz.func28,Tryz.ntmps28
 go_wp2_with fail
 go_end0
 exact⟨rfl,rfl⟩
theorem doD_err (E X Y:Addr) (e m0 m2:Nat) (er:Int) (u:FrameMode) (w:World) (h:w.cell? E=some (.int .i64 er)) (her:er≠0) (hx:w.cell? X=some (pV m2)) (hy:w.cell? Y=some (pV e)) (hm:w.cell? ⟨e,0,none⟩=some (pV m0)) (hf:w.frozen? ⟨e,0,none⟩=false) :
  CallsD Tryz.prog 28 #[.pointer (some E),.pointer (some X),.pointer (some Y)] u w fun r u' w'=>u'=u/\(r = .returned (.tuple #[])/\w'=w.setCell ⟨e,0,none⟩ (pV m2)):=by
 have hb1:(er==0)=false:=beq_eq_false_iff_ne.2 her
 have hb2:(er != 0)=true:=by rw[bne,hb1];rfl
 clear her
 go_enter_d Tryz.func28,Tryz.ntmps28
 go_wp2_with fail
 go_end0
 exact⟨rfl,rfl⟩
section
variable {P:Program} {ops:Array Oper} {Q:Exit->Act->World->Prop} {C:World->Prop} {d:Option Tmp} {ty:TypeId} {ps:String} {af:Array Edge} {gd:Option (Nat×Bool)} {r:List Oper} {a:Act} {w:World}
theorem lw_callB {f:FuncId} {x0 x1:Operand} {y0 y1:Value} {tx:Array TypeId} {R:Value->World->Prop} (h0:a.eval x0 = .func (.func f) #[y0] #[]) (hen:∀ ag w,(callFunc f ag).run P w = .ok (.enter f ag) w) (hc:Calls P f #[y0,y1] w fun e w'=>∃ v,e = .returned v/\R v w') (h1:a.eval x1=y1) (hw:Region.wanted ⟨d,.call { callee:=.value x0,args:=#[x1],argTypes:=tx },ty,ps,af,gd⟩ (yielded ops a.tmps)=true)
  (h:∀ v w',R v w'->C w'/\Lw P ops Q C r (a.put d v) w'):Lw P ops Q C (⟨d,.call { callee:=.value x0,args:=#[x1],argTypes:=tx },ty,ps,af,gd⟩::r) a w :=
 lw_act hw rfl fun K hK=>by
  unfold Oper.wp execOp
  simp only[resolve,invoke,Sem.run_bind,h0]
  simp[Deferred.ofValue,hen,Oper.upon_enter,h1]
  refine hc.mono ?_
  rintro e w' ⟨v,rfl,hp⟩
  exact hK _ _ C (.inr ⟨fun _ h=>h,(h v w' hp).1⟩) (h v w' hp).2
end
theorem Do_none {W:World} {e:Nat} (c:Cl) (h:W.cell? ⟨e,22,none⟩=some (.bool false)):Calls Tryz.prog 10 #[pV e,caV c] W fun r w'=>r = .returned (.int .i64 180)/\Below W.heap.size W w':=by
 have hB:Below W.heap.size W ((((W.alloc (.cells #[pV e] 34)).alloc (caO c)).alloc (.cells #[.int .i64 0] 35)).setCell ⟨W.heap.size+1+1,0,none⟩ (.int .i64 180)):=(((Below.refl _ _).alloc (Nat.le_refl _) _ |>.alloc (by simp) _).alloc (by simp;omega) _).setCell (p:=⟨W.heap.size+1+1,0,none⟩) (by show W.heap.size<=W.heap.size+1+1;omega) _
 have hB2:Below W.heap.size W (((W.alloc (.cells #[pV e] 34)).alloc (caO c)).alloc (.cells #[.int .i64 180] 35)):=((Below.refl _ _).alloc (Nat.le_refl _) _ |>.alloc (by simp) _).alloc (by simp;omega) _
 have hc:Hid ((((W.alloc (.cells #[pV e] 34)).alloc (caO c)).alloc (.cells #[.int .i64 180] 35)).heap[W.heap.size+1+1]?=some (.cells #[.int .i64 180] 35)):=⟨by have:=heap_al ((W.alloc (.cells #[pV e] 34)).alloc (caO c)) (.cells #[.int .i64 180] 35);simpa only [World.size_alloc] using this⟩
 replace hB2:=Hid.mk hB2
 clear hB
 have b1:Below W.heap.size W (((W.alloc (.cells #[pV e] 34)).alloc (caO c)).alloc (.cells #[.int .i64 0] 35)):=((Below.refl _ _).alloc (Nat.le_refl _) _ |>.alloc (by simp) _).alloc (by simp;omega) _
 have h1:=(b1.cell (p:=⟨e,22,none⟩) (cell_lt h)).trans h
 clear b1 h
 go_enter_defers Tryz.func10,Tryz.ntmps10
 go_wp2_with fail
 have hcr:=cell_at hc.out 0
 refine⟨.int .i64 180,?_,rfl,hB2.out⟩
 simp[results,Tryz.results10,go_sem]
theorem C_blk {w w':World} {c o g len cap st en:Nat} {hi:Bool} {f:Nat->Int} (h:C.Cs w c o g len cap st en hi f) (hs:w.heap.size<=w'.heap.size) (hc:w'.heap[c]?=w.heap[c]?) (hg:w'.heap[g]?=w.heap[g]?):C.Cs w' c o g len cap st en hi f :=
 ⟨Nat.lt_of_lt_of_le h.lt hs,(World.cell?_of_block (w:=w) hc).trans h.buf,(World.cell?_of_block (w:=w) hc).trans h.fro,(World.cell?_of_block (w:=w) hc).trans h.too,(World.cell?_of_block (w:=w) hc).trans h.ord,
  (World.frozen?_of_block (w:=w) hc).trans h.frz,h.row.of_block hg,h.bd,h.ne,h.h1,h.h2,h.h3,h.h4⟩
theorem En.setM {f:Fm} {n:Pn} {S0 S1 pa pm e ma cu ma2:Nat} {s s2:Ms} {U U2:Nat->Prop} {g len cap st en:Nat} {hi:Bool} {fb:Nat->Int} {wt bl:Int} {W:World} (h:En f n S0 S1 pa pm e ma cu s U g len cap st en hi fb wt bl W) (hm:∃ lo hi',Mk f lo hi' W ma2 s2 U2/\S0<=lo/\hi'<=S1) (hu:∀ k,U2 k->S1<=k/\k≠e/\k≠cu/\k≠g) :
  En f n S0 S1 pa pm e ma2 cu s2 U2 g len cap st en hi fb wt bl (W.setCell ⟨e,0,none⟩ (pV ma2)):=by
 obtain⟨lo,hi',h1,h2,h3⟩:=hm
 have hs:=h.size
 obtain⟨n1,n2,n3,n4,n5⟩:=h.ne
 have hh:=h1.hi_lt
 have hz:(W.setCell ⟨e,0,none⟩ (pV ma2)).heap.size=W.heap.size:=by simp
 have hb:Below e W (W.setCell ⟨e,0,none⟩ (pV ma2)):=(Below.refl _ _).setCell (p:=⟨e,0,none⟩) (Nat.le_refl _) _
 refine⟨h.ev.same (by omega) fun k _ hk=>eset_off (by omega),(eset_at h.eo _).trans rfl,⟨lo,hi',h1.same (by omega) (fun k hk=>eset_off (hu k hk).2.1) (fun k e1 e2=>eset_off (by omega)),h2,h3⟩,?_,hu,h.ne,h.kt.below (B:=e) (by have:=h.kp;omega) hb,h.kp⟩
 exact C_blk h.cs (by omega) (eset_off (Ne.symm n4)) (eset_off (Ne.symm n5))
theorem En.step {f:Fm} {n:Pn} {S0 S1 pa pm e ma cu:Nat} {s s2:Ms} {U U2:Nat->Prop} {g len cap st en:Nat} {hi:Bool} {fb:Nat->Int} {wt bl:Int} {W W':World} (h:En f n S0 S1 pa pm e ma cu s U g len cap st en hi fb wt bl W) (hm:∃ lo hi',Mk f lo hi' W' ma s2 U2/\S0<=lo/\hi'<=S1) (fr:Frm U W W') (hu:∀ k,U2 k->U k\/W.heap.size<=k) :
  En f n S0 S1 pa pm e ma cu s2 U2 g len cap st en hi fb wt bl W':=by
 have hs:=h.size
 have hb:=h.blt
 have nU:∀ k,(k<S1\/k=e\/k=cu\/k=g)->¬ U k:=fun k hk hu=>by have:=h.up k hu;omega
 have kp:=h.kp
 exact⟨h.ev.same fr.size fun k _ hk=>fr.block k (by omega) (nU k (.inl hk)),(fr.block e hb.e (nU e (.inr (.inl rfl)))).trans h.eo,hm,C_blk h.cs fr.size (fr.block cu hb.c (nU cu (.inr (.inr (.inl rfl))))) (fr.block g hb.g (nU g (.inr (.inr (.inr rfl))))),fun k hk=>(hu k hk).elim (h.up k) fun hk=>by have:=hb.e;have:=hb.c;have:=hb.g;omega,h.ne,h.kt.same fr.size (fr.block _ (by omega) (nU _ (.inl kp))),kp⟩
theorem wp_region_lwN {P:Program} {Q:Exit->Act->World->Prop} {id:Nat} {a:Act} {w:World} {l:List Oper} (z:Nat) (C:World->Prop) (hm:P.follows .mixedOrders=true) (hv:(Region.noSelect l.toArray&&schF .any l.toArray z (List.range l.length) (Array.replicate l.length false))=true)
  (hp:C w.drew) (h:Lw P l.toArray (fun e a w=>e = .normal/\Q .normal a w) C l a w.drew):(Code.region id l.toArray true).wp P Q a w :=
 wp_mono (wp_region_lw z C hm hv (fun _ _ _ _ _ h=>by cases h.1) hp h) fun e a w h=>by obtain⟨rfl,h⟩:=h;exact h
theorem En.frm {f:Fm} {n:Pn} {S0 S1 pa pm e ma cu:Nat} {s:Ms} {U:Nat->Prop} {g len cap st en:Nat} {hi:Bool} {fb:Nat->Int} {wt bl:Int} {Z:Nat->Prop} {W W':World} (h:En f n S0 S1 pa pm e ma cu s U g len cap st en hi fb wt bl W) (fr:Frm Z W W') (hz:∀ k,Z k->S1<=k/\k≠e/\k≠cu/\k≠g/\¬ U k):En f n S0 S1 pa pm e ma cu s U g len cap st en hi fb wt bl W':=by
 have hs:=h.size
 have hb:=h.blt
 have nU:∀ k,(k<S1\/k=e\/k=cu\/k=g)->¬ Z k:=fun k hk hu=>by have:=hz k hu;omega
 have kp:=h.kp
 obtain⟨lo,hi',m1,l1,l2⟩:=h.mc
 exact⟨h.ev.same fr.size fun k _ hk=>fr.block k (by omega) (nU k (.inl hk)),(fr.block e hb.e (nU e (.inr (.inl rfl)))).trans h.eo,⟨lo,hi',m1.frm fr (fun k hk e'=>(hz k e').2.2.2.2 hk) (fun k hk=>.inr (by have:=(hz k hk).1;omega)),l1,l2⟩,C_blk h.cs fr.size (fr.block cu hb.c (nU cu (.inr (.inr (.inl rfl))))) (fr.block g hb.g (nU g (.inr (.inr (.inr rfl))))),h.up,h.ne,h.kt.same fr.size (fr.block _ (by omega) (nU _ (.inl kp))),kp⟩
theorem frm_set {W:World} {Y o:Nat} {v:Value}:Frm (fun k=>k=Y) W (W.setCell ⟨Y,o,none⟩ v):=⟨rfl,rfl,rfl,by simp,fun k _ hn=>eset_off hn⟩
theorem enK {f:Fm} {n:Pn} {pa pm e ma cu:Nat} {bg:Bool} {wt bl:Int} {W:World} (h:W.heap[e]?=some (enO f n pa pm e ma cu bg wt bl)) (kk:Nat) (v:Value) (hk:kk<4) (hv:(kindF e)[kk]?=some v):W.cell? ⟨e,18+kk,none⟩=some v:=by
 match kk,hk with
 | 0,_=>exact(cell_at h 18).trans hv
 | 1,_=>exact(cell_at h 19).trans hv
 | 2,_=>exact(cell_at h 20).trans hv
 | 3,_=>exact(cell_at h 21).trans hv
theorem st_er {W:World} {b i:Nat} {v:Value} {n:Int} (h:W.cell? ⟨b,i,none⟩=some v) (hf:W.frozen? ⟨b,i,none⟩=false):(Instr.storeAt 35 (.pointer (some ⟨b,i,none⟩)) (.int .i64 n)).run Tryz.prog W = .ok () (W.setCell ⟨b,i,none⟩ (.int .i64 n)):=by
 simp[go_sem,h,hf]
theorem ent_step:∀ ag w,(callFunc 27 ag).run Tryz.prog w = .ok (.enter 27 ag) w:=enters_of Tryz.func27 (by kernel_rfl) rfl
theorem mkfE:∀ (fn:Fn) (first cap:Array Value) (w:World),(Instr.makeFunc fn first cap).run Tryz.prog w = .ok (.func fn first cap) w:=fun _ _ _ _=>rfl
theorem Do_any {f:Fm} {n:Pn} {S0 S1 pa pm e ma cu:Nat} {s:Ms} {U:Nat->Prop} {g len cap st en:Nat} {hi:Bool} {fb:Nat->Int} {wt bl:Int} {W:World} (hE:En f n S0 S1 pa pm e ma cu s U g len cap st en hi fb wt bl W) (hz:chkZ f=none) (hl:f.toks.length<=733007751850) (c:Cl) (hco:i64ok c.cnt) (hnm:c.nm.size<=maxLen)
  (r1:Int) (s1:Ms) (hs1:stepZ f.toks s c.k c.cnt c.nm=(r1,s1)) (fk kk:Nat) (er:Int) (en':Nat) (fb':Nat->Int) (wt' bl':Int) (hk:r1=0->c.k=(kk:Int)/\kk<4/\(kindF e)[kk]?=some (fnB fk e)) (hen:∀ ag w,(callFunc fk ag).run Tryz.prog w = .ok (.enter fk ag) w)
  (KC:r1=0->∀ V U',En f n S0 S1 pa pm e ma cu s1 U' g len cap st en hi fb wt bl V->Frm U W V->(∀ k,U' k->U k\/W.heap.size<=k)->Calls Tryz.prog fk #[pV e,caV c] V fun r w'=>r = .returned (.int .i64 er)/\En f n S0 S1 pa pm e ma cu s1 U' g len cap st en' hi fb' wt' bl' w'/\Frm (Wr e cu g U') V w') :
  Calls Tryz.prog 10 #[pV e,caV c] W fun r w'=>(r1≠0/\r = .returned (.int .i64 r1)/\∃ U',En f n S0 S1 pa pm e ma cu s1 U' g len cap st en hi fb wt bl w'/\(∀ k,U' k->U k\/W.heap.size<=k)/\Frm (Wr e cu g U) W w') \/
   (r1=0/\r = .returned (.int .i64 er)/\∃ ma' U',En f n S0 S1 pa pm e ma' cu (if er=0 then s1 else s) U' g len cap st en' hi fb' wt' bl' w'/\(∀ k,U' k->U k\/W.heap.size<=k)/\Frm (Wr e cu g U) W w'):=by
 obtain⟨W1,hW1⟩:∃ W1,W1=((W.alloc (.cells #[pV e] 34)).alloc (caO c)).alloc (.cells #[.int .i64 0] 35):=⟨_,rfl⟩
 have b1:Below W.heap.size W W1:=by rw[hW1];exact((Below.refl _ _).alloc (Nat.le_refl _) _ |>.alloc (by simp) _).alloc (by simp;omega) _
 have z1:W1.heap.size=W.heap.size+3:=by rw[hW1];simp
 have c0:W1.heap[W.heap.size]?=some (.cells #[pV e] 34):=by rw[hW1];exact(heap_alloc_old _ _ (by simp;omega)).trans (two_1 W _ _)
 have c1:W1.heap[W.heap.size+1]?=some (caO c):=by rw[hW1];exact(heap_alloc_old _ _ (by simp)).trans (two_2 W _ _)
 have c2:W1.heap[W.heap.size+2]?=some (.cells #[.int .i64 0] 35):=by rw[hW1];have:=heap_al ((W.alloc (.cells #[pV e] 34)).alloc (caO c)) (.cells #[.int .i64 0] 35);simpa only [World.size_alloc] using this
 have E1:=hE.below b1
 have hblt:=hE.blt
 obtain⟨lo,hi',m1,l1,l2⟩:=E1.mc
 have cC:=Copy_mk m1
 have k0:W1.cell? ⟨W.heap.size,0,none⟩=some (pV e):=cell_at c0 0
 have ke:W1.cell? ⟨e,22,none⟩=some (.bool true):=cell_at E1.eo 22
 have ke0:W1.cell? ⟨e,0,none⟩=some (pV ma):=cell_at E1.eo 0
 replace E1:=Hid.mk E1
 replace c0:=Hid.mk c0
 replace c1:=Hid.mk c1
 replace c2:=Hid.mk c2
 replace b1:=Hid.mk b1
 replace z1:=Hid.mk z1
 replace hE:=Hid.mk hE
 replace hblt:=Hid.mk hblt
 replace hs1:=Hid.mk hs1
 replace hk:=Hid.mk hk
 replace KC:=Hid.mk KC
 replace hz:=Hid.mk hz
 replace m1:=Hid.mk m1
 have hmf:=mkfE
 obtain⟨sF,hsF⟩:∃ x,Hid (x=(if er=0 then s1 else s)):=⟨_,⟨rfl⟩⟩
 rw[<- hsF.out]
 go_enter_defers Tryz.func10,Tryz.ntmps10
 go_upto_region 1 with fail
 rw[<- hW1]
 clear hW1
 go_upto_region 4 with (go_at_call 20;refine cC.mono ?_;clear cC;rintro _ w2 ⟨a2,U2,rfl,m2,u2,b2⟩;have k0:=(b2.cell (p:=⟨W.heap.size,0,none⟩) (cell_lt k0)).trans k0)
 clear ke ke0 k0
 have b23:=nbel w2 (.cells #[pV a2] 55)
 have hx3:(w2.alloc (.cells #[pV a2] 55)).heap[w2.heap.size]?=some (.cells #[pV a2] 55):=thnK _ _
 have m23:=m2.below b23
 generalize w2.alloc (.cells #[pV a2] 55)=w3 at *
 have B3:Below W1.heap.size W1 w3:=b2.trans (b23.mono b2.size)
 have x2:Hid (W.heap.size+3<=w2.heap.size/\w2.heap.size<w3.heap.size):=⟨by have:=z1.out;have:=b2.size;omega,(Array.getElem?_eq_some_iff.1 hx3).1⟩
 clear b2 b23 m2
 generalize w2.heap.size=X at *
 have E3:=E1.out.below B3
 have d0:=(B3.block _ (by have:=z1.out;omega)).trans c0.out
 have d1:=(B3.block _ (by have:=z1.out;omega)).trans c1.out
 have d2:=(B3.block _ (by have:=z1.out;omega)).trans c2.out
 have mm3:=m1.out.below B3
 obtain⟨p,q,pN,y0,ye,yc0,yc1,yc2,yc3,yc4⟩:∃ p:World->Prop,(∀ V,p V↔(V.heap[W.heap.size]?=w3.heap[W.heap.size]?/\V.heap[W.heap.size+1]?=w3.heap[W.heap.size+1]?/\V.heap[e]?=w3.heap[e]?))/\Nonempty (CW p)/\(∀ θ:CW p,θ.w.cell? ⟨W.heap.size,0,none⟩=some (pV e))/\(∀ θ:CW p,θ.w.cell? ⟨e,0,none⟩=some (pV ma))/\(∀ θ:CW p,θ.w.cell? ⟨W.heap.size+1,0,none⟩=some (.int .i64 c.k))/\(∀ θ:CW p,θ.w.cell? ⟨W.heap.size+1,1,none⟩=some (.string c.nm))/\(∀ θ:CW p,θ.w.cell? ⟨W.heap.size+1,2,none⟩=some c.ws)/\(∀ θ:CW p,θ.w.cell? ⟨W.heap.size+1,3,none⟩=some (.int .i64 c.cnt))/\(∀ θ:CW p,θ.w.cell? ⟨W.heap.size+1,4,none⟩=some (.string c.tx)) :=
  ⟨_,fun _=>Iff.rfl,⟨⟨w3,rfl,rfl,rfl⟩⟩,fun θ=>cell_at (θ.h.1.trans d0) 0,fun θ=>cell_at (θ.h.2.2.trans E3.eo) 0,fun θ=>cell_at (θ.h.2.1.trans d1) 0,fun θ=>cell_at (θ.h.2.1.trans d1) 1,fun θ=>cell_at (θ.h.2.1.trans d1) 2,fun θ=>cell_at (θ.h.2.1.trans d1) 3,fun θ=>cell_at (θ.h.2.1.trans d1) 4⟩
 have hp:p w3.drew:=(q _).2 ⟨rfl,rfl,rfl⟩
 have hd:Below w3.heap.size w3 w3.drew:=(Below.refl _ _).drew
 replace q:=Hid.mk q
 replace E3:=Hid.mk E3
 replace d0:=Hid.mk d0
 replace d1:=Hid.mk d1
 replace d2:=Hid.mk d2
 replace hx3:=Hid.mk hx3
 replace m23:=Hid.mk m23
 replace B3:=Hid.mk B3
 refine wp_region_lyN (fun V=>∃ θ:CW p,V=θ.w) (by kernel_rfl) (by kernel_rfl) ⟨⟨_,hp⟩,rfl⟩ ?_
 generalize w3.drew=V at hp hd ⊢
 have cS:=Step_mk f hz.out hl lo hi' ma s U c V (mm3.below hd) hco hnm
 rw[hs1.out] at cS
 repeat (first|(guard_target =~ Ly _ _ _ _ (Oper.mk _ (Op.call { callee:=.value _,args:=_,argTypes:=_ }) _ _ _ _::_) _ _;fail)|(refine ly_one rfl ?_;(first|go_big_quiet_skip|(go_big_quiet_want;go_big_quiet_op;go_big_quiet_on));refine wpQuiet_nil ?_))
 refine ly_call2 (R:=fun r w5=>r = .int .i64 r1/\Mk f lo hi' w5 ma s1 (grw U V w5)/\Frm U V w5) ent_step (cS.mono fun r w5 h=>⟨_,h.1,rfl,h.2⟩) rfl rfl (by rfl) ?_
 rintro _ w5 ⟨rfl,m5,f5⟩
 have F35:Frm U w3 w5:=(Frm.of_below hd).trans f5
 have uU:=hblt.out.u
 have upU:=hE.out.up
 have hX:=x2.out
 have n5:∀ k,k<w3.heap.size->¬ U k->w5.heap[k]?=w3.heap[k]?:=F35.block
 have nH:¬ U W.heap.size/\¬ U (W.heap.size+1)/\¬ U (W.heap.size+2)/\¬ U X/\¬ U e:=⟨fun h=>by have:=uU _ h;omega,fun h=>by have:=uU _ h;omega,fun h=>by have:=uU _ h;omega,fun h=>by have:=uU _ h;omega,fun h=>(upU _ h).2.1 rfl⟩
 have he3:=(Array.getElem?_eq_some_iff.1 E3.out.eo).1
 refine⟨fun V=>∃ θ:CW p,V=θ.w,fun _ h=>h,⟨⟨_,(q.out _).2 ⟨n5 _ (by omega) nH.1,n5 _ (by omega) nH.2.1,n5 _ he3 nH.2.2.2.2⟩⟩,rfl⟩,?_⟩
 simp only[pts]
 repeat (first|(guard_target =~ Ly _ _ _ _ (Oper.mk _ (Op.call { callee:=.value _,args:=_,argTypes:=_ }) _ _ _ _::_) _ _;fail)|(refine ly_one rfl ?_;(first|go_big_quiet_skip|(go_big_quiet_want;go_big_quiet_op;go_big_quiet_on));refine wpQuiet_nil ?_))
 refine ly_done ⟨rfl,?_⟩
 have hU5:∀ k,grw U V w5 k->U k\/w3.heap.size<=k:=fun k h=>h.elim .inl fun h=>.inr (Nat.le_trans hd.size h.1)
 have E5:=E3.out.step ⟨lo,hi',m5,l1,l2⟩ F35 hU5
 have g0:=(n5 _ (by omega) nH.1).trans d0.out
 have g1:=(n5 _ (by omega) nH.2.1).trans d1.out
 have g2:=(n5 _ (by omega) nH.2.2.1).trans d2.out
 have g3:=(n5 _ hX.2 nH.2.2.2.1).trans hx3.out
 have m25:Mk f lo hi' w5 a2 s U2:=m23.out.frm F35 (fun k hk hu=>by have:=u2 k hk;have:=uU k hu;have:=z1.out;omega) (fun k hk=>.inr (by have:=(upU k hk).1;omega))
 have W5:Hid (Frm U W w5):=⟨(Frm.of_below (b1.out.trans (B3.out.mono b1.out.size))).trans F35⟩
 have U23:Hid (∀ k,U2 k->W.heap.size+3<=k/\k<w3.heap.size):=⟨fun k hk=>⟨by have:=u2 k hk;have:=z1.out;omega,m23.out.lt k hk⟩⟩
 have w35:=F35.size
 generalize hU5e:grw U V w5=U5 at *
 clear hU5e cS m5 f5 n5 y0 ye yc0 yc1 yc2 yc3 yc4 pN q hp hd p mm3 d0 d1 d2 hx3 m23 u2 m1
 replace E5:=Hid.mk E5
 replace m25:=Hid.mk m25
 replace g0:=Hid.mk g0
 replace g1:=Hid.mk g1
 replace g3:=Hid.mk g3
 replace hU5:=Hid.mk hU5
 have k2:w5.cell? ⟨W.heap.size+1+1,0,none⟩=some (.int .i64 0):=cell_at g2 0
 have f2:w5.frozen? ⟨W.heap.size+1+1,0,none⟩=false:=efrz g2
 by_cases hr:r1=0
 ·obtain⟨hck,hk4,hkf⟩:=hk.out hr
  have KC5:=KC.out hr
  have hb1:(r1==0)=true:=by rw[hr];rfl
  have hb2:(r1 != 0)=false:=by rw[bne,hb1];rfl
  have hcv:caV c = .agg #[.int .i64 (kk:Int),.string c.nm,c.ws,.int .i64 c.cnt,.string c.tx]:=by simp only[caV,hck]
  have g1':w5.heap[W.heap.size+1]?=some (.cells #[.int .i64 (kk:Int),.string c.nm,c.ws,.int .i64 c.cnt,.string c.tx] 44):=by rw[g1.out];simp only[caO,hck]
  replace hr:=Hid.mk hr
  replace hck:=Hid.mk hck
  replace hkf:=Hid.mk hkf
  replace KC5:=Hid.mk KC5
  replace hcv:=Hid.mk hcv
  replace g2:=Hid.mk g2
  replace g1':=Hid.mk g1'
  clear KC hk
  go_upto_region 8 with fail
  have kf5:=enK E5.out.eo kk _ hk4 hkf.out
  obtain⟨p,q,pN,y0,y18,yc0,yc1,yc2,yc3,yc4⟩:∃ p:World->Prop,(∀ V,p V↔(V.heap[W.heap.size]?=w5.heap[W.heap.size]?/\V.heap[W.heap.size+1]?=w5.heap[W.heap.size+1]?/\V.cell? ⟨e,18+kk,none⟩=some (fnB fk e)))/\Nonempty (CW p)/\(∀ θ:CW p,θ.w.cell? ⟨W.heap.size,0,none⟩=some (pV e))/\(∀ θ:CW p,θ.w.cell? ⟨e,18+kk,none⟩=some (fnB fk e))/\(∀ θ:CW p,θ.w.cell? ⟨W.heap.size+1,0,none⟩=some (.int .i64 (kk:Int)))/\(∀ θ:CW p,θ.w.cell? ⟨W.heap.size+1,1,none⟩=some (.string c.nm))/\(∀ θ:CW p,θ.w.cell? ⟨W.heap.size+1,2,none⟩=some c.ws)/\(∀ θ:CW p,θ.w.cell? ⟨W.heap.size+1,3,none⟩=some (.int .i64 c.cnt))/\(∀ θ:CW p,θ.w.cell? ⟨W.heap.size+1,4,none⟩=some (.string c.tx)) :=
   ⟨_,fun _=>Iff.rfl,⟨⟨w5,rfl,rfl,kf5⟩⟩,fun θ=>cell_at (θ.h.1.trans g0.out) 0,fun θ=>θ.h.2.2,fun θ=>cell_at (θ.h.2.1.trans g1'.out) 0,fun θ=>cell_at (θ.h.2.1.trans g1'.out) 1,fun θ=>cell_at (θ.h.2.1.trans g1'.out) 2,fun θ=>cell_at (θ.h.2.1.trans g1'.out) 3,fun θ=>cell_at (θ.h.2.1.trans g1'.out) 4⟩
  have hp:p w5.drew:=(q _).2 ⟨rfl,rfl,kf5⟩
  have hd:Below w5.heap.size w5 w5.drew:=(Below.refl _ _).drew
  replace q:=Hid.mk q
  clear kf5
  refine wp_region_lwN 9 (fun V=>∃ θ:CW p,V=θ.w) (by kernel_rfl) (by kernel_rfl) ⟨⟨_,hp⟩,rfl⟩ ?_
  generalize w5.drew=V8 at hp hd ⊢
  repeat (first|(guard_target =~ Lw _ _ _ _ (Oper.mk _ (Op.call { callee:=.value _,args:=_,argTypes:=_ }) _ _ _ _::_) _ _;fail)|(guard_target =~ Lw _ _ _ _ (Oper.mk _ (Op.store _ _ _) _ _ _ _::_) _ _;fail)|(refine lw_one rfl ?_;(first|go_big_quiet_skip|(go_big_quiet_want;go_big_quiet_op;go_big_quiet_on));refine wpQuiet_nil ?_))
  have E8:=E5.out.below hd
  have C8:=KC5.out V8 U5 E8 (W5.out.trans (Frm.of_below hd)) (fun k hk=>(hU5.out k hk).imp id fun h=>by omega)
  rw[hcv.out] at C8
  have z8:=hd.size
  refine lw_callB (R:=fun r w9=>r = .int .i64 er/\En f n S0 S1 pa pm e ma cu s1 U5 g len cap st en' hi fb' wt' bl' w9/\Frm (Wr e cu g U5) V8 w9) rfl hen (C8.mono fun r w9 h=>⟨_,h.1,rfl,h.2⟩) rfl (by rfl) ?_
  rintro _ w9 ⟨rfl,E9,F9⟩
  have hbl:=hblt.out
  have nW:∀ k,W.heap.size<=k->k<w3.heap.size->¬ Wr e cu g U5 k:=fun k h1 h2 h=>by
   have:=hbl.e
   have:=hbl.c
   have:=hbl.g
   rcases h with rfl|rfl|rfl|h
   ·omega
   ·omega
   ·omega
   ·exact(hU5.out k h).elim (fun h=>by have:=uU k h;omega) fun h=>by omega
  have o9:∀ k,W.heap.size<=k->k<w3.heap.size->w9.heap[k]?=w5.heap[k]?:=fun k h1 h2=>(F9.block k (by omega) (nW k h1 h2)).trans (hd.block k (by omega))
  refine⟨⟨⟨_,(q.out _).2 ⟨o9 _ (by omega) (by omega),o9 _ (by omega) (by omega),enK E9.eo kk _ hk4 hkf.out⟩⟩,rfl⟩,?_⟩
  simp only[pts]
  have h29:w9.heap[W.heap.size+1+1]?=some (.cells #[.int .i64 0] 35):=(o9 _ (by omega) (by omega)).trans g2.out
  refine lw_st (st_er (n:=er) (cell_at h29 0) (efrz h29)) rfl rfl (by rfl) ?_
  refine⟨rfl,?_⟩
  simp only[pts]
  have x10:(w9.setCell ⟨W.heap.size+1+1,0,none⟩ (.int .i64 er)).heap[W.heap.size+1+1]?=some (.cells #[.int .i64 er] 35):=(eset_at h29 _).trans rfl
  have y10:(w9.setCell ⟨W.heap.size+1+1,0,none⟩ (.int .i64 er)).heap[W.heap.size]?=some (.cells #[pV e] 34):=(eset_off (by omega)).trans ((o9 _ (by omega) (by omega)).trans g0.out)
  have v10:(w9.setCell ⟨W.heap.size+1+1,0,none⟩ (.int .i64 er)).heap[X]?=some (.cells #[pV a2] 55):=(eset_off (by omega)).trans ((o9 _ (by omega) (by omega)).trans g3.out)
  have E10:=E9.frm (frm_set (Y:=W.heap.size+1+1) (o:=0) (v:=.int .i64 er)) fun k hk=>by
   subst hk
   exact⟨by have:=hbl.s;omega,by have:=hbl.e;omega,by have:=hbl.c;omega,by have:=hbl.g;omega,fun h=>nW _ (by omega) (by omega) (.inr (.inr (.inr h)))⟩
  have S5:=hbl.s
  have m8:=m25.out.below hd
  have m9:Mk f lo hi' w9 a2 s U2:=m8.frm F9 (fun k hk=>nW k (by have:=U23.out k hk;omega) (U23.out k hk).2) (fun k hk=>.inr (by
   have:=E9.ne
   rcases hk with rfl|rfl|rfl|h
   ·omega
   ·omega
   ·omega
   ·have:=(E9.up k h).1;omega))
  have m10:Mk f lo hi' (w9.setCell ⟨W.heap.size+1+1,0,none⟩ (.int .i64 er)) a2 s U2:=m9.frm (frm_set (Y:=W.heap.size+1+1) (o:=0) (v:=.int .i64 er)) (fun k hk e'=>by have:=U23.out k hk;omega) (fun k hk=>.inr (by omega))
  have F10:Frm (Wr e cu g U) W (w9.setCell ⟨W.heap.size+1+1,0,none⟩ (.int .i64 er)):=by
   have F8:=W5.out.trans (Frm.of_below hd)
   have G9:=frm_set (W:=w9) (Y:=W.heap.size+1+1) (o:=0) (v:=.int .i64 er)
   refine⟨G9.os.trans (F9.os.trans F8.os),G9.tape.trans (F9.tape.trans F8.tape),G9.output.trans (F9.output.trans F8.output),Nat.le_trans F8.size (Nat.le_trans F9.size G9.size),fun k hk hn=>(G9.block k (by have:=F8.size;have:=F9.size;omega) (by omega)).trans ((F9.block k (by have:=F8.size;omega) fun h=>?_).trans (F8.block k hk fun hu=>hn (.inr (.inr (.inr hu)))))⟩
   rcases h with h|h|h|h
   ·exact hn (.inl h)
   ·exact hn (.inr (.inl h))
   ·exact hn (.inr (.inr (.inl h)))
   ·exact(hU5.out k h).elim (fun h=>hn (.inr (.inr (.inr h)))) fun h=>by omega
  generalize w9.setCell ⟨W.heap.size+1+1,0,none⟩ (.int .i64 er)=w10 at *
  have hcr:w10.cell? ⟨W.heap.size+1+1,0,none⟩=some (.int .i64 er):=cell_at x10 0
  have hU6:∀ k,U5 k->U k\/W.heap.size<=k:=fun k hk=>(hU5.out k hk).imp id fun h=>by omega
  go_wp2_with fail
  refine leaves_cons (f:=28) (args:=#[.pointer (some ⟨W.heap.size+1+1,0,none⟩),.pointer (some ⟨X,0,none⟩),.pointer (some ⟨W.heap.size,0,none⟩)]) (by simp) (by simp[go_sem]) ?_
  by_cases her:er=0
  ·have hsF':sF=s1:=by rw[hsF.out,if_pos her]
   refine(doD_ok ⟨W.heap.size+1+1,0,none⟩ ⟨X,0,none⟩ ⟨W.heap.size,0,none⟩ _ w10 (by rw[hcr,her])).mono ?_
   rintro _ u' w2' ⟨rfl,rfl,rfl⟩
   refine⟨.int .i64 er,?_,.inr ⟨hr.out,rfl,ma,U5,by rw[hsF'];exact E10,hU6,F10⟩⟩
   simp[results,Tryz.results10,go_sem,hcr]
  ·have hsF':sF=s:=by rw[hsF.out,if_neg her]
   refine(doD_err ⟨W.heap.size+1+1,0,none⟩ ⟨X,0,none⟩ ⟨W.heap.size,0,none⟩ e ma a2 er _ w10 hcr her (cell_at v10 0) (cell_at y10 0) (cell_at E10.eo 0) (efrz E10.eo)).mono ?_
   rintro _ u' w2' ⟨rfl,rfl,rfl⟩
   have E11:=E10.setM ⟨lo,hi',m10,l1,l2⟩ (fun k hk=>by have:=U23.out k hk;exact⟨by omega,by have:=hbl.e;omega,by have:=hbl.c;omega,by have:=hbl.g;omega⟩)
   have hcr2:(w10.setCell ⟨e,0,none⟩ (pV a2)).cell? ⟨W.heap.size+1+1,0,none⟩=some (.int .i64 er):=cell_at ((eset_off (by have:=hbl.e;omega)).trans x10) 0
   have F11:Frm (Wr e cu g U) W (w10.setCell ⟨e,0,none⟩ (pV a2)):=F10.trans ⟨rfl,rfl,rfl,by simp,fun k _ hn=>eset_off fun e'=>hn (.inl e')⟩
   refine⟨.int .i64 er,?_,.inr ⟨hr.out,rfl,a2,U2,by rw[hsF'];exact E11,fun k hk=>.inr (by have:=U23.out k hk;omega),F11⟩⟩
   simp[results,Tryz.results10,go_sem,hcr2]
 ·have hb1:(r1==0)=false:=beq_eq_false_iff_ne.2 hr
  have hb2:(r1 != 0)=true:=by rw[bne,hb1];rfl
  replace hr:=Hid.mk hr
  replace g2:=Hid.mk g2
  go_wp2_with fail
  have x9:(w5.setCell ⟨W.heap.size+1+1,0,none⟩ (.int .i64 r1)).heap[W.heap.size+1+1]?=some (.cells #[.int .i64 r1] 35):=(eset_at g2.out _).trans rfl
  have F9:Frm (fun k=>k=W.heap.size+1+1) w5 (w5.setCell ⟨W.heap.size+1+1,0,none⟩ (.int .i64 r1)):=frm_set
  generalize w5.setCell ⟨W.heap.size+1+1,0,none⟩ (.int .i64 r1)=W9 at *
  have hcr:W9.cell? ⟨W.heap.size+1+1,0,none⟩=some (.int .i64 r1):=cell_at x9 0
  have hbl:=hblt.out
  have E9:=E5.out.frm F9 fun k hk=>by
   subst hk
   exact⟨by have:=hbl.s;omega,by have:=hbl.e;omega,by have:=hbl.c;omega,by have:=hbl.g;omega,fun h=>(hU5.out _ h).elim nH.2.2.1 fun h=>by omega⟩
  refine⟨.int .i64 r1,?_,.inl ⟨hr.out,rfl,U5,E9,fun k hk=>(hU5.out k hk).imp id fun h=>by omega,⟨F9.os.trans W5.out.os,F9.tape.trans W5.out.tape,F9.output.trans W5.out.output,Nat.le_trans W5.out.size F9.size,fun k hk hn=>(F9.block k (Nat.lt_of_lt_of_le hk W5.out.size) (by omega)).trans (W5.out.block k hk fun hu=>hn (.inr (.inr (.inr hu))))⟩⟩⟩
  simp[results,Tryz.results10,go_sem,hcr]
theorem lvsF_len2 (l:List Tk) (t:Tk) (p:Nat):∀ k,(lvsF l t p k).length<=k/\(lvsF l t p k).length<=l.length-p
 | 0=>⟨Nat.le_refl _,Nat.zero_le _⟩
 | k+1=>by
  have:=lvsF_len2 l t p k
  rw[lvsF,List.length_append]
  unfold oneL
  split
  ·rename_i u hu
   have:=(List.getElem?_eq_some_iff.1 hu).1
   split<;>simp<;>omega
  ·simp;omega
theorem ptL_pos {f:Fm} (hz:chkZ f=none) (k:Nat) (u:Tk):∀ x∈ptL f.toks k u,1<=x.n/\x.n<=65535:=by
 unfold ptL
 split
 ·exact lvsF_pos hz u k _
 ·intro x h;cases h
theorem ptL_len (l:List Tk) (k:Nat) (u:Tk):(ptL l k u).length<=l.length:=by
 unfold ptL
 split
 ·have:=(lvsF_len2 l u k (u.pair.toNat-k)).2
  omega
 ·exact Nat.zero_le _
structure Es where
 s:Ms
 en:Nat
 fb:Nat->Int
 wt:Int
 bl:Int
def kndZ (hi:Bool) (len st:Nat) (x:Es) (k:Int) (cnt:Int) (tx:ByteArray) (ws:List Int) (t u:Tk) (ls:List Lf):Int×Es :=
 if k=0 then ((efdZ hi st x.en x.bl x.fb ls ws).1,{ x with fb:=(efdZ hi st x.en x.bl x.fb ls ws).2 })
 else if k=1 then ((grpZ hi len st x.en x.fb x.wt (ptT u) cnt).1,{ x with en:=(grpZ hi len st x.en x.fb x.wt (ptT u) cnt).2.1,fb:=(grpZ hi len st x.en x.fb x.wt (ptT u) cnt).2.2.1,wt:=(grpZ hi len st x.en x.fb x.wt (ptT u) cnt).2.2.2 })
 else if k=2 then ((nxtZ len x.en x.bl t).1,{ x with en:=(nxtZ len x.en x.bl t).2.1,bl:=(nxtZ len x.en x.bl t).2.2 })
 else ((datZ hi len st x.en x.fb x.wt (ptT u) tx).1,{ x with en:=(datZ hi len st x.en x.fb x.wt (ptT u) tx).2.1,fb:=(datZ hi len st x.en x.fb x.wt (ptT u) tx).2.2.1,wt:=(datZ hi len st x.en x.fb x.wt (ptT u) tx).2.2.2 })
def doZ (f:Fm) (hi:Bool) (len st:Nat) (x:Es) (k cnt:Int) (nm tx:ByteArray) (ws:List Int) (t u:Tk) (ls:List Lf):Int×Es :=
 if (stepZ f.toks x.s k cnt nm).1=0 then (let R:=kndZ hi len st { x with s:=(stepZ f.toks x.s k cnt nm).2 } k cnt tx ws t u ls;(R.1,{ R.2 with s:=if R.1=0 then (stepZ f.toks x.s k cnt nm).2 else x.s }))
 else ((stepZ f.toks x.s k cnt nm).1,{ x with s:=(stepZ f.toks x.s k cnt nm).2 })
theorem step_k {l:List Tk} {s:Ms} {k cnt:Int} {nm:ByteArray} (h0:(stepZ l s k cnt nm).1=0):0<=k/\k<4:=by
 unfold stepZ at h0
 by_cases hr:k<0\/4<=k
 ·rw[if_pos hr] at h0
  cases h0
 ·omega
abbrev EnX (f:Fm) (n:Pn) (S0 S1 pa pm e ma cu:Nat) (U:Nat->Prop) (g len cap st:Nat) (hi:Bool) (x:Es) (W:World):Prop:=En f n S0 S1 pa pm e ma cu x.s U g len cap st x.en hi x.fb x.wt x.bl W
theorem Do_go {f:Fm} {n:Pn} {S0 S1 pa pm e ma cu:Nat} {U:Nat->Prop} {g len cap st:Nat} {hi:Bool} {x:Es} {W:World} (hE:EnX f n S0 S1 pa pm e ma cu U g len cap st hi x W) (hz:chkZ f=none) (hl:f.toks.length<=733007751850) (c:Cl) (hco:i64ok c.cnt) (hnm:c.nm.size<=maxLen) (hts:c.tx.size<=281474976710656)
  (q:Option Addr) (cp:Nat) (ws:List Int) (hq:c.ws = .slice q ws.length cp) (hw:WsC (fun k=>k=g\/U k) q cp ws W) :
  ∃ t k u,((stepZ f.toks x.s c.k c.cnt c.nm).1=0->f.toks[insZ (stepZ f.toks x.s c.k c.cnt c.nm).2]?=some t/\(c.k≠2->f.toks[k]?=some u/\k∈kidsZ f.toks (insZ (stepZ f.toks x.s c.k c.cnt c.nm).2)/\u.name=c.nm)) /\
  Calls Tryz.prog 10 #[pV e,caV c] W fun r w'=>r = .returned (.int .i64 (doZ f hi len st x c.k c.cnt c.nm c.tx ws t u (ptL f.toks k u)).1)/\∃ ma' U',EnX f n S0 S1 pa pm e ma' cu U' g len cap st hi (doZ f hi len st x c.k c.cnt c.nm c.tx ws t u (ptL f.toks k u)).2 w'/\(∀ k,U' k->U k\/W.heap.size<=k)/\Frm (Wr e cu g U) W w':=by
 obtain⟨lo,hi',m1,l1,l2⟩:=hE.mc
 obtain⟨so1,so2⟩:=step_ok hz m1.ok m1.i c.k c.cnt c.nm
 obtain⟨t,ht,hto⟩:=ins_blk so1 so2
 obtain⟨r1,s1,hR⟩:∃ r1 s1,stepZ f.toks x.s c.k c.cnt c.nm=(r1,s1):=⟨_,_,rfl⟩
 have hmem:=fun hk=>step_mem (l:=f.toks) (s:=x.s) (k:=c.k) (cnt:=c.cnt) (nm:=c.nm) hk
 have hk4:=step_k (l:=f.toks) (s:=x.s) (k:=c.k) (cnt:=c.cnt) (nm:=c.nm)
 have hdz:∀ t u ls,doZ f hi len st x c.k c.cnt c.nm c.tx ws t u ls=if r1=0 then ((kndZ hi len st { x with s:=s1 } c.k c.cnt c.tx ws t u ls).1,{ (kndZ hi len st { x with s:=s1 } c.k c.cnt c.tx ws t u ls).2 with s:=if (kndZ hi len st { x with s:=s1 } c.k c.cnt c.tx ws t u ls).1=0 then s1 else x.s }) else (r1,{ x with s:=s1 }):=fun t u ls=>by unfold doZ;rw[hR]
 rw[hR] at ht hmem hk4 ⊢
 simp only at ht hmem hk4 ⊢
 by_cases hr:r1=0
 ·have hkk:=hk4 hr
  have hup:∀ y,U y->S1<=y:=fun y h=>(hE.up y h).1
  have hSz:=hE.size
  by_cases h2:c.k=2
  ·refine⟨t,0,t,fun _=>⟨ht,fun h=>absurd h2 h⟩,?_⟩
   rw[hdz,if_pos hr]
   have hkn:kndZ hi len st { x with s:=s1 } c.k c.cnt c.tx ws t t (ptL f.toks 0 t)=((nxtZ len x.en x.bl t).1,{ x with s:=s1,en:=(nxtZ len x.en x.bl t).2.1,fb:=x.fb,wt:=x.wt,bl:=(nxtZ len x.en x.bl t).2.2 }):=by unfold kndZ;rw[if_neg (by omega),if_neg (by omega),if_pos h2]
   rw[hkn]
   refine(Do_any hE hz hl c hco hnm r1 s1 hR 18 2 ((nxtZ len x.en x.bl t).1) ((nxtZ len x.en x.bl t).2.1) (x.fb) (x.wt) ((nxtZ len x.en x.bl t).2.2) (fun _=>⟨h2,by decide,rfl⟩) (enters_of Tryz.func18 (by kernel_rfl) rfl) (fun _ V U' hV F hu=>?_)).mono ?_
   ·exact enext_any hV hl c t ht hto
   ·rintro r w' (⟨h,_⟩|⟨_,rfl,ma',U',h1,h3,h4⟩)
    ·exact absurd hr h
    ·exact⟨rfl,ma',U',h1,h3,h4⟩
  ·obtain⟨g0,m,b,kq,u,v,L⟩:=hE.ev.find hl ht hto hnm (hmem h2 hr)
   have L0:=L W (Nat.le_refl _) fun _ _ _=>rfl
   have LL:Hid _:=⟨L⟩
   refine⟨t,kq,u,fun _=>⟨ht,fun _=>⟨L0.hu,L0.hk,L0.nm'⟩⟩,?_⟩
   clear L L0
   by_cases h0:c.k=0
   ·rw[hdz,if_pos hr]
    have hkn:kndZ hi len st { x with s:=s1 } c.k c.cnt c.tx ws t u (ptL f.toks kq u)=((efdZ hi st x.en x.bl x.fb (ptL f.toks kq u) ws).1,{ x with s:=s1,en:=x.en,fb:=(efdZ hi st x.en x.bl x.fb (ptL f.toks kq u) ws).2,wt:=x.wt,bl:=x.bl }):=by unfold kndZ;rw[if_pos h0]
    rw[hkn]
    refine(Do_any hE hz hl c hco hnm r1 s1 hR 16 0 ((efdZ hi st x.en x.bl x.fb (ptL f.toks kq u) ws).1) (x.en) ((efdZ hi st x.en x.bl x.fb (ptL f.toks kq u) ws).2) (x.wt) (x.bl) (fun _=>⟨by omega,by decide,rfl⟩) (enters_of Tryz.func16 (by kernel_rfl) rfl) (fun _ V U' hV F hu=>?_)).mono ?_
    ·exact efield_any hV c (fun V2 z2 b2=>LL.out V2 (Nat.le_trans F.size z2) fun y y0 y1=>(b2 y y0 y1).trans (F.block y (by omega) fun h=>by have:=hup y h;omega)) q cp ws hq ⟨hw.len,hw.cap,hw.bd,fun j y hy=>by obtain⟨gw,ow,e1,e2,e3⟩:=hw.at' j y hy;exact⟨gw,ow,e1,fun h=>e2 (.inl h),(World.cell?_of_block (w:=W) (F.block gw (cell_lt e3) fun h=>e2 (.inr h))).trans e3⟩⟩ (ptL_pos hz kq u) (by have:=ptL_len f.toks kq u;omega)
    ·rintro r w' (⟨h,_⟩|⟨_,rfl,ma',U',h1,h3,h4⟩)
     ·exact absurd hr h
     ·exact⟨rfl,ma',U',h1,h3,h4⟩
   ·by_cases h1':c.k=1
    ·rw[hdz,if_pos hr]
     have hkn:kndZ hi len st { x with s:=s1 } c.k c.cnt c.tx ws t u (ptL f.toks kq u)=((grpZ hi len st x.en x.fb x.wt (ptT u) c.cnt).1,{ x with s:=s1,en:=(grpZ hi len st x.en x.fb x.wt (ptT u) c.cnt).2.1,fb:=(grpZ hi len st x.en x.fb x.wt (ptT u) c.cnt).2.2.1,wt:=(grpZ hi len st x.en x.fb x.wt (ptT u) c.cnt).2.2.2,bl:=x.bl }):=by unfold kndZ;rw[if_neg h0,if_pos h1']
     rw[hkn]
     refine(Do_any hE hz hl c hco hnm r1 s1 hR 17 1 ((grpZ hi len st x.en x.fb x.wt (ptT u) c.cnt).1) ((grpZ hi len st x.en x.fb x.wt (ptT u) c.cnt).2.1) ((grpZ hi len st x.en x.fb x.wt (ptT u) c.cnt).2.2.1) ((grpZ hi len st x.en x.fb x.wt (ptT u) c.cnt).2.2.2) (x.bl) (fun _=>⟨by omega,by decide,rfl⟩) (enters_of Tryz.func17 (by kernel_rfl) rfl) (fun _ V U' hV F hu=>?_)).mono ?_
     ·exact group_any hV c (fun V2 z2 b2=>LL.out V2 (Nat.le_trans F.size z2) fun y y0 y1=>(b2 y y0 y1).trans (F.block y (by omega) fun h=>by have:=hup y h;omega))
     ·rintro r w' (⟨h,_⟩|⟨_,rfl,ma',U',h1,h3,h4⟩)
      ·exact absurd hr h
      ·exact⟨rfl,ma',U',h1,h3,h4⟩
    ·rw[hdz,if_pos hr]
     have hkn:kndZ hi len st { x with s:=s1 } c.k c.cnt c.tx ws t u (ptL f.toks kq u)=((datZ hi len st x.en x.fb x.wt (ptT u) c.tx).1,{ x with s:=s1,en:=(datZ hi len st x.en x.fb x.wt (ptT u) c.tx).2.1,fb:=(datZ hi len st x.en x.fb x.wt (ptT u) c.tx).2.2.1,wt:=(datZ hi len st x.en x.fb x.wt (ptT u) c.tx).2.2.2,bl:=x.bl }):=by unfold kndZ;rw[if_neg h0,if_neg h1',if_neg h2]
     rw[hkn]
     refine(Do_any hE hz hl c hco hnm r1 s1 hR 19 3 ((datZ hi len st x.en x.fb x.wt (ptT u) c.tx).1) ((datZ hi len st x.en x.fb x.wt (ptT u) c.tx).2.1) ((datZ hi len st x.en x.fb x.wt (ptT u) c.tx).2.2.1) ((datZ hi len st x.en x.fb x.wt (ptT u) c.tx).2.2.2) (x.bl) (fun _=>⟨by omega,by decide,rfl⟩) (enters_of Tryz.func19 (by kernel_rfl) rfl) (fun _ V U' hV F hu=>?_)).mono ?_
     ·exact edata_any hV c hts (fun V2 z2 b2=>LL.out V2 (Nat.le_trans F.size z2) fun y y0 y1=>(b2 y y0 y1).trans (F.block y (by omega) fun h=>by have:=hup y h;omega))
     ·rintro r w' (⟨h,_⟩|⟨_,rfl,ma',U',h1,h3,h4⟩)
      ·exact absurd hr h
      ·exact⟨rfl,ma',U',h1,h3,h4⟩
 ·refine⟨t,0,t,fun h=>absurd h hr,?_⟩
  rw[hdz,if_neg hr]
  refine(Do_any hE hz hl c hco hnm r1 s1 hR 16 0 0 x.en x.fb x.wt x.bl (fun h=>absurd h hr) (enters_of Tryz.func16 (by kernel_rfl) rfl) (fun h=>absurd h hr)).mono ?_
  rintro r w' (⟨_,rfl,U',h1,h2,h3⟩|⟨h,_⟩)
  ·exact⟨rfl,ma,U',h1,h2,h3⟩
  ·exact absurd h hr
abbrev cFld (nm:ByteArray) (ws:Value):Cl:=⟨0,nm,ws,0,ByteArray.empty⟩
abbrev cNxt:Cl:=⟨2,ByteArray.empty,.slice none 0 0,0,ByteArray.empty⟩
abbrev cDat (nm tx:ByteArray):Cl:=⟨3,nm,.slice none 0 0,0,tx⟩
theorem Field_of {W:World} {e:Nat} {nm:ByteArray} {q:Option Addr} {l cp:Nat} {R:Int->World->Prop} (D:Calls Tryz.prog 10 #[pV e,caV (cFld nm (.slice q l cp))] W fun r w'=>∃ v,r = .returned (.int .i64 v)/\R v w') :
  Calls Tryz.prog 12 #[pV e,.string nm,.slice q l cp] W fun r w'=>∃ v,r = .returned (.int .i64 v)/\R v w':=by
 go_enter Tryz.func12,Tryz.ntmps12
 go_wp2_with (go_at_call 10;refine D.mono ?_;clear D;rintro _ w1 ⟨v,rfl,h⟩;replace h:=Hid.mk h)
 go_ret
 exact⟨v,rfl,h.out⟩
theorem Next_of {W:World} {e:Nat} {R:Int->World->Prop} (D:Calls Tryz.prog 10 #[pV e,caV cNxt] W fun r w'=>∃ v,r = .returned (.int .i64 v)/\R v w') :
  Calls Tryz.prog 9 #[pV e] W fun r w'=>∃ v,r = .returned (.int .i64 v)/\R v w':=by
 go_enter Tryz.func9,Tryz.ntmps9
 go_wp2_with (go_at_call 10;refine D.mono ?_;clear D;rintro _ w1 ⟨v,rfl,h⟩;replace h:=Hid.mk h)
 go_ret
 exact⟨v,rfl,h.out⟩
theorem Data_of {W:World} {e:Nat} {nm tx:ByteArray} {R:Int->World->Prop} (D:Calls Tryz.prog 10 #[pV e,caV (cDat nm tx)] W fun r w'=>∃ v,r = .returned (.int .i64 v)/\R v w') :
  Calls Tryz.prog 13 #[pV e,.string nm,.string tx] W fun r w'=>∃ v,r = .returned (.int .i64 v)/\R v w':=by
 go_enter Tryz.func13,Tryz.ntmps13
 go_wp2_with (go_at_call 10;refine D.mono ?_;clear D;rintro _ w1 ⟨v,rfl,h⟩;replace h:=Hid.mk h)
 go_ret
 exact⟨v,rfl,h.out⟩
end Go.Proofs.YtjlbcdnkglaheaaGreatDoor
