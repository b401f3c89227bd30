import Derived.Test.YtbhmciieiilcfaaGreatDoorK28
namespace Go.Proofs.YtbhmciieiilcfaaGreatDoor
set_option maxRecDepth 1000000
set_option maxHeartbeats 16000000
open Go.ChangeShapes Go.WideShapes Go.ChangeAt Go.RowKit Go.Shelf Go.Maps
variable {P:Program} {W w w':World} {a c cnt k:Int} {b cap cp g go i id n:Nat} {cl:Cl} {d:DL} {f:Fm} {nm:ByteArray} {oi:Oper} {p:World->Prop} {pp:Option Addr} {t:TypeId} {v:Value} {ys zs:List DL}
theorem ap_gen {base:Nat} {e:TypeId} {z:Value} {size bytes:Nat} {xs:List Value} (ht:Tryz.prog.underlying t=some (.slice e)) (hi:(Tryz.prog.info? e).map (fun i=>(i.zero,i.size,i.bytes))=some (some z,size,bytes)) (hz:z.cells.size=size) (hsz:0<size)
  (own:W.ownsRow base e size v n xs) (cs:List Value) (hcs:cs.length=size) (h1:∀ u∈cs,u.oneCell'=true) (hn:n+1<=100000000000) (hb:bytes<=100) (hbase:base<=W.heap.size) :
  ∃ v' w',(∀ ty,(Builtin.append_ #[t,t] ty #[v,.slice (some ⟨W.heap.size,0,none⟩) 1 1]).run Tryz.prog (W.alloc (.cells cs.toArray e)) = .ok v' w')/\(w'.ownsRow base e size v' (n+1) (xs++cs)/\Below base W w'/\(∀ j,j<W.heap.size->v.ownBlock≠some j->w'.heap[j]?=W.heap[j]?)/\∀ k,v'.ownBlock=some k->v.ownBlock=some k\/W.heap.size<=k):=by
 obtain⟨i0,hi0,hz0⟩:=Option.map_eq_some_iff.1 hi
 simp only[Prod.mk.injEq] at hz0
 have hB:=nbel W (.cells cs.toArray e)
 have hO:=own_keep own hB
 have hN:∀ (j:Nat) (u:Value),cs[j]?=some u->(W.alloc (.cells cs.toArray e)).cell? ((⟨W.heap.size,0,none⟩:Addr).add j)=some u:=World.news_of_block (thnK W _)
 have hs:(W.alloc (.cells cs.toArray e)).heap.size=W.heap.size+1:=World.size_alloc _ _
 have hbb:(n+1)*bytes<=140737488355328:=Nat.le_trans (Nat.mul_le_mul hn hb) (by decide)
 have hr:=run_append_own_at (P:=Tryz.prog) (W.alloc (.cells cs.toArray e)) base t 0 e i0 z size bytes ht hi0 hz0.1 hz0.2.1 hz0.2.2 hz hsz v n xs hO ⟨W.heap.size,0,none⟩ 1 1 cs (by rw[hcs,Nat.one_mul]) hN h1 (by simp only[maxLen];omega) hbb (by omega)
 obtain⟨v',w',q1,q2,q3,_,q5⟩:=hr
 refine⟨v',w',fun _=>q1,q2,grown_below hB q3 hbase (fun j hj=>(own.lt j hj).1),fun j hj hn=>(q3.block j (by omega) (fun e=>hn e.symm)).trans (hB.block j hj),fun k hk=>?_⟩
 rcases q5 with q5|q5
 ·exact .inl (by rw[<- q5];exact hk)
 ·rw[q5] at hk
  cases hk
  exact .inr (by omega)
def HrP (b go:Nat) (f:Fm) (pp:Option Addr) (cp:Nat) (zs:List DL) (g:Nat) (c a:Int) (k cnt:Int) (nm:ByteArray) (w:World) (e:Ending) (w':World):Prop:=match hereD f.toks ⟨zs.reverse,g,c,a⟩ k cnt nm with
 | none=>e = .returned (.bool false)/\Below w.heap.size w w'
 | some m=>e = .returned (.bool true)/\(∃ go' cap',DS w' b go' cap' f pp cp m.op.reverse m.group m.count m.all/\(go'=go\/w.heap.size<=go'))/\Kb [b,go] w w'
theorem hr_no (e:hereD f.toks ⟨zs.reverse,g,c,a⟩ k cnt nm=none) (hb:Below w.heap.size w w'):HrP b go f pp cp zs g c a k cnt nm w (.returned (.bool false)) w':=by
 unfold HrP
 rw[e]
 exact⟨rfl,hb⟩
theorem hr_yes {go' cap':Nat} {zs':List DL} {g':Nat} {c' a':Int} (e:hereD f.toks ⟨zs.reverse,g,c,a⟩ k cnt nm=some ⟨zs'.reverse,g',c',a'⟩) (hd:DS w' b go' cap' f pp cp zs' g' c' a') (hg:go'=go\/w.heap.size<=go') (hb:Kb [b,go] w w'):HrP b go f pp cp zs g c a k cnt nm w (.returned (.bool true)) w':=by
 unfold HrP
 rw[e]
 refine⟨rfl,⟨go',cap',?_,hg⟩,hb⟩
 show DS w' b go' cap' f pp cp zs'.reverse.reverse g' c' a'
 rw[List.reverse_reverse]
 exact hd
theorem rev1 (ys:List DL) (d:DL):(ys++[d]).reverse=d::ys.reverse:=by simp
structure HrC (w:World) (b go cap:Nat) (f:Fm) (pp:Option Addr) (cp:Nat) (ys:List DL) (d:DL) (g:Nat) (c a:Int) (cl:Cl) (p:World->Prop):Prop where
 p0:p (w.alloc (caO cl)).drew
 pB:∀ W,p W->Below (w.alloc (caO cl)).heap.size (w.alloc (caO cl)) W
 pI:∀ W,Below (w.alloc (caO cl)).heap.size (w.alloc (caO cl)) W->p W
 pN:Nonempty (CW p)
 c13:∀ θ:CW p,θ.w.cell? ⟨b,13,none⟩=some (.slice (some ⟨go,0,none⟩) (ys.length+1) cap)
 c14:∀ θ:CW p,θ.w.cell? ⟨b,14,none⟩=some (.int .i64 (g:Int))
 c15:∀ θ:CW p,θ.w.cell? ⟨b,15,none⟩=some (.int .i64 c)
 c16:∀ θ:CW p,θ.w.cell? ⟨b,16,none⟩=some (.int .i64 a)
 k0:∀ θ:CW p,θ.w.cell? ⟨go,ys.length*4,none⟩=some (.int .i64 (d.at_:Int))
 k1:∀ θ:CW p,θ.w.cell? ⟨go,ys.length*4+1,none⟩=some (.int .i64 (d.next:Int))
 k2:∀ θ:CW p,θ.w.cell? ⟨go,ys.length*4+2,none⟩=some (.int .i64 d.left)
 k3:∀ θ:CW p,θ.w.cell? ⟨go,ys.length*4+3,none⟩=some (.bool d.block)
 LF:∀ W,(∃ θ:CW p,W=θ.w)->(Instr.loadAt 30 (.pointer (some ⟨b,0,none⟩))).run Tryz.prog W = .ok (fmV f pp cp) W
 c12:∀ θ:CW p,θ.w.cell? ⟨b,12,none⟩=some (.slice pp f.toks.length cp)
 x0:∀ θ:CW p,θ.w.cell? ⟨w.heap.size,0,none⟩=some (.int .i64 cl.k)
 x1:∀ θ:CW p,θ.w.cell? ⟨w.heap.size,1,none⟩=some (.string cl.nm)
 x3:∀ θ:CW p,θ.w.cell? ⟨w.heap.size,3,none⟩=some (.int .i64 cl.cnt)
theorem hrC (h:DS w b go cap f pp cp (ys++[d]) g c a) (cl:Cl):∃ p,HrC w b go cap f pp cp ys d g c a cl p:=by
 obtain⟨p,p0,pB,pI,pN,c13,c14,c15,c16,k0,k1,k2,k3,LF,c12⟩:=clsD (h.below (bel1 w (caO cl)))
 have hx:=heap_al w (caO cl)
 exact⟨p,p0,pB,pI,pN,c13,c14,c15,c16,k0,k1,k2,k3,LF,c12,fun θ=>((pB _ θ.h).cell (p:=⟨w.heap.size,0,none⟩) (by simp)).trans (cell_at hx 0),fun θ=>((pB _ θ.h).cell (p:=⟨w.heap.size,1,none⟩) (by simp)).trans (cell_at hx 1),fun θ=>((pB _ θ.h).cell (p:=⟨w.heap.size,3,none⟩) (by simp)).trans (cell_at hx 3)⟩
theorem HrC.bel (h:HrC w b go cap f pp cp ys d g c a cl p) (hp:p W):Below w.heap.size w W:=(bel1 w (caO cl)).trans ((h.pB _ hp).mono (by simp))
theorem hrRW {t:Tk} {ks:List Nat} (hC:HrC w b go cap f pp cp ys d g c a cl p) (tl:TkL w pp w.heap.size f.toks) (hBg:Bgn f.toks d.at_ n t ks):Hid (∀ W,p W->Calls Tryz.prog 51 #[fmV f pp cp,.int .i64 (d.at_:Int)] W fun r w'=>∃ v,r = .returned v/\Hid (NRow w' W.heap.size v (rowZ f.toks d.at_))/\Hid (p w')):=⟨fun W hW=>(refRow_any f d.at_ n t ks pp cp W ((tl.below (hC.bel hW)).mono (hC.bel hW).size) hBg).mono fun _ _ ⟨v,h1,h2,h3⟩=>⟨v,h1,⟨h2⟩,⟨hC.pI _ ((hC.pB _ hW).trans (h3.mono (hC.pB _ hW).size))⟩⟩⟩
theorem hrB (h:DS w b go cap f pp cp (ys++[d]) g c a) (cl:Cl):(w.alloc (caO cl)).cell? ⟨b,13,none⟩=some (.slice (some ⟨go,0,none⟩) (ys.length+1) cap)/\ys.length<=1000000/\(ys.length:Int)<(ys.length:Int)+1:=⟨by have:=cell_at (h.below (bel1 w (caO cl))).c 13;simpa using this,by have:=h.zl;simp at this;omega,by omega⟩
theorem here_1 (h:DS w b go cap f pp cp (ys++[d]) g c a) (tl:TkL w pp w.heap.size f.toks) (hB:∃ n t ks,Bgn f.toks d.at_ n t ks) (cl:Cl) (hg:g≠0) (hk:cl.k≠2) :
  Calls Tryz.prog 49 #[.pointer (some ⟨b,0,none⟩),caV cl] w (HrP b go f pp cp (ys++[d]) g c a cl.k cl.cnt cl.nm w):=by
 obtain⟨n,t,ks,hBg⟩:=hB
 obtain⟨p,hC⟩:=hrC h cl
 have RW:=hrRW hC tl hBg
 obtain⟨b13,zl,lK⟩:=hrB h cl
 have p0:=hC.p0
 have pN:=hC.pN
 have LF:=hC.LF
 have k0:=hC.k0
 have HC:=Hid.mk hC
 have H:=Hid.mk h
 have ne1:¬ b=go:=h.ne
 have ne2:¬ go=b:=fun e=>ne1 e.symm
 have NO:Hid (∀ w',p w'->HrP b go f pp cp (ys++[d]) g c a cl.k cl.cnt cl.nm w (.returned (.bool false)) w'):=⟨fun w' hp=>hr_no (by rw[rev1,hereD_g rfl hg,if_neg hk]) (hC.bel hp)⟩
 have g1:((g:Int) != 0)=true:=by simp;exact hg
 have g2:(cl.k != 2)=true:=by simp;exact hk
 clear h tl hBg hC H hg hk
 go_enter Tryz.func49,Tryz.ntmps49
 go_wp2_with fail
 refine wp_region_ly (fun V=>∃ θ:CW p,V=θ.w) (by kernel_rfl) (by kernel_rfl) (fun _ _ d _ _ h=>by cases d<;>exact h) ⟨⟨_,p0⟩,rfl⟩ ?_
 repeat (first|(refine ly_ld LF rfl (by rfl) ?_;simp only[pts])|(refine ly_one rfl ?_;(first|go_big_quiet_skip|(go_big_quiet_want;go_big_quiet_op;go_big_quiet_on));refine wpQuiet_nil ?_))
 refine ly_call2 ent_Row (RW.out _ p0) rfl rfl (by rfl) (fun v w1 hR=>?_)
 obtain⟨hR1,hR2⟩:=hR
 have p1:=hR2.out
 obtain⟨vp,vc,rfl,vN⟩:=hR1.out.shape
 refine⟨fun V=>∃ θ:CW p,V=θ.w,fun _ h=>h,⟨⟨_,p1⟩,rfl⟩,?_⟩
 simp only[pts]
 repeat (refine ly_one rfl ?_;(first|go_big_quiet_skip|(go_big_quiet_want;go_big_quiet_op;go_big_quiet_on));refine wpQuiet_nil ?_)
 refine ly_done ?_
 clear RW b13 hR1 hR2 k0
 have zc14:=HC.out.c14 ⟨w1,p1⟩
 have zx0:=HC.out.x0 ⟨w1,p1⟩
 go_wp2_with fail
 go_ret
 exact NO.out _ p1
theorem ent_Called:∀ ag w,(callFunc 77 ag).run Tryz.prog w = .ok (.enter 77 ag) w:=enters_of Tryz.func77 (by kernel_rfl) rfl
section
variable {P:Program} {ops:Array Oper} {Q:Exit->Act->World->Prop} {d:Option Tmp} {ty:TypeId} {ps:String} {af:Array Edge} {gd:Option (Nat×Bool)} {r:List Oper} {a:Act} {w:World} {C:World->Prop}
theorem ly_call3 {f:FuncId} {x1 x2 x3:Operand} {y1 y2 y3:Value} {tx:Array TypeId} {R:Value->World->Prop} (hen:∀ ag w,(callFunc f ag).run P w = .ok (.enter f ag) w) (hc:Calls P f #[y1,y2,y3] w fun e w'=>∃ v,e = .returned v/\R v w') (h1:a.eval x1=y1) (h2:a.eval x2=y2) (h3:a.eval x3=y3) (hw:Region.wanted ⟨d,.call { callee:=.value (.func f),args:=#[x1,x2,x3],argTypes:=tx },ty,ps,af,gd⟩ (yielded ops a.tmps)=true)
  (h:∀ v w',R v w'->∃ C':World->Prop,(∀ W,C' W->C W)/\C' w'/\Ly P ops Q C' r (a.put d v) w'):Ly P ops Q C (⟨d,.call { callee:=.value (.func f),args:=#[x1,x2,x3],argTypes:=tx },ty,ps,af,gd⟩::r) a w :=
 ly_act hw rfl fun K hK=>by
  have hf:a.eval (.func f) = .func (.func f) #[] #[]:=rfl
  unfold Oper.wp execOp
  simp only[resolve,invoke,Sem.run_bind,hf]
  simp[Deferred.ofValue,hen,Oper.upon_enter,h1,h2,h3]
  refine hc.mono ?_
  rintro e w' ⟨v,rfl,hp⟩
  obtain⟨C',q1,q2,q3⟩:=h v w' hp
  exact hK _ _ C' q1 q2 q3
end
theorem here_3 (h:DS w b go cap f pp cp (ys++[d]) g c a) (tl:TkL w pp w.heap.size f.toks) (hB:∃ n t ks,Bgn f.toks d.at_ n t ks) (cl:Cl) (hz:chkZ f=none) (hg:g=0) (hk:cl.k=0) :
  Calls Tryz.prog 49 #[.pointer (some ⟨b,0,none⟩),caV cl] w (HrP b go f pp cp (ys++[d]) g c a cl.k cl.cnt cl.nm w):=by
 obtain⟨n,t,ks,hBg⟩:=hB
 obtain⟨p,hC⟩:=hrC h cl
 have RW:=hrRW hC tl hBg
 obtain⟨b13,zl,lK⟩:=hrB h cl
 have p0:=hC.p0
 have pN:=hC.pN
 have LF:=hC.LF
 have k0:=hC.k0
 have HC:=Hid.mk hC
 have H:=Hid.mk h
 have ne1:¬ b=go:=h.ne
 have ne2:¬ go=b:=fun e=>ne1 e.symm
 have hE:Hid (∀ w' bb,p w'->(d.block&&callD f.toks d.at_ cl.nm)=bb->HrP b go f pp cp (ys++[d]) g c a cl.k cl.cnt cl.nm w (.returned (.bool bb)) w'):=⟨fun w' bb hp e=>by
  have hd:=h.below (hC.bel hp)
  cases bb with
  | false=>exact hr_no (by rw[rev1,hk,hereD_0 rfl hg,if_neg (by rw[e];decide)]) (hC.bel hp)
  | true=>exact hr_yes (zs':=ys++[d]) (g':=g) (c':=c) (a':=a) (by rw[rev1,hk,hereD_0 rfl hg,if_pos e]) hd (.inl rfl) (Kb.of_below (hC.bel hp))⟩
 have CA:Hid (∀ W,p W->Calls Tryz.prog 77 #[fmV f pp cp,.int .i64 (d.at_:Int),.string cl.nm] W fun r w'=>∃ v,r = .returned v/\Hid ((∃ i:Nat,v = .int .i64 (i:Int)/\decide (0<(i:Int))=callD f.toks d.at_ cl.nm)/\p w')):=⟨fun W hW=>(refCalled_any f hz d.at_ n t ks cl.nm pp cp W ((tl.below (hC.bel hW)).mono (hC.bel hW).size) hBg).mono fun r w' ⟨⟨i,h1,h2⟩,h3⟩=>⟨_,h1,⟨⟨i,rfl,h2⟩,hC.pI _ ((hC.pB _ hW).trans (h3.mono (hC.pB _ hW).size))⟩⟩⟩
 have g1:((g:Int) != 0)=false:=by rw[hg];rfl
 have g2:(cl.k==0)=true:=by rw[hk];rfl
 have k3:=hC.k3
 have kk0:=hC.k0
 have x1:=hC.x1
 clear h tl hBg hC H hg hk hz
 go_enter Tryz.func49,Tryz.ntmps49
 go_wp2_with fail
 refine wp_region_ly (fun V=>∃ θ:CW p,V=θ.w) (by kernel_rfl) (by kernel_rfl) (fun _ _ d _ _ h=>by cases d<;>exact h) ⟨⟨_,p0⟩,rfl⟩ ?_
 repeat (first|(refine ly_ld LF rfl (by rfl) ?_;simp only[pts])|(refine ly_one rfl ?_;(first|go_big_quiet_skip|(go_big_quiet_want;go_big_quiet_op;go_big_quiet_on));refine wpQuiet_nil ?_))
 refine ly_call2 ent_Row (RW.out _ p0) rfl rfl (by rfl) (fun v w1 hR=>?_)
 obtain⟨hR1,hR2⟩:=hR
 have p1:=hR2.out
 obtain⟨vp,vc,rfl,vN⟩:=hR1.out.shape
 refine⟨fun V=>∃ θ:CW p,V=θ.w,fun _ h=>h,⟨⟨_,p1⟩,rfl⟩,?_⟩
 simp only[pts]
 repeat (refine ly_one rfl ?_;(first|go_big_quiet_skip|(go_big_quiet_want;go_big_quiet_op;go_big_quiet_on));refine wpQuiet_nil ?_)
 refine ly_done ?_
 clear RW b13 hR1 hR2 k0
 have zc14:=HC.out.c14 ⟨w1,p1⟩
 have zx0:=HC.out.x0 ⟨w1,p1⟩
 go_wp2_with fail
 have hE1:=fun bb e=>hE.out w1.drew bb e
 cases hb:d.block with
 | false =>
  rw[hb] at k3 hE
  refine wp_region_ly (fun V=>∃ θ:CW p,V=θ.w) (by kernel_rfl) (by kernel_rfl) (fun _ _ d _ _ h=>by cases d<;>exact h) ⟨⟨_,HC.out.pI _ (HC.out.pB _ p1).drew⟩,rfl⟩ ?_
  repeat (refine ly_one rfl ?_;(first|go_big_quiet_skip|(go_big_quiet_want;go_big_quiet_op;go_big_quiet_on));refine wpQuiet_nil ?_)
  refine ly_skip (by rfl) ?_
  simp only[pts]
  repeat (refine ly_one rfl ?_;(first|go_big_quiet_skip|(go_big_quiet_want;go_big_quiet_op;go_big_quiet_on));refine wpQuiet_nil ?_)
  refine ly_done ?_
  go_wp2_with fail
  go_ret
  exact hE.out _ _ (HC.out.pI _ (HC.out.pB _ p1).drew) rfl
 | true =>
  rw[hb] at k3 hE
  refine wp_region_ly (fun V=>∃ θ:CW p,V=θ.w) (by kernel_rfl) (by kernel_rfl) (fun _ _ d _ _ h=>by cases d<;>exact h) ⟨⟨_,HC.out.pI _ (HC.out.pB _ p1).drew⟩,rfl⟩ ?_
  repeat (first|(refine ly_ld LF rfl (by rfl) ?_;simp only[pts])|(refine ly_one rfl ?_;(first|go_big_quiet_skip|(go_big_quiet_want;go_big_quiet_op;go_big_quiet_on));refine wpQuiet_nil ?_))
  refine ly_call3 ent_Called (CA.out _ (HC.out.pI _ (HC.out.pB _ p1).drew)) rfl rfl rfl (by rfl) (fun v w2 hR=>?_)
  obtain⟨⟨i,rfl,hi⟩,p2⟩:=hR.out
  refine⟨fun V=>∃ θ:CW p,V=θ.w,fun _ h=>h,⟨⟨_,p2⟩,rfl⟩,?_⟩
  simp only[pts]
  have hi':Hid _:=⟨hi⟩
  clear hR hi
  generalize hbb:decide (0<(i:Int))=bb at hi'
  have hbb':decide (0<i)=bb:=by rw[<- hbb];simp
  cases bb
  all_goals
   repeat (refine ly_one rfl ?_;(first|go_big_quiet_skip|(go_big_quiet_want;go_big_quiet_op;go_big_quiet_on));refine wpQuiet_nil ?_)
   refine ly_done ?_
   go_wp2_with fail
   go_ret
   exact hE.out _ _ p2 (by rw[<- hi'.out];rfl)
open Go
section
variable {P:Program} {ops:Array Oper} {Q:Exit->Act->World->Prop} {md:Region.Mode} {S:World->Prop} {z:Nat}
def wpAnyF (P:Program) (md:Region.Mode) (ops:Array Oper) (Q:Exit->Act->World->Prop) (S:World->Prop) (z:Nat):Nat->Array Bool->Act->World->Prop
 | 0,listed,a,w=>Region.ready md ops listed=[]/\Q .normal a w
 | fuel+1,listed,a,w =>
  (Region.ready md ops listed=[]->Q .normal a w) /\
  ∀ i∈Region.ready md ops listed,wpOp P ops Q i (fun a' w'=>(i≠z->S w')/\wpAnyF P md ops Q S z fuel (listed.setIfInBounds i true) a' w') a w
theorem wpAny_of_F:∀ (fuel:Nat) (listed:Array Bool) (a:Act) (w:World),wpAnyF P md ops Q S z fuel listed a w->wpAny P md ops Q fuel listed a w
 | 0,_,_,_,h=>h
 | fuel+1,_,_,_,h=>⟨h.1,fun i hi=>wpOp_mono (fun a' w' h'=>wpAny_of_F fuel _ a' w' h'.2) (h.2 i hi)⟩
def waitsB (md:Region.Mode) (ops:Array Oper) (z i:Nat):Bool:=match ops[z]? with
 | some o=>o.after.any fun e=>Region.binds md e&&e.on==i
 | none=>true
theorem not_ready {listed:Array Bool} (hw:waitsB md ops z i=true) (hi:i∈Region.ready md ops listed):z∉Region.ready md ops listed:=fun hz=>by
 obtain⟨_,oz,hoz,hall⟩:=mem_ready.1 hz
 unfold waitsB at hw
 rw[hoz] at hw
 obtain⟨e,he,hb⟩:=Array.any_eq_true'.1 hw
 simp only[Bool.and_eq_true,beq_iff_eq] at hb
 have h1:=hall e he hb.1
 rw[hb.2] at h1
 have h0:=(mem_ready.1 hi).1
 rcases Nat.lt_or_ge i listed.size with h' | h'
 ·simp[h'] at h0 h1;rw[h0] at h1;cases h1
 ·simp[Array.getElem?_eq_none h'] at h1
theorem wpAnyF_first (hi:ops[i]?=some oi) (hsel:∀ (j:Nat) (o:Oper) cs b,ops[j]?=some o->o.op ≠ .select cs b)
  (hQ:∀ c a w,Q (.panic c) (a.put oi.dst v) w->Q (.panic c) a w) (hw:waitsB md ops z i=true) (hiz:i≠z) :
  ∀ (fuel:Nat) (listed:Array Bool) (a:Act) (w:World),
   (∀ j oj,ops[j]?=some oj->j≠i->listed.getD j true=false->(∀ e∈oj.after,Region.binds md e=true->e.on≠i)->oi.apart ops oj=true) ->
   i∈Region.ready md ops listed->YieldsIf P ops S oi v a->S w ->
   wpAnyF P md ops Q S z fuel (listed.setIfInBounds i true) (a.put oi.dst v) w->wpAnyF P md ops Q S z (fuel+1) listed a w:=by
 intro fuel
 induction fuel with
 | zero =>
  intro listed a w _ hr hy hS H
  refine⟨fun h=>(by rw[h] at hr;cases hr),fun j hj=>?_⟩
  by_cases hji:j=i
  ·subst hji;exact hy.wpOp hi hS ⟨fun _=>hS,H⟩
  ·have:=ready_mono hj hji
   rw[H.1] at this
   cases this
 | succ fuel ih =>
  intro listed a w hfree hr hy hS H
  refine⟨fun h=>(by rw[h] at hr;cases hr),fun j hj=>?_⟩
  by_cases hji:j=i
  ·subst hji;exact hy.wpOp hi hS ⟨fun _=>hS,H⟩
  ·have hjz:j≠z:=fun e=>not_ready hw hr (e▸hj)
   have h1:=H.2 j (ready_mono hj hji)
   obtain⟨hjun,oj,hoj,hall⟩:=mem_ready.1 hj
   have hnot:∀ e∈oj.after,Region.binds md e=true->e.on≠i:=fun e he hb heq=>by
    have h1:=hall e he hb
    have h0:=(mem_ready.1 hr).1
    rw[heq] at h1
    rcases Nat.lt_or_ge i listed.size with h' | h'
    ·simp[h'] at h0 h1;rw[h0] at h1;cases h1
    ·simp[Array.getElem?_eq_none h'] at h1
   have h2:=wpOp_putIf hoj (hfree j oj hoj hji hjun hnot) (fun cs b=>hsel i oi cs b hi) (fun cs b=>hsel j oj cs b hoj) hQ hy h1
   have hfree':∀ k ok,ops[k]?=some ok->k≠i->(listed.setIfInBounds j true).getD k true=false ->
     (∀ e∈ok.after,Region.binds md e=true->e.on≠i)->oi.apart ops ok=true:=fun k ok hk hki hun hno=>by
    refine hfree k ok hk hki ?_ hno
    by_cases hjk:j=k
    ·subst hjk;exact hjun
    ·rw[getD_set_ne true hjk] at hun;exact hun
   refine wpOp_mono (fun a' w' h3=>⟨h3.2.1,ih (listed.setIfInBounds j true) a' w' hfree' (ready_mono hr (Ne.symm hji)) h3.1 (h3.2.1 hjz) ?_⟩) h2
   rw[Array.setIfInBounds_comm _ _ hji]
   exact h3.2.2
theorem wpAnyF_take {fuel:Nat} {listed:Array Bool} {a:Act} (hi:ops[i]?=some oi)
  (hs:Region.noSelect ops=true) (hf:Region.free md ops listed i=true) (hr:(Region.ready md ops listed).contains i=true) (hw:(waitsB md ops z i && !(i==z))=true)
  (hQ:∀ c a w,Q (.panic c) (a.put oi.dst v) w->Q (.panic c) a w) (hy:YieldsIf P ops S oi v a) (hS:S w)
  (h:wpAnyF P md ops Q S z fuel (listed.setIfInBounds i true) (a.put oi.dst v) w):wpAnyF P md ops Q S z (fuel+1) listed a w:=by
 simp only[Bool.and_eq_true,Bool.not_eq_true',beq_eq_false_iff_ne] at hw
 exact wpAnyF_first hi (Region.noSelect_spec hs) hQ hw.1 hw.2 fuel listed a w (Region.free_spec hi hf) (by simpa using hr) hy hS h
theorem wpAnyF_done {listed:Array Bool} {a:Act} (hr:Region.ready md ops listed=[]) (h:Q .normal a w):∀ fuel,wpAnyF P md ops Q S z fuel listed a w
 | 0=>⟨hr,h⟩
 | _+1=>⟨fun _=>h,by rw[hr];simp⟩
theorem wp_region_F (z:Nat) (S:World->Prop) {a:Act} (hm:P.follows .mixedOrders=true) (hS:S w.drew)
  (h:S w.drew->wpAnyF P .any ops Q S z ops.size (Array.replicate ops.size false) a w.drew):(Code.region id ops true).wp P Q a w :=
 wp_region_any hm (wpAny_of_F _ _ _ _ (h hS))
end
theorem wpAnyF_narrow {md:Region.Mode} {ops:Array Oper} {Q:Exit->Act->World->Prop} {S S':World->Prop} {z:Nat} (hSS:∀ w,S' w->S w):∀ (fuel:Nat) (listed:Array Bool) (a:Act) (w:World),wpAnyF P md ops Q S' z fuel listed a w->wpAnyF P md ops Q S z fuel listed a w
 | 0,_,_,_,h=>h
 | fuel+1,_,_,_,h=>⟨h.1,fun i hi=>wpOp_mono (fun a' w' h'=>⟨fun hz=>hSS _ (h'.1 hz),wpAnyF_narrow hSS fuel _ a' w' h'.2⟩) (h.2 i hi)⟩
def schF (md:Region.Mode) (ops:Array Oper) (z:Nat):List Nat->Array Bool->Bool
 | [],listed=>(Region.ready md ops listed).isEmpty
 | i::r,listed=>(match ops[i]? with
  | some o=>if rdK o.op then (Region.free md ops listed i&&(Region.ready md ops listed).contains i&&(waitsB md ops z i && !(i==z)))||(Region.ready md ops listed==[i]) else Region.ready md ops listed==[i]&&(r.isEmpty==(i==z))
  | none=>false)&&schF md ops z r (listed.setIfInBounds i true)
def wpLw (P:Program) (ops:Array Oper) (Q:Exit->Act->World->Prop):List Oper->(World->Prop)->Act->World->Prop
 | [],_,a,w=>Q .normal a w
 | o::r,C,a,w=>if Region.wanted o (yielded ops a.tmps)=true then (if rdK o.op=true then o.quiet P a C (fun a'=>wpLw P ops Q r C a' w) else Oper.wp P o a w (fun a' w'=>∃ C':World->Prop,(r=[]\/((∀ W,C' W->C W)/\C' w'))/\wpLw P ops Q r C' a' w') Q) else wpLw P ops Q r C (a.put o.dst undef) w
section
variable {P:Program} {md:Region.Mode} {ops:Array Oper} {Q:Exit->Act->World->Prop} {z:Nat}
theorem wpAnyF_lw (hs:Region.noSelect ops=true) (hQ:∀ c (a:Act) d v w,Q (.panic c) (a.put d v) w->Q (.panic c) a w):∀ (sc:List Nat) (l:List Oper) (C:World->Prop) (listed:Array Bool) (a:Act) (w:World),sc.map (fun i=>ops[i]?)=l.map some->schF md ops z sc listed=true->C w->wpLw P ops Q l C a w->wpAnyF P md ops Q C z sc.length listed a w
 | [],[],_,listed,a,w,_,hv,_,h=>wpAnyF_done (by simpa[schF] using hv) h _
 | [],_::_,_,_,_,_,e,_,_,_=>by cases e
 | _::_,[],_,_,_,_,e,_,_,_=>by cases e
 | i::r,o::l,C,listed,a,w,e,hv,hC,h=>by
  simp only[List.map_cons,List.cons.injEq] at e
  obtain⟨ho,e⟩:=e
  unfold schF at hv
  rw[Bool.and_eq_true,ho] at hv
  obtain⟨h1,h2⟩:=hv
  dsimp only at h1
  unfold wpLw at h
  rw[List.length_cons]
  by_cases hr:rdK o.op=true
  ·rw[if_pos hr,Bool.or_eq_true] at h1
   have key:∀ v,YieldsIf P ops C o v a->wpAnyF P md ops Q C z r.length (listed.setIfInBounds i true) (a.put o.dst v) w->wpAnyF P md ops Q C z (r.length+1) listed a w:=fun v hy hn=>by
    rcases h1 with h1|h1
    ·rw[Bool.and_eq_true,Bool.and_eq_true] at h1
     exact wpAnyF_take ho hs h1.1.1 h1.1.2 h1.2 (fun c a w=>hQ c a o.dst v w) hy hC hn
    ·rw[beq_iff_eq] at h1
     refine⟨fun h0=>absurd (h1▸h0) (by simp),fun j hj=>?_⟩
     rw[h1] at hj
     rw[List.mem_singleton.1 hj]
     exact hy.wpOp ho hC ⟨fun _=>hC,hn⟩
   by_cases hw:Region.wanted o (yielded ops a.tmps)=true
   ·rw[if_pos hw,if_pos hr] at h
    obtain⟨v,hv,h⟩:=h
    exact key v (.inl ⟨hw,fun W hW=>rd_value hr (hv W hW)⟩) (wpAnyF_lw hs hQ r l C _ _ _ e h2 hC h)
   ·rw[if_neg hw] at h
    rw[Bool.not_eq_true] at hw
    exact key undef (.inr ⟨hw,rfl⟩) (wpAnyF_lw hs hQ r l C _ _ _ e h2 hC h)
  ·rw[if_neg hr,Bool.and_eq_true,beq_iff_eq,beq_iff_eq] at h1
   obtain⟨h1,hl⟩:=h1
   refine⟨fun h0=>absurd (h1▸h0) (by simp),fun j hj=>?_⟩
   rw[h1] at hj
   rw[List.mem_singleton.1 hj]
   unfold wpOp
   rw[ho]
   dsimp only
   by_cases hw:Region.wanted o (yielded ops a.tmps)=true
   ·rw[if_pos hw,if_neg hr] at h
    rw[if_pos hw]
    refine .inl (Oper.wp_mono (fun a' w' h'=>?_) h)
    obtain⟨C',hCC,h''⟩:=h'
    cases r with
    | nil =>
     have hz:i=z:=by simpa using hl.symm
     cases l with
     | nil=>exact⟨fun hne=>absurd hz hne,wpAnyF_done (by simpa[schF] using h2) h'' _⟩
     | cons o2 l2=>cases e
    | cons j2 r2 =>
     cases l with
     | nil=>cases e
     | cons o2 l2 =>
      rcases hCC with hn|⟨hCC,hc⟩
      ·cases hn
      ·exact⟨fun _=>hCC _ hc,wpAnyF_narrow hCC _ _ _ _ (wpAnyF_lw hs hQ (j2::r2) (o2::l2) C' _ _ _ e h2 hc h'')⟩
   ·rw[if_neg hw] at h
    rw[if_neg hw]
    exact⟨fun _=>hC,wpAnyF_lw hs hQ r l C _ _ _ e h2 hC h⟩
structure Lw (P:Program) (ops:Array Oper) (Q:Exit->Act->World->Prop) (C:World->Prop) (l:List Oper) (a:Act) (w:World):Prop where
 out:wpLw P ops Q l C a w
variable {d:Option Tmp} {op:Op} {ty:TypeId} {ps:String} {af:Array Edge} {gd:Option (Nat×Bool)} {r:List Oper} {a:Act} {w:World} {C:World->Prop}
theorem lw_skip (hw:Region.wanted ⟨d,op,ty,ps,af,gd⟩ (yielded ops a.tmps)=false) (h:Lw P ops Q C r (a.put d undef) w):Lw P ops Q C (⟨d,op,ty,ps,af,gd⟩::r) a w:=by
 refine⟨?_⟩
 unfold wpLw
 rw[if_neg (by rw[hw];decide)]
 exact h.out
theorem lw_read (hw:Region.wanted ⟨d,op,ty,ps,af,gd⟩ (yielded ops a.tmps)=true) (hr:rdK op=true) (h:∀ K:Act->Prop,(∀ a',Lw P ops Q C r a' w->K a')->Oper.quiet P ⟨d,op,ty,ps,af,gd⟩ a C K):Lw P ops Q C (⟨d,op,ty,ps,af,gd⟩::r) a w:=by
 refine⟨?_⟩
 unfold wpLw
 rw[if_pos hw,if_pos hr]
 exact h _ fun _ h=>h.out
theorem lw_act (hw:Region.wanted ⟨d,op,ty,ps,af,gd⟩ (yielded ops a.tmps)=true) (hr:rdK op=false) (h:∀ K:Act->World->Prop,(∀ a' w' (C':World->Prop),(r=[]\/((∀ W,C' W->C W)/\C' w'))->Lw P ops Q C' r a' w'->K a' w')->Oper.wp P ⟨d,op,ty,ps,af,gd⟩ a w K Q):Lw P ops Q C (⟨d,op,ty,ps,af,gd⟩::r) a w:=by
 refine⟨?_⟩
 unfold wpLw
 rw[if_pos hw,if_neg (by rw[hr];decide)]
 exact h _ fun _ _ C' h0 h2=>⟨C',h0,h2.out⟩
theorem lw_one (hr:rdK op=true) (h:wpQuiet P ops C (fun a'=>Lw P ops Q C r a' w) [⟨d,op,ty,ps,af,gd⟩] a):Lw P ops Q C (⟨d,op,ty,ps,af,gd⟩::r) a w:=by
 unfold wpQuiet at h
 by_cases hw:Region.wanted ⟨d,op,ty,ps,af,gd⟩ (yielded ops a.tmps)=true
 ·rw[if_pos hw] at h
  refine lw_read hw hr fun K hK=>?_
  exact Oper.quiet_mono (fun a' h'=>hK a' h') h
 ·rw[if_neg hw] at h
  exact lw_skip (by simpa using hw) h
theorem lw_done (h:Q .normal a w):Lw P ops Q C [] a w:=⟨h⟩
theorem lw_ld {x:Operand} {p:Value} (hl:∀ W,C W->(Instr.loadAt t p).run P W = .ok v W) (hx:a.eval x=p) (hw:Region.wanted ⟨d,.load t x,ty,ps,af,gd⟩ (yielded ops a.tmps)=true) (h:Lw P ops Q C r (a.put d v) w):Lw P ops Q C (⟨d,.load t x,ty,ps,af,gd⟩::r) a w :=
 lw_read hw rfl fun K hK=>⟨v,fun W hW=>by
  unfold Oper.quietAt execOp
  simp only[hx,hl W hW,Sem.run_bind,Result.andThen_ok,Sem.run_pure]
  exact⟨rfl,rfl⟩,hK _ h⟩
theorem lw_bs {xs:Array (Nat×Operand)} {ys:Array (Nat×Value)} (hr:(Instr.buildSlice t n ys).run P w = .ok v w') (hC:C w') (hx:(xs.map fun (i,x)=>(i,a.eval x))=ys) (hw:Region.wanted ⟨d,.buildSlice t n xs,ty,ps,af,gd⟩ (yielded ops a.tmps)=true) (h:Lw P ops Q C r (a.put d v) w'):Lw P ops Q C (⟨d,.buildSlice t n xs,ty,ps,af,gd⟩::r) a w :=
 lw_act hw rfl fun K hK=>by
  unfold Oper.wp execOp
  simp only[hx,hr,Sem.run_bind,Result.andThen_ok]
  exact hK _ _ C (.inr ⟨fun _ h=>h,hC⟩) h
theorem lw_bs1 {x:Operand} {y:Value} (hr:(Instr.buildSlice t n #[(i,y)]).run P w = .ok v w') (hC:C w') (hx:a.eval x=y) (hw:Region.wanted ⟨d,.buildSlice t n #[(i,x)],ty,ps,af,gd⟩ (yielded ops a.tmps)=true) (h:Lw P ops Q C r (a.put d v) w'):Lw P ops Q C (⟨d,.buildSlice t n #[(i,x)],ty,ps,af,gd⟩::r) a w :=
 lw_bs hr hC (by simp[hx]) hw h
theorem lw_ap {s x:Operand} {tx:TypeId} {sv xv:Value} {Post:Value->World->Prop} (hrun:∃ v w',(∀ ty,(Builtin.append_ #[t,tx] ty #[sv,xv]).run P w = .ok v w')/\Post v w') (hs:a.eval s=sv) (hx:a.eval x=xv) (hw:Region.wanted ⟨d,.call { callee:=.builtin .append,args:=#[s,x],argTypes:=#[t,tx] },ty,ps,af,gd⟩ (yielded ops a.tmps)=true)
  (h:∀ v w',Post v w'->C w'/\Lw P ops Q C r (a.put d v) w'):Lw P ops Q C (⟨d,.call { callee:=.builtin .append,args:=#[s,x],argTypes:=#[t,tx] },ty,ps,af,gd⟩::r) a w :=
 lw_act hw rfl fun K hK=>by
  obtain⟨v,w',hr,hp⟩:=hrun
  unfold Oper.wp execOp
  simp only[resolve,invoke,builtin,Sem.run_bind,Sem.run_pure,Result.andThen_ok,List.map_toArray,List.map_cons,List.map_nil,hs,hx,hr]
  exact hK _ _ C (.inr ⟨fun _ h=>h,(h v w' hp).1⟩) (h v w' hp).2
theorem lw_st {x y:Operand} {p:Value} (hr:(Instr.storeAt t p v).run P w = .ok () w') (hx:a.eval x=p) (hy:a.eval y=v) (hw:Region.wanted ⟨d,.store t x y,ty,ps,af,gd⟩ (yielded ops a.tmps)=true) (h:Q .normal (a.put d undef) w'):Lw P ops Q C [⟨d,.store t x y,ty,ps,af,gd⟩] a w :=
 lw_act hw rfl fun K hK=>by
  unfold Oper.wp execOp
  simp only[hx,hy,hr,Sem.run_bind,Result.andThen_ok]
  exact hK _ _ C (.inl rfl) (lw_done h)
theorem lw_al (hr:(Instr.alloc t true (Value.tuple #[])).run P w = .ok v w') (hC:C w') (hw:Region.wanted ⟨d,.alloc t,ty,ps,af,gd⟩ (yielded ops a.tmps)=true) (h:Lw P ops Q C r (a.put d v) w'):Lw P ops Q C (⟨d,.alloc t,ty,ps,af,gd⟩::r) a w :=
 lw_act hw rfl fun K hK=>by
  unfold Oper.wp execOp
  simp only[hr,Sem.run_bind,Result.andThen_ok]
  exact hK _ _ C (.inr ⟨fun _ h=>h,hC⟩) h
end
theorem wp_region_lw {Q:Exit->Act->World->Prop} {a:Act} {l:List Oper} (z:Nat) (C:World->Prop) (hm:P.follows .mixedOrders=true) (hv:(Region.noSelect l.toArray&&schF .any l.toArray z (List.range l.length) (Array.replicate l.length false))=true)
  (hQ:∀ c (a:Act) d v w,Q (.panic c) (a.put d v) w->Q (.panic c) a w) (hp:C w.drew) (h:Lw P l.toArray Q C l a w.drew):(Code.region id l.toArray true).wp P Q a w:=by
 rw[Bool.and_eq_true] at hv
 refine wp_region_F z C hm hp fun _=>?_
 have:=wpAnyF_lw (z:=z) hv.1 hQ _ _ C _ a w.drew (range_map l) hv.2 hp h.out
 rw[List.length_range] at this
 simpa using this
theorem set_blkG {g:Int} (h:W.heap[b]?=some (dmO f pp cp v g c a)) (u:Int):(W.setCell ⟨b,14,none⟩ (.int .i64 u)).heap[b]?=some (dmO f pp cp v u c a):=by
 show (W.heap.modify b _)[b]?=_
 rw[Array.getElem?_modify,if_pos rfl,h]
 rfl
theorem st_sl {p:Option Addr} {k:Nat} (h:W.cell? ⟨b,i,none⟩=some v) (hf:W.frozen? ⟨b,i,none⟩=false):(Instr.storeAt 32 (.pointer (some ⟨b,i,none⟩)) (.slice p n k)).run Tryz.prog W = .ok () (W.setCell ⟨b,i,none⟩ (.slice p n k)):=by
 simp[go_sem,h,hf]
theorem lv_bs (g c:Int) (W:World) (bb:Bool):(Instr.buildSlice 32 1 #[(0,.agg #[.int .i64 g,.int .i64 0,.int .i64 c,.bool bb])]).run Tryz.prog W = .ok (.slice (some ⟨W.heap.size,0,none⟩) 1 1) (W.alloc (.cells #[.int .i64 g,.int .i64 0,.int .i64 c,.bool bb] 55)):=by kernel_rfl
theorem clsB1 {g:Int} (h:W.heap[b]?=some (dmO f pp cp v g c a)):∃ q:World->Prop,(∀ V,V.heap[b]?=some (dmO f pp cp v g c a)->q V)/\Nonempty (CW q)/\(∀ θ:CW q,θ.w.cell? ⟨b,13,none⟩=some v)/\(∀ θ:CW q,θ.w.cell? ⟨b,14,none⟩=some (.int .i64 g))/\(∀ θ:CW q,θ.w.cell? ⟨b,15,none⟩=some (.int .i64 c)) :=
 ⟨fun V=>V.heap[b]?=some (dmO f pp cp v g c a),fun _ h=>h,⟨⟨W,h⟩⟩,fun θ=>cell_at θ.h 13,fun θ=>cell_at θ.h 14,fun θ=>cell_at θ.h 15⟩
theorem dl_push (h:DS W b go cap f pp cp (ys++[d]) g c a) (e:DL) (hl:ys.length+2<=1000000) :
  ∃ v' w',(∀ ty,(Builtin.append_ #[32,32] ty #[.slice (some ⟨go,0,none⟩) (ys.length+1) cap,.slice (some ⟨W.heap.size,0,none⟩) 1 1]).run Tryz.prog (W.alloc (.cells (dlC e).toArray 55)) = .ok v' w')/\∃ go' cap',v' = .slice (some ⟨go',0,none⟩) (ys.length+2) cap'/\w'.heap[b]?=some (dmO f pp cp (.slice (some ⟨go,0,none⟩) (ys.length+1) cap) (g:Int) c a)/\DOp w' go' cap' (ys++[d]++[e])/\Kb [b,go] W w'/\(go'=go\/W.heap.size<=go'):=by
 have hO:=h.o.own (H:=go) (Nat.le_refl _)
 have hlen:(ys++[d]).length=ys.length+1:=by simp
 obtain⟨v',w',q1,q2,q3,q4,q5⟩:=ap_gen (W:=W) Tryz.underlying32 infoLv rfl (by decide) hO (dlC e) rfl (fun u hu=>dlCs_one [e] u (by simpa[dlCs] using hu)) (by rw[hlen];omega) (by decide) (Nat.le_of_lt h.lt.2)
 rw[hlen] at q1 q2
 have e1:dlCs (ys++[d])++dlC e=dlCs (ys++[d]++[e]):=by rw[dlCs_append (ys++[d]) [e]];simp[dlCs]
 have e2:ys.length+1+1=(ys++[d]++[e]).length:=by simp
 rw[e1,e2] at q2
 obtain⟨go',cap',rfl,q6,q7⟩:=own_dl q2 (by simp)
 have hb0:W.heap[b]?=some (dmO f pp cp (.slice (some ⟨go,0,none⟩) (ys.length+1) cap) (g:Int) c a):=by have:=h.c;rw[hlen] at this;exact this
 refine⟨_,w',q1,go',cap',by simp,(q4 b h.lt.1 (fun e=>h.ne (Option.some.inj e).symm)).trans hb0,q6,⟨q3.os,q3.tape,q3.output,q3.size,fun k hk hn=>q4 k hk (fun e=>hn (by have:k=go:=(Option.some.inj e).symm;simp[this]))⟩,?_⟩
 rcases q5 go' rfl with e|e
 ·exact .inl (Option.some.inj e).symm
 ·exact .inr e
theorem here_2 (h:DS w b go cap f pp cp (ys++[d]) g c a) (tl:TkL w pp w.heap.size f.toks) (hB:∃ n t ks,Bgn f.toks d.at_ n t ks) (cl:Cl) (hg:g≠0) (hk:cl.k=2) (hc0:i64ok (c-1)) (hzl:ys.length+2<=1000000) :
  Calls Tryz.prog 49 #[.pointer (some ⟨b,0,none⟩),caV cl] w (HrP b go f pp cp (ys++[d]) g c a cl.k cl.cnt cl.nm w):=by
 obtain⟨n,t,ks,hBg⟩:=hB
 obtain⟨p,hC⟩:=hrC h cl
 have RW:=hrRW hC tl hBg
 obtain⟨b13,zl,lK⟩:=hrB h cl
 have p0:=hC.p0
 have pN:=hC.pN
 have LF:=hC.LF
 have k0:=hC.k0
 have HC:=Hid.mk hC
 have H:=Hid.mk h
 have ne1:¬ b=go:=h.ne
 have ne2:¬ go=b:=fun e=>ne1 e.symm
 have g1:((g:Int) != 0)=true:=by simp;exact hg
 have g2:(cl.k != 2)=false:=by rw[hk];rfl
 have hw1:IntKind.i64.wrap (c-1)=c-1:=by rw[IntKind.wrap_i64];unfold i64ok at hc0;omega
 have hE:hereD f.toks ⟨(ys++[d]).reverse,g,c,a⟩ cl.k cl.cnt cl.nm=some ⟨(ys++[d]++[(⟨g,0,c-1,true⟩:DL)]).reverse,0,c,a⟩:=by rw[rev1,hereD_g rfl hg,if_pos hk];simp
 have PU:Hid (∀ W,p W->Hid (∃ v' w',(∀ ty,(Builtin.append_ #[32,32] ty #[.slice (some ⟨go,0,none⟩) (ys.length+1) cap,.slice (some ⟨W.heap.size,0,none⟩) 1 1]).run Tryz.prog (W.alloc (.cells #[.int .i64 (g:Int),.int .i64 0,.int .i64 (c-1),.bool true] 55)) = .ok v' w')/\Hid (∃ go' cap',v' = .slice (some ⟨go',0,none⟩) (ys.length+2) cap'/\w'.heap[b]?=some (dmO f pp cp (.slice (some ⟨go,0,none⟩) (ys.length+1) cap) (g:Int) c a) /\
   HrP b go f pp cp (ys++[d]) g c a cl.k cl.cnt cl.nm w (.returned (.bool true)) ((w'.setCell ⟨b,13,none⟩ (.slice (some ⟨go',0,none⟩) (ys.length+2) cap')).setCell ⟨b,14,none⟩ (.int .i64 0)))) ):=⟨fun W hp=>⟨by
  obtain⟨v',w',q1,go',cap',e1,e2,e3,e4,e5⟩:=dl_push (h.below (hC.bel hp)) ⟨g,0,c-1,true⟩ hzl
  refine⟨v',w',q1,⟨go',cap',e1,e2,hr_yes (cap':=cap') hE ?_ (e5.imp id (fun e=>Nat.le_trans (hC.bel hp).size e)) (((Kb.of_below (hC.bel hp)).trans e4).set (by simp) _ |>.set (by simp) _)⟩⟩
  have hne:b≠go':=by
   rcases e5 with e|e
   ·rw[e];exact h.ne
   ·have:=(h.below (hC.bel hp)).lt.1;omega
  refine⟨?_,(e3.same (set_oth hne)).same (set_oth hne),hne,by simp;omega,by simp⟩
  have s1:=set_blkD e2 (.slice (some ⟨go',0,none⟩) (ys.length+2) cap')
  have s2:=set_blkG s1 0
  simpa using s2⟩⟩
 have c13:=hC.c13
 have c14:=hC.c14
 have c15:=hC.c15
 have hBB:Hid (∀ W,p W->W.heap[b]?=some (dmO f pp cp (.slice (some ⟨go,0,none⟩) (ys.length+1) cap) (g:Int) c a)):=⟨fun W hp=>by have:=(h.below (hC.bel hp)).c;simpa using this⟩
 clear h tl hBg hC H hg hk hE hc0 hzl
 go_enter Tryz.func49,Tryz.ntmps49
 go_wp2_with fail
 refine wp_region_ly (fun V=>∃ θ:CW p,V=θ.w) (by kernel_rfl) (by kernel_rfl) (fun _ _ d _ _ h=>by cases d<;>exact h) ⟨⟨_,p0⟩,rfl⟩ ?_
 repeat (first|(refine ly_ld LF rfl (by rfl) ?_;simp only[pts])|(refine ly_one rfl ?_;(first|go_big_quiet_skip|(go_big_quiet_want;go_big_quiet_op;go_big_quiet_on));refine wpQuiet_nil ?_))
 refine ly_call2 ent_Row (RW.out _ p0) rfl rfl (by rfl) (fun v w1 hR=>?_)
 obtain⟨hR1,hR2⟩:=hR
 have p1:=hR2.out
 obtain⟨vp,vc,rfl,vN⟩:=hR1.out.shape
 refine⟨fun V=>∃ θ:CW p,V=θ.w,fun _ h=>h,⟨⟨_,p1⟩,rfl⟩,?_⟩
 simp only[pts]
 repeat (refine ly_one rfl ?_;(first|go_big_quiet_skip|(go_big_quiet_want;go_big_quiet_op;go_big_quiet_on));refine wpQuiet_nil ?_)
 refine ly_done ?_
 clear RW b13 hR1 hR2 k0
 have zc14:=HC.out.c14 ⟨w1,p1⟩
 have zx0:=HC.out.x0 ⟨w1,p1⟩
 go_wp2_with fail
 obtain⟨q,qI,qN,s13,s14,s15⟩:=clsB1 (hBB.out _ p1)
 have pd:p w1.drew:=HC.out.pI _ (HC.out.pB _ p1).drew
 clear c13 c14 c15
 refine wp_region_lw 19 (fun V=>∃ θ:CW q,V=θ.w) (by kernel_rfl) (by kernel_rfl) (fun _ _ d _ _ h=>by cases d<;>exact h) ⟨⟨_,qI _ (hBB.out _ pd)⟩,rfl⟩ ?_
 repeat (refine lw_one rfl ?_;(first|go_big_quiet_skip|(go_big_quiet_want;go_big_quiet_op;go_big_quiet_on));refine wpQuiet_nil ?_)
 refine lw_bs1 (lv_bs (g:Int) (c-1) _ true) ⟨⟨_,qI _ (((bel1 _ _).block _ (lt_of_blk (hBB.out _ pd))).trans (hBB.out _ pd))⟩,rfl⟩ rfl (by rfl) ?_
 simp only[pts]
 refine lw_ap (PU.out _ pd).out rfl rfl (by rfl) (fun v w2 hR=>?_)
 obtain⟨go',cap',rfl,e2,e3⟩:=hR.out
 refine⟨⟨⟨_,qI _ e2⟩,rfl⟩,?_⟩
 simp only[pts]
 repeat (refine lw_one rfl ?_;(first|go_big_quiet_skip|(go_big_quiet_want;go_big_quiet_op;go_big_quiet_on));refine wpQuiet_nil ?_)
 have t13:=cell_at e2 13
 have t14:=cell_at e2 14
 have tf:∀ i,w2.frozen? ⟨b,i,none⟩=false:=fun i=>froz_of e2
 refine lw_st (st_sl t13 (tf 13)) rfl rfl (by rfl) ?_
 simp only[pts]
 have e3':Hid _:=⟨e3⟩
 clear hR e3 e2
 go_wp2_with fail
 go_ret
 exact e3'.out
theorem here_4 (h:DS w b go cap f pp cp (ys++[d]) g c a) (tl:TkL w pp w.heap.size f.toks) (hB:∃ n t ks,Bgn f.toks d.at_ n t ks) (cl:Cl) (hg:g=0) (hk:cl.k=2) (hn:ys=[]\/d.left=0\/d.next<(rowZ f.toks d.at_).length) :
  Calls Tryz.prog 49 #[.pointer (some ⟨b,0,none⟩),caV cl] w (HrP b go f pp cp (ys++[d]) g c a cl.k cl.cnt cl.nm w):=by
 obtain⟨n,t,ks,hBg⟩:=hB
 obtain⟨p,hC⟩:=hrC h cl
 have RW:=hrRW hC tl hBg
 obtain⟨b13,zl,lK⟩:=hrB h cl
 have p0:=hC.p0
 have pN:=hC.pN
 have LF:=hC.LF
 have k0:=hC.k0
 have HC:=Hid.mk hC
 have H:=Hid.mk h
 have ne1:¬ b=go:=h.ne
 have ne2:¬ go=b:=fun e=>ne1 e.symm
 have NO:Hid (∀ w',p w'->HrP b go f pp cp (ys++[d]) g c a cl.k cl.cnt cl.nm w (.returned (.bool false)) w'):=⟨fun w' hp=>hr_no (by rw[rev1,hk,hereD_2 rfl hg,if_pos (by rcases hn with e|e|e;exact .inl (by rw[e];rfl);exact .inr (.inl e);exact .inr (.inr e))]) (hC.bel hp)⟩
 have g1:((g:Int) != 0)=false:=by rw[hg];rfl
 have g2:(cl.k==2)=true:=by rw[hk];rfl
 have g3:(cl.k==0)=false:=by rw[hk];rfl
 have m0:((ys.length:Int)==0)=decide (ys=[]):=by cases ys<;>simp;omega
 have m1:(d.left==0)=decide (d.left=0):=rfl
 have m2:decide ((d.next:Int)<((rowZ f.toks d.at_).length:Int))=decide (d.next<(rowZ f.toks d.at_).length):=by simp
 have hx:Hid (decide (ys=[])=true\/(decide (ys=[])=false/\decide (d.left=0)=true)\/(decide (ys=[])=false/\decide (d.left=0)=false/\decide (d.next<(rowZ f.toks d.at_).length)=true)):=⟨by
  by_cases e1:ys=[]
  ·exact .inl (decide_eq_true e1)
  ·by_cases e2:d.left=0
   ·exact .inr (.inl ⟨decide_eq_false e1,decide_eq_true e2⟩)
   ·exact .inr (.inr ⟨decide_eq_false e1,decide_eq_false e2,decide_eq_true (by rcases hn with e|e|e;exact absurd e e1;exact absurd e e2;exact e)⟩)⟩
 have g4:decide (d.next<(rowZ f.toks d.at_).length)=decide ((d.next:Int)<((rowZ f.toks d.at_).length:Int)):=m2.symm
 have NO1:Hid _:=⟨fun w' hp=>NO.out w' hp⟩
 obtain⟨B0,e0⟩:∃ B,decide (ys=[])=B:=⟨_,rfl⟩
 obtain⟨B1,e1⟩:∃ B,decide (d.left=0)=B:=⟨_,rfl⟩
 obtain⟨B2,e2⟩:∃ B,decide (d.next<(rowZ f.toks d.at_).length)=B:=⟨_,rfl⟩
 rw[e0,e1,e2] at hx
 rw[e0] at m0
 rw[e1] at m1
 rw[e2] at m2
 clear e0 e1 g4 hn NO
 have hx':=hx.out
 clear hx
 clear h tl hBg hC H hg hk
 go_enter Tryz.func49,Tryz.ntmps49
 go_wp2_with fail
 refine wp_region_ly (fun V=>∃ θ:CW p,V=θ.w) (by kernel_rfl) (by kernel_rfl) (fun _ _ d _ _ h=>by cases d<;>exact h) ⟨⟨_,p0⟩,rfl⟩ ?_
 repeat (first|(refine ly_ld LF rfl (by rfl) ?_;simp only[pts])|(refine ly_one rfl ?_;(first|go_big_quiet_skip|(go_big_quiet_want;go_big_quiet_op;go_big_quiet_on));refine wpQuiet_nil ?_))
 refine ly_call2 ent_Row (RW.out _ p0) rfl rfl (by rfl) (fun v w1 hR=>?_)
 obtain⟨hR1,hR2⟩:=hR
 have p1:=hR2.out
 obtain⟨vp,vc,rfl,vN⟩:=hR1.out.shape
 refine⟨fun V=>∃ θ:CW p,V=θ.w,fun _ h=>h,⟨⟨_,p1⟩,rfl⟩,?_⟩
 simp only[pts]
 repeat (refine ly_one rfl ?_;(first|go_big_quiet_skip|(go_big_quiet_want;go_big_quiet_op;go_big_quiet_on));refine wpQuiet_nil ?_)
 refine ly_done ?_
 clear RW b13 hR1 hR2 k0
 have zc14:=HC.out.c14 ⟨w1,p1⟩
 have zx0:=HC.out.x0 ⟨w1,p1⟩
 have zk1:=HC.out.k1 ⟨w1,p1⟩
 have zk2:=HC.out.k2 ⟨w1,p1⟩
 rcases hx' with rfl|⟨rfl,rfl⟩|⟨rfl,rfl,rfl⟩
 all_goals
  go_wp2_with fail
  go_ret
  exact NO1.out _ p1
theorem st_lv {o:Nat} {u0 u1 u2 u3:Value} (h0:W.cell? ⟨b,o,none⟩=some u0) (h1:W.cell? ⟨b,o+1,none⟩=some u1) (h2:W.cell? ⟨b,o+2,none⟩=some u2) (h3:W.cell? ⟨b,o+3,none⟩=some u3) (hf:∀ i,W.frozen? ⟨b,i,none⟩=false) (x0 x1 x2:Int) (x3:Bool) :
  (Instr.storeAt 55 (.pointer (some ⟨b,o,none⟩)) (.agg #[.int .i64 x0,.int .i64 x1,.int .i64 x2,.bool x3])).run Tryz.prog W = .ok () ((((W.setCell ⟨b,o,none⟩ (.int .i64 x0)).setCell ⟨b,o+1,none⟩ (.int .i64 x1)).setCell ⟨b,o+2,none⟩ (.int .i64 x2)).setCell ⟨b,o+3,none⟩ (.bool x3)):=by
 simp[go_sem,h0,h1,h2,h3,hf]
theorem here_5 (h:DS w b go cap f pp cp (ys++[d]) g c a) (tl:TkL w pp w.heap.size f.toks) (hB:∃ n t ks,Bgn f.toks d.at_ n t ks) (cl:Cl) (hg:g=0) (hk:cl.k=2) (h0:ys≠[]) (h1:d.left≠0) (h2:¬ d.next<(rowZ f.toks d.at_).length) (hl0:i64ok (d.left-1)) :
  Calls Tryz.prog 49 #[.pointer (some ⟨b,0,none⟩),caV cl] w (HrP b go f pp cp (ys++[d]) g c a cl.k cl.cnt cl.nm w):=by
 obtain⟨n,t,ks,hBg⟩:=hB
 obtain⟨p,hC⟩:=hrC h cl
 have RW:=hrRW hC tl hBg
 obtain⟨b13,zl,lK⟩:=hrB h cl
 have p0:=hC.p0
 have pN:=hC.pN
 have LF:=hC.LF
 have k0:=hC.k0
 have HC:=Hid.mk hC
 have H:=Hid.mk h
 have ne1:¬ b=go:=h.ne
 have ne2:¬ go=b:=fun e=>ne1 e.symm
 have hE:hereD f.toks ⟨(ys++[d]).reverse,g,c,a⟩ cl.k cl.cnt cl.nm=some ⟨(ys++[(⟨d.at_,0,d.left-1,true⟩:DL)]).reverse,0,c,a⟩:=by rw[rev1,hk,hereD_2 rfl hg,if_neg (by rintro(e|e|e);exact h0 (List.reverse_eq_nil_iff.1 e);exact h1 e;exact h2 e)];simp
 have g1:((g:Int) != 0)=false:=by rw[hg];rfl
 have g2:(cl.k==2)=true:=by rw[hk];rfl
 have g3:(cl.k==0)=false:=by rw[hk];rfl
 have m0:((ys.length:Int)==0)=false:=by cases ys;exact absurd rfl h0;simp;omega
 have m1:(d.left==0)=false:=beq_eq_false_iff_ne.2 h1
 have m2:decide ((d.next:Int)<((rowZ f.toks d.at_).length:Int))=false:=decide_eq_false (by omega)
 have m3:decide (d.next<(rowZ f.toks d.at_).length)=false:=decide_eq_false h2
 have hw1:IntKind.i64.wrap (d.left-1)=d.left-1:=by rw[IntKind.wrap_i64];unfold i64ok at hl0;omega
 have FIN:Hid (∀ W,p W->HrP b go f pp cp (ys++[d]) g c a cl.k cl.cnt cl.nm w (.returned (.bool true)) ((((W.setCell ⟨go,ys.length*4,none⟩ (.int .i64 (d.at_:Int))).setCell ⟨go,ys.length*4+1,none⟩ (.int .i64 0)).setCell ⟨go,ys.length*4+2,none⟩ (.int .i64 (d.left-1))).setCell ⟨go,ys.length*4+3,none⟩ (.bool true))):=⟨fun W hp=>by
  have hD:=h.below (hC.bel hp)
  refine hr_yes (go':=go) (cap':=cap) hE ?_ (.inl rfl) ((((Kb.of_below (hC.bel hp)).set (by simp) _).set (by simp) _).set (by simp) _ |>.set (by simp) _)
  have s0:=hD.o.set (i:=ys.length) (d:=d) (d':=d) (by simp) 0 (.int .i64 (d.at_:Int)) (by decide) (by simp[dlC])
  have s1:=s0.set (i:=ys.length) (d:=d) (d':=⟨d.at_,0,d.left,d.block⟩) (by simp) 1 (.int .i64 0) (by decide) (by simp[dlC])
  have s2:=s1.set (i:=ys.length) (d:=⟨d.at_,0,d.left,d.block⟩) (d':=⟨d.at_,0,d.left-1,d.block⟩) (by simp) 2 (.int .i64 (d.left-1)) (by decide) (by simp[dlC])
  have s3:=s2.set (i:=ys.length) (d:=⟨d.at_,0,d.left-1,d.block⟩) (d':=⟨d.at_,0,d.left-1,true⟩) (by simp) 3 (.bool true) (by decide) (by simp[dlC])
  refine⟨?_,?_,h.ne,by have:=h.zl;simpa using this,by simp⟩
  ·rw[set_oth (Ne.symm h.ne),set_oth (Ne.symm h.ne),set_oth (Ne.symm h.ne),set_oth (Ne.symm h.ne)]
   have:=hD.c
   rw[hg] at this
   simpa using this
  ·simpa using s3⟩
 have FZ:Hid (∀ W,p W->∀ i,W.frozen? ⟨go,i,none⟩=false):=⟨fun W hp i=>(h.below (hC.bel hp)).o.frz i⟩
 clear h tl hBg hC H hg hk hE h0 h1 h2 hl0
 go_enter Tryz.func49,Tryz.ntmps49
 go_wp2_with fail
 refine wp_region_ly (fun V=>∃ θ:CW p,V=θ.w) (by kernel_rfl) (by kernel_rfl) (fun _ _ d _ _ h=>by cases d<;>exact h) ⟨⟨_,p0⟩,rfl⟩ ?_
 repeat (first|(refine ly_ld LF rfl (by rfl) ?_;simp only[pts])|(refine ly_one rfl ?_;(first|go_big_quiet_skip|(go_big_quiet_want;go_big_quiet_op;go_big_quiet_on));refine wpQuiet_nil ?_))
 refine ly_call2 ent_Row (RW.out _ p0) rfl rfl (by rfl) (fun v w1 hR=>?_)
 obtain⟨hR1,hR2⟩:=hR
 have p1:=hR2.out
 obtain⟨vp,vc,rfl,vN⟩:=hR1.out.shape
 refine⟨fun V=>∃ θ:CW p,V=θ.w,fun _ h=>h,⟨⟨_,p1⟩,rfl⟩,?_⟩
 simp only[pts]
 repeat (refine ly_one rfl ?_;(first|go_big_quiet_skip|(go_big_quiet_want;go_big_quiet_op;go_big_quiet_on));refine wpQuiet_nil ?_)
 refine ly_done ?_
 clear RW b13 hR1 hR2 k0
 have zc14:=HC.out.c14 ⟨w1,p1⟩
 have zx0:=HC.out.x0 ⟨w1,p1⟩
 have zk0:=HC.out.k0 ⟨w1,p1⟩
 have zk1:=HC.out.k1 ⟨w1,p1⟩
 have zk2:=HC.out.k2 ⟨w1,p1⟩
 have zk3:=HC.out.k3 ⟨w1,p1⟩
 go_wp2_with fail
 have pd:p w1.drew:=HC.out.pI _ (HC.out.pB _ p1).drew
 obtain⟨q,q0,qN,s0,s2⟩:∃ q:World->Prop,q w1.drew/\Nonempty (CW q)/\(∀ θ:CW q,θ.w.cell? ⟨go,ys.length*4,none⟩=some (.int .i64 (d.at_:Int)))/\(∀ θ:CW q,θ.w.cell? ⟨go,ys.length*4+2,none⟩=some (.int .i64 d.left)):=⟨fun V=>V.cell? ⟨go,ys.length*4,none⟩=some (.int .i64 (d.at_:Int))/\V.cell? ⟨go,ys.length*4+2,none⟩=some (.int .i64 d.left),⟨zk0,zk2⟩,⟨⟨w1,zk0,zk2⟩⟩,fun θ=>θ.h.1,fun θ=>θ.h.2⟩
 refine wp_region_lw 12 (fun V=>∃ θ:CW q,V=θ.w) (by kernel_rfl) (by kernel_rfl) (fun _ _ d _ _ h=>by cases d<;>exact h) ⟨⟨_,q0⟩,rfl⟩ ?_
 repeat (refine lw_one rfl ?_;(first|go_big_quiet_skip|(go_big_quiet_want;go_big_quiet_op;go_big_quiet_on));refine wpQuiet_nil ?_)
 refine lw_st (st_lv (W:=w1.drew) zk0 zk1 zk2 zk3 (FZ.out _ pd) _ _ _ _) rfl rfl (by rfl) ?_
 simp only[pts]
 go_wp2_with fail
 go_ret
 exact FIN.out _ pd
abbrev zTa:Array Value:=#[.int .i64 0,.string ⟨#[]⟩,.int .i64 0,.int .i64 0,.int .i64 0,.int .i64 0,.int .i64 0,.int .i64 0,.int .i64 0,.int .u64 0,.int .u64 0,.int .u64 0,.slice none 0 0,.int .u64 0,.int .i64 0,.int .i64 0,.int .i64 0,.int .i64 0,.int .i64 0,.int .i64 0,.int .i64 0]
abbrev zTkD:Obj:=.cells zTa 83
theorem al_tk (W:World):(Instr.alloc 83 true (Value.tuple #[])).run Tryz.prog W = .ok (.pointer (some ⟨W.heap.size,0,none⟩)) (W.alloc zTkD):=by kernel_rfl
theorem here_6 (h:DS w b go cap f pp cp (ys++[d]) g c a) (tl:TkL w pp w.heap.size f.toks) (hB:∃ n t ks,Bgn f.toks d.at_ n t ks) (cl:Cl) (hg:g=0) (hk:cl.k=1\/cl.k=3) (hn:¬ d.next<(rowZ f.toks d.at_).length) :
  Calls Tryz.prog 49 #[.pointer (some ⟨b,0,none⟩),caV cl] w (HrP b go f pp cp (ys++[d]) g c a cl.k cl.cnt cl.nm w):=by
 obtain⟨n,t,ks,hBg⟩:=hB
 obtain⟨p,hC⟩:=hrC h cl
 have RW:=hrRW hC tl hBg
 obtain⟨b13,zl,lK⟩:=hrB h cl
 have p0:=hC.p0
 have pN:=hC.pN
 have LF:=hC.LF
 have k0:=hC.k0
 have HC:=Hid.mk hC
 have H:=Hid.mk h
 have ne1:¬ b=go:=h.ne
 have ne2:¬ go=b:=fun e=>ne1 e.symm
 have NO:Hid (∀ w',p w'->HrP b go f pp cp (ys++[d]) g c a cl.k cl.cnt cl.nm w (.returned (.bool false)) w'):=⟨fun w' hp=>hr_no (by rw[rev1,hereD_m rfl hg hk,List.getElem?_eq_none (by show _<=d.next;omega)]) (hC.bel hp)⟩
 have g1:((g:Int) != 0)=false:=by rw[hg];rfl
 have g2:(cl.k==2)=false:=by rcases hk with e|e<;>rw[e]<;>rfl
 have g3:(cl.k==0)=false:=by rcases hk with e|e<;>rw[e]<;>rfl
 have m2:decide (((rowZ f.toks d.at_).length:Int)<=(d.next:Int))=true:=decide_eq_true (by omega)
 have m3:decide ((rowZ f.toks d.at_).length<=d.next)=true:=decide_eq_true (by omega)
 clear h tl hBg hC H hg hk hn
 go_enter Tryz.func49,Tryz.ntmps49
 go_wp2_with fail
 refine wp_region_ly (fun V=>∃ θ:CW p,V=θ.w) (by kernel_rfl) (by kernel_rfl) (fun _ _ d _ _ h=>by cases d<;>exact h) ⟨⟨_,p0⟩,rfl⟩ ?_
 repeat (first|(refine ly_ld LF rfl (by rfl) ?_;simp only[pts])|(refine ly_one rfl ?_;(first|go_big_quiet_skip|(go_big_quiet_want;go_big_quiet_op;go_big_quiet_on));refine wpQuiet_nil ?_))
 refine ly_call2 ent_Row (RW.out _ p0) rfl rfl (by rfl) (fun v w1 hR=>?_)
 obtain⟨hR1,hR2⟩:=hR
 have p1:=hR2.out
 obtain⟨vp,vc,rfl,vN⟩:=hR1.out.shape
 refine⟨fun V=>∃ θ:CW p,V=θ.w,fun _ h=>h,⟨⟨_,p1⟩,rfl⟩,?_⟩
 simp only[pts]
 repeat (refine ly_one rfl ?_;(first|go_big_quiet_skip|(go_big_quiet_want;go_big_quiet_op;go_big_quiet_on));refine wpQuiet_nil ?_)
 refine ly_done ?_
 clear RW b13 hR1 hR2 k0
 have zc14:=HC.out.c14 ⟨w1,p1⟩
 have zx0:=HC.out.x0 ⟨w1,p1⟩
 have zk1:=HC.out.k1 ⟨w1,p1⟩
 go_wp2_with fail
 go_ret
 exact NO.out _ p1
end Go.Proofs.YtbhmciieiilcfaaGreatDoor
