import Derived.Test.YtbhmciieiilcfaaGreatDoorK32
namespace Go.Proofs.YtbhmciieiilcfaaGreatDoor
set_option maxRecDepth 1000000
set_option maxHeartbeats 16000000
open Go.ChangeShapes Go.WideShapes Go.ChangeAt Go.RowKit Go.Shelf Go.Maps
variable {B a a2 b b2 cap cp e g go hi lo:Nat} {S U V Z:Nat->Prop} {W W' X X' w w':World} {al c:Int} {f:Fm} {l:List Tk} {o:Obj} {pp:Option Addr} {q:Option (Nat×Obj)} {r:List Lv} {s:Ms} {x:Lv} {zs:List DL}
theorem rm_new (hz:chkZ f=none):RM f newZ ⟨[⟨0,0,0,true⟩],0,0,0⟩:=by
 obtain⟨h1,h2⟩:=new_ok hz
 refine⟨h1,h2,?_⟩
 refine(rel_b (x:=⟨0,0,true,0⟩) (r:=[]) (ent:=0) rfl).2 ⟨rfl,rfl,_,_,rfl,⟨rfl,rfl,rfl,rfl,rfl⟩,trivial⟩
theorem bgn_0 (hz:chkZ f=none):∃ n t ks,Bgn f.toks 0 n t ks:=by
 obtain⟨n,t,ks,hh⟩:=(((rm_new hz).lv hz).1 ⟨0,0,0,true⟩ (by simp)).b
 exact⟨n,t,ks,hh.bg⟩
theorem op_new (W:World):DOp (W.alloc (.cells #[.int .i64 0,.int .i64 0,.int .i64 0,.bool true] 55)) W.heap.size 1 [⟨0,0,0,true⟩]:=⟨_,heap_al _ _,by decide,by decide,rfl,rfl⟩
theorem dNew_none (hCK:∀ W,Below w.heap.size w W->Calls Tryz.prog 12 #[fmV f pp cp] W fun r w'=>r = .returned (.tuple #[.int .i64 (errZ (chkZ f)),.int .i64 (atZ (chkZ f))])/\Below W.heap.size W w') (hz:chkZ f=none) :
  Calls Tryz.prog 4 #[fmV f pp cp] w fun e w'=>∃ go cap,e = .returned (.tuple #[dmV f pp cp (.slice (some ⟨go,0,none⟩) 1 cap) 0 0 0,.int .i64 0])/\DOp w' go cap [⟨0,0,0,true⟩]/\w.heap.size<=go/\Below w.heap.size w w':=by
 have hW2:=two_b w (fmO f pp cp) zM
 have hz1:((w.alloc (fmO f pp cp)).alloc zM).heap[w.heap.size]?=some (fmO f pp cp):=two_1 _ _ _
 have hz2:((w.alloc (fmO f pp cp)).alloc zM).heap[w.heap.size+1]?=some zM:=two_2 _ _ _
 have hzs:((w.alloc (fmO f pp cp)).alloc zM).heap.size=w.heap.size+2:=by simp
 have CK:=hCK _ hW2
 rw[hz] at CK
 have fmc:∀ W,W.heap[w.heap.size]?=some (fmO f pp cp)->FmC W w.heap.size 0 f pp cp:=fun W h=>(fm_new w f pp cp).same (h.trans (heap_al _ _).symm)
 have L0:=FmC.load (fmc _ hz1)
 have L1:Hid (∀ w1,Below ((w.alloc (fmO f pp cp)).alloc zM).heap.size ((w.alloc (fmO f pp cp)).alloc zM) w1->(Instr.loadAt 30 (.pointer (some ⟨w.heap.size,0,none⟩))).run Tryz.prog w1 = .ok (fmV f pp cp) w1):=⟨fun w1 hb=>FmC.load (fmc _ ((hb.block _ (by omega)).trans hz1))⟩
 have FIN:Hid (∀ w1,Below ((w.alloc (fmO f pp cp)).alloc zM).heap.size ((w.alloc (fmO f pp cp)).alloc zM) w1->(w1.alloc (.cells #[.int .i64 0,.int .i64 0,.int .i64 0,.bool true] 55)).heap[w.heap.size+1]?=some zM/\DOp ((w1.alloc (.cells #[.int .i64 0,.int .i64 0,.int .i64 0,.bool true] 55)).setRow (w.heap.size+1) (dmA f pp cp (.slice (some ⟨w1.heap.size,0,none⟩) 1 1) 0 0 0)) w1.heap.size 1 [⟨0,0,0,true⟩]/\w.heap.size<=w1.heap.size/\Below w.heap.size w ((w1.alloc (.cells #[.int .i64 0,.int .i64 0,.int .i64 0,.bool true] 55)).setRow (w.heap.size+1) (dmA f pp cp (.slice (some ⟨w1.heap.size,0,none⟩) 1 1) 0 0 0))):=⟨fun w1 hb=>by
  have e1:=hb.size
  have hb2:=hb.trans ((bel1 w1 (.cells #[.int .i64 0,.int .i64 0,.int .i64 0,.bool true] 55)).mono e1)
  exact⟨(hb2.block _ (by omega)).trans hz2,(op_new w1).same (setRow_other _ _ _ _ (by omega)),by omega,bel_row (hW2.trans (hb2.mono hW2.size)) (by omega)⟩⟩
 clear hz1 hz2 hCK fmc hW2
 go_enter Tryz.func4,Tryz.ntmps4
 go_wp2_with (first
  | (go_at_call 12;refine CK.mono ?_;rintro _ w1 ⟨rfl,hB⟩;have L2:=L1.out w1 hB;obtain⟨f1,f2,f3,f4⟩:=FIN.out w1 hB;have S2:=dm_st (old:=zMa) f1 rfl f pp cp (some ⟨w1.heap.size,0,none⟩) 1 1 0 0 0;replace f1:=Hid.mk f1;replace f2:=Hid.mk f2;replace f4:=Hid.mk f4;clear hB)
  | (guard_target =~ wpList _ _ _ (Oper.mk _ (Op.load 30 _) _ _ _ _::_) _ _;go_must (first|refine wpList_ld 30 _ rfl rfl _ _ rfl L2 ?_|refine wpList_ld 30 _ rfl rfl _ _ rfl L0 ?_);simp only[pts])
  | (guard_target =~ wpList _ _ _ (Oper.mk _ (Op.store 34 _ _) _ _ _ _::_) _ _;go_must (refine wpList_st 34 _ _ rfl rfl _ _ rfl rfl S2 ?_);simp only[pts]))
 exact bodyPost_ret (results_cell_slot (v2:=.int .i64 0) rfl _ _ (w.heap.size+1) 34 _ _ rfl rfl (setRow_heap _ _ _ _ _ _ f1.out) Tryz.underlying34 rfl infoDM) rfl ⟨_,_,rfl,f2.out,f3,f4.out⟩
theorem zm_st (hb:w.heap[b]?=some zM):(Instr.storeAt 34 (.pointer (some ⟨b,0,none⟩)) (.agg zMa)).run Tryz.prog w = .ok () (w.setRow b zMa):=by
 simp only[Instr.storeAt,Instr.sureAddr,Sem.run_bind,Sem.run_pure,Result.andThen]
 exact run_storeVar_row _ _ _ _ _ _ hb infoDM rfl (by kernel_rfl)
theorem dNew_some (hCK:∀ W,Below w.heap.size w W->Calls Tryz.prog 12 #[fmV f pp cp] W fun r w'=>r = .returned (.tuple #[.int .i64 (errZ (chkZ f)),.int .i64 (atZ (chkZ f))])/\Below W.heap.size W w') {z:Int} (hz:chkZ f=some z) :
  Calls Tryz.prog 4 #[fmV f pp cp] w fun e w'=>e = .returned (.tuple #[.agg zMa,.int .i64 121])/\Below w.heap.size w w':=by
 have hW2:=two_b w (fmO f pp cp) zM
 have hz1:((w.alloc (fmO f pp cp)).alloc zM).heap[w.heap.size]?=some (fmO f pp cp):=two_1 _ _ _
 have hz2:((w.alloc (fmO f pp cp)).alloc zM).heap[w.heap.size+1]?=some zM:=two_2 _ _ _
 have hzs:((w.alloc (fmO f pp cp)).alloc zM).heap.size=w.heap.size+2:=by simp
 have CK:=hCK _ hW2
 rw[hz] at CK
 generalize atZ (some z)=A at CK
 simp only[errZ] at CK
 have L0:=FmC.load ((fm_new w f pp cp).same (hz1.trans (heap_al _ _).symm))
 have FIN:Hid (∀ w1,Below ((w.alloc (fmO f pp cp)).alloc zM).heap.size ((w.alloc (fmO f pp cp)).alloc zM) w1->w1.heap[w.heap.size+1]?=some zM/\Below w.heap.size w (w1.setRow (w.heap.size+1) zMa)):=⟨fun w1 hb=>⟨(hb.block _ (by omega)).trans hz2,bel_row (hW2.trans (hb.mono hW2.size)) (by omega)⟩⟩
 clear hz1 hz2 hCK hW2
 go_enter Tryz.func4,Tryz.ntmps4
 go_wp2_with (first
  | (go_at_call 12;refine CK.mono ?_;rintro _ w1 ⟨rfl,hB⟩;obtain⟨f1,f4⟩:=FIN.out w1 hB;have S2:=zm_st f1;replace f1:=Hid.mk f1;replace f4:=Hid.mk f4;clear hB)
  | (guard_target =~ wpList _ _ _ (Oper.mk _ (Op.load 30 _) _ _ _ _::_) _ _;go_must (refine wpList_ld 30 _ rfl rfl _ _ rfl L0 ?_);simp only[pts])
  | (guard_target =~ wpList _ _ _ (Oper.mk _ (Op.store 34 _ _) _ _ _ _::_) _ _;go_must (refine wpList_st 34 _ _ rfl rfl _ _ rfl rfl S2 ?_);simp only[pts]))
 exact bodyPost_ret (results_cell_slot (v2:=.int .i64 121) rfl _ _ (w.heap.size+1) 34 _ _ rfl rfl (setRow_heap _ _ _ _ _ _ f1.out) Tryz.underlying34 rfl infoDM) rfl ⟨rfl,f4.out⟩
structure Mk (f:Fm) (lo hi:Nat) (w:World) (a:Nat) (s:Ms) (U:Nat->Prop):Prop where
 m:∃ go cap zs,MaF f.toks w a go cap lo hi zs s.ent/\tops zs zs.length=s.op/\U go
 i:InF f.toks s
 ua:U a
 lt:∀ k,U k->k<w.heap.size
 np:∀ k,U k->k<lo\/hi<=k
theorem Mk.hi_lt (h:Mk f lo hi w a s U):hi<w.heap.size:=by
 obtain⟨go,cap,zs,h1,-⟩:=h.m
 have:=h1.gl
 have:=h1.s.lt.2
 omega
theorem Mk.same (h:Mk f lo hi w a s U) (hs:w.heap.size<=w'.heap.size) (hb:∀ k,U k->w'.heap[k]?=w.heap[k]?) (hp:∀ k,lo<=k->k<hi->w'.heap[k]?=w.heap[k]?):Mk f lo hi w' a s U:=by
 obtain⟨go,cap,zs,h1,h2,h3⟩:=h.m
 exact⟨⟨go,cap,zs,h1.same (hb _ h.ua) (hb _ h3) hp,h2,h3⟩,h.i,h.ua,fun k hk=>Nat.lt_of_lt_of_le (h.lt k hk) hs,h.np⟩
theorem Mk.frm (h:Mk f lo hi w a s U) (hb:Frm V w w') (hd:∀ k,U k->¬ V k) (hp:∀ k,V k->k<lo\/hi<=k):Mk f lo hi w' a s U:=by
 have hh:=h.hi_lt
 exact h.same hb.size (fun k hk=>hb.block k (h.lt k hk) (hd k hk)) fun k h1 h2=>hb.block k (by omega) fun hv=>by have:=hp k hv;omega
theorem Mk.below (h:Mk f lo hi w a s U) (hb:Below w.heap.size w w'):Mk f lo hi w' a s U:=by
 have hh:=h.hi_lt
 exact h.same hb.size (fun k hk=>hb.block k (h.lt k hk)) fun k h1 h2=>hb.block k (by omega)
theorem Mk.ok (h:Mk f lo hi w a s U):MsOk f.toks s:=by
 obtain⟨go,cap,zs,h1,h2,-⟩:=h.m
 have:=h1.ok
 rw[h2] at this
 exact this
theorem New_mk (f:Fm) (pp:Option Addr) (cp:Nat) (w:World) (hc:ChkC w f pp cp) (tl:TkL w pp w.heap.size f.toks) (hz:chkZ f=none) :
  Calls Tryz.prog 5 #[fmV f pp cp] w fun r w'=>∃ a lo hi U,r = .returned (.tuple #[.pointer (some ⟨a,0,none⟩),.int .i64 0])/\Mk f lo hi w' a newZ U/\(∀ k,U k->w.heap.size<=k)/\w.heap.size<=lo/\Below w.heap.size w w':=by
 refine(New_ok f pp cp w hc tl hz).mono ?_
 rintro _ w' ⟨a,rfl,⟨go,cap,lo,hi,zs,h1,h2,h3,h4⟩,h5,h6⟩
 have g1:=h1.s.lt
 have g2:=h1.gl
 have g4:=h1.al
 have g3:lo<=go:=by
  rcases Nat.lt_or_ge go lo with h|h
  ·obtain⟨y,hy⟩:∃ y,zs[0]?=some y:=⟨zs[0]'(by omega),List.getElem?_eq_getElem (by omega)⟩
   obtain⟨d,hd⟩:=h1.p y (List.mem_of_getElem? hy)
   cases d with
   | zero=>exact hd.elim
   | succ d=>have:=hd.1;omega
  ·exact h
 exact⟨a,lo,hi,fun k=>k=a\/k=go,rfl,⟨⟨go,cap,zs,h1,h2,.inr rfl⟩,(new_ok hz).2,.inl rfl,fun k hk=>by rcases hk with rfl|rfl;exact g1.1;exact g1.2,fun k hk=>by rcases hk with rfl|rfl;exact g4;exact .inr g2⟩,fun k hk=>by rcases hk with rfl|rfl;exact h5;omega,h3,h6⟩
theorem Step_mk (f:Fm) (hz:chkZ f=none) (hl:f.toks.length<=733007751850) (lo hi a:Nat) (s:Ms) (U:Nat->Prop) (c:Cl) (w:World) (h:Mk f lo hi w a s U) (hco:i64ok c.cnt) (hnm:c.nm.size<=maxLen) :
  Calls Tryz.prog 9 #[.pointer (some ⟨a,0,none⟩),caV c] w fun r w'=>r = .returned (.int .i64 (stepZ f.toks s c.k c.cnt c.nm).1)/\Mk f lo hi w' a (stepZ f.toks s c.k c.cnt c.nm).2 (grw U w w')/\Frm U w w':=by
 obtain⟨go,cap,zs,h1,h2,h3⟩:=h.m
 have hhi:=h.hi_lt
 have ho:=h.ok
 have hlen:=ho.len
 have he:=ho.e1
 have ht:=tops_length zs
 rw[h2] at ht
 refine(step_any f.toks a go cap lo hi zs s.ent c w h1 hco hnm (by omega)).mono ?_
 have hs:(⟨tops zs zs.length,s.ent⟩:Ms)=s:=by rw[h2]
 rw[hs]
 obtain⟨hn,hin⟩:=step_ok hz ho h.i c.k c.cnt c.nm
 generalize stepZ f.toks s c.k c.cnt c.nm=R at hn hin
 rintro r w' ⟨rfl,go',cap',zs',q1,q2,q3,q4,q5⟩
 have g1:=h1.s.lt
 have g2:=h1.gl
 have g3:=q1.lt
 refine⟨rfl,⟨⟨go',cap',zs',⟨q1,q2,h1.al,?_,by rw[q3];exact hn,fun y _=>Nat.le_trans (rowZ_le _ _) hl⟩,q3,?_⟩,hin,.inl h.ua,fun k hk=>?_,fun k hk=>?_⟩,Frm.of_kb q5 fun k hk=>?_⟩
 ·rcases q4 with rfl|q4
  ·exact g2
  ·omega
 ·rcases q4 with rfl|q4
  ·exact .inl h3
  ·exact .inr ⟨q4,g3.2⟩
 ·rcases hk with hk|hk
  ·exact Nat.lt_of_lt_of_le (h.lt k hk) q5.size
  ·exact hk.2
 ·rcases hk with hk|hk
  ·exact h.np k hk
  ·exact .inr (by omega)
 ·simp only[List.mem_cons,List.not_mem_nil,or_false] at hk
  rcases hk with rfl|rfl
  ·exact h.ua
  ·exact h3
theorem Done_mk (h:Mk f lo hi w a s U):Calls Tryz.prog 17 #[.pointer (some ⟨a,0,none⟩)] w fun r w'=>r = .returned (.bool (doneB f.toks s))/\Below w.heap.size w w':=by
 obtain⟨go,cap,zs,h1,h2,-⟩:=h.m
 have:=Done_any _ _ _ _ _ _ _ _ _ h1
 rw[h2] at this
 exact this
theorem Inside_mk (h:Mk f lo hi w a s U):Calls Tryz.prog 20 #[.pointer (some ⟨a,0,none⟩)] w fun r w'=>r = .returned (.int .i64 (insZ s:Int))/\Below w.heap.size w w':=by
 obtain⟨go,cap,zs,h1,h2,-⟩:=h.m
 have:=Inside_any _ _ _ _ _ _ _ _ _ h1
 rw[h2] at this
 exact this
theorem Left_mk (h:Mk f lo hi w a s U):Calls Tryz.prog 19 #[.pointer (some ⟨a,0,none⟩)] w fun r w'=>∃ v,r = .returned v/\NRow w' w.heap.size v (lfZ s)/\Below w.heap.size w w':=by
 obtain⟨go,cap,zs,h1,h2,-⟩:=h.m
 rw[lfZ_eq h2]
 exact Left_any _ _ _ _ _ _ _ _ _ h1
theorem ly_bx {P:Program} {Q:Exit->Act->World->Prop} {ops:Array Oper} {C:World->Prop} {r:List Oper} {a:Act} {d:Option Tmp} {ty:TypeId} {ps:String} {af:Array Edge} {gd:Option (Nat×Bool)} {t:TypeId} {x:Operand} {y v:Value} (hr:(Instr.box t y).run P w = .ok v w') (hC:C w') (hx:a.eval x=y) (hw:Region.wanted ⟨d,.box t x,ty,ps,af,gd⟩ (yielded ops a.tmps)=true) (h:Ly P ops Q C r (a.put d v) w'):Ly P ops Q C (⟨d,.box t x,ty,ps,af,gd⟩::r) a w :=
 ly_act hw rfl fun K hK=>by
  unfold Oper.wp execOp
  simp only[hx,hr,Sem.run_bind,Result.andThen_ok]
  exact hK _ _ C (fun _ h=>h) hC h
theorem lv_cp {zs:List (Nat×Lv)} (h:Op4 W go cap zs) (hl:zs.length<=1000000) (h1:0<zs.length) :
  ∃ v' w',(∀ ty,(Builtin.append_ #[56,56] ty #[.slice none 0 0,.slice (some ⟨go,0,none⟩) zs.length cap]).run Tryz.prog W = .ok v' w')/\(∃ go' cap',v' = .slice (some ⟨go',0,none⟩) zs.length cap'/\Hid (Op4 w' go' cap' zs/\W.heap.size<=go'/\Below W.heap.size W w')):=by
 have hO:W.ownsRow W.heap.size 65 4 (.slice none 0 0) ([]:List (Nat×Lv)).length (lvCs []):=⟨rfl,.inl ⟨rfl,rfl⟩⟩
 have hN:∀ (j:Nat) (u:Value),(lvCs zs)[j]?=some u->W.cell? ((⟨go,0,none⟩:Addr).add j)=some u:=by
  intro j u hu
  obtain⟨cur,h1,h2,h3,h4,h5⟩:=h
  have e:(⟨go,0,none⟩:Addr).add j=⟨go,0+j,none⟩:=by unfold Addr.add;split<;>simp_all
  rw[e,Nat.zero_add,cell_at h1,<- Array.getElem?_toList]
  rw[<- h5,List.getElem?_take] at hu
  split at hu
  ·exact hu
  ·cases hu
 obtain⟨v',w',q1,q2,q3,q4⟩:=l_ap cap hO hN (by simp;omega) (Nat.le_refl _)
 rw[List.nil_append] at q2
 obtain⟨go',cap',rfl,q6,q7⟩:=own_lv q2 h1
 exact⟨_,w',q1,go',cap',rfl,⟨q6,q7,⟨q3.os,q3.tape,q3.output,q3.size,fun k hk=>q3.block k hk (fun e=>by simp[Value.ownBlock] at e)⟩⟩⟩
theorem infoStk:(Tryz.prog.info? 58).map (·.size)=some 1:=by kernel_rfl
theorem copied_any {zs:List (Nat×Lv)} {ent:Int} (h:SM w a go cap zs.length zs ent) :
  Calls Tryz.prog 21 #[.pointer (some ⟨a,0,none⟩)] w fun r w'=>∃ v,r = .returned v/\∃ go' cap',v = .agg #[.slice (some ⟨go',0,none⟩) zs.length cap']/\Hid (Op4 w' go' cap' zs/\w.heap.size+1<=go'/\Below w.heap.size w w'):=by
 have hb:=bel1 w (.cells #[.slice none 0 0] 58)
 have hs:=h.below hb
 have a0:=hs.c0
 have hap:Hid _:=⟨lv_cp hs.o hs.zl hs.k1⟩
 have hx:Hid ((w.alloc (.cells #[.slice none 0 0] 58)).heap[w.heap.size]?=some (.cells #[.slice none 0 0] 58)):=⟨heap_al _ _⟩
 have hz:(w.alloc (.cells #[.slice none 0 0] 58)).heap.size=w.heap.size+1:=World.size_alloc _ _
 clear h hs
 go_enter Tryz.func21,Tryz.ntmps21
 go_wp2_with (at_builtin;go_must (refine(ap_step (by rfl) _ _ _ _ (by rfl) _ _ (by rfl) (by rfl) _ hap.out ?_));rintro v' w' ⟨go',cap',rfl,hq⟩;have x0:w'.heap[w.heap.size]?=_:=(hq.out.2.2.block _ (by omega)).trans hx.out;have x1:=cell_at x0 0;have x2:w'.frozen? ⟨w.heap.size,0,none⟩=false:=froz_of x0;replace x0:=Hid.mk x0)
 obtain⟨q1,q2,q3⟩:=hq.out
 rw[hz] at q2
 have hy:(w'.setCell ⟨w.heap.size,0,none⟩ (.slice (some ⟨go',0,none⟩) zs.length cap')).heap[w.heap.size]?=some (.cells #[.slice (some ⟨go',0,none⟩) zs.length cap'] 58):=by
  show (w'.heap.modify w.heap.size _)[w.heap.size]?=_
  rw[Array.getElem?_modify,if_pos rfl,x0.out]
  rfl
 refine bodyPost_ret (results_cell_row rfl _ _ w.heap.size 58 _ (0,0) _ rfl hy Tryz.underlying58 rfl infoStk) rfl ⟨_,rfl,go',cap',rfl,⟨q1.same (set_oth (by omega)),q2,(hb.trans (q3.mono hb.size)).setCell (p:=⟨w.heap.size,0,none⟩) (Nat.le_refl _) _⟩⟩
theorem box_mk (w:World) (p:Option Addr) (n:Nat×Nat) (e:Int):(Instr.box 60 (.agg #[.slice p n.1 n.2,.int .i64 e])).run Tryz.prog w = .ok (.pointer (some ⟨w.heap.size,0,none⟩)) (w.alloc (.cells #[.slice p n.1 n.2,.int .i64 e] 60)):=by
 simp only[Instr.box,newVar,newRow,run_newObj_alloc,Sem.run_bind,Sem.run_pure,Result.andThen_ok]
 rfl
theorem ent_copied:∀ ag w,(callFunc 21 ag).run Tryz.prog w = .ok (.enter 21 ag) w:=enters_of Tryz.func21 (by kernel_rfl) rfl
theorem Copy_mk (h:Mk f lo hi w a s U):Calls Tryz.prog 7 #[.pointer (some ⟨a,0,none⟩)] w fun r w'=>∃ a' U',r = .returned (.pointer (some ⟨a',0,none⟩))/\Mk f lo hi w' a' s U'/\(∀ k,U' k->w.heap.size<=k)/\Below w.heap.size w w':=by
 obtain⟨go,cap,zs,h1,h2,h3⟩:=h.m
 have hhi:=h.hi_lt
 have hin:=h.i
 have hal:=h1.s.lt.1
 obtain⟨p,p0,pB,pI,pN,c1⟩:∃ p:World->Prop,p w.drew/\(∀ W,p W->Below w.heap.size w W)/\(∀ W,Below w.heap.size w W->p W)/\Nonempty (CW p)/\(∀ θ:CW p,θ.w.cell? ⟨a,1,none⟩=some (.int .i64 s.ent)) :=
  ⟨Below w.heap.size w,(Below.refl _ _).drew,fun _ h=>h,fun _ h=>h,⟨⟨w,Below.refl _ _⟩⟩,fun θ=>(θ.h.cell (p:=⟨a,1,none⟩) hal).trans h1.s.c1⟩
 have CP:=copied_any (h1.s.below (pB _ p0))
 have FIN:Hid (∀ w1 go' cap',Op4 w1 go' cap' zs->w.drew.heap.size+1<=go'->Below w.heap.size w w1->∃ a' U',(.returned (.pointer (some ⟨w1.heap.size,0,none⟩)):Ending) = .returned (.pointer (some ⟨a',0,none⟩))/\Mk f lo hi (w1.alloc (.cells #[.slice (some ⟨go',0,none⟩) zs.length cap',.int .i64 s.ent] 60)) a' s U'/\(∀ k,U' k->w.heap.size<=k)/\Below w.heap.size w (w1.alloc (.cells #[.slice (some ⟨go',0,none⟩) zs.length cap',.int .i64 s.ent] 60))):=⟨fun w1 go' cap' q1 q2 q3=>by
  have e1:=q3.size
  have e2:=q1.lt
  have hsd:w.drew.heap.size=w.heap.size:=rfl
  rw[hsd] at q2
  have hb:=q3.trans ((bel1 w1 (.cells #[.slice (some ⟨go',0,none⟩) zs.length cap',.int .i64 s.ent] 60)).mono q3.size)
  refine⟨w1.heap.size,fun k=>k=w1.heap.size\/k=go',rfl,⟨⟨go',cap',zs,⟨⟨heap_al _ _,q1.same ((bel1 _ _).block _ e2),Nat.le_refl _,h1.s.k1,by omega,h1.s.zl⟩,fun y hy=>(h1.p y hy).same fun k _ k2=>hb.block k (by omega),.inr (by omega),by omega,h1.ok,h1.rl⟩,h2,.inr rfl⟩,hin,.inl rfl,fun k hk=>?_,fun k hk=>?_⟩,fun k hk=>?_,hb⟩
  ·rw[World.size_alloc]
   rcases hk with rfl|rfl<;>omega
  ·rcases hk with rfl|rfl<;>omega
  ·rcases hk with rfl|rfl<;>omega⟩
 clear h h1 h2 h3 hhi hin
 go_enter Tryz.func7,Tryz.ntmps7
 go_wp2_with fail
 refine wp_region_lz (fun V=>∃ θ:CW p,V=θ.w) [0,1,2,4,5,6,7,3,8,9,10] (by kernel_rfl) (by kernel_rfl) (fun _ _ d _ _ h=>by cases d<;>exact h) ⟨⟨_,p0⟩,rfl⟩ ?_
 repeat (refine ly_one rfl ?_;(first|go_big_quiet_skip|(go_big_quiet_want;go_big_quiet_op;go_big_quiet_on));refine wpQuiet_nil ?_)
 refine ly_call1 ent_copied CP rfl (by rfl) (fun v w1 hR=>?_)
 obtain⟨go',cap',rfl,hq⟩:=hR
 have hb1:Below w.heap.size w w1:=(pB _ p0).trans (hq.out.2.2.mono (pB _ p0).size)
 have p1:p w1:=pI _ hb1
 refine⟨fun V=>∃ θ:CW p,V=θ.w,fun _ h=>h,⟨⟨_,p1⟩,rfl⟩,?_⟩
 simp only[pts]
 have F:=FIN.out w1 go' cap' hq.out.1 hq.out.2.1 hb1
 replace F:=Hid.mk F
 have p2:p (w1.alloc (.cells #[.slice (some ⟨go',0,none⟩) zs.length cap',.int .i64 s.ent] 60)):=pI _ (hb1.trans ((bel1 _ _).mono hb1.size))
 repeat (refine ly_one rfl ?_;(first|go_big_quiet_skip|(go_big_quiet_want;go_big_quiet_op;go_big_quiet_on));refine wpQuiet_nil ?_)
 refine ly_bx (v:=.pointer (some ⟨w1.heap.size,0,none⟩)) (w':=w1.alloc (.cells #[.slice (some ⟨go',0,none⟩) zs.length cap',.int .i64 s.ent] 60)) ?_ ⟨⟨_,p2⟩,rfl⟩ rfl (by rfl) ?_
 ·exact box_mk w1 _ (zs.length,cap') _
 simp only[pts]
 repeat (refine ly_one rfl ?_;(first|go_big_quiet_skip|(go_big_quiet_want;go_big_quiet_op;go_big_quiet_on));refine wpQuiet_nil ?_)
 refine ly_done ?_
 go_wp2_with fail
 go_ret
 exact F.out
def Lp (r:List Lv):Prop:=∀ y,r.getLast?=some y->y.p=0
theorem lp_leave:∀ {r:List Lv},Lp r->Lp (leaveR l r)
 | [],h=>h
 | [x],h=>by rw[leaveR];exact h
 | x::y::r,h=>by
  rw[leaveR]
  split
  ·exact lp_leave (fun z hz=>h z (by rw[List.getLast?_cons_cons];exact hz))
  ·exact h
theorem lp_head {x':Lv} (h:Lp (x::r)) (e:x'.p=x.p):Lp (x'::r):=by
 intro y hy
 cases r with
 | nil =>
  simp at hy
  subst hy
  rw[e]
  exact h x rfl
 | cons z r=>exact h y (by rw[List.getLast?_cons_cons] at hy ⊢;exact hy)
theorem lp_cons {z:Lv} (h:Lp (x::r)):Lp (z::x::r):=fun y hy=>h y (by rw[List.getLast?_cons_cons] at hy;exact hy)
theorem lp_step (h:Lp s.op) (k cnt:Int) (nm:ByteArray):Lp (stepZ l s k cnt nm).2.op:=by
 unfold stepZ
 split
 ·exact h
 ·have h2:Lp (if k=0 then s.op else leaveR l s.op):=by
   split
   ·exact h
   ·exact lp_leave h
  generalize (if k=0 then s.op else leaveR l s.op)=q at h2
  cases q with
  | nil=>exact h
  | cons x r =>
   simp only
   split
   ·exact h
   ·split
    ·split
     ·exact h
     ·exact lp_head h2 rfl
    ·split
     ·exact h
     ·split
      ·exact lp_head h2 rfl
      ·split
       ·exact h
       ·split
        ·exact h
        ·show Lp ((if 0<cnt then _ else [])++_)
         split
         ·exact lp_cons (lp_head h2 rfl)
         ·exact lp_head h2 rfl
theorem lp_new:Lp newZ.op:=fun y hy=>by
 simp[newZ] at hy
 subst hy
 rfl
theorem tie_done {a:Int} (rm:RM f s ⟨zs.reverse,g,c,a⟩) (hp:Lp s.op):doneF f.toks zs.length ⟨zs.reverse,g,c,a⟩=doneB f.toks s:=by
 obtain⟨op,ent⟩:=s
 cases op with
 | nil=>exact absurd rfl rm.ok.ne
 | cons x r=>exact done_eq rm.ok hp rm.r (by show zs.reverse.length<=_;rw[List.length_reverse];exact Nat.le_refl _)
theorem tie_ins {ys:List DL} {d:DL} {a:Int} (rm:RM f s ⟨(ys++[d]).reverse,g,c,a⟩):d.at_=insZ s:=by
 have h:=ins_eq rm.r
 unfold insD at h
 simp only[List.reverse_append,List.reverse_cons,List.reverse_nil,List.nil_append,List.cons_append] at h
 exact h
theorem tie_left {a:Int} (rm:RM f s ⟨zs.reverse,g,c,a⟩):lfD zs g c=lfZ s:=by
 have h:=congrArg (List.map Int.toNat) (left_eq rm.r)
 unfold leftD leftZ at h
 unfold lfD lfZ
 simp only[List.reverse_reverse,List.map_append,List.map_drop,List.map_map] at h ⊢
 refine Eq.trans ?_ (h.trans ?_)
 ·congr 1
  split<;>rfl
 ·rfl
theorem same_any (hz:chkZ f=none) (hM:Mk f lo hi w a s U) (hD:DS w b go cap f pp cp zs g c al) (tl:TkL w pp w.heap.size f.toks) (rm:RM f s ⟨zs.reverse,g,c,al⟩) (hp:Lp s.op) :
  Calls Tryz.prog 11 #[.pointer (some ⟨a,0,none⟩),.pointer (some ⟨b,0,none⟩)] w fun r w'=>r = .returned (.bool true)/\Below w.heap.size w w':=by
 obtain⟨B,hB⟩:∃ B,doneB f.toks s=B:=⟨_,rfl⟩
 obtain⟨I,hI⟩:∃ I,insZ s=I:=⟨_,rfl⟩
 obtain⟨L,hL⟩:∃ L,lfZ s=L:=⟨_,rfl⟩
 have hLl:L.length<=1000000:=by have:=lfZ_le hM.ok;rw[hL] at this;omega
 have z1:=hD.z1
 have hne:zs≠[]:=fun e=>by rw[e] at z1;simp at z1
 obtain⟨hlv,-,-,hct,-⟩:=rm.lv hz
 have C1:Hid (∀ W,Below w.heap.size w W->Calls Tryz.prog 17 #[.pointer (some ⟨a,0,none⟩)] W fun e w'=>e = .returned (.bool B)/\Hid (Below w.heap.size w w')):=⟨fun W hW=>(Done_mk (hM.below hW)).mono fun e w' h=>⟨by rw[<- hB];exact h.1,⟨hW.trans (h.2.mono hW.size)⟩⟩⟩
 have C2:Hid (∀ W,Below w.heap.size w W->Calls Tryz.prog 29 #[.pointer (some ⟨b,0,none⟩)] W fun e w'=>e = .returned (.bool B)/\Hid (Below w.heap.size w w')):=⟨fun W hW=>(dDone_any hz (hD.below hW) ((tl.below hW).mono hW.size) rm (bgn_0 hz)).mono fun e w' h=>⟨by rw[<- hB,<- tie_done rm hp];exact h.1,⟨hW.trans (h.2.mono hW.size)⟩⟩⟩
 have C3:Hid (∀ W,Below w.heap.size w W->Calls Tryz.prog 20 #[.pointer (some ⟨a,0,none⟩)] W fun e w'=>e = .returned (.int .i64 (I:Int))/\Hid (Below w.heap.size w w')):=⟨fun W hW=>(Inside_mk (hM.below hW)).mono fun e w' h=>⟨by rw[<- hI];exact h.1,⟨hW.trans (h.2.mono hW.size)⟩⟩⟩
 have C4:Hid (∀ W,Below w.heap.size w W->Calls Tryz.prog 30 #[.pointer (some ⟨b,0,none⟩)] W fun e w'=>e = .returned (.int .i64 (I:Int))/\Hid (Below w.heap.size w w')):=⟨fun W hW=>by
  obtain⟨ys,d,rfl⟩:∃ ys d,zs=ys++[d]:=⟨zs.dropLast,zs.getLast hne,(List.dropLast_concat_getLast hne).symm⟩
  exact(dInside_any (hD.below hW)).mono fun e w' h=>⟨by rw[<- hI,<- tie_ins rm];exact h.1,⟨hW.trans (h.2.mono hW.size)⟩⟩⟩
 have C5:Hid (∀ W,Below w.heap.size w W->Calls Tryz.prog 19 #[.pointer (some ⟨a,0,none⟩)] W fun e w'=>∃ p1 c1,e = .returned (.slice p1 L.length c1)/\Hid (NSl w' p1 L/\Below w.heap.size w w')):=⟨fun W hW=>(Left_mk (hM.below hW)).mono fun e w' h=>by
  obtain⟨v,rfl,h2,h3⟩:=h
  rw[hL] at h2
  obtain⟨p1,c1,rfl,h4⟩:=h2.sl
  exact⟨p1,c1,rfl,⟨h4,hW.trans (h3.mono hW.size)⟩⟩⟩
 have C6:Hid (∀ W p1,Below w.heap.size w W->NSl W p1 L->Calls Tryz.prog 31 #[.pointer (some ⟨b,0,none⟩)] W fun e w'=>∃ p2 c2,e = .returned (.slice p2 L.length c2)/\Hid (NSl w' p1 L/\NSl w' p2 L/\Below w.heap.size w w')):=⟨fun W p1 hW hr=>by
  have hDW:=hD.below hW
  obtain⟨d0,ds,rfl⟩:∃ d0 ds,zs=d0::ds:=by
   cases zs with
   | nil=>exact absurd rfl hne
   | cons d0 ds=>exact⟨d0,ds,rfl⟩
  refine(dLeft_any hDW (fun d hd=>(hlv d (by show d∈(d0::ds).reverse;simp[hd])).l0) (fun e=>by have h:1<=c:=(hct e).1;omega)).mono fun e w' h=>?_
  obtain⟨v,rfl,h2,h3⟩:=h
  rw[tie_left rm,hL] at h2
  obtain⟨p2,c2,rfl,h4⟩:=h2.sl
  exact⟨p2,c2,rfl,⟨hr.below h3,h4,hW.trans (h3.mono hW.size)⟩⟩⟩
 have C7:Hid (∀ W p1 p2 c1 c2,NSl W p1 L->NSl W p2 L->Below w.heap.size w W->Calls Tryz.prog 18 #[.slice p1 L.length c1,.slice p2 L.length c2] W fun e w'=>e = .returned (.bool true)/\Hid (Below w.heap.size w w')):=⟨fun W p1 p2 c1 c2 h1 h2 hW=>(sameInts_any L L p1 p2 c1 c2 W h1 h2 hLl).mono fun e w' h=>⟨by rw[h.1];simp,⟨hW.trans (h.2.mono hW.size)⟩⟩⟩
 have D1:=C1.out w (Below.refl _ _)
 clear hM hD tl rm hp hB hI hL hLl z1 hne hlv hct C1
 go_enter Tryz.func11,Tryz.ntmps11
 go_wp2_with (first
  | (go_at_call 17;refine D1.mono ?_;rintro _ w1 ⟨rfl,b1⟩;have D2:=C2.out w1 b1.out)
  | (go_at_call 29;refine D2.mono ?_;rintro _ w2 ⟨rfl,b2⟩;have D3:=C3.out w2 b2.out)
  | (go_at_call 20;refine D3.mono ?_;rintro _ w3 ⟨rfl,b3⟩;have D4:=C4.out w3 b3.out)
  | (go_at_call 30;refine D4.mono ?_;rintro _ w4 ⟨rfl,b4⟩;have D5:=C5.out w4 b4.out)
  | (go_at_call 19;refine D5.mono ?_;rintro _ w5 ⟨p1,c1,rfl,b5⟩;have D6:=C6.out w5 p1 b5.out.2 b5.out.1)
  | (go_at_call 31;refine D6.mono ?_;rintro _ w6 ⟨p2,c2,rfl,b6⟩;have D7:=C7.out w6 p1 p2 c1 c2 b6.out.1 b6.out.2.1 b6.out.2.2)
  | (go_at_call 18;refine D7.mono ?_;rintro _ w7 ⟨rfl,b7⟩))
 go_ret
 exact⟨rfl,b7.out⟩
structure Tw (f:Fm) (pp:Option Addr) (cp lo hi:Nat) (W:World) (a b:Nat) (s:Ms) (U V:Nat->Prop):Prop where
 m:Mk f lo hi W a s U
 d:∃ go cap zs g c al,DS W b go cap f pp cp zs g c al/\RM f s ⟨zs.reverse,g,c,al⟩/\V go
 vb:V b
 vl:∀ k,V k->k<W.heap.size
 vp:∀ k,V k->k<lo\/hi<=k
 uv:∀ k,U k->¬ V k
 lp:Lp s.op
theorem Tw.frm {X:Nat->Prop} (h:Tw f pp cp lo hi W a b s U V) (hx:Frm X W W') (h1:∀ k,U k->¬ X k) (h2:∀ k,V k->¬ X k) (h3:∀ k,X k->k<lo\/hi<=k):Tw f pp cp lo hi W' a b s U V:=by
 obtain⟨go,cap,zs,g,c,al,d1,d2,d3⟩:=h.d
 exact⟨h.m.frm hx h1 h3,⟨go,cap,zs,g,c,al,d1.same (hx.block _ (h.vl _ h.vb) (h2 _ h.vb)) (hx.block _ (h.vl _ d3) (h2 _ d3)),d2,d3⟩,h.vb,fun k hk=>Nat.lt_of_lt_of_le (h.vl k hk) hx.size,h.vp,h.uv,h.lp⟩
theorem Tw.below (h:Tw f pp cp lo hi W a b s U V) (hb:Below W.heap.size W W'):Tw f pp cp lo hi W' a b s U V :=
 h.frm (X:=fun _=>False) (Frm.of_below hb) (fun _ _ h=>h) (fun _ _ h=>h) (fun _ h=>h.elim)
theorem Tw.same (hz:chkZ f=none) (h:Tw f pp cp lo hi W a b s U V) (tl:TkL W pp W.heap.size f.toks) :
  Calls Tryz.prog 11 #[.pointer (some ⟨a,0,none⟩),.pointer (some ⟨b,0,none⟩)] W fun r w'=>r = .returned (.bool true)/\Tw f pp cp lo hi w' a b s U V/\Below W.heap.size W w':=by
 obtain⟨go,cap,zs,g,c,al,d1,d2,d3⟩:=h.d
 exact(same_any hz h.m d1 tl d2 h.lp).mono fun r w' hP=>⟨hP.1,h.below hP.2,hP.2⟩
theorem tw_of (hM:Mk f lo hi W a s U) (hD:DS W b go cap f pp cp zs g c al) (rm:RM f s ⟨zs.reverse,g,c,al⟩) (hp:Lp s.op) (hb:¬ U b) (hg:¬ U go) (ob:b<lo\/hi<=b) (og:go<lo\/hi<=go):Tw f pp cp lo hi W a b s U (fun k=>k=b\/k=go) :=
 ⟨hM,⟨go,cap,zs,g,c,al,hD,rm,.inr rfl⟩,.inl rfl,fun k hk=>by rcases hk with rfl|rfl;exact hD.lt.1;exact hD.lt.2,fun k hk=>by rcases hk with rfl|rfl;exact ob;exact og,fun k hu hk=>by rcases hk with rfl|rfl;exact hb hu;exact hg hu,hp⟩
theorem tw_new (hz:chkZ f=none) (hM:Mk f lo hi W a newZ U) (hU:∀ k,U k->B<=k) (hlo:B<=lo) (hD:DS W b go cap f pp cp [⟨0,0,0,true⟩] 0 0 0) (hb:b<B) (hg:go<B):Tw f pp cp lo hi W a b newZ U (fun k=>k=b\/k=go) :=
 tw_of hM hD (rm_new hz) lp_new (fun h=>by have:=hU _ h;omega) (fun h=>by have:=hU _ h;omega) (.inl (by omega)) (.inl (by omega))
structure Tm (f:Fm) (pp:Option Addr) (cp lo hi:Nat) (W:World) (a b:Nat) (s s':Ms) (U V:Nat->Prop):Prop where
 m:Mk f lo hi W a s' U
 d:∃ go cap zs g c al,DS W b go cap f pp cp zs g c al/\RM f s ⟨zs.reverse,g,c,al⟩/\V go
 vb:V b
 vl:∀ k,V k->k<W.heap.size
 vp:∀ k,V k->k<lo\/hi<=k
 uv:∀ k,U k->¬ V k
 lp:Lp s'.op
theorem Tw.step1 (hz:chkZ f=none) (hl:f.toks.length<=733007751850) (h:Tw f pp cp lo hi W a b s U V) (c:Cl) (hco:i64ok c.cnt) (hnm:c.nm.size<=maxLen) :
  Calls Tryz.prog 9 #[.pointer (some ⟨a,0,none⟩),caV c] W fun r w'=>r = .returned (.int .i64 (stepZ f.toks s c.k c.cnt c.nm).1)/\Tm f pp cp lo hi w' a b s (stepZ f.toks s c.k c.cnt c.nm).2 (grw U W w') V/\Frm U W w':=by
 refine(Step_mk f hz hl lo hi a s U c W h.m hco hnm).mono ?_
 rintro r w' ⟨rfl,q1,q2⟩
 obtain⟨go,cap,zs,g,c2,al,d1,d2,d3⟩:=h.d
 refine⟨rfl,⟨q1,⟨go,cap,zs,g,c2,al,d1.same (q2.block _ (h.vl _ h.vb) (fun hu=>h.uv _ hu h.vb)) (q2.block _ (h.vl _ d3) (fun hu=>h.uv _ hu d3)),d2,d3⟩,h.vb,fun k hk=>Nat.lt_of_lt_of_le (h.vl k hk) q2.size,h.vp,fun k hk hv=>?_,lp_step h.lp _ _ _⟩,q2⟩
 rcases hk with hk|hk
 ·exact h.uv k hk hv
 ·have:=h.vl k hv
  omega
theorem Tm.step2 (hz:chkZ f=none) (c:Cl) (h:Tm f pp cp lo hi W a b s (stepZ f.toks s c.k c.cnt c.nm).2 U V) (tl:TkL W pp W.heap.size f.toks) (hco:i64ok c.cnt) :
  Calls Tryz.prog 10 #[.pointer (some ⟨b,0,none⟩),caV c] W fun r w'=>r = .returned (.int .i64 (stepZ f.toks s c.k c.cnt c.nm).1)/\Tw f pp cp lo hi w' a b (stepZ f.toks s c.k c.cnt c.nm).2 U (grw V W w')/\Frm V W w':=by
 obtain⟨go,cap,zs,g,c2,al,d1,d2,d3⟩:=h.d
 have hhi:=h.m.hi_lt
 refine(dStep_any hz d1 tl d2 c hco).mono ?_
 have e1:=(stepD_eq hz d2.ok d2.i d2.r c.k c.cnt c.nm).1
 have r2:=d2.step hz c.k c.cnt c.nm
 rintro r w' ⟨rfl,⟨go',cap',q1,q2⟩,q3⟩
 have hf:Frm V W w':=Frm.of_kb q3 fun k hk=>by simp at hk;subst hk;exact h.vb
 refine⟨by rw[e1],⟨h.m.frm hf h.uv h.vp,⟨go',cap',_,_,_,_,q1,by rw[List.reverse_reverse];exact r2,?_⟩,.inl h.vb,fun k hk=>?_,fun k hk=>?_,fun k hk hv=>?_,h.lp⟩,hf⟩
 ·rcases q2 with rfl|q2
  ·exact .inl d3
  ·exact .inr ⟨q2,q1.lt.2⟩
 ·rcases hk with hk|hk
  ·exact Nat.lt_of_lt_of_le (h.vl k hk) hf.size
  ·exact hk.2
 ·rcases hk with hk|hk
  ·exact h.vp k hk
  ·exact .inr (by omega)
 ·rcases hv with hv|hv
  ·exact h.uv k hk hv
  ·have:=h.m.lt k hk
   omega
def RsP (f:Fm) (pp:Option Addr) (cp lo hi:Nat) (X:World) (n:Option (Nat×Ms)) (b2:Nat) (S:Nat->Prop):Prop :=
 match n with
 | none=>X.heap[b2]?=some zM/\S b2
 | some (a2,s2)=>∃ U V,Tw f pp cp lo hi X a2 b2 s2 U V/\∀ k,U k\/V k->S k
theorem RsP.frm {n:Option (Nat×Ms)} (h:RsP f pp cp lo hi X n b2 S) (hl:∀ k,S k->k<X.heap.size) (hx:Frm Z X X') (h1:∀ k,S k->¬ Z k) (h3:∀ k,Z k->k<lo\/hi<=k):RsP f pp cp lo hi X' n b2 S:=by
 cases n with
 | none=>exact⟨(hx.block _ (hl _ h.2) (h1 _ h.2)).trans h.1,h.2⟩
 | some q =>
  obtain⟨a2,s2⟩:=q
  obtain⟨U,V,t,d⟩:=h
  exact⟨U,V,t.frm hx (fun k hk=>h1 k (d k (.inl hk))) (fun k hk=>h1 k (d k (.inr hk))) h3,d⟩
def Bkp (X:World) (q:Option (Nat×Obj)) (b2:Nat) (S:Nat->Prop):Prop:=∀ e o,q=some (e,o)->S e/\e≠b2/\X.heap[e]?=some o
theorem Bkp.frm (h:Bkp X q b2 S) (hl:∀ k,S k->k<X.heap.size) (hx:Frm Z X X') (h1:∀ k,S k->¬ Z k):Bkp X' q b2 S:=fun e o he=>by
 obtain⟨g1,g2,g3⟩:=h e o he
 exact⟨g1,g2,(hx.block _ (hl _ g1) (h1 _ g1)).trans g3⟩
structure Sta (f:Fm) (pp:Option Addr) (cp lo hi:Nat) (w X:World) (a b:Nat) (s:Ms) (n:Option (Nat×Ms)) (b2:Nat) (q:Option (Nat×Obj)):Prop where
 t:∃ U V S,Tw f pp cp lo hi X a b s U V/\RsP f pp cp lo hi X n b2 S/\Bkp X q b2 S/\(∀ k,U k\/V k->¬ S k)/\(∀ k,U k\/V k\/S k->w.heap.size<=k)/\∀ k,S k->k<X.heap.size/\(k<lo\/hi<=k)
 b:Below w.heap.size w X
structure Stm (f:Fm) (pp:Option Addr) (cp lo hi:Nat) (w X:World) (a b:Nat) (s s':Ms) (n:Option (Nat×Ms)) (b2:Nat) (q:Option (Nat×Obj)):Prop where
 t:∃ U V S,Tm f pp cp lo hi X a b s s' U V/\RsP f pp cp lo hi X n b2 S/\Bkp X q b2 S/\(∀ k,U k\/V k->¬ S k)/\(∀ k,U k\/V k\/S k->w.heap.size<=k)/\∀ k,S k->k<X.heap.size/\(k<lo\/hi<=k)
 b:Below w.heap.size w X
section
variable {f:Fm} {pp:Option Addr} {cp lo hi:Nat} {w X X':World} {a b:Nat} {s s':Ms} {n:Option (Nat×Ms)} {b2:Nat} {q:Option (Nat×Obj)}
theorem Sta.blk (h:Sta f pp cp lo hi w X a b s n b2 (some (e,o))):X.heap[e]?=some o:=by
 obtain⟨U,V,S,t,r,p,-⟩:=h.t
 exact(p e o rfl).2.2
theorem Stm.blk (h:Stm f pp cp lo hi w X a b s s' n b2 (some (e,o))):X.heap[e]?=some o:=by
 obtain⟨U,V,S,t,r,p,-⟩:=h.t
 exact(p e o rfl).2.2
theorem Sta.loose (h:Sta f pp cp lo hi w X a b s n b2 q):Sta f pp cp lo hi w X a b s n b2 none:=by
 obtain⟨U,V,S,t,r,p,d,g,l⟩:=h.t
 exact⟨⟨U,V,S,t,r,(fun _ _ h=>by cases h),d,g,l⟩,h.b⟩
theorem Sta.below (h:Sta f pp cp lo hi w X a b s n b2 q) (hb:Below X.heap.size X X'):Sta f pp cp lo hi w X' a b s n b2 q:=by
 obtain⟨U,V,S,t,r,p,d,g,l⟩:=h.t
 have hF:Frm (fun _=>False) X X':=Frm.of_below hb
 exact⟨⟨U,V,S,t.below hb,r.frm (fun k hk=>(l k hk).1) hF (fun _ _ h=>h) (fun _ h=>h.elim),p.frm (fun k hk=>(l k hk).1) hF (fun _ _ h=>h),d,g,fun k hk=>⟨Nat.lt_of_lt_of_le (l k hk).1 hb.size,(l k hk).2⟩⟩,h.b.trans (hb.mono h.b.size)⟩
theorem Sta.mark (h:Sta f pp cp lo hi w X a b s n b2 none) (o:Obj) (hb2:b2<X.heap.size):Sta f pp cp lo hi w (X.alloc o) a b s n b2 (some (X.heap.size,o)):=by
 have h':=h.below (bel1 X o)
 obtain⟨U,V,S,t,r,p,d,g,l⟩:=h.t
 have hF:Frm (fun _=>False) X (X.alloc o):=Frm.of_below (bel1 X o)
 have hhi:=t.m.hi_lt
 have hes:(X.alloc o).heap.size=X.heap.size+1:=World.size_alloc _ _
 have r':=r.frm (fun k hk=>(l k hk).1) hF (fun _ _ h=>h) (fun _ h=>h.elim)
 refine⟨⟨U,V,fun k=>S k\/k=X.heap.size,t.below (bel1 X o),?_,fun e o' he=>?_,fun k hk hs=>?_,fun k hk=>?_,fun k hk=>?_⟩,h'.b⟩
 ·cases n with
  | none=>exact⟨r'.1,.inl r'.2⟩
  | some q =>
   obtain⟨a2,s2⟩:=q
   obtain⟨U2,V2,t2,d2⟩:=r'
   exact⟨U2,V2,t2,fun k hk=>.inl (d2 k hk)⟩
 ·cases he
  exact⟨.inr rfl,by omega,heap_al _ _⟩
 ·rcases hs with hs|hs
  ·exact d k hk hs
  ·rcases hk with hk|hk
   ·have:=t.m.lt k hk;omega
   ·have:=t.vl k hk;omega
 ·rcases hk with hk|hk|hk|hk
  ·exact g k (.inl hk)
  ·exact g k (.inr (.inl hk))
  ·exact g k (.inr (.inr hk))
  ·have:=h.b.size;omega
 ·rcases hk with hk|hk
  ·exact⟨by have:=(l k hk).1;omega,(l k hk).2⟩
  ·exact⟨by omega,.inr (by omega)⟩
theorem Sta.same (hz:chkZ f=none) (tl:TkL w pp w.heap.size f.toks) (h:Sta f pp cp lo hi w X a b s n b2 q) :
  Calls Tryz.prog 11 #[.pointer (some ⟨a,0,none⟩),.pointer (some ⟨b,0,none⟩)] X fun r w'=>r = .returned (.bool true)/\Sta f pp cp lo hi w w' a b s n b2 q:=by
 obtain⟨U,V,S,t,-⟩:=h.t
 exact(t.same hz ((tl.below h.b).mono h.b.size)).mono fun r w' hP=>⟨hP.1,h.below hP.2.2⟩
theorem Sta.step1 (hz:chkZ f=none) (hl:f.toks.length<=733007751850) (h:Sta f pp cp lo hi w X a b s n b2 q) (c:Cl) (hco:i64ok c.cnt) (hnm:c.nm.size<=maxLen) :
  Calls Tryz.prog 9 #[.pointer (some ⟨a,0,none⟩),caV c] X fun r w'=>r = .returned (.int .i64 (stepZ f.toks s c.k c.cnt c.nm).1)/\Stm f pp cp lo hi w w' a b s (stepZ f.toks s c.k c.cnt c.nm).2 n b2 q:=by
 obtain⟨U,V,S,t,r,p,d,g,l⟩:=h.t
 refine(t.step1 hz hl c hco hnm).mono fun e w' hP=>?_
 obtain⟨h1,h2,h3⟩:=hP
 have hnp:∀ k,U k->k<lo\/hi<=k:=t.m.np
 refine⟨h1,⟨grw U X w',V,S,h2,r.frm (fun k hk=>(l k hk).1) h3 (fun k hs hu=>d k (.inl hu) hs) hnp,p.frm (fun k hk=>(l k hk).1) h3 (fun k hs hu=>d k (.inl hu) hs),fun k hk hs=>?_,fun k hk=>?_,fun k hk=>⟨Nat.lt_of_lt_of_le (l k hk).1 h3.size,(l k hk).2⟩⟩,h.b.trans (h3.below (fun k hk=>g k (.inl hk)) h.b.size)⟩
 ·rcases hk with (hk|hk)|hk
  ·exact d k (.inl hk) hs
  ·have:=(l k hs).1
   omega
  ·exact d k (.inr hk) hs
 ·rcases hk with (hk|hk)|hk|hk
  ·exact g k (.inl hk)
  ·have:=h.b.size
   omega
  ·exact g k (.inr (.inl hk))
  ·exact g k (.inr (.inr hk))
theorem Stm.step2 (hz:chkZ f=none) (tl:TkL w pp w.heap.size f.toks) (c:Cl) (h:Stm f pp cp lo hi w X a b s (stepZ f.toks s c.k c.cnt c.nm).2 n b2 q) (hco:i64ok c.cnt) :
  Calls Tryz.prog 10 #[.pointer (some ⟨b,0,none⟩),caV c] X fun r w'=>r = .returned (.int .i64 (stepZ f.toks s c.k c.cnt c.nm).1)/\Sta f pp cp lo hi w w' a b (stepZ f.toks s c.k c.cnt c.nm).2 n b2 q:=by
 obtain⟨U,V,S,t,r,p,d,g,l⟩:=h.t
 refine(Tm.step2 hz c t ((tl.below h.b).mono h.b.size) hco).mono fun e w' hP=>?_
 obtain⟨h1,h2,h3⟩:=hP
 refine⟨h1,⟨U,grw V X w',S,h2,r.frm (fun k hk=>(l k hk).1) h3 (fun k hs hu=>d k (.inr hu) hs) t.vp,p.frm (fun k hk=>(l k hk).1) h3 (fun k hs hu=>d k (.inr hu) hs),fun k hk hs=>?_,fun k hk=>?_,fun k hk=>⟨Nat.lt_of_lt_of_le (l k hk).1 h3.size,(l k hk).2⟩⟩,h.b.trans (h3.below (fun k hk=>g k (.inr (.inl hk))) h.b.size)⟩
 ·rcases hk with hk|hk|hk
  ·exact d k (.inl hk) hs
  ·exact d k (.inr hk) hs
  ·have:=(l k hs).1
   omega
 ·rcases hk with hk|(hk|hk)|hk
  ·exact g k (.inl hk)
  ·exact g k (.inr (.inl hk))
  ·have:=h.b.size
   omega
  ·exact g k (.inr (.inr hk))
theorem Sta.swap {s2:Ms} (h:Sta f pp cp lo hi w X a b s (some (a2,s2)) b2 none):Sta f pp cp lo hi w X a2 b2 s2 (some (a,s)) b none:=by
 obtain⟨U,V,S,t,⟨U2,V2,t2,e⟩,p,d,g,l⟩:=h.t
 refine⟨⟨U2,V2,fun k=>U k\/V k,t2,⟨U,V,t,fun _ h=>h⟩,(fun _ _ h=>by cases h),fun k hk hs=>d k hs (e k hk),fun k hk=>?_,fun k hk=>?_⟩,h.b⟩
 ·rcases hk with hk|hk|hk|hk
  ·exact g k (.inr (.inr (e k (.inl hk))))
  ·exact g k (.inr (.inr (e k (.inr hk))))
  ·exact g k (.inl hk)
  ·exact g k (.inr (.inl hk))
 ·rcases hk with hk|hk
  ·exact⟨t.m.lt k hk,t.m.np k hk⟩
  ·exact⟨t.vl k hk,t.vp k hk⟩
theorem Sta.b2lt (h:Sta f pp cp lo hi w X a b s n b2 q):b2<X.heap.size:=by
 obtain⟨U,V,S,t,r,p,d,g,l⟩:=h.t
 cases n with
 | none=>exact(l b2 r.2).1
 | some y =>
  obtain⟨a2,s2⟩:=y
  obtain⟨U2,V2,t2,e⟩:=r
  exact t2.vl _ t2.vb
end
structure Stc (f:Fm) (pp:Option Addr) (cp lo hi:Nat) (w X:World) (a b:Nat) (s:Ms) (b2 a2:Nat) (q:Option (Nat×Obj)):Prop where
 t:∃ U V S U2,Tw f pp cp lo hi X a b s U V/\RsP f pp cp lo hi X none b2 S/\Bkp X q b2 S/\(∀ k,U k\/V k->¬ S k)/\(∀ k,U k\/V k\/S k->w.heap.size<=k)/\(∀ k,S k->k<X.heap.size/\(k<lo\/hi<=k))/\Mk f lo hi X a2 s U2/\(∀ k,U2 k->¬ (U k\/V k\/S k))/\∀ k,U2 k->w.heap.size<=k
 b:Below w.heap.size w X
theorem Sta.copy1 (h:Sta f pp cp lo hi w X a b s none b2 q) :
  Calls Tryz.prog 7 #[.pointer (some ⟨a,0,none⟩)] X fun r w'=>∃ a2,r = .returned (.pointer (some ⟨a2,0,none⟩))/\Stc f pp cp lo hi w w' a b s b2 a2 q:=by
 obtain⟨U,V,S,t,r,p,d,g,l⟩:=h.t
 refine(Copy_mk t.m).mono fun e w' hP=>?_
 obtain⟨a2,U2,rfl,q1,q2,q3⟩:=hP
 have hF:Frm (fun _=>False) X w':=Frm.of_below q3
 have hbs:=h.b.size
 refine⟨a2,rfl,⟨U,V,S,U2,t.below q3,r.frm (fun k hk=>(l k hk).1) hF (fun _ _ h=>h) (fun _ h=>h.elim),p.frm (fun k hk=>(l k hk).1) hF (fun _ _ h=>h),d,g,fun k hk=>⟨Nat.lt_of_lt_of_le (l k hk).1 q3.size,(l k hk).2⟩,q1,fun k hu hk=>?_,fun k hu=>?_⟩,h.b.trans (q3.mono h.b.size)⟩
 ·have h1:=q2 k hu
  rcases hk with hk|hk|hk
  ·have:=t.m.lt k hk;omega
  ·have:=t.vl k hk;omega
  ·have:=(l k hk).1;omega
 ·have:=q2 k hu;omega
theorem Stc.copy2 (h:Stc f pp cp lo hi w X a b s b2 a2 q) :
  Calls Tryz.prog 8 #[.pointer (some ⟨b,0,none⟩)] X fun r w'=>∃ (go cap nz:Nat) (g:Nat) (c al:Int),r = .returned (dmV f pp cp (.slice (some ⟨go,0,none⟩) nz cap) (g:Int) c al)/\Hid (w'.heap[b2]?=some zM/\Sta f pp cp lo hi w (w'.setRow b2 (dmA f pp cp (.slice (some ⟨go,0,none⟩) nz cap) (g:Int) c al)) a b s (some (a2,s)) b2 q):=by
 obtain⟨U,V,S,U2,t,r,p,d,g,l,m2,n2,g2⟩:=h.t
 obtain⟨go,cap,zs,gg,c,al,d1,d2,d3⟩:=t.d
 refine(dCopy_any d1).mono fun e w' hP=>?_
 obtain⟨go',cap',rfl,q1⟩:=hP
 have hb2:=(l b2 r.2).1
 have p2:=(l b2 r.2).2
 have l2:=g b2 (.inr (.inr r.2))
 have hge:=q1.ge
 have hgo:=q1.o.lt
 have hhi:=t.m.hi_lt
 have hz:w'.heap[b2]?=some zM:=(q1.b.block _ hb2).trans r.1
 refine⟨go',cap',zs.length,gg,c,al,rfl,⟨hz,?_⟩⟩
 have hF:Frm (fun k=>k=b2) w' (w'.setRow b2 (dmA f pp cp (.slice (some ⟨go',0,none⟩) zs.length cap') gg c al)):=⟨rfl,rfl,rfl,by rw[size_setRow];exact Nat.le_refl _,fun k _ hk=>setRow_other _ _ _ _ hk⟩
 have hS:(w'.setRow b2 (dmA f pp cp (.slice (some ⟨go',0,none⟩) zs.length cap') gg c al)).heap[b2]?=some (dmO f pp cp (.slice (some ⟨go',0,none⟩) zs.length cap') gg c al):=setRow_heap _ _ _ _ _ _ hz
 have hbs:=q1.b.size
 have nb2:¬ U2 b2:=fun hu=>n2 b2 hu (.inr (.inr r.2))
 have m3:Mk f lo hi (w'.setRow b2 (dmA f pp cp (.slice (some ⟨go',0,none⟩) zs.length cap') gg c al)) a2 s U2:=(m2.below q1.b).frm hF (fun k hk e=>nb2 (e▸hk)) (fun k hk=>hk▸p2)
 have t3:=(t.below q1.b).frm hF (fun k hk e=>d k (.inl hk) (e▸r.2)) (fun k hk e=>d k (.inr hk) (e▸r.2)) (fun k hk=>hk▸p2)
 have hD:DS (w'.setRow b2 (dmA f pp cp (.slice (some ⟨go',0,none⟩) zs.length cap') gg c al)) b2 go' cap' f pp cp zs gg c al:=⟨hS,q1.o.same (setRow_other _ _ _ _ (by omega)),by omega,d1.zl,d1.z1⟩
 have t4:=tw_of m3 hD d2 t.lp nb2 (fun hu=>by have:=m2.lt _ hu;omega) p2 (.inr (by omega))
 have hF0:Frm (fun _=>False) X w':=Frm.of_below q1.b
 have p0:=p.frm (fun k hk=>(l k hk).1) hF0 (fun _ _ h=>h)
 refine⟨⟨U,V,fun k=>S k\/U2 k\/k=go',t3,⟨U2,_,t4,fun k hk=>?_⟩,fun e o he=>?_,fun k hk hs=>?_,fun k hk=>?_,fun k hk=>?_⟩,(h.b.trans (q1.b.mono h.b.size)).trans (hF.below (fun k hk=>hk▸l2) (Nat.le_trans h.b.size hbs))⟩
 ·rcases hk with hk|hk|hk
  ·exact .inr (.inl hk)
  ·exact .inl (hk▸r.2)
  ·exact .inr (.inr hk)
 ·obtain⟨e1,e2,e3⟩:=p0 e o he
  exact⟨.inl e1,e2,(setRow_other _ _ _ _ e2).trans e3⟩
 ·rcases hs with hs|hs|hs
  ·exact d k hk hs
  ·exact n2 k hs (by rcases hk with hk|hk;exact .inl hk;exact .inr (.inl hk))
  ·rcases hk with hk|hk
   ·have:=t.m.lt k hk;omega
   ·have:=t.vl k hk;omega
 ·rcases hk with hk|hk|hk|hk|hk
  ·exact g k (.inl hk)
  ·exact g k (.inr (.inl hk))
  ·exact g k (.inr (.inr hk))
  ·exact g2 k hk
  ·have:=h.b.size;omega
 ·rw[size_setRow]
  rcases hk with hk|hk|hk
  ·exact⟨Nat.lt_of_lt_of_le (l k hk).1 hbs,(l k hk).2⟩
  ·exact⟨Nat.lt_of_lt_of_le (m2.lt k hk) hbs,m2.np k hk⟩
  ·exact⟨by omega,.inr (by omega)⟩
theorem sta_new (hz:chkZ f=none) (hM:Mk f lo hi W a newZ U) (hU:∀ k,U k->B<=k) (hlo:B<=lo) (hD:DS W b go cap f pp cp [⟨0,0,0,true⟩] 0 0 0) (hb:b<B) (hg:go<B) (hwb:w.heap.size<=b) (hwg:w.heap.size<=go) (hB:Below w.heap.size w W):Sta f pp cp lo hi w (W.alloc zM) a b newZ none W.heap.size none:=by
 have t:=tw_new hz hM hU hlo hD hb hg
 have hhi:=hM.hi_lt
 have hbW:=bel1 W zM
 refine⟨⟨U,_,fun k=>k=W.heap.size,t.below hbW,⟨heap_al _ _,rfl⟩,(fun _ _ h=>by cases h),fun k hk e=>?_,fun k hk=>?_,fun k hk=>⟨by rw[World.size_alloc];omega,.inr (by omega)⟩⟩,hB.trans (hbW.mono hB.size)⟩
 ·rcases hk with hk|hk
  ·have:=hM.lt k hk;omega
  ·have:=t.vl k hk;omega
 ·rcases hk with hk|hk|hk
  ·have:=hU k hk;omega
  ·rcases hk with rfl|rfl
   ·exact hwb
   ·exact hwg
  ·have:=hB.size;omega
end Go.Proofs.YtbhmciieiilcfaaGreatDoor
