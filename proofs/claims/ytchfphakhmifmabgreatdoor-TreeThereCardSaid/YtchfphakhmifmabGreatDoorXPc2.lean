import Derived.Test.YtchfphakhmifmabGreatDoorXFn
import Derived.Laws.EntriesVeiled
namespace Go.Proofs.YtchfphakhmifmabGreatDoor
set_option maxRecDepth 1000000
set_option maxHeartbeats 16000000
open Go.ChangeShapes Go.WideShapes Go.ChangeAt Go.RowKit Go.Shelf Go.Lib
theorem catch_idle (p:Addr) (w:World) :
  CallsD Tryz.prog 89 #[.pointer (some p)] .returning w fun e u' w'=>e = .returned (.tuple #[]) ∧ u' = .returning ∧ w' = w:=by
 refine callsD_of_wpS Tryz.func89 rfl fun c₀ cs hu=>?_
 apply wpS_seq
 apply wpS_region
 simp [wpOpsS,go_sem,recoverD,hu,Tryz.ntmps89,Exit.thenS]
 refine wpS_of_wp ?_
 simp only [Array.replicate_succ,Array.replicate_zero,List.push_toArray,List.nil_append,List.cons_append,Array.setIfInBounds,List.size_toArray,List.length_cons,List.length_nil,Nat.reduceAdd]
 simp only [Nat.reduceLT,dite_true,List.set_toArray,List.set_cons_succ,List.set_cons_zero]
 go_wp2_with fail
 exact ⟨rfl,.returning,by cases c₀;simp_all,_,by simp [results,Tryz.results89,go_sem],rfl,rfl,rfl⟩
theorem run_assert_fault (x:Value) (w:World):(Instr.typeAssert (.iface 90 x) 20 90 false).run Tryz.prog w = .ok x w:=by
 simp [Instr.typeAssert,run_underlying Tryz.underlying90]
theorem catch_panicking (R Bx:Nat) (e p:Nat) (c8 c9:Value) (w:World) (hbx:w.cell? ⟨Bx,0,none⟩ = some (.pointer (some ⟨R,0,none⟩))) (a8:w.cell? ⟨R,8,none⟩ = some c8) (a9:w.cell? ⟨R,9,none⟩ = some c9) (fz:∀ o,w.frozen? ⟨R,o,none⟩ = false) :
  CallsD Tryz.prog 89 #[.pointer (some ⟨Bx,0,none⟩)] (.panicking [pv e p]) w fun r u' w'=>r = .returned (.tuple #[]) ∧ u' = .panicking [{ pv e p with recovered:=true }] ∧ But R w w' ∧ w'.cell? ⟨R,8,none⟩ = some (.int .i64 (e:Int)) ∧ w'.cell? ⟨R,9,none⟩ = some (.int .i64 (p:Int)):=by
 have HB:Hid (But R w ((w.setCell ⟨R,8,none⟩ (.int .i64 (e:Int))).setCell ⟨R,9,none⟩ (.int .i64 (p:Int))).drew):=(But.set R 8 w (.int .i64 (e:Int))).trans ((But.set R 9 _ (.int .i64 (p:Int))).trans (((Mv.refl R _).drewN 1).but))
 have n89:(⟨R,8,none⟩:Addr) ≠ ⟨R,9,none⟩:=fun e=>by injection e with _ e2;exact absurd e2 (by decide)
 have n98:(⟨R,9,none⟩:Addr) ≠ ⟨R,8,none⟩:=fun e=>n89 e.symm
 have k9:(w.setCell ⟨R,8,none⟩ (.int .i64 (e:Int))).cell? ⟨R,9,none⟩ = some c9:=(World.cell?_setCell_other w _ _ _ n89).trans a9
 have H9:Hid (((w.setCell ⟨R,8,none⟩ (.int .i64 (e:Int))).setCell ⟨R,9,none⟩ (.int .i64 (p:Int))).drew.cell? ⟨R,9,none⟩ = some (.int .i64 (p:Int))):=World.cell?_setCell_same _ ⟨R,9,none⟩ _ k9
 have H8:Hid (((w.setCell ⟨R,8,none⟩ (.int .i64 (e:Int))).setCell ⟨R,9,none⟩ (.int .i64 (p:Int))).drew.cell? ⟨R,8,none⟩ = some (.int .i64 (e:Int))):=(World.cell?_setCell_other _ _ _ _ n98).trans (World.cell?_setCell_same w ⟨R,8,none⟩ _ a8)
 have b8:=fz 8
 have b9:=fz 9
 clear k9 n89 n98 fz
 have hta:=run_assert_fault
 refine callsD_of_wpS Tryz.func89 rfl fun c₀ cs hu=>?_
 apply wpS_seq
 apply wpS_region
 simp [wpOpsS,go_sem,recoverD,hu,Tryz.ntmps89,Exit.thenS]
 refine wpS_of_wp ?_
 simp only [Array.replicate_succ,Array.replicate_zero,List.push_toArray,List.nil_append,List.cons_append,Array.setIfInBounds,List.size_toArray,List.length_cons,List.length_nil,Nat.reduceAdd]
 simp only [Nat.reduceLT,dite_true,List.set_toArray,List.set_cons_succ,List.set_cons_zero]
 go_wp2_with fail
 go_region
 all_goals exact ⟨rfl,_,rfl,_,by simp [results,Tryz.results89,go_sem],rfl,rfl,HB.out,H8.out,H9.out⟩
inductive Pz where
 | bad (e p:Nat)
 | end_ (a:Nat)
 | told (nx:Option Nat) (a:Nat) (t:Tok)
def runZ (s:ByteArray):Nat → Option Nat → Nat → Pz
 | _,none,a=>.end_ a
 | 0,some _,a=>.end_ a
 | n + 1,some f,a=>match stepZ s f a with
  | .bad e p=>.bad e p
  | .go nx b (some t)=>.told nx b t
  | .go nx b none=>runZ s n nx b
def rankO:Option Nat → Nat
 | none=>0
 | some f=>rank f
def okO (s:ByteArray) (a:Nat):Option Nat → Prop
 | none=>True
 | some f=>stOk s f a
def pieceZ (s:ByteArray) (f:Option Nat) (a:Nat):Pz:=runZ s (rankO f) f a
theorem rank_pos (f:Nat):1 ≤ rank f:=by unfold rank;split;omega;split;omega;split <;> omega
theorem ent_st {s:ByteArray} {f a:Nat} (h:stOk s f a):∀ ag w,(callFunc f ag).run Tryz.prog w = .ok (.enter f ag) w:=by
 rcases h with ⟨rfl,_⟩ | ⟨_,⟨rfl,_⟩ | ⟨rfl,_⟩ | ⟨rfl,_⟩ | ⟨rfl,_⟩ | ⟨rfl,_⟩ | ⟨rfl,_⟩ | ⟨rfl,_⟩ | ⟨rfl,_⟩ | ⟨rfl,_⟩ | ⟨rfl,_⟩⟩
 ·exact enters_of Tryz.func66 (by kernel_rfl) rfl
 ·exact enters_of Tryz.func87 (by kernel_rfl) rfl
 ·exact enters_of Tryz.func88 (by kernel_rfl) rfl
 ·exact enters_of Tryz.func113 (by kernel_rfl) rfl
 ·exact enters_of Tryz.func115 (by kernel_rfl) rfl
 ·exact enters_of Tryz.func114 (by kernel_rfl) rfl
 ·exact enters_of Tryz.func116 (by kernel_rfl) rfl
 ·exact enters_of Tryz.func153 (by kernel_rfl) rfl
 ·exact enters_of Tryz.func170 (by kernel_rfl) rfl
 ·exact enters_of Tryz.func171 (by kernel_rfl) rfl
 ·exact enters_of Tryz.func172 (by kernel_rfl) rfl
abbrev zTok:Value:=.agg #[.int .i64 0,.string E0,.string E0,.int .i64 0]
def TokV (v:Nat → Value) (t:Tok):Prop:=v 3 = .int .i64 (t.k:Int) ∧ v 4 = .string t.nm ∧ v 5 = .string t.vl ∧ v 6 = .int .i64 (t.p:Int)
def RS (w:World) (R:Nat) (s:ByteArray) (f:Option Nat) (a fe fa:Nat):Prop:=∃ v,RC w R v ∧ v 0 = .string s ∧ v 1 = .int .i64 (a:Int) ∧ v 2 = fnV R f ∧ v 8 = .int .i64 (fe:Int) ∧ v 9 = .int .i64 (fa:Int) ∧ ∃ t,TokV v t
def PcPost (R:Nat) (s:ByteArray) (w:World) (fe fa:Nat) (z:Pz) (e:Ending) (w':World):Prop :=
 But R w w' ∧ match z with
  | .bad er p=>e = .returned (.tuple #[zTok,.bool false]) ∧ w'.cell? ⟨R,8,none⟩ = some (.int .i64 (er:Int)) ∧ w'.cell? ⟨R,9,none⟩ = some (.int .i64 (p:Int))
  | .end_ _=>(∃ t:Tok,e = .returned (.tuple #[t.v,.bool false])) ∧ w'.cell? ⟨R,8,none⟩ = some (.int .i64 (fe:Int)) ∧ w'.cell? ⟨R,9,none⟩ = some (.int .i64 (fa:Int))
  | .told nx a t=>e = .returned (.tuple #[t.v,.bool true]) ∧ RS w' R s nx a fe fa
theorem heap_new (w:World) (o:Obj):(w.alloc o).heap[w.heap.size]? = some o:=by
 show (w.heap.push o)[w.heap.size]? = _
 rw [Array.getElem?_push,if_pos rfl]
theorem But.high {R:Nat} {w wr:World} (h:But R w wr) {b:Nat} (hb:w.heap.size ≤ b) (o:Nat) (u:Value):But R w (wr.setCell ⟨b,o,none⟩ u) :=
 ⟨h.os,h.tape,h.output,by have:=h.size;simp [World.setCell];omega,fun k hk hn=>(Below.heap_setCell wr _ _ _ (show k ≠ b by omega)).trans (h.block k hk hn)⟩
theorem But.drew {R:Nat} {w wr:World} (h:But R w wr):But R w wr.drew:=⟨h.os,h.tape,h.output,h.size,h.block⟩
theorem RC.other {w:World} {R:Nat} {v:Nat → Value} (h:RC w R v) {b:Nat} (hb:b ≠ R) (o:Nat) (u:Value):RC (w.setCell ⟨b,o,none⟩ u) R v :=
 ⟨fun i hi=>(World.cell?_setCell_other w _ _ _ (fun e=>hb (by injection e))).trans (h.c i hi),fun i=>by rw [World.frozen?_setCell];exact h.fz i,by simpa [World.setCell] using h.lt⟩
theorem RC.drew {w:World} {R:Nat} {v:Nat → Value} (h:RC w R v):RC w.drew R v:=⟨h.c,h.fz,h.lt⟩
structure TK (w:World) (b:Nat) (x0 x1 x2 x3:Value):Prop where
 c0:w.cell? ⟨b,0,none⟩ = some x0
 c1:w.cell? ⟨b,1,none⟩ = some x1
 c2:w.cell? ⟨b,2,none⟩ = some x2
 c3:w.cell? ⟨b,3,none⟩ = some x3
 fz:∀ o,w.frozen? ⟨b,o,none⟩ = false
theorem cell_but {w w':World} {R b o:Nat} (h:But R w w') (hb:b ≠ R) (hl:b < w.heap.size):w'.cell? ⟨b,o,none⟩ = w.cell? ⟨b,o,none⟩:=by
 simp only [World.cell?,h.block b hl hb]
theorem frozen_but {w w':World} {R b o:Nat} (h:But R w w') (hb:b ≠ R) (hl:b < w.heap.size):w'.frozen? ⟨b,o,none⟩ = w.frozen? ⟨b,o,none⟩:=by
 simp only [World.frozen?,h.block b hl hb]
theorem TK.lt {w:World} {b:Nat} {x0 x1 x2 x3:Value} (h:TK w b x0 x1 x2 x3):b < w.heap.size:=World.block_lt_of_cell? w ⟨b,0,none⟩ h.c0
theorem TK.but {w w':World} {b R:Nat} {x0 x1 x2 x3:Value} (h:TK w b x0 x1 x2 x3) (hb:But R w w') (hn:b ≠ R):TK w' b x0 x1 x2 x3 :=
 ⟨(cell_but hb hn h.lt).trans h.c0,(cell_but hb hn h.lt).trans h.c1,(cell_but hb hn h.lt).trans h.c2,(cell_but hb hn h.lt).trans h.c3,fun o=>(frozen_but hb hn h.lt).trans (h.fz o)⟩
theorem TK.of {w:World} {b:Nat} {x0 x1 x2 x3:Value} {t:TypeId} (h:w.heap[b]? = some (.cells #[x0,x1,x2,x3] t)):TK w b x0 x1 x2 x3 :=
 ⟨by simp only [World.cell?,h];rfl,by simp only [World.cell?,h];rfl,by simp only [World.cell?,h];rfl,by simp only [World.cell?,h];rfl,fun o=>by simp only [World.frozen?,h];simp⟩
theorem TK.set {w:World} {b:Nat} {x0 x1 x2 x3:Value} (h:TK w b x0 x1 x2 x3) (y0 y1 y2 y3:Value):TK ((((w.setCell ⟨b,0,none⟩ y0).setCell ⟨b,1,none⟩ y1).setCell ⟨b,2,none⟩ y2).setCell ⟨b,3,none⟩ y3) b y0 y1 y2 y3:=by
 have ne:∀ i j,i ≠ j → (⟨b,i,none⟩:Addr) ≠ ⟨b,j,none⟩:=fun i j hij e=>hij (by injection e)
 have k:∀ (w:World) (i j:Nat) (u:Value),i ≠ j → (w.setCell ⟨b,i,none⟩ u).cell? ⟨b,j,none⟩ = w.cell? ⟨b,j,none⟩:=fun w i j u h=>World.cell?_setCell_other w _ _ _ (ne i j h)
 refine ⟨?_,?_,?_,?_,fun o=>by rw [World.frozen?_setCell,World.frozen?_setCell,World.frozen?_setCell,World.frozen?_setCell];exact h.fz o⟩
 ·rw [k _ 3 0 _ (by decide),k _ 2 0 _ (by decide),k _ 1 0 _ (by decide)];exact World.cell?_setCell_same w ⟨b,0,none⟩ _ h.c0
 ·rw [k _ 3 1 _ (by decide),k _ 2 1 _ (by decide)];exact World.cell?_setCell_same _ ⟨b,1,none⟩ _ ((k _ 0 1 _ (by decide)).trans h.c1)
 ·rw [k _ 3 2 _ (by decide)];exact World.cell?_setCell_same _ ⟨b,2,none⟩ _ ((k _ 1 2 _ (by decide)).trans ((k _ 0 2 _ (by decide)).trans h.c2))
 ·exact World.cell?_setCell_same _ ⟨b,3,none⟩ _ ((k _ 2 3 _ (by decide)).trans ((k _ 1 3 _ (by decide)).trans ((k _ 0 3 _ (by decide)).trans h.c3)))
theorem TK.drew {w:World} {b:Nat} {x0 x1 x2 x3:Value} (h:TK w b x0 x1 x2 x3):TK w.drew b x0 x1 x2 x3:=⟨h.c0,h.c1,h.c2,h.c3,h.fz⟩
theorem res_piece (tmps:Array Value) (b:Nat) (x:Bool) (x0 x1 x2 x3:Value) (h2:tmps[2]?.getD undef = .pointer (some ⟨b,0,none⟩)) (h3:tmps[3]?.getD undef = .bool x) (W:World) (hT:TK W b x0 x1 x2 x3) :
  (results Tryz.f67 tmps).run Tryz.prog W = .ok (.tuple #[.agg #[x0,x1,x2,x3],.bool x]) W:=by
 have c0:=hT.c0
 have c1:=hT.c1
 have c2:=hT.c2
 have c3:=hT.c3
 simp [results,Tryz.results67,go_sem,h2,h3,c0,c1,c2,c3]
section
variable {P:Program} {ops:Array Oper} {Q:Exit → Act → World → Prop} {md:Region.Mode} {fuel:Nat} {listed:Array Bool} {a:Act} {w:World}
theorem rd1 (i:Nat) {o:Oper} (ho:ops[i]? = some o) (hr:Region.ready md ops listed = [i]) (h:∀ K':Act → World → Prop,(∀ a w,wpAny P md ops Q fuel (listed.setIfInBounds i true) a w → K' a w) → if Region.wanted o (yielded ops a.tmps) = true then Oper.wp P o a w K' Q else K' (a.put o.dst undef) w):wpAny P md ops Q (fuel + 1) listed a w:=wpAny_ready hr (by simp) (.cons ho h .nil)
theorem rd2 (i j:Nat) {o o':Oper} (ho:ops[i]? = some o) (ho':ops[j]? = some o') (hr:Region.ready md ops listed = [i,j]) (h:∀ K':Act → World → Prop,(∀ a w,wpAny P md ops Q fuel (listed.setIfInBounds i true) a w → K' a w) → if Region.wanted o (yielded ops a.tmps) = true then Oper.wp P o a w K' Q else K' (a.put o.dst undef) w)
 (h':∀ K':Act → World → Prop,(∀ a w,wpAny P md ops Q fuel (listed.setIfInBounds j true) a w → K' a w) → if Region.wanted o' (yielded ops a.tmps) = true then Oper.wp P o' a w K' Q else K' (a.put o'.dst undef) w):wpAny P md ops Q (fuel + 1) listed a w:=wpAny_ready hr (by simp) (.cons ho h (.cons ho' h' .nil))
end
theorem piece_any (R:Nat) (s:ByteArray) (f:Option Nat) (a fe fa:Nat) (w:World) (h:RS w R s f a fe fa) (hE:Env w) (hR:7 ≤ R) (hok:okO s a f) :
  Calls Tryz.prog 67 #[.pointer (some ⟨R,0,none⟩)] w (PcPost R s w fe fa (pieceZ s f a)):=by
 obtain ⟨v,hC,v0,v1,v2,v8,v9,tk,htv⟩:=h
 have hmf:=hmfA
 have hn1:=neq_fn_nil
 have hn2:=neq_fn_some
 have h0:=(hC.below (bel1 w (.cells #[.pointer (some ⟨R,0,none⟩)] 86)))
 have h1:=h0.below (bel1 _ (.cells #[.int .i64 0,.string ⟨#[]⟩,.string ⟨#[]⟩,.int .i64 0] 67))
 have c7:=h1.c 7 (by decide)
 have f7:=h1.fz 7
 have hlt:=hC.lt
 have hneq:R ≠ w.heap.size:=by omega
 have hneq1:R ≠ w.heap.size + 1:=by omega
 obtain ⟨Z,hZ⟩:∃ Z,pieceZ s f a = Z:=⟨_,rfl⟩
 rw [hZ]
 go_enter_defers Tryz.func67,Tryz.ntmps67
 go_wp2_with fail
 go_loopg [] (rankO f) (fun g wr=>∃ (f':Option Nat) (a':Nat) (v':Nat → Value),RC wr R v' ∧ v' 0 = .string s ∧ v' 1 = .int .i64 (a':Int) ∧ v' 2 = fnV R f' ∧ v' 8 = .int .i64 (fe:Int) ∧ v' 9 = .int .i64 (fa:Int) ∧ But R w wr ∧
  wr.cell? ⟨w.heap.size,0,none⟩ = some (.pointer (some ⟨R,0,none⟩)) ∧ TK wr (w.heap.size + 1) (.int .i64 0) (.string E0) (.string E0) (.int .i64 0) ∧
  ∃ t:Tok,TokV v' t ∧ ((v' 7 = .bool false ∧ runZ s g f' a' = Z ∧ rankO f' ≤ g ∧ okO s a' f') ∨ (v' 7 = .bool true ∧ Z = .told f' a' t)))
 case atStart =>
  have k0:=(hC.set 7 (by decide) (.bool false)).below (bel1 _ (.cells #[.pointer (some ⟨R,0,none⟩)] 86))
  have k1:=k0.below (bel1 _ (.cells #[.int .i64 0,.string ⟨#[]⟩,.string ⟨#[]⟩,.int .i64 0] 67))
  refine ⟨f,a,_,k1,v0,v1,v2,v8,v9,(But.set R 7 w _).trans ((But.of (bel1 _ _)).trans (But.of (bel1 _ _))),?_,?_,tk,htv,.inl ⟨rfl,hZ,Nat.le_refl _,hok⟩⟩
  · have e1:=heap_new (w.setCell ⟨R,7,none⟩ (.bool false)) (.cells #[.pointer (some ⟨R,0,none⟩)] 86)
    have e2:((w.setCell ⟨R,7,none⟩ (.bool false)).alloc (.cells #[.pointer (some ⟨R,0,none⟩)] 86)).cell? ⟨w.heap.size,0,none⟩ = some (.pointer (some ⟨R,0,none⟩)):=by
     have e3:(w.setCell ⟨R,7,none⟩ (.bool false)).heap.size = w.heap.size:=by simp [World.setCell]
     rw [e3] at e1
     simp only [World.cell?,e1]
     rfl
    exact ((bel1 _ _).cell (p:=⟨w.heap.size,0,none⟩) (by simp)).trans e2
  · have:=TK.of (heap_new ((w.setCell ⟨R,7,none⟩ (.bool false)).alloc (.cells #[.pointer (some ⟨R,0,none⟩)] 86)) (.cells #[.int .i64 0,.string ⟨#[]⟩,.string ⟨#[]⟩,.int .i64 0] 67))
    simpa using this
 case round =>
  obtain ⟨f',a',v',hC',u0,u1,u2,u8,u9,hB,hbx,htk,t,⟨t3,t4,t5,t6⟩,hcase⟩:=hrel
  have d2:=hC'.c 2 (by decide)
  have d3:=hC'.c 3 (by decide)
  have d4:=hC'.c 4 (by decide)
  have d5:=hC'.c 5 (by decide)
  have d6:=hC'.c 6 (by decide)
  have d7:=hC'.c 7 (by decide)
  have g2:=hC'.fz 2
  rw [u2] at d2
  have q0:=htk.c0
  have q1:=htk.c1
  have q2:=htk.c2
  have q3:=htk.c3
  have p0:=htk.fz 0
  have p1:=htk.fz 1
  have p2:=htk.fz 2
  have p3:=htk.fz 3
  rw [t3] at d3
  rw [t4] at d4
  rw [t5] at d5
  rw [t6] at d6
  rcases hcase with ⟨u7,hrun,hrank,hok'⟩ | ⟨u7,hzt⟩
  · rw [u7] at d7
    cases f' with
    | none =>
     have HT:Hid (TK _ (w.heap.size + 1) (.int .i64 (t.k:Int)) (.string t.nm) (.string t.vl) (.int .i64 (t.p:Int))):=htk.set (.int .i64 (t.k:Int)) (.string t.nm) (.string t.vl) (.int .i64 (t.p:Int))
     have HR:=(((((hC'.other (b:=w.heap.size + 1) (by omega) 0 (.int .i64 (t.k:Int))).other (b:=w.heap.size + 1) (by omega) 1 (.string t.nm)).other (b:=w.heap.size + 1) (by omega) 2 (.string t.vl)).other (b:=w.heap.size + 1) (by omega) 3 (.int .i64 (t.p:Int)))).drew
     have HB2:=((((hB.high (b:=w.heap.size + 1) (by omega) 0 (.int .i64 (t.k:Int))).high (b:=w.heap.size + 1) (by omega) 1 (.string t.nm)).high (b:=w.heap.size + 1) (by omega) 2 (.string t.vl)).high (b:=w.heap.size + 1) (by omega) 3 (.int .i64 (t.p:Int))).drew
     have e8:=HR.c 8 (by decide)
     have e9:=HR.c 9 (by decide)
     rw [u8] at e8
     rw [u9] at e9
     have HF:Hid (But R w _ ∧ _ ∧ _):=⟨HB2,e8,e9⟩
     have hZe:Z = .end_ a':=by rw [← hrun];cases gk <;> rfl
     subst hZe
     clear HR HB2 e8 e9 hrun
     simp only [fnV] at d2
     go_wp2_with fail
     go_region
     all_goals
      go_wp2_with fail
      refine leaves_cons (f:=89) (args:=#[.pointer (some ⟨w.heap.size,0,none⟩)]) (by simp) (by simp [go_sem]) ?_
      refine (catch_idle _ _).mono ?_
      rintro e u' w'' ⟨rfl,rfl,rfl⟩
      exact ⟨_,res_piece _ _ _ _ _ _ _ rfl rfl _ HT.out.drew,HF.out.1,⟨t,rfl⟩,HF.out.2⟩
    | some f' =>
     have hen:=ent_st hok'
     have hst:=step_any R s f' a' v' wr.drew hC'.drew u0 u1 (hE.but hB.drew hR hlt) hR hok'
     have hgo:=step_go s f' a' hok'
     obtain ⟨g,rfl⟩:∃ g,gk = g + 1:=⟨gk - 1,by have:=rank_pos f';simp only [rankO] at hrank;omega⟩
     simp only [runZ] at hrun
     simp only [fnV] at d2
     have hltr:w.heap.size + 1 < wr.heap.size:=htk.lt
     cases hz:stepZ s f' a' with
     | bad er p =>
      rw [hz] at hst hrun
      have hst2:Calls Tryz.prog f' #[.pointer (some ⟨R,0,none⟩)] wr.drew fun e w'=>e = .panicked [pv er p] ∧ Mv R wr.drew w':=hst
      dsimp only at hrun
      subst hrun
      clear hst hgo
      have hfin:Hid (∀ w1,Mv R wr.drew w1 → ∀ tmps:Array Value,tmps[2]?.getD undef = .pointer (some ⟨w.heap.size + 1,0,none⟩) → tmps[3]?.getD undef = .bool false →
        bodyPostD Tryz.prog Tryz.f67 (PcPost R s w fe fa (Pz.bad er p)) (Exit.panic [pv er p]) { tmps:=tmps,defers:=[{ target:=Target.fn (Fn.func 89) #[.pointer (some ⟨w.heap.size,0,none⟩)],args:=#[] }] } w1):=by
       intro w1 m1 tmps h2 h3
       have hbx1:w1.cell? ⟨w.heap.size,0,none⟩ = some (.pointer (some ⟨R,0,none⟩)):=(cell_but (o:=0) m1.but hneq.symm (by show w.heap.size < wr.heap.size;omega)).trans hbx
       refine leaves_cons (f:=89) (args:=#[.pointer (some ⟨w.heap.size,0,none⟩)]) (by simp) (by simp [go_sem]) ?_
       refine (catch_panicking R w.heap.size er p _ _ w1 hbx1 ((m1.cell 8 (by decide)).trans (hC'.c 8 (by decide))) ((m1.cell 9 (by decide)).trans (hC'.c 9 (by decide))) (fun o=>(m1.fz o).trans (hC'.fz o))).mono ?_
       rintro e u' w2 ⟨rfl,rfl,hb2,k8,k9⟩
       exact ⟨_,res_piece _ _ _ _ _ _ _ h2 h3 _ (htk.but (((But.refl R wr).drew.trans m1.but).trans hb2) hneq1.symm),(hB.drew.trans m1.but).trans hb2,rfl,k8,k9⟩
      go_wp2_with fail
      refine wp_region_any (by kernel_rfl) ?_
      change wpAny _ _ _ _ _ _ _ (World.drew _)
      refine rd2 0 1 rfl rfl (by kernel_rfl) (fun K hK=>?_) (fun K hK=>?_)
      ·go_simp;refine hK _ _ ?_;clear hK K
       refine rd1 1 rfl (by kernel_rfl) fun K hK=>?_
       go_simp;refine hK _ _ ?_;clear hK K
       refine rd1 2 rfl (by kernel_rfl) fun K hK=>?_
       go_simp;refine hK _ _ ?_;clear hK K
       refine rd1 3 rfl (by kernel_rfl) fun K hK=>?_
       go_simp;refine hK _ _ ?_;clear hK K
       refine rd1 4 rfl (by kernel_rfl) fun K hK=>?_
       go_simp;refine hK _ _ ?_;clear hK K
       refine rd1 5 rfl (by kernel_rfl) fun K hK=>?_
       go_simp
       go_wp2_with (go_at_fn f';refine hst2.mono ?_;rintro e w1 ⟨rfl,m1⟩)
       exact hfin.out w1 m1 _ rfl rfl
      ·skip
       go_simp;refine hK _ _ ?_;clear hK K
       refine rd2 0 2 rfl rfl (by kernel_rfl) (fun K hK=>?_) (fun K hK=>?_)
       ·go_simp;refine hK _ _ ?_;clear hK K
        refine rd1 2 rfl (by kernel_rfl) fun K hK=>?_
        go_simp;refine hK _ _ ?_;clear hK K
        refine rd1 3 rfl (by kernel_rfl) fun K hK=>?_
        go_simp;refine hK _ _ ?_;clear hK K
        refine rd1 4 rfl (by kernel_rfl) fun K hK=>?_
        go_simp;refine hK _ _ ?_;clear hK K
        refine rd1 5 rfl (by kernel_rfl) fun K hK=>?_
        go_simp
        go_wp2_with (go_at_fn f';refine hst2.mono ?_;rintro e w1 ⟨rfl,m1⟩)
        exact hfin.out w1 m1 _ rfl rfl
       ·skip
        go_simp;refine hK _ _ ?_;clear hK K
        refine rd2 0 3 rfl rfl (by kernel_rfl) (fun K hK=>?_) (fun K hK=>?_)
        ·go_simp;refine hK _ _ ?_;clear hK K
         refine rd1 3 rfl (by kernel_rfl) fun K hK=>?_
         go_simp;refine hK _ _ ?_;clear hK K
         refine rd1 4 rfl (by kernel_rfl) fun K hK=>?_
         go_simp;refine hK _ _ ?_;clear hK K
         refine rd1 5 rfl (by kernel_rfl) fun K hK=>?_
         go_simp
         go_wp2_with (go_at_fn f';refine hst2.mono ?_;rintro e w1 ⟨rfl,m1⟩)
         exact hfin.out w1 m1 _ rfl rfl
        ·skip
         go_simp;refine hK _ _ ?_;clear hK K
         refine rd2 0 4 rfl rfl (by kernel_rfl) (fun K hK=>?_) (fun K hK=>?_)
         ·go_simp;refine hK _ _ ?_;clear hK K
          refine rd1 4 rfl (by kernel_rfl) fun K hK=>?_
          go_simp;refine hK _ _ ?_;clear hK K
          refine rd1 5 rfl (by kernel_rfl) fun K hK=>?_
          go_simp
          go_wp2_with (go_at_fn f';refine hst2.mono ?_;rintro e w1 ⟨rfl,m1⟩)
          exact hfin.out w1 m1 _ rfl rfl
         ·skip
          go_simp;refine hK _ _ ?_;clear hK K
          refine rd2 0 5 rfl rfl (by kernel_rfl) (fun K hK=>?_) (fun K hK=>?_)
          ·go_simp;refine hK _ _ ?_;clear hK K
           refine rd1 5 rfl (by kernel_rfl) fun K hK=>?_
           go_simp
           go_wp2_with (go_at_fn f';refine hst2.mono ?_;rintro e w1 ⟨rfl,m1⟩)
           exact hfin.out w1 m1 _ rfl rfl
          ·skip
           go_simp
           go_wp2_with (go_at_fn f';refine hst2.mono ?_;rintro e w1 ⟨rfl,m1⟩)
           exact hfin.out w1 m1 _ rfl rfl
     | go nx b ot =>
      rw [hz] at hst hrun hgo
      have hst2:Calls Tryz.prog f' #[.pointer (some ⟨R,0,none⟩)] wr.drew fun e w'=>e = .returned (fnV R nx) ∧ But R wr.drew w' ∧ RC w' R (fin v' b ot):=hst
      clear hst
      have hnext:Hid (∀ w1,But R wr.drew w1 → RC w1 R (fin v' b ot) → (fun W2=>∃ (f2:Option Nat) (a2:Nat) (v2:Nat → Value),RC W2 R v2 ∧ v2 0 = .string s ∧ v2 1 = .int .i64 (a2:Int) ∧ v2 2 = fnV R f2 ∧ v2 8 = .int .i64 (fe:Int) ∧ v2 9 = .int .i64 (fa:Int) ∧ But R w W2 ∧
   W2.cell? ⟨w.heap.size,0,none⟩ = some (.pointer (some ⟨R,0,none⟩)) ∧ TK W2 (w.heap.size + 1) (.int .i64 0) (.string E0) (.string E0) (.int .i64 0) ∧
   ∃ t:Tok,TokV v2 t ∧ ((v2 7 = .bool false ∧ runZ s g f2 a2 = Z ∧ rankO f2 ≤ g ∧ okO s a2 f2) ∨ (v2 7 = .bool true ∧ Z = .told f2 a2 t))) (w1.setCell ⟨R,2,none⟩ (fnV R nx))):=by
       intro w1 hb1 hr1
       have hB1:But R w (w1.setCell ⟨R,2,none⟩ (fnV R nx)):=(hB.drew.trans hb1).trans (But.set R 2 w1 _)
       have hr2:=hr1.set 2 (by decide) (fnV R nx)
       have hbx1:(w1.setCell ⟨R,2,none⟩ (fnV R nx)).cell? ⟨w.heap.size,0,none⟩ = some (.pointer (some ⟨R,0,none⟩)):=(cell_but (o:=0) (hb1.trans (But.set R 2 w1 _)) hneq.symm (by show w.heap.size < wr.heap.size;omega)).trans hbx
       have htk1:=htk.but (((But.refl R wr).drew.trans hb1).trans (But.set R 2 w1 (fnV R nx))) hneq1.symm
       cases ot with
       | none =>
        dsimp only at hrun
        have hg:rankO nx ≤ g ∧ okO s b nx:=by
         cases nx with
         | none=>exact ⟨Nat.zero_le _,trivial⟩
         | some h=>exact ⟨by have:=hgo.2.2;simp only [rankO] at hrank ⊢;omega,hgo.1⟩
        exact ⟨nx,b,_,hr2,u0,rfl,rfl,u8,u9,hB1,hbx1,htk1,t,⟨t3,t4,t5,t6⟩,.inl ⟨u7,hrun,hg.1,hg.2⟩⟩
       | some t' =>
        dsimp only at hrun
        exact ⟨nx,b,_,hr2,u0,rfl,rfl,u8,u9,hB1,hbx1,htk1,t',⟨rfl,rfl,rfl,rfl⟩,.inr ⟨rfl,hrun.symm⟩⟩
      clear hgo hrun
      cases nx with
      | none =>
       simp only [fnV] at hst2
       go_wp2_with fail
       refine wp_region_any (by kernel_rfl) ?_
       change wpAny _ _ _ _ _ _ _ (World.drew _)
       refine rd2 0 1 rfl rfl (by kernel_rfl) (fun K hK=>?_) (fun K hK=>?_)
       ·go_simp;refine hK _ _ ?_;clear hK K
        refine rd1 1 rfl (by kernel_rfl) fun K hK=>?_
        go_simp;refine hK _ _ ?_;clear hK K
        refine rd1 2 rfl (by kernel_rfl) fun K hK=>?_
        go_simp;refine hK _ _ ?_;clear hK K
        refine rd1 3 rfl (by kernel_rfl) fun K hK=>?_
        go_simp;refine hK _ _ ?_;clear hK K
        refine rd1 4 rfl (by kernel_rfl) fun K hK=>?_
        go_simp;refine hK _ _ ?_;clear hK K
        refine rd1 5 rfl (by kernel_rfl) fun K hK=>?_
        go_simp
        go_wp2_with (go_at_fn f';refine hst2.mono ?_;rintro e w1 ⟨rfl,hb1,hr1⟩;have e2:=hr1.c 2 (by decide);have g2':=hr1.fz 2;have hbx1:=(cell_but (o:=0) hb1 hneq.symm (by show w.heap.size < wr.heap.size;omega)).trans hbx)
        refine rd1 6 rfl (by kernel_rfl) fun K hK=>?_
        go_simp;refine hK _ _ ?_;clear hK K
        refine rd1 7 rfl (by kernel_rfl) fun K hK=>?_
        go_simp;refine hK _ _ ?_;clear hK K
        refine rd1 8 rfl (by kernel_rfl) fun K hK=>?_
        go_simp;refine hK _ _ ?_;clear hK K
        refine wpAny_done (by kernel_rfl) ?_ _
        go_wp2_with fail
        go_roundg g
        case measure=>omega
        case rel=>exact hnext.out w1 hb1 hr1
       ·skip
        go_simp;refine hK _ _ ?_;clear hK K
        refine rd2 0 2 rfl rfl (by kernel_rfl) (fun K hK=>?_) (fun K hK=>?_)
        ·go_simp;refine hK _ _ ?_;clear hK K
         refine rd1 2 rfl (by kernel_rfl) fun K hK=>?_
         go_simp;refine hK _ _ ?_;clear hK K
         refine rd1 3 rfl (by kernel_rfl) fun K hK=>?_
         go_simp;refine hK _ _ ?_;clear hK K
         refine rd1 4 rfl (by kernel_rfl) fun K hK=>?_
         go_simp;refine hK _ _ ?_;clear hK K
         refine rd1 5 rfl (by kernel_rfl) fun K hK=>?_
         go_simp
         go_wp2_with (go_at_fn f';refine hst2.mono ?_;rintro e w1 ⟨rfl,hb1,hr1⟩;have e2:=hr1.c 2 (by decide);have g2':=hr1.fz 2;have hbx1:=(cell_but (o:=0) hb1 hneq.symm (by show w.heap.size < wr.heap.size;omega)).trans hbx)
         refine rd1 6 rfl (by kernel_rfl) fun K hK=>?_
         go_simp;refine hK _ _ ?_;clear hK K
         refine rd1 7 rfl (by kernel_rfl) fun K hK=>?_
         go_simp;refine hK _ _ ?_;clear hK K
         refine rd1 8 rfl (by kernel_rfl) fun K hK=>?_
         go_simp;refine hK _ _ ?_;clear hK K
         refine wpAny_done (by kernel_rfl) ?_ _
         go_wp2_with fail
         go_roundg g
         case measure=>omega
         case rel=>exact hnext.out w1 hb1 hr1
        ·skip
         go_simp;refine hK _ _ ?_;clear hK K
         refine rd2 0 3 rfl rfl (by kernel_rfl) (fun K hK=>?_) (fun K hK=>?_)
         ·go_simp;refine hK _ _ ?_;clear hK K
          refine rd1 3 rfl (by kernel_rfl) fun K hK=>?_
          go_simp;refine hK _ _ ?_;clear hK K
          refine rd1 4 rfl (by kernel_rfl) fun K hK=>?_
          go_simp;refine hK _ _ ?_;clear hK K
          refine rd1 5 rfl (by kernel_rfl) fun K hK=>?_
          go_simp
          go_wp2_with (go_at_fn f';refine hst2.mono ?_;rintro e w1 ⟨rfl,hb1,hr1⟩;have e2:=hr1.c 2 (by decide);have g2':=hr1.fz 2;have hbx1:=(cell_but (o:=0) hb1 hneq.symm (by show w.heap.size < wr.heap.size;omega)).trans hbx)
          refine rd1 6 rfl (by kernel_rfl) fun K hK=>?_
          go_simp;refine hK _ _ ?_;clear hK K
          refine rd1 7 rfl (by kernel_rfl) fun K hK=>?_
          go_simp;refine hK _ _ ?_;clear hK K
          refine rd1 8 rfl (by kernel_rfl) fun K hK=>?_
          go_simp;refine hK _ _ ?_;clear hK K
          refine wpAny_done (by kernel_rfl) ?_ _
          go_wp2_with fail
          go_roundg g
          case measure=>omega
          case rel=>exact hnext.out w1 hb1 hr1
         ·skip
          go_simp;refine hK _ _ ?_;clear hK K
          refine rd2 0 4 rfl rfl (by kernel_rfl) (fun K hK=>?_) (fun K hK=>?_)
          ·go_simp;refine hK _ _ ?_;clear hK K
           refine rd1 4 rfl (by kernel_rfl) fun K hK=>?_
           go_simp;refine hK _ _ ?_;clear hK K
           refine rd1 5 rfl (by kernel_rfl) fun K hK=>?_
           go_simp
           go_wp2_with (go_at_fn f';refine hst2.mono ?_;rintro e w1 ⟨rfl,hb1,hr1⟩;have e2:=hr1.c 2 (by decide);have g2':=hr1.fz 2;have hbx1:=(cell_but (o:=0) hb1 hneq.symm (by show w.heap.size < wr.heap.size;omega)).trans hbx)
           refine rd1 6 rfl (by kernel_rfl) fun K hK=>?_
           go_simp;refine hK _ _ ?_;clear hK K
           refine rd1 7 rfl (by kernel_rfl) fun K hK=>?_
           go_simp;refine hK _ _ ?_;clear hK K
           refine rd1 8 rfl (by kernel_rfl) fun K hK=>?_
           go_simp;refine hK _ _ ?_;clear hK K
           refine wpAny_done (by kernel_rfl) ?_ _
           go_wp2_with fail
           go_roundg g
           case measure=>omega
           case rel=>exact hnext.out w1 hb1 hr1
          ·skip
           go_simp;refine hK _ _ ?_;clear hK K
           refine rd2 0 5 rfl rfl (by kernel_rfl) (fun K hK=>?_) (fun K hK=>?_)
           ·go_simp;refine hK _ _ ?_;clear hK K
            refine rd1 5 rfl (by kernel_rfl) fun K hK=>?_
            go_simp
            go_wp2_with (go_at_fn f';refine hst2.mono ?_;rintro e w1 ⟨rfl,hb1,hr1⟩;have e2:=hr1.c 2 (by decide);have g2':=hr1.fz 2;have hbx1:=(cell_but (o:=0) hb1 hneq.symm (by show w.heap.size < wr.heap.size;omega)).trans hbx)
            refine rd1 6 rfl (by kernel_rfl) fun K hK=>?_
            go_simp;refine hK _ _ ?_;clear hK K
            refine rd1 7 rfl (by kernel_rfl) fun K hK=>?_
            go_simp;refine hK _ _ ?_;clear hK K
            refine rd1 8 rfl (by kernel_rfl) fun K hK=>?_
            go_simp;refine hK _ _ ?_;clear hK K
            refine wpAny_done (by kernel_rfl) ?_ _
            go_wp2_with fail
            go_roundg g
            case measure=>omega
            case rel=>exact hnext.out w1 hb1 hr1
           ·skip
            go_simp
            go_wp2_with (go_at_fn f';refine hst2.mono ?_;rintro e w1 ⟨rfl,hb1,hr1⟩;have e2:=hr1.c 2 (by decide);have g2':=hr1.fz 2;have hbx1:=(cell_but (o:=0) hb1 hneq.symm (by show w.heap.size < wr.heap.size;omega)).trans hbx)
            refine rd1 0 rfl (by kernel_rfl) fun K hK=>?_
            go_simp;refine hK _ _ ?_;clear hK K
            refine rd1 6 rfl (by kernel_rfl) fun K hK=>?_
            go_simp;refine hK _ _ ?_;clear hK K
            refine rd1 7 rfl (by kernel_rfl) fun K hK=>?_
            go_simp;refine hK _ _ ?_;clear hK K
            refine rd1 8 rfl (by kernel_rfl) fun K hK=>?_
            go_simp;refine hK _ _ ?_;clear hK K
            refine wpAny_done (by kernel_rfl) ?_ _
            go_wp2_with fail
            go_roundg g
            case measure=>omega
            case rel=>exact hnext.out w1 hb1 hr1
      | some hh =>
       simp only [fnV] at hst2
       go_wp2_with fail
       refine wp_region_any (by kernel_rfl) ?_
       change wpAny _ _ _ _ _ _ _ (World.drew _)
       refine rd2 0 1 rfl rfl (by kernel_rfl) (fun K hK=>?_) (fun K hK=>?_)
       ·go_simp;refine hK _ _ ?_;clear hK K
        refine rd1 1 rfl (by kernel_rfl) fun K hK=>?_
        go_simp;refine hK _ _ ?_;clear hK K
        refine rd1 2 rfl (by kernel_rfl) fun K hK=>?_
        go_simp;refine hK _ _ ?_;clear hK K
        refine rd1 3 rfl (by kernel_rfl) fun K hK=>?_
        go_simp;refine hK _ _ ?_;clear hK K
        refine rd1 4 rfl (by kernel_rfl) fun K hK=>?_
        go_simp;refine hK _ _ ?_;clear hK K
        refine rd1 5 rfl (by kernel_rfl) fun K hK=>?_
        go_simp
        go_wp2_with (go_at_fn f';refine hst2.mono ?_;rintro e w1 ⟨rfl,hb1,hr1⟩;have e2:=hr1.c 2 (by decide);have g2':=hr1.fz 2;have hbx1:=(cell_but (o:=0) hb1 hneq.symm (by show w.heap.size < wr.heap.size;omega)).trans hbx)
        refine rd1 6 rfl (by kernel_rfl) fun K hK=>?_
        go_simp;refine hK _ _ ?_;clear hK K
        refine rd1 7 rfl (by kernel_rfl) fun K hK=>?_
        go_simp;refine hK _ _ ?_;clear hK K
        refine rd1 8 rfl (by kernel_rfl) fun K hK=>?_
        go_simp;refine hK _ _ ?_;clear hK K
        refine wpAny_done (by kernel_rfl) ?_ _
        go_wp2_with fail
        go_roundg g
        case measure=>omega
        case rel=>exact hnext.out w1 hb1 hr1
       ·skip
        go_simp;refine hK _ _ ?_;clear hK K
        refine rd2 0 2 rfl rfl (by kernel_rfl) (fun K hK=>?_) (fun K hK=>?_)
        ·go_simp;refine hK _ _ ?_;clear hK K
         refine rd1 2 rfl (by kernel_rfl) fun K hK=>?_
         go_simp;refine hK _ _ ?_;clear hK K
         refine rd1 3 rfl (by kernel_rfl) fun K hK=>?_
         go_simp;refine hK _ _ ?_;clear hK K
         refine rd1 4 rfl (by kernel_rfl) fun K hK=>?_
         go_simp;refine hK _ _ ?_;clear hK K
         refine rd1 5 rfl (by kernel_rfl) fun K hK=>?_
         go_simp
         go_wp2_with (go_at_fn f';refine hst2.mono ?_;rintro e w1 ⟨rfl,hb1,hr1⟩;have e2:=hr1.c 2 (by decide);have g2':=hr1.fz 2;have hbx1:=(cell_but (o:=0) hb1 hneq.symm (by show w.heap.size < wr.heap.size;omega)).trans hbx)
         refine rd1 6 rfl (by kernel_rfl) fun K hK=>?_
         go_simp;refine hK _ _ ?_;clear hK K
         refine rd1 7 rfl (by kernel_rfl) fun K hK=>?_
         go_simp;refine hK _ _ ?_;clear hK K
         refine rd1 8 rfl (by kernel_rfl) fun K hK=>?_
         go_simp;refine hK _ _ ?_;clear hK K
         refine wpAny_done (by kernel_rfl) ?_ _
         go_wp2_with fail
         go_roundg g
         case measure=>omega
         case rel=>exact hnext.out w1 hb1 hr1
        ·skip
         go_simp;refine hK _ _ ?_;clear hK K
         refine rd2 0 3 rfl rfl (by kernel_rfl) (fun K hK=>?_) (fun K hK=>?_)
         ·go_simp;refine hK _ _ ?_;clear hK K
          refine rd1 3 rfl (by kernel_rfl) fun K hK=>?_
          go_simp;refine hK _ _ ?_;clear hK K
          refine rd1 4 rfl (by kernel_rfl) fun K hK=>?_
          go_simp;refine hK _ _ ?_;clear hK K
          refine rd1 5 rfl (by kernel_rfl) fun K hK=>?_
          go_simp
          go_wp2_with (go_at_fn f';refine hst2.mono ?_;rintro e w1 ⟨rfl,hb1,hr1⟩;have e2:=hr1.c 2 (by decide);have g2':=hr1.fz 2;have hbx1:=(cell_but (o:=0) hb1 hneq.symm (by show w.heap.size < wr.heap.size;omega)).trans hbx)
          refine rd1 6 rfl (by kernel_rfl) fun K hK=>?_
          go_simp;refine hK _ _ ?_;clear hK K
          refine rd1 7 rfl (by kernel_rfl) fun K hK=>?_
          go_simp;refine hK _ _ ?_;clear hK K
          refine rd1 8 rfl (by kernel_rfl) fun K hK=>?_
          go_simp;refine hK _ _ ?_;clear hK K
          refine wpAny_done (by kernel_rfl) ?_ _
          go_wp2_with fail
          go_roundg g
          case measure=>omega
          case rel=>exact hnext.out w1 hb1 hr1
         ·skip
          go_simp;refine hK _ _ ?_;clear hK K
          refine rd2 0 4 rfl rfl (by kernel_rfl) (fun K hK=>?_) (fun K hK=>?_)
          ·go_simp;refine hK _ _ ?_;clear hK K
           refine rd1 4 rfl (by kernel_rfl) fun K hK=>?_
           go_simp;refine hK _ _ ?_;clear hK K
           refine rd1 5 rfl (by kernel_rfl) fun K hK=>?_
           go_simp
           go_wp2_with (go_at_fn f';refine hst2.mono ?_;rintro e w1 ⟨rfl,hb1,hr1⟩;have e2:=hr1.c 2 (by decide);have g2':=hr1.fz 2;have hbx1:=(cell_but (o:=0) hb1 hneq.symm (by show w.heap.size < wr.heap.size;omega)).trans hbx)
           refine rd1 6 rfl (by kernel_rfl) fun K hK=>?_
           go_simp;refine hK _ _ ?_;clear hK K
           refine rd1 7 rfl (by kernel_rfl) fun K hK=>?_
           go_simp;refine hK _ _ ?_;clear hK K
           refine rd1 8 rfl (by kernel_rfl) fun K hK=>?_
           go_simp;refine hK _ _ ?_;clear hK K
           refine wpAny_done (by kernel_rfl) ?_ _
           go_wp2_with fail
           go_roundg g
           case measure=>omega
           case rel=>exact hnext.out w1 hb1 hr1
          ·skip
           go_simp;refine hK _ _ ?_;clear hK K
           refine rd2 0 5 rfl rfl (by kernel_rfl) (fun K hK=>?_) (fun K hK=>?_)
           ·go_simp;refine hK _ _ ?_;clear hK K
            refine rd1 5 rfl (by kernel_rfl) fun K hK=>?_
            go_simp
            go_wp2_with (go_at_fn f';refine hst2.mono ?_;rintro e w1 ⟨rfl,hb1,hr1⟩;have e2:=hr1.c 2 (by decide);have g2':=hr1.fz 2;have hbx1:=(cell_but (o:=0) hb1 hneq.symm (by show w.heap.size < wr.heap.size;omega)).trans hbx)
            refine rd1 6 rfl (by kernel_rfl) fun K hK=>?_
            go_simp;refine hK _ _ ?_;clear hK K
            refine rd1 7 rfl (by kernel_rfl) fun K hK=>?_
            go_simp;refine hK _ _ ?_;clear hK K
            refine rd1 8 rfl (by kernel_rfl) fun K hK=>?_
            go_simp;refine hK _ _ ?_;clear hK K
            refine wpAny_done (by kernel_rfl) ?_ _
            go_wp2_with fail
            go_roundg g
            case measure=>omega
            case rel=>exact hnext.out w1 hb1 hr1
           ·skip
            go_simp
            go_wp2_with (go_at_fn f';refine hst2.mono ?_;rintro e w1 ⟨rfl,hb1,hr1⟩;have e2:=hr1.c 2 (by decide);have g2':=hr1.fz 2;have hbx1:=(cell_but (o:=0) hb1 hneq.symm (by show w.heap.size < wr.heap.size;omega)).trans hbx)
            refine rd1 0 rfl (by kernel_rfl) fun K hK=>?_
            go_simp;refine hK _ _ ?_;clear hK K
            refine rd1 6 rfl (by kernel_rfl) fun K hK=>?_
            go_simp;refine hK _ _ ?_;clear hK K
            refine rd1 7 rfl (by kernel_rfl) fun K hK=>?_
            go_simp;refine hK _ _ ?_;clear hK K
            refine rd1 8 rfl (by kernel_rfl) fun K hK=>?_
            go_simp;refine hK _ _ ?_;clear hK K
            refine wpAny_done (by kernel_rfl) ?_ _
            go_wp2_with fail
            go_roundg g
            case measure=>omega
            case rel=>exact hnext.out w1 hb1 hr1
  · rw [u7] at d7
    subst hzt
    have HT:Hid (TK _ (w.heap.size + 1) (.int .i64 (t.k:Int)) (.string t.nm) (.string t.vl) (.int .i64 (t.p:Int))):=htk.set (.int .i64 (t.k:Int)) (.string t.nm) (.string t.vl) (.int .i64 (t.p:Int))
    have HR:=(((((hC'.other (b:=w.heap.size + 1) (by omega) 0 (.int .i64 (t.k:Int))).other (b:=w.heap.size + 1) (by omega) 1 (.string t.nm)).other (b:=w.heap.size + 1) (by omega) 2 (.string t.vl)).other (b:=w.heap.size + 1) (by omega) 3 (.int .i64 (t.p:Int)))).drew
    have HB2:=((((hB.high (b:=w.heap.size + 1) (by omega) 0 (.int .i64 (t.k:Int))).high (b:=w.heap.size + 1) (by omega) 1 (.string t.nm)).high (b:=w.heap.size + 1) (by omega) 2 (.string t.vl)).high (b:=w.heap.size + 1) (by omega) 3 (.int .i64 (t.p:Int))).drew
    have HF:Hid (But R w _ ∧ RS _ R s f' a' fe fa):=⟨HB2,_,HR,u0,u1,u2,u8,u9,t,t3,t4,t5,t6⟩
    clear HR HB2
    go_wp2_with fail
    go_region
    all_goals
     go_wp2_with fail
     refine leaves_cons (f:=89) (args:=#[.pointer (some ⟨w.heap.size,0,none⟩)]) (by simp) (by simp [go_sem]) ?_
     refine (catch_idle _ _).mono ?_
     rintro e u' w'' ⟨rfl,rfl,rfl⟩
     exact ⟨_,res_piece _ _ _ _ _ _ _ rfl rfl _ HT.out.drew,HF.out.1,rfl,HF.out.2⟩
end Go.Proofs.YtchfphakhmifmabGreatDoor
