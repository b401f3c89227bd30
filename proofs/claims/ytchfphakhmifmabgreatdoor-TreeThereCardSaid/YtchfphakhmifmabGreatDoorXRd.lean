import Derived.Test.YtchfphakhmifmabGreatDoorSeq
import Derived.Deep.RegionLaw
namespace Go.Proofs.YtchfphakhmifmabGreatDoor
open Go.ChangeShapes Go.WideShapes Go.ChangeAt Go.RowKit
theorem xstep_ex {P:Program} {w:World} {ops:Array Oper} {o:Oper} {a:Act} {K:Act → World → Prop} {Q:Exit → Act → World → Prop} {E:Prop} (hgd:o.guard = none) (f:FuncId) (x:Array Operand) (tx:Array TypeId)
  (ho:o.op = .call { callee:=.value (.func f),args:=x,argTypes:=tx }) (hen:∀ ag w,(callFunc f ag).run P w = .ok (.enter f ag) w) (xv:Array Value) (hx:x.map a.eval = xv) (Post:Value → World → Prop)
  (hc:Calls P f xv w fun e w'=>∃ v,e = .returned v ∧ Post v w') (h:∀ v w',Post v w' → K (a.put o.dst v) w'):if Region.wanted o (yielded ops a.tmps) = true then Oper.wp P o a w K Q else E:=by
 have hw:Region.wanted o (yielded ops a.tmps) = true:=by simp [Region.wanted,hgd]
 rw [if_pos hw]
 unfold Oper.wp execOp
 have hf:a.eval (.func f) = .func (.func f) #[] #[]:=rfl
 simp only [ho,resolve,invoke,Sem.run_bind,hx,hf]
 simp [Deferred.ofValue,hen,Oper.upon_enter]
 refine hc.mono ?_
 rintro e w' ⟨v,rfl,hp⟩
 exact h v w' hp
theorem xstep1 {P:Program} {w:World} {ops:Array Oper} {o:Oper} {a:Act} {K:Act → World → Prop} {Q:Exit → Act → World → Prop} {E:Prop} (hgd:o.guard = none) (f:FuncId) (x:Operand) (tx:Array TypeId)
  (ho:o.op = .call { callee:=.value (.func f),args:=#[x],argTypes:=tx }) (hen:∀ ag w,(callFunc f ag).run P w = .ok (.enter f ag) w) (xv:Value) (hx:a.eval x = xv) (Post:Value → World → Prop)
  (hc:Calls P f #[xv] w fun e w'=>∃ v,e = .returned v ∧ Post v w') (h:∀ v w',Post v w' → K (a.put o.dst v) w'):if Region.wanted o (yielded ops a.tmps) = true then Oper.wp P o a w K Q else E :=
 xstep_ex hgd f #[x] tx ho hen #[xv] (by simp [hx]) Post hc h
theorem xstep2 {P:Program} {w:World} {ops:Array Oper} {o:Oper} {a:Act} {K:Act → World → Prop} {Q:Exit → Act → World → Prop} {E:Prop} (hgd:o.guard = none) (f:FuncId) (x y:Operand) (tx:Array TypeId)
  (ho:o.op = .call { callee:=.value (.func f),args:=#[x,y],argTypes:=tx }) (hen:∀ ag w,(callFunc f ag).run P w = .ok (.enter f ag) w) (xv yv:Value) (hx:a.eval x = xv) (hy:a.eval y = yv) (Post:Value → World → Prop)
  (hc:Calls P f #[xv,yv] w fun e w'=>∃ v,e = .returned v ∧ Post v w') (h:∀ v w',Post v w' → K (a.put o.dst v) w'):if Region.wanted o (yielded ops a.tmps) = true then Oper.wp P o a w K Q else E :=
 xstep_ex hgd f #[x,y] tx ho hen #[xv,yv] (by simp [hx,hy]) Post hc h
structure But (R:Nat) (w w':World):Prop where
 os:w'.os = w.os
 tape:w'.tape = w.tape
 output:w'.output = w.output
 size:w.heap.size ≤ w'.heap.size
 block:∀ k,k < w.heap.size → k ≠ R → w'.heap[k]? = w.heap[k]?
theorem But.refl (R:Nat) (w:World):But R w w:=⟨rfl,rfl,rfl,Nat.le_refl _,fun _ _ _=>rfl⟩
theorem But.trans {R:Nat} {a b c:World} (h:But R a b) (k:But R b c):But R a c :=
 ⟨k.os.trans h.os,k.tape.trans h.tape,k.output.trans h.output,Nat.le_trans h.size k.size,fun i hi hn=>(k.block i (Nat.lt_of_lt_of_le hi h.size) hn).trans (h.block i hi hn)⟩
theorem But.below {R B:Nat} {w w':World} (h:But R w w') (hB:B ≤ R) (hR:R < w.heap.size):Below B w w':=⟨h.os,h.tape,h.output,h.size,fun k hk=>h.block k (by omega) (by omega)⟩
theorem But.of {R:Nat} {w w':World} (h:Below w.heap.size w w'):But R w w':=⟨h.os,h.tape,h.output,h.size,fun k hk _=>h.block k hk⟩
structure Mv (R:Nat) (w w':World):Prop where
 but:But R w w'
 cell:∀ o,o ≠ 1 → w'.cell? ⟨R,o,none⟩ = w.cell? ⟨R,o,none⟩
 fz:∀ o,w'.frozen? ⟨R,o,none⟩ = w.frozen? ⟨R,o,none⟩
theorem Mv.refl (R:Nat) (w:World):Mv R w w:=⟨But.refl R w,fun _ _=>rfl,fun _=>rfl⟩
theorem Mv.trans {R:Nat} {a b c:World} (h:Mv R a b) (k:Mv R b c):Mv R a c:=⟨h.but.trans k.but,fun o ho=>(k.cell o ho).trans (h.cell o ho),fun o=>(k.fz o).trans (h.fz o)⟩
theorem Mv.of {R:Nat} {w w':World} (h:Below w.heap.size w w') (hR:R < w.heap.size):Mv R w w' :=
 ⟨But.of h,fun o _=>h.cell (p:=⟨R,o,none⟩) hR,fun o=>h.frozen (p:=⟨R,o,none⟩) hR⟩
theorem Mv.set (R:Nat) (w:World) (u:Value):Mv R w (w.setCell ⟨R,1,none⟩ u) :=
 ⟨⟨rfl,rfl,rfl,by simp [World.setCell],fun k _ hk=>Below.heap_setCell _ _ _ _ hk⟩,
  fun o ho=>World.cell?_setCell_other w _ _ _ (fun e=>ho (by injection e with _ e2;exact e2.symm)),fun o=>by rw [World.frozen?_setCell]⟩
theorem Mv.lt {R:Nat} {w w':World} (h:Mv R w w') (hR:R < w.heap.size):R < w'.heap.size:=Nat.lt_of_lt_of_le hR h.but.size
structure RA (w:World) (R:Nat) (s:ByteArray) (a:Nat):Prop where
 h0:w.cell? ⟨R,0,none⟩ = some (.string s)
 h1:w.cell? ⟨R,1,none⟩ = some (.int .i64 (a:Int))
 fz:∀ o,w.frozen? ⟨R,o,none⟩ = false
 lt:R < w.heap.size
theorem RA.mv {w w':World} {R:Nat} {s:ByteArray} {a b:Nat} (h:RA w R s a) (m:Mv R w w') (hb:w'.cell? ⟨R,1,none⟩ = some (.int .i64 (b:Int))):RA w' R s b :=
 ⟨(m.cell 0 (by decide)).trans h.h0,hb,fun o=>(m.fz o).trans (h.fz o),m.lt h.lt⟩
theorem RA.below {w w':World} {R:Nat} {s:ByteArray} {a:Nat} (h:RA w R s a) (hb:Below w.heap.size w w'):RA w' R s a :=
 h.mv (Mv.of hb h.lt) ((hb.cell (p:=⟨R,1,none⟩) h.lt).trans h.h1)
theorem RA.drewN {w:World} {R:Nat} {s:ByteArray} {a:Nat} (h:RA w R s a) (n:Nat):RA (w.drewN n) R s a:=⟨h.h0,h.h1,h.fz,h.lt⟩
theorem Mv.drewN {R:Nat} {w w':World} (h:Mv R w w') (n:Nat):Mv R w (w'.drewN n):=⟨⟨h.but.os,h.but.tape,h.but.output,h.but.size,h.but.block⟩,h.cell,h.fz⟩
theorem RA.put {w:World} {R:Nat} {s:ByteArray} {a b:Nat} (h:RA w R s a) (z:Int) (hz:z = (b:Int)):RA (w.setCell ⟨R,1,none⟩ (.int .i64 z)) R s b :=
 h.mv (Mv.set R w _) (by rw [hz];exact World.cell?_setCell_same w ⟨R,1,none⟩ _ h.h1)
theorem bel_drew {w w1:World} (hb:Below w.drew.heap.size w.drew w1):Below w.heap.size w w1:=(Below.refl _ w).drew.trans hb
abbrev pv (e p:Nat):PanicEntry:={ v:=.iface 90 (.agg #[.int .i64 (e:Int),.int .i64 (p:Int)]),recovered:=false }
theorem giveUp_any (e p:Nat) (w:World):Calls Tryz.prog 85 #[.int .i64 (e:Int),.int .i64 (p:Int)] w fun r w'=>r = .panicked [pv e p] ∧ w' = w:=by
 go_enter Tryz.func85,Tryz.ntmps85
 go_wp2
 exact ⟨rfl,rfl,rfl⟩
theorem giveUp_lit (e:Int) (n p:Nat) (he:e = n) (w:World):Calls Tryz.prog 85 #[.int .i64 e,.int .i64 (p:Int)] w fun r w'=>r = .panicked [pv n p] ∧ w' = w:=he ▸ giveUp_any n p w
theorem peek_ok (R:Nat) (s:ByteArray) (a:Nat) (w:World) (h:RA w R s a) (ha:a < s.size):Calls Tryz.prog 152 #[.pointer (some ⟨R,0,none⟩)] w fun e w'=>e = .returned (.int .u8 (ch s a:Int)) ∧ Mv R w w' ∧ RA w' R s a:=by
 have c0:∀ n,(w.drewN n).cell? ⟨R,0,none⟩ = some (.string s):=fun n=>h.h0
 have c1:∀ n,(w.drewN n).cell? ⟨R,1,none⟩ = some (.int .i64 (a:Int)):=fun n=>h.h1
 have hne:¬ (a:Int) = (s.size:Int):=by omega
 have hb:((a:Int) == (s.size:Int)) = false:=beq_eq_false_iff_ne.2 hne
 have ix:∀ w:World,(Instr.index 9 (.string s) (.int .i64 (a:Int))).run Tryz.prog w = .ok (.int .u8 (ch s a:Int)) w:=fun w=>idx (w:=w) s a ha .i64
 go_enter Tryz.func152,Tryz.ntmps152
 go_wp2
 go_quiet (fail)
 go_wp2
 go_quiet (fail)
 go_wp2
 go_ret
 exact ⟨rfl,((Mv.refl R w).drewN _).drewN _,(h.drewN _).drewN _⟩
theorem peek_end (R:Nat) (s:ByteArray) (w:World) (h:RA w R s s.size):Calls Tryz.prog 152 #[.pointer (some ⟨R,0,none⟩)] w fun e w'=>e = .panicked [pv 41 s.size] ∧ Mv R w w':=by
 have c0:∀ n,(w.drewN n).cell? ⟨R,0,none⟩ = some (.string s):=fun n=>h.h0
 have c1:∀ n,(w.drewN n).cell? ⟨R,1,none⟩ = some (.int .i64 (s.size:Int)):=fun n=>h.h1
 go_enter Tryz.func152,Tryz.ntmps152
 go_wp2
 go_quiet (fail)
 go_wp2_with (go_at_call 85;refine (giveUp_lit 41 41 s.size rfl _).mono ?_;rintro e w' ⟨rfl,rfl⟩)
 exact ⟨rfl,rfl,(Mv.refl R w).drewN _⟩
theorem expect_ok (R:Nat) (s:ByteArray) (a c:Nat) (w:World) (h:RA w R s a) (ha:a < s.size) (hs:s.size ≤ 9223372036854775806) (hc:ch s a = c):Calls Tryz.prog 150 #[.pointer (some ⟨R,0,none⟩),.int .u8 (c:Int)] w fun e w'=>e = .returned (.tuple #[]) ∧ Mv R w w' ∧ RA w' R s (a + 1):=by
 subst hc
 have hp:=peek_ok R s a w h ha
 clear h
 go_enter Tryz.func150,Tryz.ntmps150
 go_wp2_with (go_at_call 152;refine hp.mono ?_;clear hp;rintro e w1 ⟨rfl,hm,h1⟩;have c1:=h1.h1;have f1:=h1.fz 1)
 go_end0
 have e1:((a:Int) + 1) = ((a + 1:Nat):Int):=by omega
 rw [e1]
 exact ⟨rfl,hm.trans (Mv.set R w1 _),h1.mv (Mv.set R w1 _) (World.cell?_setCell_same w1 ⟨R,1,none⟩ _ c1)⟩
theorem expect_end (R:Nat) (s:ByteArray) (c:Nat) (w:World) (h:RA w R s s.size):Calls Tryz.prog 150 #[.pointer (some ⟨R,0,none⟩),.int .u8 (c:Int)] w fun e w'=>e = .panicked [pv 41 s.size] ∧ Mv R w w':=by
 have hp:=peek_end R s w h
 clear h
 go_enter Tryz.func150,Tryz.ntmps150
 go_wp2_with (go_at_call 152;refine hp.mono ?_;clear hp;rintro e w1 ⟨rfl,hm⟩)
 exact ⟨rfl,rfl,hm⟩
theorem expect_no (R:Nat) (s:ByteArray) (a c:Nat) (w:World) (h:RA w R s a) (ha:a < s.size) (hc:¬ ch s a = c):Calls Tryz.prog 150 #[.pointer (some ⟨R,0,none⟩),.int .u8 (c:Int)] w fun e w'=>e = .panicked [pv 40 a] ∧ Mv R w w':=by
 have hp:=peek_ok R s a w h ha
 have hn:¬ (ch s a:Int) = (c:Int):=by omega
 generalize ch s a = d at hp hn hc
 have hb:((d:Int) == (c:Int)) = false:=beq_eq_false_iff_ne.2 hn
 clear h
 go_enter Tryz.func150,Tryz.ntmps150
 go_wp2_with (first | (go_at_call 152;refine hp.mono ?_;clear hp;rintro e w1 ⟨rfl,hm,h1⟩;have c1:=h1.h1;have f1:=h1.fz 1) | (go_at_call 85;refine (giveUp_lit 40 40 a rfl _).mono ?_;rintro e w' ⟨rfl,rfl⟩))
 exact ⟨rfl,rfl,hm⟩
end Go.Proofs.YtchfphakhmifmabGreatDoor
